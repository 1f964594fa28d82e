/- PatchSpoils: one thing spoilt makes a patch none: the walk. -/
import Derived.Test.YtcfhnfnhdhloiaaGreatCpyA
import Derived.Test.YtcfhnfnhdhloiaaGreatCpyB
namespace Go.Proofs.YtcfhnfnhdhloiaaGreat
open Go.RowKit

theorem grownBy_sets {w0 : World} {b : Nat} (hb : w0.heap.size ≤ b) : ∀ (vs : List Value) (o : Nat) (w : World), w0.grownBy w none → w0.grownBy (w.setCells b o vs) none
  | [], _, _, h => h
  | v :: r, o, w, h => by
    rw [World.setCells]
    exact grownBy_sets hb r (o + 1) _ (grownBy_setNew h hb o v)
theorem wp_append_row {P : Program} (w : World) {o : Oper} {a : Act} {K : Act → World → Prop} {Q : Exit → Act → World → Prop} (s x : Operand) (t : TypeId) (hop : o.op = Op.call { callee := Callee.builtin Builtin.append, args := #[s, x], argTypes := #[t, t] })
    (e : TypeId) (i : TypeInfo) (z : Value) (size bytes : Nat) (h1 : P.underlying t = some (.slice e)) (h2 : P.info? e = some i) (h3 : i.zero = some z) (h4 : i.size = size) (h5 : i.bytes = bytes) (h6 : z.cells.size = size) (h7 : 0 < size)
    (lo : Nat) (p : Option Addr) (n c : Nat) (olds : List Value) (hs : a.eval s = .slice p n c) (hlo : olds.length = n * size) (hrow : OwnB w lo e size p n c olds)
    (ad : Addr) (m cc : Nat) (news : List Value) (hx : a.eval x = .slice (some ad) m cc) (hn : news.length = m * size) (hc : ∀ j u, news[j]? = some u → w.cell? (ad.add j) = some u) (h1c : ∀ u ∈ news, u.oneCell' = true)
    (b1 : n + m ≤ maxLen) (b2 : (n + m) * bytes ≤ 140737488355328)
    (hK : ∀ p' c' w', AppR w e size p n c m olds news p' c' w' → K (a.put o.dst (.slice p' (n + m) c')) w') : o.wp P a w K Q := by
  rcases hrow with ⟨rfl, rfl, rfl⟩ | ⟨g, cur, rfl, r2, r3, r4, r5, r6⟩
  · obtain rfl : olds = [] := List.eq_nil_of_length_eq_zero (by simpa using hlo)
    obtain ⟨v', w', hrun, k1, k2, _⟩ := run_append_own (P := P) w w.heap.size t o.type e i z size bytes h1 h2 h3 h4 h5 h6 h7 (.slice none 0 0) 0 [] (World.ownsRow_nil w _ e size) ad m cc news hn hc h1c b1 b2 (Nat.le_refl _)
    obtain ⟨p', c', rfl, k3⟩ := ownB_of k1
    unfold Oper.wp execOp
    simp only [hop, resolve, invoke, builtin, Sem.run_bind, Sem.run_pure, Result.andThen_ok, List.map_toArray, List.map_cons, List.map_nil, hs, hx, hrun]
    exact hK _ _ _ (.inr ⟨k3, k2⟩)
  · by_cases hr : n + m ≤ c
    · subst h4
      have hsp : ∀ j, j < news.length → (w.cell? ⟨g, 0 + n * i.size + j, none⟩).isSome = true ∧ w.frozen? ⟨g, 0 + n * i.size + j, none⟩ = false := fun j hj => by
        have hlt : n * i.size + j < cur.size := by
          rw [r4.1]
          have := Nat.mul_le_mul_right i.size hr
          rw [Nat.add_mul] at this
          omega
        exact ⟨by simp [World.cell?, r3, hlt], by simp [World.frozen?, r3]⟩
      have hrun := run_append_room_cells (P := P) w t o.type e i h1 h2 g 0 n c ad m cc news hn hc h1c hr (fun j hj => (hsp j hj).1) (fun j hj => (hsp j hj).2)
      rw [Nat.zero_add] at hrun
      unfold Oper.wp
      simp [execOp, hop, resolve, invoke, builtin, hs, hx, hrun, Result.andThen]
      exact hK _ _ _ (.inl ⟨g, rfl, rfl, rfl, hr, rfl⟩)
    · obtain ⟨v', w', hrun, k1, k2⟩ := run_append_arg_grows (P := P) w t o.type e i z size bytes h1 h2 h3 h4 h5 h6 h7 ⟨g, 0, none⟩ n c olds hlo (fun j u hj => by rw [Addr.add_lit, Nat.zero_add]; exact cell_block r3 (r6 j u hj)) ad m cc news hn hc (by omega) b1 b2
      obtain ⟨p', c', rfl, k3⟩ := ownB_of k1
      unfold Oper.wp
      simp [execOp, hop, resolve, invoke, builtin, hs, hx, hrun, Result.andThen]
      exact hK p' c' w' (.inr ⟨k3, k2⟩)
theorem step_append_row {P : Program} (w : World) {ops : Array Oper} {o : Oper} {a : Act} {K : Act → World → Prop} {Q : Exit → Act → World → Prop} {E : Prop} (hgd : o.guard = none) (s x : Operand) (t : TypeId) (hop : o.op = Op.call { callee := Callee.builtin Builtin.append, args := #[s, x], argTypes := #[t, t] })
    (e : TypeId) (i : TypeInfo) (z : Value) (size bytes : Nat) (h1 : P.underlying t = some (.slice e)) (h2 : P.info? e = some i) (h3 : i.zero = some z) (h4 : i.size = size) (h5 : i.bytes = bytes) (h6 : z.cells.size = size) (h7 : 0 < size)
    (lo : Nat) (p : Option Addr) (n c : Nat) (olds : List Value) (hs : a.eval s = .slice p n c) (hlo : olds.length = n * size) (hrow : OwnB w lo e size p n c olds)
    (ad : Addr) (m cc : Nat) (news : List Value) (hx : a.eval x = .slice (some ad) m cc) (hn : news.length = m * size) (hc : ∀ j u, news[j]? = some u → w.cell? (ad.add j) = some u) (h1c : ∀ u ∈ news, u.oneCell' = true)
    (b1 : n + m ≤ maxLen) (b2 : (n + m) * bytes ≤ 140737488355328)
    (hK : ∀ p' c' w', AppR w e size p n c m olds news p' c' w' → K (a.put o.dst (.slice p' (n + m) c')) w') : if Region.wanted o (yielded ops a.tmps) = true then Oper.wp P o a w K Q else E := by
  have hw : Region.wanted o (yielded ops a.tmps) = true := by simp [Region.wanted, hgd]
  rw [if_pos hw]
  exact wp_append_row w s x t hop e i z size bytes h1 h2 h3 h4 h5 h6 h7 lo p n c olds hs hlo hrow ad m cc news hx hn hc h1c b1 b2 hK
section
variable {w w0 w' : World} {e : TypeId} {size : Nat} {q : Option Addr} {n c m : Nat} {olds news : List Value} {q' : Option Addr} {c' : Nat}
theorem AppR.box (ha : AppR w e size q n c m olds news q' c' w') {lo : Nat} {cs : List Value} (hrow : OwnB w lo e size q n c cs) {b : Nat} {vs : List Value} {t : TypeId} (hb : BoxV w b vs t) (ht : t ≠ e) : BoxV w' b vs t := by
  rcases ha with ⟨g, rfl, rfl, rfl, hr, rfl⟩ | ⟨h1, h2⟩
  · obtain ⟨cur, hg⟩ := hrow.blk
    refine (heap_sets_ne g (fun h => ?_) _ _ w).trans hb
    unfold BoxV at hb
    rw [h, hg] at hb
    exact ht (Obj.cells.inj (Option.some.inj hb)).2.1.symm
  · exact hb.calm h2
theorem AppR.gr (ha : AppR w e size q n c m olds news q' c' w') {lo : Nat} {cs : List Value} (hrow : OwnB w lo e size q n c cs) (hg : w0.grownBy w none) (hl : w0.heap.size ≤ lo) : w0.grownBy w' none := by
  rcases ha with ⟨g, rfl, rfl, rfl, hr, rfl⟩ | ⟨h1, h2⟩
  · rcases hrow with ⟨h, _⟩ | ⟨g', cur, h1, h2, _⟩
    · cases h
    · cases h1
      exact grownBy_sets (by omega) _ _ _ hg
  · exact grownBy_trans hg h2
theorem AppR.hrow (ha : AppR w e size q n c m olds news q' c' w') {lo : Nat} {cs : List Value} (hrow : OwnB w lo e size q n c cs) (he : 50 ≠ e) {g k : Nat} {f : Nat → HRw} (h : HRow w g k f) : HRow w' g k f := by
  rcases ha with ⟨g', rfl, rfl, rfl, hr, rfl⟩ | ⟨h1, h2⟩
  · obtain ⟨cur, hg⟩ := hrow.blk
    exact h.sets (h.ne hg he) _ _
  · exact h.calm h2
end
/-- A cell of a patch's box is written. -/
theorem CpF.away {k : Nat} {w : World} {lo : Nat} {p : Pt} {nd nm nx nh : Nat} {p1 : Option Addr} {c1 : Nat} {p2 : Option Addr} {c2 : Nat} {p3 : Option Addr} {c3 : Nat} {p4 : Option Addr} {c4 : Nat} {g4 : Nat} {f : Nat → HRw} (h : CpF k w lo p nd nm nx nh p1 c1 p2 c2 p3 c3 p4 c4 g4 f) {b : Nat} {vs : List Value} (hb : BoxV w b vs 27) (o : Nat) (v : Value) : CpF k (w.setCell ⟨b, o, none⟩ v) lo p nd nm nx nh p1 c1 p2 c2 p3 c3 p4 c4 g4 f :=
  ⟨h.d.keep hb (by decide) o v, h.m.keep hb (by decide) o v, h.x.keep hb (by decide) o v, fun hn => ⟨(h.row hn).1, (h.row hn).2.1, (h.row hn).2.2.keep ((h.row hn).2.2.ne hb (by decide)) o v⟩, fun i hi => by
      obtain ⟨pa, na, ca, pe, ne, ce, pk, nk, ck, e, l1, l2, l3, o1, o2, o3⟩ := h.hk i hi
      exact ⟨pa, na, ca, pe, ne, ce, pk, nk, ck, e, l1, l2, l3, o1.keep hb (by decide) _ _, o2.keep hb (by decide) _ _, o3.keep hb (by decide) _ _⟩, h.z4, h.l4, h.ld, h.lm, h.lx, h.lh, h.lim⟩
theorem CpF.set5 {k : Nat} {w : World} {lo : Nat} {p : Pt} {nd nm nx nh : Nat} {p1 : Option Addr} {c1 : Nat} {p2 : Option Addr} {c2 : Nat} {p3 : Option Addr} {c3 : Nat} {p4 : Option Addr} {c4 : Nat} {g4 : Nat} {f : Nat → HRw} (h : CpF k w lo p nd nm nx nh p1 c1 p2 c2 p3 c3 p4 c4 g4 f) {b : Nat} {u0 u1 u2 u3 u4 : Value} (hb : BoxV w b [u0, u1, u2, u3, u4] 27) (v0 v1 v2 v3 v4 : Value) : CpF k (Go.Proofs.YtcfhnfnhdhloiaaGreat.set5 w b v0 v1 v2 v3 v4) lo p nd nm nx nh p1 c1 p2 c2 p3 c3 p4 c4 g4 f :=
  have h0 := hb.set 0 v0
  have h1 := h0.set 1 v1
  have h2 := h1.set 2 v2
  have h3 := h2.set 3 v3
  ((((h.away hb 0 v0).away h0 1 v1).away h1 2 v2).away h2 3 v3).away h3 4 v4
/-- Another number. -/
theorem CpF.num {k : Nat} {w : World} {lo : Nat} {p : Pt} {nd nm nx nh : Nat} {p1 : Option Addr} {c1 : Nat} {p2 : Option Addr} {c2 : Nat} {p3 : Option Addr} {c3 : Nat} {p4 : Option Addr} {c4 : Nat} {g4 : Nat} {f : Nat → HRw} (h : CpF k w lo p nd nm nx nh p1 c1 p2 c2 p3 c3 p4 c4 g4 f) (id : Nat) : CpF k w lo (id, pDeps p, pMakes p, pDrops p, pHunks p) nd nm nx nh p1 c1 p2 c2 p3 c3 p4 c4 g4 f :=
  ⟨h.d, h.m, h.x, h.row, h.hk, h.z4, h.l4, h.ld, h.lm, h.lx, h.lh, ⟨h.lim.h, h.lim.d, h.lim.m, h.lim.x, h.lim.ms, h.lim.xs, h.lim.hs⟩⟩
theorem infoS : (Tryz.prog.info? 9).map (fun i => (i.zero, i.size, i.bytes)) = some (some (.string .empty), 1, 16) := by kernel_rfl


end Go.Proofs.YtcfhnfnhdhloiaaGreat
