/- PatchSpoils: one thing spoilt makes a patch none: the walk. -/
import Derived.Test.YtcfhnfnhdhloiaaCpyA
import Derived.Test.YtcfhnfnhdhloiaaCpyB
namespace Go.Proofs.Ytcfhnfnhdhloiaa
open Go.RowKit

theorem grownBy_sets {w0 : World} {b : Nat} (hb : w0.heap.size ≤ b) : ∀ (vs : List Value) (o : Nat) (w : World), w0.grownBy w none → w0.grownBy (w.setCells b o vs) none
  | [], _, _, h => h
  | v :: r, o, w, h => by
    rw [World.setCells]
    exact grownBy_sets hb r (o + 1) _ (grownBy_setNew h hb o v)
theorem wp_append_row {P : Program} (w : World) {o : Oper} {a : Act} {K : Act → World → Prop} {Q : Exit → Act → World → Prop} (s x : Operand) (t : TypeId) (hop : o.op = Op.call { callee := Callee.builtin Builtin.append, args := #[s, x], argTypes := #[t, t] })
    (e : TypeId) (i : TypeInfo) (z : Value) (size bytes : Nat) (h1 : P.underlying t = some (.slice e)) (h2 : P.info? e = some i) (h3 : i.zero = some z) (h4 : i.size = size) (h5 : i.bytes = bytes) (h6 : z.cells.size = size) (h7 : 0 < size)
    (lo : Nat) (p : Option Addr) (n c : Nat) (olds : List Value) (hs : a.eval s = .slice p n c) (hlo : olds.length = n * size) (hrow : OwnB w lo e size p n c olds)
    (ad : Addr) (m cc : Nat) (news : List Value) (hx : a.eval x = .slice (some ad) m cc) (hn : news.length = m * size) (hc : ∀ j u, news[j]? = some u → w.cell? (ad.add j) = some u) (h1c : ∀ u ∈ news, u.oneCell' = true)
    (b1 : n + m ≤ maxLen) (b2 : (n + m) * bytes ≤ 140737488355328)
    (hK : ∀ p' c' w', AppR w e size p n c m olds news p' c' w' → K (a.put o.dst (.slice p' (n + m) c')) w') : o.wp P a w K Q := by
  rcases hrow with ⟨rfl, rfl, rfl⟩ | ⟨g, cur, rfl, r2, r3, r4, r5, r6⟩
  · obtain rfl : olds = [] := List.eq_nil_of_length_eq_zero (by simpa using hlo)
    obtain ⟨v', w', hrun, k1, k2, _⟩ := run_append_own (P := P) w w.heap.size t o.type e i z size bytes h1 h2 h3 h4 h5 h6 h7 (.slice none 0 0) 0 [] (World.ownsRow_nil w _ e size) ad m cc news hn hc h1c b1 b2 (Nat.le_refl _)
    obtain ⟨p', c', rfl, k3⟩ := ownB_of k1
    unfold Oper.wp execOp
    simp only [hop, resolve, invoke, builtin, Sem.run_bind, Sem.run_pure, Result.andThen_ok, List.map_toArray, List.map_cons, List.map_nil, hs, hx, hrun]
    exact hK _ _ _ (.inr ⟨k3, k2⟩)
  · by_cases hr : n + m ≤ c
    · subst h4
      have hsp : ∀ j, j < news.length → (w.cell? ⟨g, 0 + n * i.size + j, none⟩).isSome = true ∧ w.frozen? ⟨g, 0 + n * i.size + j, none⟩ = false := fun j hj => by
        have hlt : n * i.size + j < cur.size := by
          rw [r4.1]
          have := Nat.mul_le_mul_right i.size hr
          rw [Nat.add_mul] at this
          omega
        exact ⟨by simp [World.cell?, r3, hlt], by simp [World.frozen?, r3]⟩
      have hrun := run_append_room_cells (P := P) w t o.type e i h1 h2 g 0 n c ad m cc news hn hc h1c hr (fun j hj => (hsp j hj).1) (fun j hj => (hsp j hj).2)
      rw [Nat.zero_add] at hrun
      unfold Oper.wp
      simp [execOp, hop, resolve, invoke, builtin, hs, hx, hrun, Result.andThen]
      exact hK _ _ _ (.inl ⟨g, rfl, rfl, rfl, hr, rfl⟩)
    · obtain ⟨v', w', hrun, k1, k2⟩ := run_append_arg_grows (P := P) w t o.type e i z size bytes h1 h2 h3 h4 h5 h6 h7 ⟨g, 0, none⟩ n c olds hlo (fun j u hj => by rw [Addr.add_lit, Nat.zero_add]; exact cell_block r3 (r6 j u hj)) ad m cc news hn hc (by omega) b1 b2
      obtain ⟨p', c', rfl, k3⟩ := ownB_of k1
      unfold Oper.wp
      simp [execOp, hop, resolve, invoke, builtin, hs, hx, hrun, Result.andThen]
      exact hK p' c' w' (.inr ⟨k3, k2⟩)
theorem step_append_row {P : Program} (w : World) {ops : Array Oper} {o : Oper} {a : Act} {K : Act → World → Prop} {Q : Exit → Act → World → Prop} {E : Prop} (hgd : o.guard = none) (s x : Operand) (t : TypeId) (hop : o.op = Op.call { callee := Callee.builtin Builtin.append, args := #[s, x], argTypes := #[t, t] })
    (e : TypeId) (i : TypeInfo) (z : Value) (size bytes : Nat) (h1 : P.underlying t = some (.slice e)) (h2 : P.info? e = some i) (h3 : i.zero = some z) (h4 : i.size = size) (h5 : i.bytes = bytes) (h6 : z.cells.size = size) (h7 : 0 < size)
    (lo : Nat) (p : Option Addr) (n c : Nat) (olds : List Value) (hs : a.eval s = .slice p n c) (hlo : olds.length = n * size) (hrow : OwnB w lo e size p n c olds)
    (ad : Addr) (m cc : Nat) (news : List Value) (hx : a.eval x = .slice (some ad) m cc) (hn : news.length = m * size) (hc : ∀ j u, news[j]? = some u → w.cell? (ad.add j) = some u) (h1c : ∀ u ∈ news, u.oneCell' = true)
    (b1 : n + m ≤ maxLen) (b2 : (n + m) * bytes ≤ 140737488355328)
    (hK : ∀ p' c' w', AppR w e size p n c m olds news p' c' w' → K (a.put o.dst (.slice p' (n + m) c')) w') : if Region.wanted o (yielded ops a.tmps) = true then Oper.wp P o a w K Q else E := by
  have hw : Region.wanted o (yielded ops a.tmps) = true := by simp [Region.wanted, hgd]
  rw [if_pos hw]
  exact wp_append_row w s x t hop e i z size bytes h1 h2 h3 h4 h5 h6 h7 lo p n c olds hs hlo hrow ad m cc news hx hn hc h1c b1 b2 hK
section
variable {w w0 w' : World} {e : TypeId} {size : Nat} {q : Option Addr} {n c m : Nat} {olds news : List Value} {q' : Option Addr} {c' : Nat}
theorem AppR.box (ha : AppR w e size q n c m olds news q' c' w') {lo : Nat} {cs : List Value} (hrow : OwnB w lo e size q n c cs) {b : Nat} {vs : List Value} {t : TypeId} (hb : BoxV w b vs t) (ht : t ≠ e) : BoxV w' b vs t := by
  rcases ha with ⟨g, rfl, rfl, rfl, hr, rfl⟩ | ⟨h1, h2⟩
  · obtain ⟨cur, hg⟩ := hrow.blk
    refine (heap_sets_ne g (fun h => ?_) _ _ w).trans hb
    unfold BoxV at hb
    rw [h, hg] at hb
    exact ht (Obj.cells.inj (Option.some.inj hb)).2.1.symm
  · exact hb.calm h2
theorem AppR.gr (ha : AppR w e size q n c m olds news q' c' w') {lo : Nat} {cs : List Value} (hrow : OwnB w lo e size q n c cs) (hg : w0.grownBy w none) (hl : w0.heap.size ≤ lo) : w0.grownBy w' none := by
  rcases ha with ⟨g, rfl, rfl, rfl, hr, rfl⟩ | ⟨h1, h2⟩
  · rcases hrow with ⟨h, _⟩ | ⟨g', cur, h1, h2, _⟩
    · cases h
    · cases h1
      exact grownBy_sets (by omega) _ _ _ hg
  · exact grownBy_trans hg h2
theorem AppR.hrow (ha : AppR w e size q n c m olds news q' c' w') {lo : Nat} {cs : List Value} (hrow : OwnB w lo e size q n c cs) (he : 34 ≠ e) {g k : Nat} {f : Nat → HRw} (h : HRow w g k f) : HRow w' g k f := by
  rcases ha with ⟨g', rfl, rfl, rfl, hr, rfl⟩ | ⟨h1, h2⟩
  · obtain ⟨cur, hg⟩ := hrow.blk
    exact h.sets (h.ne hg he) _ _
  · exact h.calm h2
end
/-- A cell of a patch's box is written. -/
theorem CpF.away {k : Nat} {w : World} {lo : Nat} {p : Pt} {nd nm nx nh : Nat} {p1 : Option Addr} {c1 : Nat} {p2 : Option Addr} {c2 : Nat} {p3 : Option Addr} {c3 : Nat} {p4 : Option Addr} {c4 : Nat} {g4 : Nat} {f : Nat → HRw} (h : CpF k w lo p nd nm nx nh p1 c1 p2 c2 p3 c3 p4 c4 g4 f) {b : Nat} {vs : List Value} (hb : BoxV w b vs 27) (o : Nat) (v : Value) : CpF k (w.setCell ⟨b, o, none⟩ v) lo p nd nm nx nh p1 c1 p2 c2 p3 c3 p4 c4 g4 f :=
  ⟨h.d.keep hb (by decide) o v, h.m.keep hb (by decide) o v, h.x.keep hb (by decide) o v, fun hn => ⟨(h.row hn).1, (h.row hn).2.1, (h.row hn).2.2.keep ((h.row hn).2.2.ne hb (by decide)) o v⟩, fun i hi => by
      obtain ⟨pa, na, ca, pe, ne, ce, pk, nk, ck, e, l1, l2, l3, o1, o2, o3⟩ := h.hk i hi
      exact ⟨pa, na, ca, pe, ne, ce, pk, nk, ck, e, l1, l2, l3, o1.keep hb (by decide) _ _, o2.keep hb (by decide) _ _, o3.keep hb (by decide) _ _⟩, h.z4, h.l4, h.ld, h.lm, h.lx, h.lh, h.lim⟩
theorem CpF.set5 {k : Nat} {w : World} {lo : Nat} {p : Pt} {nd nm nx nh : Nat} {p1 : Option Addr} {c1 : Nat} {p2 : Option Addr} {c2 : Nat} {p3 : Option Addr} {c3 : Nat} {p4 : Option Addr} {c4 : Nat} {g4 : Nat} {f : Nat → HRw} (h : CpF k w lo p nd nm nx nh p1 c1 p2 c2 p3 c3 p4 c4 g4 f) {b : Nat} {u0 u1 u2 u3 u4 : Value} (hb : BoxV w b [u0, u1, u2, u3, u4] 27) (v0 v1 v2 v3 v4 : Value) : CpF k (Go.Proofs.Ytcfhnfnhdhloiaa.set5 w b v0 v1 v2 v3 v4) lo p nd nm nx nh p1 c1 p2 c2 p3 c3 p4 c4 g4 f :=
  have h0 := hb.set 0 v0
  have h1 := h0.set 1 v1
  have h2 := h1.set 2 v2
  have h3 := h2.set 3 v3
  ((((h.away hb 0 v0).away h0 1 v1).away h1 2 v2).away h2 3 v3).away h3 4 v4
/-- Another number. -/
theorem CpF.num {k : Nat} {w : World} {lo : Nat} {p : Pt} {nd nm nx nh : Nat} {p1 : Option Addr} {c1 : Nat} {p2 : Option Addr} {c2 : Nat} {p3 : Option Addr} {c3 : Nat} {p4 : Option Addr} {c4 : Nat} {g4 : Nat} {f : Nat → HRw} (h : CpF k w lo p nd nm nx nh p1 c1 p2 c2 p3 c3 p4 c4 g4 f) (id : Nat) : CpF k w lo (id, pDeps p, pMakes p, pDrops p, pHunks p) nd nm nx nh p1 c1 p2 c2 p3 c3 p4 c4 g4 f :=
  ⟨h.d, h.m, h.x, h.row, h.hk, h.z4, h.l4, h.ld, h.lm, h.lx, h.lh, ⟨h.lim.h, h.lim.d, h.lim.m, h.lim.x, h.lim.ms, h.lim.xs, h.lim.hs⟩⟩
theorem infoS : (Try.prog.info? 9).map (fun i => (i.zero, i.size, i.bytes)) = some (some (.string .empty), 1, 16) := by kernel_rfl


set_option maxRecDepth 10000 in
set_option maxHeartbeats 64000000 in
theorem spoils_c (id : Nat) (pd : Option Addr) (nd cd : Nat) (pm : Option Addr) (nm cm : Nat) (px : Option Addr) (nx cx : Nat) (ph : Option Addr) (nh ch : Nat) (p : Pt) (a b : Nat) (ha : a < 256) (hb : b < 256) (w : World)
    (h : PArg w id pd nd cd pm nm cm px nx cx ph nh ch p) :
    Calls Try.prog 4 #[.agg #[.int .u32 (id : Int), .slice pd nd cd, .slice pm nm cm, .slice px nx cx, .slice ph nh ch], .int .u8 (a : Int), .int .u8 (b : Int)] w fun e w' => e = .returned (.bool true) ∧ w.grownBy w' none := by
  have HB := Lib.hid (BoxV.new w [.int .u32 (id : Int), .slice pd nd cd, .slice pm nm cm, .slice px nx cx, .slice ph nh ch] 27)
  have HG := Lib.hid (World.grownBy_alloc w (.cells #[.int .u32 (id : Int), .slice pd nd cd, .slice pm nm cm, .slice px nx cx, .slice ph nh ch] 27) none)
  have H := Lib.hid h
  clear h
  go_enter Try.func4, Try.ntmps4
  go_wp2_with fail
  generalize World.alloc w _ = w1 at *
  obtain ⟨bp, hbp⟩ : ∃ b, w.heap.size = b := ⟨_, rfl⟩
  rw [hbp] at HB ⊢
  have HBE := Lib.hid hbp
  clear hbp
  refine (known12_c w1).mono ?_
  rintro e w2 ⟨rfl, hg⟩
  have HG2 := Lib.hid (grownBy_trans HG.out hg)
  have HB2 := Lib.hid (HB.out.calm hg)
  clear HG HB hg
  have HP2 := Lib.hid (H.out.at'.calm HG2.out)
  obtain ⟨a0, a1, a2, a3, a4⟩ := HB2.out.five
  obtain ⟨fw, hfw⟩ := bool_of (PFew p)
  have HFW := Lib.hid hfw
  clear hfw
  go_wp2_with fail
  refine (few_c id pd nd cd pm nm cm px nx cx ph nh ch _ _ p fw w2 HP2.out H.out.mm H.out.mx H.out.mh HFW.out).mono ?_
  rintro e w3 ⟨rfl, hg⟩
  have HG3 := Lib.hid (grownBy_trans HG2.out hg)
  have HB3 := Lib.hid (HB2.out.calm hg)
  have HP3 := Lib.hid (H.out.at'.calm HG3.out)
  clear HG2 HB2 HP2 hg a0 a1 a2 a3 a4
  obtain ⟨a0, a1, a2, a3, a4⟩ := HB3.out.five
  cases fw with
  | false =>
    go_wp2
    go_ret
    exact ⟨rfl, HG3.out⟩
  | true =>
  have hfew := HFW.out.1 rfl
  have HBG := Lib.hid hfew.big
  have HLIM := Lib.hid hfew.lim
  have HLD := Lib.hid HP3.out.deps.len
  have HLM := Lib.hid HP3.out.makes.len
  have HLX := Lib.hid HP3.out.drops.len
  have HLH := Lib.hid HP3.out.hunks.len
  have hd1 : nd ≤ 100 := by have := hfew.deps; have := HLD.out; omega
  have hm1 : nm ≤ 100 := by have := hfew.makes; have := HLM.out; omega
  have hx1 : nx ≤ 100 := by have := hfew.drops; have := HLX.out; omega
  have hh1 : nh ≤ 100 := by have := hfew.hunks; have := HLH.out; omega
  clear hfew HFW
  obtain ⟨r, hr⟩ := bool_of (IsPt p)
  have HR := Lib.hid hr
  clear hr
  go_wp2_with fail
  refine (patIs_c sortU id pd nd cd pm nm cm px nx cx ph nh ch _ _ p r w3 HP3.out HBG.out HR.out).mono ?_
  rintro e w4 ⟨rfl, hg⟩
  have HG2 := Lib.hid (grownBy_trans HG3.out hg)
  have HB4 := Lib.hid (HB3.out.calm hg)
  have HP := Lib.hid (H.out.at'.calm HG2.out)
  clear HG3 HB3 HP3 H hg a0 a1 a2 a3 a4
  obtain ⟨a0, a1, a2, a3, a4⟩ := HB4.out.five
  cases r with
  | false =>
    go_wp2
    go_ret
    exact ⟨rfl, HG2.out⟩
  | true =>
  have HIS := Lib.hid (HR.out.1 rfl)
  have HNUM := Lib.hid HP.out.num
  clear HR
  have HBP : Hid (bp < w4.heap.size) := Lib.hid HB4.out.lt
  go_wp2_with fail
  refine (patCopy_p id pd nd cd pm nm cm px nx cx ph nh ch _ _ p w4 HP.out HBG.out).mono ?_
  rintro e w5 ⟨p1, c1, p2, c2, p3, c3, p4, c4, rfl, hc, _, hg5⟩
  obtain ⟨g4, f, hcf⟩ := hc.cpf HLD.out HLM.out HLX.out HLH.out HLIM.out
  have HGA := Lib.hid (World.grownBy_alloc w5 (.cells #[.int .u32 (id : Int), .slice p1 nd c1, .slice p2 nm c2, .slice p3 nx c3, .slice p4 nh c4] 27) none)
  have HBB := Lib.hid ((HB4.out.calm hg5).calm HGA.out)
  have HBX := Lib.hid (BoxV.new w5 [.int .u32 (id : Int), .slice p1 nd c1, .slice p2 nm c2, .slice p3 nx c3, .slice p4 nh c4] 27)
  have HC := Lib.hid (hcf.calm HGA.out)
  have HGC := Lib.hid (grownBy_trans hg5 HGA.out)
  have HBL : Hid (w4.heap.size ≤ w5.heap.size) := Lib.hid hg5.size
  clear hc hcf hg5 HGA HB4 a0 a1 a2 a3 a4
  obtain ⟨lo, hlo⟩ : ∃ n, w4.heap.size = n := ⟨_, rfl⟩
  have HLO : Hid (w4.heap.size ≤ lo) := Lib.hid (Nat.le_of_eq hlo)
  rw [hlo] at HC HBL
  go_upto_region 6 with fail
  obtain ⟨bq, hbq⟩ : ∃ b, w5.heap.size = b := ⟨_, rfl⟩
  rw [hbq] at HBX HBL ⊢
  have HBW : Hid (w4.heap.size ≤ bq) := Lib.hid (by have := HBL.out; have := HLO.out; omega)
  have HNE : Hid (bp ≠ bq) := Lib.hid (by have := HBP.out; have := HBW.out; omega)
  clear hlo hbq
  generalize World.alloc w5 _ = wq at *
  clear HBP
  have HLS : Hid (lo ≤ wq.heap.size) := Lib.hid (by have := HGC.out.size; have := HLO.out; have := HBL.out; have := HBX.out.lt; omega)
  obtain ⟨m, hm⟩ : ∃ m, a % 6 = m := ⟨_, rfl⟩
  have hm6 : m < 6 := by omega
  have hmi : ((a : Int).tmod 6) = (m : Int) := by
    rw [Int.tmod_eq_emod_of_nonneg (by omega)]
    omega
  have hcases : m = 0 ∨ m = 1 ∨ m = 2 ∨ m = 3 ∨ m = 4 ∨ m = 5 := by omega
  clear hm6
  rcases hcases with rfl | rfl | rfl | rfl | rfl | rfl
  · skip
    have t0 := HBX.out.cell (k := 0) rfl
    have f0 := HBX.out.free 0
    have HBQ := Lib.hid (HBX.out.set 0 (.int .u32 0))
    have HZ := Lib.hid ((HC.out.num 0).away HBX.out 0 (.int .u32 0))
    have HBP := Lib.hid (HBB.out.keepSet HNE.out 0 (.int .u32 0))
    have HGZ := Lib.hid (grownBy_setNew HGC.out HBW.out 0 (.int .u32 0))
    obtain ⟨q, hq⟩ : ∃ q, ((0, pDeps p, pMakes p, pDrops p, pHunks p) : Pt) = q := ⟨_, rfl⟩
    rw [hq] at HZ
    have HNO : Hid (¬ IsPt q) := Lib.hid (spoil_id (by rw [← hq]))
    have HID : Hid (pID q = 0) := Lib.hid (by rw [← hq])
    clear hq HC HBX HGC HBB
    go_upto_region 25 with fail
    clear t0 f0
    generalize World.setCell _ ⟨bq, 0, none⟩ _ = wz at *
    have HPT := Lib.hid HZ.out.pt
    have HBI := Lib.hid (HZ.out.lim.big (by decide))
    obtain ⟨y0, y1, y2, y3, y4⟩ := HBQ.out.five
    clear HZ
    rw [HID.out] at HPT
    go_wp2_with fail
    refine (patIs_c sortU _ _ _ _ _ _ _ _ _ _ _ _ _ _ _ q false _ HPT.out HBI.out ⟨fun h => (by cases h), fun h => absurd h HNO.out⟩).mono ?_
    rintro e w9 ⟨rfl, hg9⟩
    obtain ⟨x0, x1, x2, x3, x4⟩ := (HBP.out.calm hg9).five
    have HPT := Lib.hid (HPT.out.calm hg9)
    have HBQ := Lib.hid (HBQ.out.calm hg9)
    have HGZ := Lib.hid (grownBy_trans HGZ.out hg9)
    have HPP := Lib.hid (HP.out.calm HGZ.out)
    clear y0 y1 y2 y3 y4 hg9
    obtain ⟨y0, y1, y2, y3, y4⟩ := HBQ.out.five
    go_wp2_with fail
    refine (patSame_c p q _ _ _ _ _ _ _ _ _ _ _ _ _ _ _ _ _ _ _ _ _ _ _ _ _ _ _ _ _ _ false _ HPP.out HPT.out HBG.out HBI.out ⟨fun h => (by cases h), fun h => absurd (h ▸ HIS.out) HNO.out⟩).mono ?_
    rintro e wa ⟨rfl, hga⟩
    have HGA := Lib.hid (grownBy_trans HG2.out (grownBy_trans HGZ.out hga))
    clear y0 y1 y2 y3 y4 x0 x1 x2 x3 x4 hga
    go_wp2
    go_ret
    exact ⟨rfl, HGA.out⟩
  · skip
    obtain ⟨i0, hi0, hz0, hz1, hz2⟩ := info_parts infoU32
    have HGN := Lib.hid (World.grownBy_alloc wq (.cells #[.int .u32 (id : Int)] 22) none)
    have HCN := Lib.hid (HC.out.calm HGN.out)
    have HBN := Lib.hid (HBX.out.calm HGN.out)
    have HBM := Lib.hid (HBB.out.calm HGN.out)
    have HGM := Lib.hid (grownBy_trans HGC.out HGN.out)
    have t0' := HBX.out.cell (k := 1) rfl
    have t1x := HBX.out.cell (k := 0) rfl
    have hll : (ncells .u32 (pDeps p)).length = nd * 1 := by rw [ncells_len, HC.out.ld, Nat.mul_one]
    go_upto_region 25 with (at_builtin; refine wpList_append_row _ rfl _ _ 23 rfl 22 i0 (.int .u32 0) 1 4 Try.underlying23 hi0 hz0 hz1 hz2 rfl (by decide) lo p1 nd c1 (ncells .u32 (pDeps p)) rfl hll HCN.out.d ⟨wq.heap.size, 0, none⟩ 1 1 [.int .u32 (id : Int)] rfl rfl (cell_one_new _ _ _) (by simp [Value.oneCell']) (by unfold maxLen; omega) (by omega) (by decide) ?_; intro p7 c7 w7 happ; have t0 := (happ.box HCN.out.d HBN.out (by decide)).cell (k := 1) rfl; have f0 := (happ.box HCN.out.d HBN.out (by decide)).free 1)
    generalize World.alloc wq _ = wn at *
    have HR7 := Lib.hid (happ.gr HCN.out.d HGM.out HLO.out)
    have HB7 := Lib.hid (happ.box HCN.out.d HBN.out (by decide))
    have HP7 := Lib.hid (happ.box HCN.out.d HBM.out (by decide))
    obtain ⟨q, hq, hid, hap⟩ := HCN.out.appU (Nat.le_trans HLS.out HGN.out.size) happ
    have HBQ := Lib.hid (HB7.out.set 1 (.slice p7 (nd + 1) c7))
    have HZ := Lib.hid (hq.away HB7.out 1 (.slice p7 (nd + 1) c7))
    have HBP := Lib.hid (HP7.out.keepSet HNE.out 1 (.slice p7 (nd + 1) c7))
    have HGZ := Lib.hid (grownBy_setNew HR7.out HBW.out 1 (.slice p7 (nd + 1) c7))
    have HNO : Hid (¬ IsPt q) := Lib.hid (spoil_deps (by rw [hap, hid, HNUM.out]; simp))
    have HID : Hid (pID q = id) := Lib.hid (hid.trans HNUM.out)
    clear hq hid hap happ HC HCN HBX HBN HBM HBB HGC HGM HR7 HP7 HGN t0'
    clear t0 f0 HB7
    generalize World.setCell _ ⟨bq, 1, none⟩ _ = wz at *
    have HPT := Lib.hid HZ.out.pt
    have HBI := Lib.hid (HZ.out.lim.big (by decide))
    obtain ⟨y0, y1, y2, y3, y4⟩ := HBQ.out.five
    clear HZ
    rw [HID.out] at HPT
    go_wp2_with fail
    refine (patIs_c sortU _ _ _ _ _ _ _ _ _ _ _ _ _ _ _ q false _ HPT.out HBI.out ⟨fun h => (by cases h), fun h => absurd h HNO.out⟩).mono ?_
    rintro e w9 ⟨rfl, hg9⟩
    obtain ⟨x0, x1, x2, x3, x4⟩ := (HBP.out.calm hg9).five
    have HPT := Lib.hid (HPT.out.calm hg9)
    have HBQ := Lib.hid (HBQ.out.calm hg9)
    have HGZ := Lib.hid (grownBy_trans HGZ.out hg9)
    have HPP := Lib.hid (HP.out.calm HGZ.out)
    clear y0 y1 y2 y3 y4 hg9
    obtain ⟨y0, y1, y2, y3, y4⟩ := HBQ.out.five
    go_wp2_with fail
    refine (patSame_c p q _ _ _ _ _ _ _ _ _ _ _ _ _ _ _ _ _ _ _ _ _ _ _ _ _ _ _ _ _ _ false _ HPP.out HPT.out HBG.out HBI.out ⟨fun h => (by cases h), fun h => absurd (h ▸ HIS.out) HNO.out⟩).mono ?_
    rintro e wa ⟨rfl, hga⟩
    have HGA := Lib.hid (grownBy_trans HG2.out (grownBy_trans HGZ.out hga))
    clear y0 y1 y2 y3 y4 x0 x1 x2 x3 x4 hga
    go_wp2
    go_ret
    exact ⟨rfl, HGA.out⟩
  · skip
    obtain ⟨i0, hi0, hz0, hz1, hz2⟩ := info_parts infoS
    have HGN := Lib.hid (World.grownBy_alloc wq (.cells #[.string ⟨#[66]⟩] 9) none)
    have HCN := Lib.hid (HC.out.calm HGN.out)
    have HBN := Lib.hid (HBX.out.calm HGN.out)
    have HBM := Lib.hid (HBB.out.calm HGN.out)
    have HGM := Lib.hid (grownBy_trans HGC.out HGN.out)
    have t0' := HBX.out.cell (k := 2) rfl
    have hll : (scells (pMakes p)).length = nm * 1 := by rw [scells_lenP, HC.out.lm, Nat.mul_one]
    go_upto_region 25 with (at_builtin; refine wpList_append_row _ rfl _ _ 24 rfl 9 i0 (.string .empty) 1 16 Try.underlying24 hi0 hz0 hz1 hz2 rfl (by decide) lo p2 nm c2 (scells (pMakes p)) rfl hll HCN.out.m ⟨wq.heap.size, 0, none⟩ 1 1 [.string ⟨#[66]⟩] rfl rfl (cell_one_new _ _ _) (by simp [Value.oneCell']) (by unfold maxLen; omega) (by omega) (by decide) ?_; intro p7 c7 w7 happ; have t0 := (happ.box HCN.out.m HBN.out (by decide)).cell (k := 2) rfl; have f0 := (happ.box HCN.out.m HBN.out (by decide)).free 2)
    generalize World.alloc wq _ = wn at *
    have HR7 := Lib.hid (happ.gr HCN.out.m HGM.out HLO.out)
    have HB7 := Lib.hid (happ.box HCN.out.m HBN.out (by decide))
    have HP7 := Lib.hid (happ.box HCN.out.m HBM.out (by decide))
    obtain ⟨q, hq, hid, hap⟩ := HCN.out.appM (Nat.le_trans HLS.out HGN.out.size) (by decide +kernel) happ
    have HBQ := Lib.hid (HB7.out.set 2 (.slice p7 (nm + 1) c7))
    have HZ := Lib.hid (hq.away HB7.out 2 (.slice p7 (nm + 1) c7))
    have HBP := Lib.hid (HP7.out.keepSet HNE.out 2 (.slice p7 (nm + 1) c7))
    have HGZ := Lib.hid (grownBy_setNew HR7.out HBW.out 2 (.slice p7 (nm + 1) c7))
    have HNO : Hid (¬ IsPt q) := Lib.hid (spoil_makes (s := ⟨#[66]⟩) (by rw [hap]; simp) not_path_B)
    have HID : Hid (pID q = id) := Lib.hid (hid.trans HNUM.out)
    clear hq hid hap happ HC HCN HBX HBN HBM HBB HGC HGM HR7 HP7 HGN t0'
    clear t0 f0 HB7
    generalize World.setCell _ ⟨bq, 2, none⟩ _ = wz at *
    have HPT := Lib.hid HZ.out.pt
    have HBI := Lib.hid (HZ.out.lim.big (by decide))
    obtain ⟨y0, y1, y2, y3, y4⟩ := HBQ.out.five
    clear HZ
    rw [HID.out] at HPT
    go_wp2_with fail
    refine (patIs_c sortU _ _ _ _ _ _ _ _ _ _ _ _ _ _ _ q false _ HPT.out HBI.out ⟨fun h => (by cases h), fun h => absurd h HNO.out⟩).mono ?_
    rintro e w9 ⟨rfl, hg9⟩
    obtain ⟨x0, x1, x2, x3, x4⟩ := (HBP.out.calm hg9).five
    have HPT := Lib.hid (HPT.out.calm hg9)
    have HBQ := Lib.hid (HBQ.out.calm hg9)
    have HGZ := Lib.hid (grownBy_trans HGZ.out hg9)
    have HPP := Lib.hid (HP.out.calm HGZ.out)
    clear y0 y1 y2 y3 y4 hg9
    obtain ⟨y0, y1, y2, y3, y4⟩ := HBQ.out.five
    go_wp2_with fail
    refine (patSame_c p q _ _ _ _ _ _ _ _ _ _ _ _ _ _ _ _ _ _ _ _ _ _ _ _ _ _ _ _ _ _ false _ HPP.out HPT.out HBG.out HBI.out ⟨fun h => (by cases h), fun h => absurd (h ▸ HIS.out) HNO.out⟩).mono ?_
    rintro e wa ⟨rfl, hga⟩
    have HGA := Lib.hid (grownBy_trans HG2.out (grownBy_trans HGZ.out hga))
    clear y0 y1 y2 y3 y4 x0 x1 x2 x3 x4 hga
    go_wp2
    go_ret
    exact ⟨rfl, HGA.out⟩
  · skip
    obtain ⟨i0, hi0, hz0, hz1, hz2⟩ := info_parts infoS
    have HGN := Lib.hid (World.grownBy_alloc wq (.cells #[.string ⟨#[97]⟩, .string ⟨#[97]⟩] 9) none)
    have HCN := Lib.hid (HC.out.calm HGN.out)
    have HBN := Lib.hid (HBX.out.calm HGN.out)
    have HBM := Lib.hid (HBB.out.calm HGN.out)
    have HGM := Lib.hid (grownBy_trans HGC.out HGN.out)
    have t0' := HBX.out.cell (k := 3) rfl
    have hll : (scells (pDrops p)).length = nx * 1 := by rw [scells_lenP, HC.out.lx, Nat.mul_one]
    go_upto_region 25 with (at_builtin; refine wpList_append_row _ rfl _ _ 24 rfl 9 i0 (.string .empty) 1 16 Try.underlying24 hi0 hz0 hz1 hz2 rfl (by decide) lo p3 nx c3 (scells (pDrops p)) rfl hll HCN.out.x ⟨wq.heap.size, 0, none⟩ 2 2 [.string ⟨#[97]⟩, .string ⟨#[97]⟩] rfl rfl (cell_two_new _ _ _ _) (by simp [Value.oneCell']) (by unfold maxLen; omega) (by omega) (by decide) ?_; intro p7 c7 w7 happ; have t0 := (happ.box HCN.out.x HBN.out (by decide)).cell (k := 3) rfl; have f0 := (happ.box HCN.out.x HBN.out (by decide)).free 3)
    generalize World.alloc wq _ = wn at *
    have HR7 := Lib.hid (happ.gr HCN.out.x HGM.out HLO.out)
    have HB7 := Lib.hid (happ.box HCN.out.x HBN.out (by decide))
    have HP7 := Lib.hid (happ.box HCN.out.x HBM.out (by decide))
    obtain ⟨q, hq, hid, hap⟩ := HCN.out.appX (Nat.le_trans HLS.out HGN.out.size) (by decide +kernel) (by decide +kernel) happ
    have HBQ := Lib.hid (HB7.out.set 3 (.slice p7 (nx + 2) c7))
    have HZ := Lib.hid (hq.away HB7.out 3 (.slice p7 (nx + 2) c7))
    have HBP := Lib.hid (HP7.out.keepSet HNE.out 3 (.slice p7 (nx + 2) c7))
    have HGZ := Lib.hid (grownBy_setNew HR7.out HBW.out 3 (.slice p7 (nx + 2) c7))
    have HNO : Hid (¬ IsPt q) := Lib.hid (spoil_drops hap)
    have HID : Hid (pID q = id) := Lib.hid (hid.trans HNUM.out)
    clear hq hid hap happ HC HCN HBX HBN HBM HBB HGC HGM HR7 HP7 HGN t0'
    clear t0 f0 HB7
    generalize World.setCell _ ⟨bq, 3, none⟩ _ = wz at *
    have HPT := Lib.hid HZ.out.pt
    have HBI := Lib.hid (HZ.out.lim.big (by decide))
    obtain ⟨y0, y1, y2, y3, y4⟩ := HBQ.out.five
    clear HZ
    rw [HID.out] at HPT
    go_wp2_with fail
    refine (patIs_c sortU _ _ _ _ _ _ _ _ _ _ _ _ _ _ _ q false _ HPT.out HBI.out ⟨fun h => (by cases h), fun h => absurd h HNO.out⟩).mono ?_
    rintro e w9 ⟨rfl, hg9⟩
    obtain ⟨x0, x1, x2, x3, x4⟩ := (HBP.out.calm hg9).five
    have HPT := Lib.hid (HPT.out.calm hg9)
    have HBQ := Lib.hid (HBQ.out.calm hg9)
    have HGZ := Lib.hid (grownBy_trans HGZ.out hg9)
    have HPP := Lib.hid (HP.out.calm HGZ.out)
    clear y0 y1 y2 y3 y4 hg9
    obtain ⟨y0, y1, y2, y3, y4⟩ := HBQ.out.five
    go_wp2_with fail
    refine (patSame_c p q _ _ _ _ _ _ _ _ _ _ _ _ _ _ _ _ _ _ _ _ _ _ _ _ _ _ _ _ _ _ false _ HPP.out HPT.out HBG.out HBI.out ⟨fun h => (by cases h), fun h => absurd (h ▸ HIS.out) HNO.out⟩).mono ?_
    rintro e wa ⟨rfl, hga⟩
    have HGA := Lib.hid (grownBy_trans HG2.out (grownBy_trans HGZ.out hga))
    clear y0 y1 y2 y3 y4 x0 x1 x2 x3 x4 hga
    go_wp2
    go_ret
    exact ⟨rfl, HGA.out⟩
  · skip
    have t4 := HBX.out.cell (k := 4) rfl
    by_cases hz : nh = 0
    · subst hz
      have HGE := Lib.hid (grownBy_trans HG2.out HGC.out)
      go_wp2
      go_ret
      exact ⟨rfl, HGE.out⟩
    have hn0 : 0 < nh := by omega
    obtain ⟨hp4, hg4, hrow⟩ := HC.out.row hn0
    subst hp4
    have HG4 := Lib.hid hg4
    have HROW := Lib.hid hrow
    clear hg4 hrow
    obtain ⟨i, hi⟩ : ∃ i, b % nh = i := ⟨_, rfl⟩
    have hin : i < nh := by rw [← hi]; exact Nat.mod_lt _ hn0
    have hbi : ((b : Int).tmod (nh : Int)) = (i : Int) := by
      rw [Int.tmod_eq_emod_of_nonneg (by omega), ← hi]
      exact (Int.natCast_emod b nh).symm
    have hzi : ¬ ((nh : Int) = 0) := by omega
    have wb : IntKind.i64.wrap (b : Int) = b := IntWalk.i64_in _ (by omega)
    have k0 : (0 : Int) ≤ (i : Int) := by omega
    have k1 : (i : Int) < (nh : Int) := by omega
    clear hi
    obtain ⟨pa, na, ca, pe, ne, ce, pk, nk, ck, ef, l1, l2, l3, o1, o2, o3⟩ := HC.out.hk i hin
    have HO1 := Lib.hid o1
    have HO2 := Lib.hid o2
    have HL1 := Lib.hid l1
    have HL2 := Lib.hid l2
    have HEF := Lib.hid ef
    have hna : na ≤ 100 := by rw [← l1]; exact (HC.out.at_ hin).a
    have hne : ne ≤ 100 := by rw [← l2]; exact (HC.out.at_ hin).e
    clear l1 l2 l3 o1 o2 o3 ef
    go_upto_region 24 with go_region
    have HDR : Hid (wq.grownBy (World.drew wq) none) := Lib.hid (grownBy_drewN wq 1 none)
    have HC := Lib.hid (HC.out.calm HDR.out)
    have HBX := Lib.hid (HBX.out.calm HDR.out)
    have HBB := Lib.hid (HBB.out.calm HDR.out)
    have HGC := Lib.hid (grownBy_trans HGC.out HDR.out)
    have HROW := Lib.hid (HROW.out.calm HDR.out)
    have HO1 := Lib.hid (HO1.out.calm HDR.out)
    have HO2 := Lib.hid (HO2.out.calm HDR.out)
    have HLS := Lib.hid (Nat.le_trans HLS.out HDR.out.size)
    clear HDR t4
    have t4 := HBX.out.cell (k := 4) rfl
    generalize World.drew wq = wd at *
    obtain ⟨i0, hi0, hz0, hz1, hz2⟩ := info_parts infoS
    have HGN := Lib.hid (World.grownBy_alloc wd (.cells #[.string ⟨#[]⟩] 9) none)
    have HCN := Lib.hid (HC.out.calm HGN.out)
    have HBN := Lib.hid (HBX.out.calm HGN.out)
    have HBM := Lib.hid (HBB.out.calm HGN.out)
    have HGM := Lib.hid (grownBy_trans HGC.out HGN.out)
    have HRN := Lib.hid (HROW.out.calm HGN.out)
    have HON := Lib.hid (HO1.out.calm HGN.out)
    obtain ⟨z0, z1, z2, z3⟩ := HROW.out.four hin HEF.out
    have hll : (scells (hAdds ((pHunks p)[i]?.getD hk0))).length = na * 1 := by rw [scells_lenP, HL1.out, Nat.mul_one]
    go_upto_region 25 with (at_builtin; refine wpList_append_row _ rfl _ _ 24 rfl 9 i0 (.string .empty) 1 16 Try.underlying24 hi0 hz0 hz1 hz2 rfl (by decide) lo pa na ca (scells (hAdds ((pHunks p)[i]?.getD hk0))) rfl hll HON.out ⟨wd.heap.size, 0, none⟩ 1 1 [.string ⟨#[]⟩] rfl rfl (cell_one_new _ _ _) (by simp [Value.oneCell']) (by unfold maxLen; omega) (by omega) (by decide) ?_; intro p7 c7 w7 happ; have t0 := ((happ.hrow HON.out (by decide) HRN.out).four hin HEF.out).2.1; have f0 := (happ.hrow HON.out (by decide) HRN.out).free (i * 4 + 1))
    generalize World.alloc wd _ = wn at *
    clear z0 z1 z2 z3
    have HR7 := Lib.hid (happ.gr HON.out HGM.out HLO.out)
    have HB7 := Lib.hid (happ.box HON.out HBN.out (by decide))
    have HP7 := Lib.hid (happ.box HON.out HBM.out (by decide))
    have HR4 := Lib.hid (happ.hrow HON.out (by decide) HRN.out)
    have HBK := Lib.hid HR4.out.blk
    obtain ⟨q, x, f', hq, hid, hqx, hxa⟩ := HCN.out.appA (Nat.le_trans HLS.out HGN.out.size) hin (by rw [HEF.out]) (by decide +kernel) happ
    obtain ⟨cur, hbk⟩ := HBK.out
    have HBK := Lib.hid hbk
    clear hbk
    have HBQ := Lib.hid (HB7.out.keepT HBK.out (by decide) (i * 4 + 1) (.slice p7 (na + 1) c7))
    have HBP := Lib.hid (HP7.out.keepT HBK.out (by decide) (i * 4 + 1) (.slice p7 (na + 1) c7))
    have HGZ := Lib.hid (grownBy_setNew HR7.out (Nat.le_trans HLO.out HG4.out) (i * 4 + 1) (.slice p7 (na + 1) c7))
    have HZ := Lib.hid hq
    have HNO : Hid (¬ IsPt q) := Lib.hid (by
      obtain ⟨hlt, hx⟩ := List.getElem?_eq_some_iff.1 hqx
      exact spoil_adds hlt (s := ⟨#[]⟩) (by rw [hx, hxa]; simp) not_line_nil)
    have HID : Hid (pID q = id) := Lib.hid (hid.trans HNUM.out)
    have HB7' := HB7.out
    clear hq hid hqx hxa happ HC HCN HBX HBN HBM HBB HGC HGM HR7 HP7 HGN HROW HRN HR4 HO1 HO2 HON HL1 HL2 HEF HBK HB7' t4 k0 k1 hzi hbi wb
    clear t0 f0 HB7
    generalize World.setCell _ ⟨g4, i * 4 + 1, none⟩ _ = wz at *
    have HPT := Lib.hid HZ.out.pt
    have HBI := Lib.hid (HZ.out.lim.big (by decide))
    obtain ⟨y0, y1, y2, y3, y4⟩ := HBQ.out.five
    clear HZ
    rw [HID.out] at HPT
    go_wp2_with fail
    refine (patIs_c sortU _ _ _ _ _ _ _ _ _ _ _ _ _ _ _ q false _ HPT.out HBI.out ⟨fun h => (by cases h), fun h => absurd h HNO.out⟩).mono ?_
    rintro e w9 ⟨rfl, hg9⟩
    obtain ⟨x0, x1, x2, x3, x4⟩ := (HBP.out.calm hg9).five
    have HPT := Lib.hid (HPT.out.calm hg9)
    have HBQ := Lib.hid (HBQ.out.calm hg9)
    have HGZ := Lib.hid (grownBy_trans HGZ.out hg9)
    have HPP := Lib.hid (HP.out.calm HGZ.out)
    clear y0 y1 y2 y3 y4 hg9
    obtain ⟨y0, y1, y2, y3, y4⟩ := HBQ.out.five
    go_wp2_with fail
    refine (patSame_c p q _ _ _ _ _ _ _ _ _ _ _ _ _ _ _ _ _ _ _ _ _ _ _ _ _ _ _ _ _ _ false _ HPP.out HPT.out HBG.out HBI.out ⟨fun h => (by cases h), fun h => absurd (h ▸ HIS.out) HNO.out⟩).mono ?_
    rintro e wa ⟨rfl, hga⟩
    have HGA := Lib.hid (grownBy_trans HG2.out (grownBy_trans HGZ.out hga))
    clear y0 y1 y2 y3 y4 x0 x1 x2 x3 x4 hga
    go_wp2
    go_ret
    exact ⟨rfl, HGA.out⟩
  · skip
    have t4 := HBX.out.cell (k := 4) rfl
    by_cases hz : nh = 0
    · subst hz
      have HGE := Lib.hid (grownBy_trans HG2.out HGC.out)
      go_wp2
      go_ret
      exact ⟨rfl, HGE.out⟩
    have hn0 : 0 < nh := by omega
    obtain ⟨hp4, hg4, hrow⟩ := HC.out.row hn0
    subst hp4
    have HG4 := Lib.hid hg4
    have HROW := Lib.hid hrow
    clear hg4 hrow
    obtain ⟨i, hi⟩ : ∃ i, b % nh = i := ⟨_, rfl⟩
    have hin : i < nh := by rw [← hi]; exact Nat.mod_lt _ hn0
    have hbi : ((b : Int).tmod (nh : Int)) = (i : Int) := by
      rw [Int.tmod_eq_emod_of_nonneg (by omega), ← hi]
      exact (Int.natCast_emod b nh).symm
    have hzi : ¬ ((nh : Int) = 0) := by omega
    have wb : IntKind.i64.wrap (b : Int) = b := IntWalk.i64_in _ (by omega)
    have k0 : (0 : Int) ≤ (i : Int) := by omega
    have k1 : (i : Int) < (nh : Int) := by omega
    clear hi
    obtain ⟨pa, na, ca, pe, ne, ce, pk, nk, ck, ef, l1, l2, l3, o1, o2, o3⟩ := HC.out.hk i hin
    have HO1 := Lib.hid o1
    have HO2 := Lib.hid o2
    have HL1 := Lib.hid l1
    have HL2 := Lib.hid l2
    have HEF := Lib.hid ef
    have hna : na ≤ 100 := by rw [← l1]; exact (HC.out.at_ hin).a
    have hne : ne ≤ 100 := by rw [← l2]; exact (HC.out.at_ hin).e
    clear l1 l2 l3 o1 o2 o3 ef
    go_upto_region 10 with go_region
    have HDR : Hid (wq.grownBy (World.drew wq) none) := Lib.hid (grownBy_drewN wq 1 none)
    have HC := Lib.hid (HC.out.calm HDR.out)
    have HBX := Lib.hid (HBX.out.calm HDR.out)
    have HBB := Lib.hid (HBB.out.calm HDR.out)
    have HGC := Lib.hid (grownBy_trans HGC.out HDR.out)
    have HROW := Lib.hid (HROW.out.calm HDR.out)
    have HO1 := Lib.hid (HO1.out.calm HDR.out)
    have HO2 := Lib.hid (HO2.out.calm HDR.out)
    have HLS := Lib.hid (Nat.le_trans HLS.out HDR.out.size)
    clear HDR t4
    have t4 := HBX.out.cell (k := 4) rfl
    generalize World.drew wq = wd at *
    have t0x := HBX.out.cell (k := 0) rfl
    have HGX := Lib.hid (World.grownBy_alloc wd (.cells #[.int .u32 (id : Int), .int .i64 39] 36) none)
    have HXB := Lib.hid (BoxV.new wd [.int .u32 (id : Int), .int .i64 39] 36)
    go_upto_region 11 with fail
    have HC := Lib.hid (HC.out.calm HGX.out)
    have HBX := Lib.hid (HBX.out.calm HGX.out)
    have HBB := Lib.hid (HBB.out.calm HGX.out)
    have HGC := Lib.hid (grownBy_trans HGC.out HGX.out)
    have HROW := Lib.hid (HROW.out.calm HGX.out)
    have HO2 := Lib.hid (HO2.out.calm HGX.out)
    have HLS := Lib.hid (Nat.le_trans HLS.out HGX.out.size)
    clear t4 t0x HGX
    generalize wd.heap.size = gx at *
    generalize World.alloc wd _ = wx at *
    obtain ⟨i0, hi0, hz0, hz1, hz2⟩ := info_parts infoEd
    have hll : (ecells (hEdges ((pHunks p)[i]?.getD hk0))).length = ne * 4 := by rw [ecells_len, HL2.out]
    have u0 := HXB.out.cell (k := 0) rfl
    have u1 := HXB.out.cell (k := 1) rfl
    obtain ⟨z0, z1, z2, z3⟩ := HROW.out.four hin HEF.out
    have z2' := cell_calmQ (World.grownBy_alloc wx (.cells #[.int .u32 (id : Int), .int .i64 39, .int .u32 (id : Int), .int .i64 39] 38) none) z2
    obtain ⟨wn, hwn⟩ : ∃ W, (World.drew wx).alloc (.cells #[.int .u32 (id : Int), .int .i64 39, .int .u32 (id : Int), .int .i64 39] 38) = W := ⟨_, rfl⟩
    have HFIX : Hid (∀ p' c' w', AppR ((World.drew wx).alloc (.cells #[.int .u32 (id : Int), .int .i64 39, .int .u32 (id : Int), .int .i64 39] 38)) 38 4 pe ne ce 1 (ecells (hEdges ((pHunks p)[i]?.getD hk0))) [.int .u32 (id : Int), .int .i64 39, .int .u32 (id : Int), .int .i64 39] p' c' w' →
        AppR wn 38 4 pe ne ce 1 (ecells (hEdges ((pHunks p)[i]?.getD hk0))) (edc (((id, 39), (id, 39)) : Ed)) p' c' w') := Lib.hid fun p' c' w' h => by rw [← hwn]; exact h
    have HGN : Hid (wx.grownBy wn none) := Lib.hid (by rw [← hwn]; exact grownBy_trans (grownBy_drewN wx 1 none) (World.grownBy_alloc _ _ none))
    clear hwn
    have HCN := Lib.hid (HC.out.calm HGN.out)
    have HBN := Lib.hid (HBX.out.calm HGN.out)
    have HBM := Lib.hid (HBB.out.calm HGN.out)
    have HGM := Lib.hid (grownBy_trans HGC.out HGN.out)
    have HRN := Lib.hid (HROW.out.calm HGN.out)
    have HON := Lib.hid (HO2.out.calm HGN.out)
    go_region_law (refine step_append_row _ rfl (.tmp 45) (.tmp 49) 31 rfl 38 i0 (.agg #[.int .u32 0, .int .i64 0, .int .u32 0, .int .i64 0]) 4 32 Try.underlying31 hi0 hz0 hz1 hz2 rfl (by decide) lo pe ne ce (ecells (hEdges ((pHunks p)[i]?.getD hk0))) (by simp [Act.eval]) hll (by exact HO2.out.calm (grownBy_trans (grownBy_drewN wx 1 none) (World.grownBy_alloc _ _ none))) ⟨wx.heap.size, 0, none⟩ 1 1 [.int .u32 (id : Int), .int .i64 39, .int .u32 (id : Int), .int .i64 39] (by simp [Act.eval]) rfl (by exact World.news_of_block (BoxV.new wx.drew [.int .u32 (id : Int), .int .i64 39, .int .u32 (id : Int), .int .i64 39] 38)) (by simp [Value.oneCell']) (by unfold maxLen; omega) (by omega) ?_; intro p7 c7 w7 happ0; have happ := HFIX.out _ _ _ happ0; clear happ0; have t0 := ((happ.hrow HON.out (by decide) HRN.out).four hin HEF.out).2.2.1; have f0 := (happ.hrow HON.out (by decide) HRN.out).free (i * 4 + 2))
    all_goals
      clear z0 z1 z2 z3 u0 u1 z2'
      have HR7 := Lib.hid (happ.gr HON.out HGM.out HLO.out)
      have HB7 := Lib.hid (happ.box HON.out HBN.out (by decide))
      have HP7 := Lib.hid (happ.box HON.out HBM.out (by decide))
      have HR4 := Lib.hid (happ.hrow HON.out (by decide) HRN.out)
      have HBK := Lib.hid HR4.out.blk
      obtain ⟨q, x, f', hq, hid, hqx, hxa⟩ := HCN.out.appE (Nat.le_trans HLS.out HGN.out.size) hin (by rw [HEF.out]) happ
      obtain ⟨cur, hbk⟩ := HBK.out
      have HBK := Lib.hid hbk
      clear hbk
      have HBQ := Lib.hid (HB7.out.keepT HBK.out (by decide) (i * 4 + 2) (.slice p7 (ne + 1) c7))
      have HBP := Lib.hid (HP7.out.keepT HBK.out (by decide) (i * 4 + 2) (.slice p7 (ne + 1) c7))
      have HGZ := Lib.hid (grownBy_setNew HR7.out (Nat.le_trans HLO.out HG4.out) (i * 4 + 2) (.slice p7 (ne + 1) c7))
      have HZ := Lib.hid hq
      have HNO : Hid (¬ IsPt q) := Lib.hid (by
        obtain ⟨hlt, hx⟩ := List.getElem?_eq_some_iff.1 hqx
        exact spoil_edges hlt (x := (id, 39)) (by rw [hx, hxa]; simp))
      have HID : Hid (pID q = id) := Lib.hid (hid.trans HNUM.out)
      have HB7' := HB7.out
      clear hq hid hqx hxa happ HC HCN HBX HBN HBM HBB HGC HGM HR7 HP7 HGN HROW HRN HR4 HO1 HO2 HON HL1 HL2 HEF HBK HB7' HFIX HXB k0 k1 hzi hbi wb
      clear t0 f0 HB7
      generalize World.setCell _ ⟨g4, i * 4 + 2, none⟩ _ = wz at *
      have HPT := Lib.hid HZ.out.pt
      have HBI := Lib.hid (HZ.out.lim.big (by decide))
      obtain ⟨y0, y1, y2, y3, y4⟩ := HBQ.out.five
      clear HZ
      rw [HID.out] at HPT
      go_wp2_with fail
      refine (patIs_c sortU _ _ _ _ _ _ _ _ _ _ _ _ _ _ _ q false _ HPT.out HBI.out ⟨fun h => (by cases h), fun h => absurd h HNO.out⟩).mono ?_
      rintro e w9 ⟨rfl, hg9⟩
      obtain ⟨x0, x1, x2, x3, x4⟩ := (HBP.out.calm hg9).five
      have HPT := Lib.hid (HPT.out.calm hg9)
      have HBQ := Lib.hid (HBQ.out.calm hg9)
      have HGZ := Lib.hid (grownBy_trans HGZ.out hg9)
      have HPP := Lib.hid (HP.out.calm HGZ.out)
      clear y0 y1 y2 y3 y4 hg9
      obtain ⟨y0, y1, y2, y3, y4⟩ := HBQ.out.five
      go_wp2_with fail
      refine (patSame_c p q _ _ _ _ _ _ _ _ _ _ _ _ _ _ _ _ _ _ _ _ _ _ _ _ _ _ _ _ _ _ false _ HPP.out HPT.out HBG.out HBI.out ⟨fun h => (by cases h), fun h => absurd (h ▸ HIS.out) HNO.out⟩).mono ?_
      rintro e wa ⟨rfl, hga⟩
      have HGA := Lib.hid (grownBy_trans HG2.out (grownBy_trans HGZ.out hga))
      clear y0 y1 y2 y3 y4 x0 x1 x2 x3 x4 hga
      go_wp2
      go_ret
      exact ⟨rfl, HGA.out⟩

end Go.Proofs.Ytcfhnfnhdhloiaa
