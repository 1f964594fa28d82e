/- The contract of Pairs of package rel: a new slice of the pairs, rising. -/
import Derived.Test.YtdolcdededmlhaaDoorRelP
namespace Go.Proofs.YtdolcdededmlhaaDoor
open Go.RowKit Go.Shelf
attribute [local go_sem] Oper.semAt_some

theorem Tryd.info38 : (Tryd.prog.info? 38).map (fun i => (i.zero, i.size, i.bytes)) = some (some (.agg #[.int .i64 0, .int .i64 0]), 2, 16) := by kernel_rfl

theorem keepP_t {n₀ : Nat} {A B C : World} (h : KeepP n₀ A B) (k : KeepP n₀ B C) : KeepP n₀ A C := ⟨h.1.trans k.1, h.2.trans k.2⟩
theorem keepP_b {w : World} {n₀ : Nat} (hn : n₀ ≤ w.heap.size) (W : World) (l : Nat) (o o' : Obj) (hl : w.heap.size ≤ l) (hw : W.heap[l]? = some o) (hc : o.isCells = false) (hk : o.isWalk = false) : KeepP n₀ W (W.putObj l o') := by
  refine ⟨belowK_b hn W l o o' hl hw hc hk, fun g cur hg => ?_⟩
  have hne : g ≠ l := fun e => by subst e; rw [hg] at hw; cases hw; cases hc
  exact (World.putObj_heap_other hne).trans hg

/-- Behind an append to a row of pairs that a box holds rows of ints lie as they lay. -/
theorem keepI_appended {W w1 : World} {n₀ B k : Nat} {v u v' : Value} {xs : List Value} {tmp : Obj} (hv : Boxed W B 23 u) (hrow : W.ownsRow n₀ 38 2 v k xs) (hgrow : (W.alloc tmp).grownBy w1 v.ownBlock) : KeepI W (w1.setCell ⟨B, 0, none⟩ v') := by
  intro g cur hg
  have hlt : g < W.heap.size := (Array.getElem?_eq_some_iff.1 hg).1
  have h1 : (W.alloc tmp).heap[g]? = some (.cells cur 3 (0, 0)) := ((World.grownBy_alloc W tmp none).block g hlt (by simp)).trans hg
  have hne : some g ≠ v.ownBlock := by
    rcases hrow.2 with ⟨rfl, _⟩ | ⟨g', cap, cur', rfl, _, hgb, _⟩
    · simp [Value.ownBlock]
    · intro e
      obtain rfl : g = g' := by simpa [Value.ownBlock] using e
      rw [hg] at hgb
      simp at hgb
  have h2 : w1.heap[g]? = some (.cells cur 3 (0, 0)) := (hgrow.block g (by simp; omega) hne).trans h1
  have hneB : g ≠ B := fun e => by
    subst e
    rw [show W.heap[g]? = _ from hv] at hg
    simp at hg
  exact (Below.heap_setCell _ _ _ _ hneB).trans h2

theorem cell_two_new (w : World) (x y : Value) (t : TypeId) : ∀ j u, [x, y][j]? = some u → (w.alloc (.cells #[x, y] t)).cell? ((⟨w.heap.size, 0, none⟩ : Addr).add j) = some u := by
  intro j u hu
  have hadd : (⟨w.heap.size, 0, none⟩ : Addr).add j = ⟨w.heap.size, j, none⟩ := by unfold Addr.add; split <;> simp_all
  rw [hadd]
  match j, hu with
  | 0, hu => simpa using hu
  | 1, hu => simpa using hu
  | j + 2, hu => simp at hu

/-- The loop's variable, in a block of its own. -/
def PairBox (x : Int × Int) (B : Nat) (W : World) : Prop := W.heap[B]? = some (.cells #[.int .i64 x.1, .int .i64 x.2] 38 (0, 0))

/-- What hands back a new slice of pairs, a row of its own. -/
def PairsPostO (l : List (Int × Int)) (w : World) (e : Ending) (w' : World) : Prop :=
  ∃ v, e = .returned v ∧ w'.ownsRow w.heap.size 38 2 v l.length (pcells l) ∧ w.grownBy w' none
theorem PairsPostO.plain {l : List (Int × Int)} {w w' : World} {e : Ending} (h : PairsPostO l w e w') : PairsPost l w e w' := by
  obtain ⟨v, rfl, hr, hg⟩ := h
  obtain ⟨p, c, rfl, hp⟩ := pairsAt_own hr
  exact ⟨p, c, rfl, hp, hg⟩

set_option maxRecDepth 100000 in
set_option maxHeartbeats 4000000 in
theorem relPairs_in (n : Nat) (hn : 6 ≤ n) (lo hi p m : Nat) (R : Nat → Nat → Bool) (w : World) (hR : IsRel w lo hi p m R) (ht : Tab w) :
    CallsIn Fence.wide n Tryd.prog 11 #[.pointer (some ⟨p, 0, none⟩)] w (PairsPostO (pairsL m R m) w) := by
  have h1 : 1 ≤ n := by omega
  have hro : Fence.wide.round = none := rfl
  obtain ⟨i0, hi', hz0, hz1, hz2⟩ := info_parts Tryd.info38
  have hm := hR.small
  have HR := Lib.hid hR
  have HT := Lib.hid ht
  obtain ⟨_, _, pb, bs, ws, h3⟩ := hR
  obtain ⟨cap, hc⟩ := h3.c0
  have H3 := Lib.hid h3
  clear h3 ht
  have hmk := fun (c : Nat) (hc : c ≤ 40000) (w1 : World) => run_make (P := Tryd.prog) w1 23 38 i0 (.agg #[.int .i64 0, .int .i64 0]) Tryd.underlying23 hi' hz0 .i64 .i64 0 (c : Int) (by omega) (by omega) (by rw [hz2]; omega) (by omega)
  simp only [hz1, Int.toNat_zero, Int.toNat_natCast] at hmk
  have HMK := Lib.hid hmk
  clear hmk
  refine callsIn_of_wp_marks Tryd.func11 rfl trivial ?_ hro
  simp only [Tryd.ntmps11, List.size_toArray, List.length_cons, List.length_nil, Nat.reduceAdd, Nat.reduceSub, Array.replicate_succ, Array.replicate_zero, List.push_toArray, List.append_toArray, List.nil_append, List.cons_append]
  gi_wp2
  gi_loop [3, 13] (fun t i => ∃ k : Nat, k ≤ m ∧ i = .int .i64 k ∧ t = .int .i64 (pairsL m R k).length) (fun _ i => m - (intOf i).toNat)
  case atStart => exact ⟨0, Nat.zero_le _, rfl, rfl⟩
  case round =>
    obtain ⟨k, hk, rfl, rfl⟩ := hrel
    by_cases hkm : k < m
    · have hcp := H3.out.cp k hkm
      have hrow := Lib.hid (H3.out.row k hkm)
      have HC := Lib.hid (pairsL_count m R k)
      have hle := pairsL_len m R k
      have hle2 : (pairsL m R k).length ≤ 40000 := by
        have : k * m ≤ 200 * 200 := Nat.mul_le_mul (by omega) hm
        omega
      have hl2 : (onL (R k) m).length ≤ 200 := Nat.le_trans (onL_le _ _) hm
      clear hle
      generalize hP : (pairsL m R k).length = pl at *
      clear hP
      gi_wp2_with fail
      refine ⟨trivial, ?_⟩
      refine (callsIn_wide.2 (count_c (bs k) (ws k) m (R k) _ (by exact hrow.out))).mono ?_
      rintro e w9 ⟨rfl, h9⟩
      subst w9
      generalize hO : (onL (R k) m).length = ol at *
      clear hO
      gi_wp2
      exact ⟨⟨k + 1, by omega, by go_num, by rw [HC.out]; go_num⟩, by simp [intOf]; omega⟩
    · obtain rfl : k = m := by omega
      have hle2 : (pairsL k R k).length ≤ 40000 := by
        have := pairsL_len k R k
        have : k * k ≤ 200 * 200 := Nat.mul_le_mul hm hm
        omega
      have hmk := HMK.out _ hle2
      generalize hC : (pairsL k R k).length = c at *
      have HC := Lib.hid hC
      clear hC
      gi_wp2_with (refine ⟨trivial, ?_⟩; gi_at_call 32; refine (relEach_in (n - 1) _ _).mono ?_; rintro e w9 ⟨rfl, rfl⟩)
      have bO := Boxed.new (w.alloc (.cells (madeCells #[.int .i64 0, .int .i64 0] (c * 2)) 38)) 23 (.slice (some ⟨w.heap.size, 0, none⟩) 0 c)
      rw [World.size_alloc] at bO
      have bN := Boxed.new ((w.alloc (.cells (madeCells #[.int .i64 0, .int .i64 0] (c * 2)) 38)).alloc (.cells #[.slice (some ⟨w.heap.size, 0, none⟩) 0 c] 23)) 28 (.pointer (some ⟨p, 0, none⟩))
      rw [World.size_alloc, World.size_alloc] at bN
      have hown0 : (w.alloc (.cells (madeCells #[.int .i64 0, .int .i64 0] (c * 2)) 38)).ownsRow w.heap.size 38 2 (.slice (some ⟨w.heap.size, 0, none⟩) 0 c) 0 [] :=
        World.ownsRow_made w _ c (Nat.le_refl _) (by unfold maxLen; omega) (by rw [size_madeCells])
      have hB0 : Below w.heap.size w (((w.alloc (.cells (madeCells #[.int .i64 0, .int .i64 0] (c * 2)) 38)).alloc (.cells #[.slice (some ⟨w.heap.size, 0, none⟩) 0 c] 23)).alloc (.cells #[.pointer (some ⟨p, 0, none⟩)] 28)) :=
        (((Below.refl _ w).alloc (Nat.le_refl _) _).alloc (by simp) _).alloc (by simp; omega) _
      have hr3 := HR.out.calm (below_grownBy hB0)
      have ht3 := HT.out.grown (below_grownBy hB0) (by simp)
      have htop := HR.out.top
      refine wpIn_rangeFunc_ownH hro h1 (gf := 53) (lb := #[.pointer (some ⟨w.heap.size + 1 + 1, 0, none⟩)]) rfl trivial (enters_of Tryd.func53 (by kernel_rfl) rfl)
        (relEach_stops (n - 1) (by omega) (w.heap.size + 1 + 1) w.heap.size lo hi p k R _ hr3 ht3 htop HT.out.1 (by simp) (by simp; omega) bN.cell) keepP_t (keepP_b (by simp; omega)) (Below.refl _ _) (fun _ => rfl)
        (fun pre W => (∃ v, Boxed W (w.heap.size + 1) 23 v ∧ W.ownsRow w.heap.size 38 2 v pre.length (pcells pre) ∧ True) ∧ Below w.heap.size w W)
        (fun _ _ _ => False)
        (OwnFrom.and (Own.from (holdsRow_own w.heap.size (w.heap.size + 1) 23 38 2 (fun pre : List (Int × Int) => pre.length) pcells (fun _ _ => True)) _) (ownFrom_below (Nat.le_refl _) (by simp; omega)))
        (fun _ _ _ _ _ hs _ _ => hs)
        ⟨⟨_, bO.alloc _, (hown0.alloc _).alloc _, trivial⟩, hB0⟩
        (fun x a' W => ∃ B, PairBox x B W ∧ w.heap.size < B ∧ B ≠ w.heap.size + 1 ∧ a' = { tmps := #[.pointer (some ⟨p, 0, none⟩), undef, .slice none 0 0, .int .i64 c, undef, u5, .pointer (some ⟨w.heap.size + 1, 0, none⟩), .pointer (some ⟨B, 0, none⟩), .pointer (some ⟨p, 0, none⟩), .pointer (some ⟨p, 0, none⟩), .pointer (some ⟨p, 0, none⟩), .slice (some ⟨pb, 0, none⟩) k cap, .int .i64 k, .int .i64 k, .bool false, u15, u16, u17, u18, u19, u20, u21, .int .i64 c, .slice (some ⟨w.heap.size, 0, none⟩) 0 c, .pointer (some ⟨p, 0, none⟩), .func (.func 53) #[] #[.pointer (some ⟨w.heap.size + 1 + 1, 0, none⟩)], .agg #[.int .i64 x.1, .int .i64 x.2], undef, undef, undef, undef, undef], defers := [] })
        ?hAx ?assign ?body ?done ?stop
      case hAx =>
        rintro x a' _ A B row ⟨b, hb, h2, h3, h4⟩ hg hrow
        refine ⟨b, (hg.block b (Array.getElem?_eq_some_iff.1 hb).1 fun e => ?_).trans hb, h2, h3, h4⟩
        obtain ⟨_, o, ho, hoc⟩ := hrow b e.symm
        rw [show A.heap[b]? = _ from hb] at ho
        cases ho
        cases hoc
      case assign =>
        intro l pre x W K hI hK
        have HK := Lib.hid hK
        clear hK
        unfold pairV
        gi_wp2
        obtain ⟨⟨v, hv, hrow, _⟩, hB⟩ := hI
        have hlt := hv.lt
        refine HK.out _ _ ((KeepsOthers.alloc W _).from _) ⟨(Below.refl _ W).alloc hB.size _, KeepI.calm (World.grownBy_alloc W _ none)⟩ ⟨⟨v, hv.alloc _, hrow.alloc _, trivial⟩, hB.alloc hB.size _⟩ ⟨W.heap.size, World.alloc_heap_new W _, by omega, by omega, rfl⟩
      case body =>
        rintro l pre x a' W hl hlr ⟨⟨v, hv, hrow, _⟩, hB⟩ ⟨b, hb, hb2, hb3, rfl⟩ hlt
        have hcv := hv.cell
        have hx1 : W.cell? ⟨b, 0, none⟩ = some (.int .i64 x.1) := by simp [World.cell?, show W.heap[b]? = _ from hb]
        have hx2 : W.cell? ⟨b, 1, none⟩ = some (.int .i64 x.2) := by simp [World.cell?, show W.heap[b]? = _ from hb]
        have hpl : pre.length < 40000 := by rw [HC.out] at hlt; omega
        gi_wp2_with (gi_at_builtin; refine wpListIn_append_own _ rfl _ _ 23 rfl w.heap.size 38 i0 (.agg #[.int .i64 0, .int .i64 0]) 2 16 Tryd.underlying23 hi' hz0 hz1 hz2 rfl (by decide) _ _ _ rfl (hrow.alloc _) ⟨W.heap.size, 0, none⟩ 1 1 [.int .i64 x.1, .int .i64 x.2] rfl rfl (cell_two_new _ _ _ _) (by simp [Value.oneCell']) (by unfold maxLen; omega) (by omega) (by have := hB.size; simp; omega) ?_; intro v' w1 hown' hgrow _; obtain ⟨g', cap', rfl⟩ := ownsRow_succ hown'; obtain ⟨hv1, hv2, hr2, hk2, hb2⟩ := hv.appended (by decide) hrow hB.size (by omega) hown' hgrow; have hki := keepI_appended (v' := .slice (some ⟨g', 0, none⟩) (pre.length + 1) cap') hv hrow hgrow; have hc1 := hv1.cell; have hf1 := hv1.frozen)
        exact ⟨hk2.from _, ⟨hb2, hki⟩, ⟨_, hv2, by rw [pcells_snoc]; simpa using hr2, trivial⟩, hB.trans hb2⟩
      case done =>
        rintro D ys W hD rfl ⟨⟨v, hv, hrow, _⟩, hB⟩ hK
        have hc := hv.cell
        gi_wp2
        refine ⟨by simp, .inl ⟨_, _, rfl, run_takeDeferred hK, ?_⟩⟩
        exact ⟨_, results_tmp rfl _ _ _, _, rfl, ownsRow_putObj hrow _ hK rfl, below_grownBy (hB.trans (belowK_b (w := w) (Nat.le_refl _) W D _ _ (by simp at hD; omega) hK rfl rfl))⟩
      case stop =>
        rintro D c pre W _ _ h _
        exact h.elim

theorem relPairs_c (lo hi p m : Nat) (R : Nat → Nat → Bool) (w : World) (hR : IsRel w lo hi p m R) (ht : Tab w) :
    Calls Tryd.prog 11 #[.pointer (some ⟨p, 0, none⟩)] w (PairsPost (pairsL m R m) w) :=
  (callsIn_wide.1 (relPairs_in 6 (Nat.le_refl _) lo hi p m R w hR ht)).mono fun _ _ h => h.plain
theorem relPairs_o (lo hi p m : Nat) (R : Nat → Nat → Bool) (w : World) (hR : IsRel w lo hi p m R) (ht : Tab w) :
    Calls Tryd.prog 11 #[.pointer (some ⟨p, 0, none⟩)] w (PairsPostO (pairsL m R m) w) :=
  callsIn_wide.1 (relPairs_in 6 (Nat.le_refl _) lo hi p m R w hR ht)

end Go.Proofs.YtdolcdededmlhaaDoor
