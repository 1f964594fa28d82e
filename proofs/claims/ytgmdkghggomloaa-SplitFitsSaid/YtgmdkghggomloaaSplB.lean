/- Package split: the contracts of Lines, Fits, Join, Is. -/
import Derived.Test.YtgmdkghggomloaaSplA
namespace Go.Proofs.Ytgmdkghggomloaa
open Go.RowKit Go.Shelf
attribute [local go_sem] Oper.semAt_some

set_option maxRecDepth 100000 in
set_option maxHeartbeats 4000000 in
theorem lines_in (n : Nat) (hn : 6 ≤ n) (s : ByteArray) (w : World) (hs : s.size ≤ 1000000) :
    CallsIn Fence.wide n Try.prog 9 #[.string s] w (StrsPost (linesS s) w) := by
  have h1 : 1 ≤ n := by omega
  have hro : Fence.wide.round = none := rfl
  obtain ⟨i0, hi', hz0, hz1, hz2⟩ := info_parts Try.info9
  have hlen := Nat.le_trans (linesS_len s) hs
  refine callsIn_of_wp_marks Try.func9 rfl trivial ?_ hro
  simp only [Try.ntmps9, List.size_toArray, List.length_cons, List.length_nil, Nat.reduceAdd, Nat.reduceSub, Array.replicate_succ, Array.replicate_zero, List.push_toArray, List.append_toArray, List.nil_append, List.cons_append]
  gi_wp2_with (refine ⟨trivial, ?_⟩; gi_at_call 16; refine (pieces_in (n - 1) _ _).mono ?_; rintro e w9 ⟨rfl, rfl⟩)
  have bO := Boxed.new w 22 (.slice none 0 0)
  have bN := Boxed.new (w.alloc (.cells #[.slice none 0 0] 22)) 9 (.string s)
  rw [World.size_alloc] at bN
  have hB0 : Below w.heap.size w ((w.alloc (.cells #[.slice none 0 0] 22)).alloc (.cells #[.string s] 9)) :=
    ((Below.refl _ w).alloc (Nat.le_refl _) _).alloc (by simp) _
  refine wpIn_rangeFunc_ownH hro h1 (gf := 19) (lb := #[.pointer (some ⟨w.heap.size + 1, 0, none⟩)]) rfl trivial (enters_of Try.func19 (by kernel_rfl) rfl)
    (pieces_stops (n - 1) (by omega) (w.heap.size + 1) w.heap.size s _ (by simp) hs bN.cell) belowK_t (belowK_b (by simp; omega)) (Below.refl _ _) (fun _ => rfl)
    (fun pre W => (∃ v, Boxed W w.heap.size 22 v ∧ W.ownsRow w.heap.size 9 1 v pre.length (scells pre) ∧ True) ∧ Below w.heap.size w W)
    (fun _ _ _ => False)
    (OwnFrom.and (Own.from (holdsRow_own w.heap.size w.heap.size 22 9 1 (fun pre : List ByteArray => pre.length) scells (fun _ _ => True)) _) (ownFrom_below (Nat.le_refl _) (by simp; omega)))
    (fun _ _ _ _ _ hs _ _ => hs)
    ⟨⟨_, bO.alloc _, World.ownsRow_nil _ _ _ _, trivial⟩, hB0⟩
    (fun x a' _ => a' = { tmps := #[.string s, undef, .slice none 0 0, .pointer (some ⟨w.heap.size, 0, none⟩), .string x, .string s, .func (.func 19) #[] #[.pointer (some ⟨w.heap.size + 1, 0, none⟩)], .string x, undef, undef, undef, undef, undef], defers := [] })
    ?hAx ?assign ?body ?done ?stop
  case hAx =>
    intro x a' _ A B row h _ _
    exact h
  case assign =>
    intro l pre x W K hI hK
    have HK := Lib.hid hK
    clear hK
    unfold encS
    gi_wp2
    exact HK.out _ _ (KeepsFrom.refl _ _) (Below.refl _ W) hI rfl
  case body =>
    rintro l pre x a' W hl hlr ⟨⟨v, hv, hrow, _⟩, hB⟩ rfl hlt
    have hcv := hv.cell
    have hpl : pre.length < 1000000 := by omega
    gi_wp2_with (gi_at_builtin; refine wpListIn_append_own _ rfl _ _ 22 rfl w.heap.size 9 i0 (.string .empty) 1 16 Try.underlying22 hi' hz0 hz1 hz2 rfl (by decide) _ _ _ rfl (hrow.alloc _) ⟨W.heap.size, 0, none⟩ 1 1 [.string x] rfl rfl (cell_one_new _ _ _) (by simp [Value.oneCell']) (by unfold maxLen; omega) (by omega) (by have := hB.size; simp; omega) ?_; intro v' w1 hown' hgrow _; obtain ⟨g', cap', rfl⟩ := ownsRow_succ hown'; obtain ⟨hv1, hv2, hr2, hk2, hb2⟩ := hv.appended (by decide) hrow hB.size (by omega) hown' hgrow; have hc1 := hv1.cell; have hf1 := hv1.frozen)
    exact ⟨hk2.from _, hb2, ⟨_, hv2, by rw [scells_snoc]; simpa using hr2, trivial⟩, hB.trans hb2⟩
  case done =>
    rintro D ys W hD rfl ⟨⟨v, hv, hrow, _⟩, hB⟩ hK
    have hc := hv.cell
    gi_wp2
    refine ⟨by simp, .inl ⟨_, _, rfl, run_takeDeferred hK, ?_⟩⟩
    exact ⟨_, results_tmp rfl _ _ _, _, rfl, ownsRow_putObj hrow _ hK rfl, below_grownBy (hB.trans (belowK_b (w := w) (Nat.le_refl _) W D _ _ (by simp at hD; omega) hK rfl rfl))⟩
  case stop =>
    rintro D c pre W _ _ h _
    exact h.elim

theorem lines_c (s : ByteArray) (w : World) (hs : s.size ≤ 1000000) :
    Calls Try.prog 9 #[.string s] w (StrsPost (linesS s) w) :=
  callsIn_wide.1 (lines_in 6 (Nat.le_refl _) s w hs)

set_option maxRecDepth 100000 in
set_option maxHeartbeats 4000000 in
theorem fits_in (n : Nat) (hn : 6 ≤ n) (s : ByteArray) (w : World) (hs : s.size ≤ 1000000) :
    CallsIn Fence.wide n Try.prog 11 #[.string s] w fun e w' => e = .returned (.bool (fitsS s)) ∧ w.grownBy w' none := by
  have h1 : 1 ≤ n := by omega
  have hro : Fence.wide.round = none := rfl
  refine callsIn_of_wp_marks Try.func11 rfl trivial ?_ hro
  simp only [Try.ntmps11, List.size_toArray, List.length_cons, List.length_nil, Nat.reduceAdd, Nat.reduceSub, Array.replicate_succ, Array.replicate_zero, List.push_toArray, List.append_toArray, List.nil_append, List.cons_append]
  gi_wp2_with (refine ⟨trivial, ?_⟩; gi_at_call 16; refine (pieces_in (n - 1) _ _).mono ?_; rintro e w9 ⟨rfl, rfl⟩)
  have b0 := Boxed.new w 4 (.bool false)
  have b1 := Boxed.new (w.alloc (.cells #[.bool false] 4)) 3 (.int .i64 0)
  have b2 := Boxed.new ((w.alloc (.cells #[.bool false] 4)).alloc (.cells #[.int .i64 0] 3)) 9 (.string s)
  rw [World.size_alloc] at b1
  rw [World.size_alloc, World.size_alloc] at b2
  have hB0 : Below w.heap.size w (((w.alloc (.cells #[.bool false] 4)).alloc (.cells #[.int .i64 0] 3)).alloc (.cells #[.string s] 9)) :=
    (((Below.refl _ w).alloc (Nat.le_refl _) _).alloc (by simp) _).alloc (by simp; omega) _
  refine wpIn_rangeFunc_ownH hro h1 (gf := 19) (lb := #[.pointer (some ⟨w.heap.size + 1 + 1, 0, none⟩)]) rfl trivial (enters_of Try.func19 (by kernel_rfl) rfl)
    (pieces_stops (n - 1) (by omega) (w.heap.size + 1 + 1) w.heap.size s _ (by simp) hs b2.cell) belowK_t (belowK_b (by simp; omega)) (Below.refl _ _) (fun _ => rfl)
    (fun pre W => Boxed W w.heap.size 4 (.bool false) ∧ Boxed W (w.heap.size + 1) 3 (.int .i64 pre.length) ∧ fitL pre = true ∧ Below w.heap.size w W)
    (fun c pre W => c = .ret ∧ Boxed W w.heap.size 4 (.bool false) ∧ fitL pre = false ∧ Below w.heap.size w W)
    (OwnFrom.and (Own.from (boxed_own w.heap.size 4 (fun _ => .bool false)) _) (OwnFrom.and (Own.from (boxed_own (w.heap.size + 1) 3 (fun pre : List ByteArray => .int .i64 pre.length)) _) (OwnFrom.and (ownFrom_pure _ _) (ownFrom_below (Nat.le_refl _) (by simp; omega)))))
    (fun c => OwnFrom.and (ownFrom_pure _ _) (OwnFrom.and (Own.from (boxed_own w.heap.size 4 (fun _ => .bool false)) _) (OwnFrom.and (ownFrom_pure _ _) (ownFrom_below (Nat.le_refl _) (by simp; omega)))))
    ⟨(b0.alloc _).alloc _, b1.alloc _, rfl, hB0⟩
    (fun x a' _ => a' = { tmps := #[.string s, undef, .pointer (some ⟨w.heap.size, 0, none⟩), .pointer (some ⟨w.heap.size + 1, 0, none⟩), .string x, .string s, .func (.func 19) #[] #[.pointer (some ⟨w.heap.size + 1 + 1, 0, none⟩)], .string x, undef, undef, undef, undef, undef, undef, undef, undef, undef], defers := [] })
    ?hAx ?assign ?body ?done ?stop
  case hAx =>
    intro x a' _ A B row h _ _
    exact h
  case assign =>
    intro l pre x W K hI hK
    have HK := Lib.hid hK
    clear hK
    unfold encS
    gi_wp2
    exact HK.out _ _ (KeepsFrom.refl _ _) (Below.refl _ W) hI rfl
  case body =>
    rintro l pre x a' W hl hlr ⟨hv, hc, hfit, hB⟩ rfl hlt
    have hcc := hc.cell
    have hcf := hc.frozen
    have hvc := hv.cell
    have hvf := hv.frozen
    have hsn := fitL_snoc pre x hfit
    have hp1 : (pre ++ [x]).length = pre.length + 1 := by simp
    have hp2 : pre.length < 1000000 := Nat.lt_of_lt_of_le hlt (Nat.le_trans (linesS_len s) hs)
    have hw1 : IntKind.i64.wrap ((pre.length : Int) + 1) = (pre.length : Int) + 1 := IntWalk.i64_in _ (by omega)
    have hc2 := hc.set (.int .i64 ((pre.length : Int) + 1))
    have hv2 := hv.other (B' := w.heap.size + 1) (by omega) (.int .i64 ((pre.length : Int) + 1))
    have hB2 : Below w.heap.size W (W.setCell ⟨w.heap.size + 1, 0, none⟩ (.int .i64 ((pre.length : Int) + 1))) := (Below.refl _ W).setCell (p := ⟨w.heap.size + 1, 0, none⟩) (by show w.heap.size ≤ w.heap.size + 1; omega) _
    have hk2 : KeepsOthers W (W.setCell ⟨w.heap.size + 1, 0, none⟩ (.int .i64 ((pre.length : Int) + 1))) := KeepsOthers.setCell _ _ _
    have hcc2 := hc2.cell
    have hvc2 := hv2.cell
    have hvf2 := hv2.frozen
    have HSN := Lib.hid hsn
    have HP1 := Lib.hid hp1
    have HV2 := Lib.hid hv2
    have HC2 := Lib.hid hc2
    have HK2 := Lib.hid hk2
    have HB2 := Lib.hid hB2
    have HB := Lib.hid hB
    have HF := Lib.hid hfit
    clear hsn hp1 hv2 hc2 hk2 hB2 hB hfit hv hc
    by_cases c1 : 40 < pre.length + 1
    · have d1 : (40 : Int) < (pre.length : Int) + 1 := by omega
      have HN : Hid (fitL (pre ++ [x]) = false) := Lib.hid (by rw [HSN.out, decide_eq_false (by omega)]; rfl)
      gi_wp2
      exact ⟨(HK2.out.trans (KeepsOthers.setCell _ _ _)).from _, rfl, HV2.out.set _, HN.out, (HB.out.trans HB2.out).setCell (p := ⟨w.heap.size, 0, none⟩) (Nat.le_refl _) _⟩
    · have d1 : ¬ ((40 : Int) < (pre.length : Int) + 1) := by omega
      by_cases c2 : 60 < x.size
      · have d2 : (60 : Int) < x.size := by omega
        have HN : Hid (fitL (pre ++ [x]) = false) := Lib.hid (by rw [HSN.out, decide_eq_false (p := x.size ≤ 60) (by omega), Bool.and_false])
        gi_wp2
        exact ⟨(HK2.out.trans (KeepsOthers.setCell _ _ _)).from _, rfl, HV2.out.set _, HN.out, (HB.out.trans HB2.out).setCell (p := ⟨w.heap.size, 0, none⟩) (Nat.le_refl _) _⟩
      · have d2 : ¬ ((60 : Int) < x.size) := by omega
        have HN : Hid (fitL (pre ++ [x]) = true) := Lib.hid (by rw [HSN.out, decide_eq_true (by omega), decide_eq_true (by omega)]; rfl)
        gi_wp2
        exact ⟨HK2.out.from _, HB2.out, HV2.out, by rw [HP1.out]; exact HC2.out, HN.out, HB.out.trans HB2.out⟩
  case done =>
    rintro D ys W hD rfl ⟨hv, hc, hfit, hB⟩ hK
    have hcv := hv.cell
    have hfv := hv.frozen
    have HR := Lib.hid (show fitsS s = true from hfit)
    clear hfit
    gi_wp2
    have hK' := (KeepsOthers.setCell W ⟨w.heap.size, 0, none⟩ (.bool true)).same D _ hK rfl
    refine ⟨by simp, .inl ⟨_, _, rfl, run_takeDeferred hK', ?_⟩⟩
    have hv5 := (hv.set (.bool true)).kept (grownBy_putObj' _ D (.deferred none)) (fun e => by cases e; rw [show (W.setCell _ _).heap[w.heap.size]? = _ from hv.set (.bool true)] at hK'; cases hK')
    have hc5 := hv5.cell
    refine ⟨.bool true, ?_, by rw [HR.out], ?_⟩
    · simp [results, Try.f11, go_sem, hc5]
    · exact below_grownBy ((hB.setCell (p := ⟨w.heap.size, 0, none⟩) (Nat.le_refl _) _).trans (belowK_b (w := w) (Nat.le_refl _) _ D _ _ (by simp at hD; omega) hK' rfl rfl))
  case stop =>
    rintro D c pre W hD hpre ⟨rfl, hv, hno, hB⟩ hK
    have hcv := hv.cell
    have hno' : fitsS s = false := by
      obtain ⟨t, ht⟩ := hpre
      unfold fitsS
      rw [← ht]
      exact fitL_append hno
    have HR := Lib.hid hno'
    clear hno' hno
    gi_wp2
    refine ⟨by simp, .inl ⟨_, _, rfl, run_takeDeferred hK, ?_⟩⟩
    have hv5 := hv.kept (grownBy_putObj' _ D (.deferred none)) (fun e => by cases e; rw [show W.heap[w.heap.size]? = _ from hv] at hK; cases hK)
    have hc5 := hv5.cell
    refine ⟨.bool false, ?_, by rw [HR.out], ?_⟩
    · simp [results, Try.f11, go_sem, hc5]
    · exact below_grownBy (hB.trans (belowK_b (w := w) (Nat.le_refl _) _ D _ _ (by simp at hD; omega) hK rfl rfl))

theorem fits_c (s : ByteArray) (r : Bool) (w : World) (hs : s.size ≤ 1000000) (hr : fitsS s = r) :
    Calls Try.prog 11 #[.string s] w fun e w' => e = .returned (.bool r) ∧ w.grownBy w' none := by
  rw [← hr]
  exact callsIn_wide.1 (fits_in 6 (Nat.le_refl _) s w hs)

end Go.Proofs.Ytgmdkghggomloaa
