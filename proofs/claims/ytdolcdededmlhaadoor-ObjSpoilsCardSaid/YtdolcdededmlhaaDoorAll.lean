/- The contract of All of package bits: a new slice of the places that are on, rising; nothing that lay has turned. -/
import Derived.Test.YtdolcdededmlhaaDoorEach
namespace Go.Proofs.YtdolcdededmlhaaDoor
open Go.RowKit Go.Shelf
attribute [local go_sem] Oper.semAt_some

theorem Tryd.info3 : (Tryd.prog.info? 3).map (fun i => (i.zero, i.size, i.bytes)) = some (some (.int .i64 0), 1, 8) := by kernel_rfl

/-- What All leaves. -/
def AllPost (xs : List Int) (w : World) (e : Ending) (w' : World) : Prop :=
  ∃ v, e = .returned v ∧ w'.ownsRow w.heap.size 3 1 v xs.length (xs.map (Value.int .i64)) ∧ v ≠ .slice none 0 0 ∧ w.grownBy w' none

set_option maxRecDepth 100000 in
set_option maxHeartbeats 2000000 in
theorem all_in (n : Nat) (hn : 3 ≤ n) (b wb m : Nat) (ws : List Nat) (w : World) (hr : RowW w b wb m ws) (ht : Tab w) :
    CallsIn Fence.wide n Tryd.prog 54 #[.pointer (some ⟨b, 0, none⟩)] w (AllPost (ints (onL (onB ws) (64 * ws.length))) w) := by
  have h1 : 1 ≤ n := by omega
  have hro : Fence.wide.round = none := rfl
  obtain ⟨i0, hi, hz0, hz1, hz2⟩ := info_parts Tryd.info3
  have hcnt := Lib.hid (countW_c b wb m ws w hr)
  have hcl : cntW ws ws.length ≤ 1024 := by have := cntW_le ws ws.length; have := hr.words.len; have := hr.small; omega
  have hcd : cntW ws ws.length = (onL (onB ws) (64 * ws.length)).length := rfl
  have HCD := Lib.hid hcd
  clear hcd
  generalize hC : cntW ws ws.length = c at *
  have HC := Lib.hid hC
  clear hC
  have hmk := fun (w1 : World) => run_make (P := Tryd.prog) w1 87 3 i0 (.int .i64 0) Tryd.underlying87 hi hz0 .i64 .i64 0 (c : Int) (by omega) (by omega) (by rw [hz2]; omega) (by omega)
  simp only [hz1, Int.toNat_zero, Int.toNat_natCast, Nat.mul_one] at hmk
  have HR := Lib.hid hr
  have HT := Lib.hid ht
  clear hr ht
  refine callsIn_of_wp_marks Tryd.func54 rfl trivial ?_ hro
  simp only [Tryd.ntmps54, List.size_toArray, List.length_cons, List.length_nil, Nat.reduceAdd, Nat.reduceSub, Array.replicate_succ, Array.replicate_zero, List.push_toArray, List.append_toArray, List.nil_append, List.cons_append]
  gi_wp2_with (first | (refine ⟨trivial, ?_⟩; gi_at_call 31; refine (callsIn_wide.2 hcnt.out).mono ?_; rintro e w9 ⟨rfl, h9⟩; subst w9) | (refine ⟨trivial, ?_⟩; gi_at_call 62; refine (each_in (n - 1) _ _).mono ?_; rintro e w9 ⟨rfl, rfl⟩))
  have bO := Boxed.new (w.alloc (.cells (madeCells #[.int .i64 0] c) 3)) 87 (.slice (some ⟨w.heap.size, 0, none⟩) 0 c)
  rw [World.size_alloc] at bO
  have bN := Boxed.new ((w.alloc (.cells (madeCells #[.int .i64 0] c) 3)).alloc (.cells #[.slice (some ⟨w.heap.size, 0, none⟩) 0 c] 87)) 62 (.pointer (some ⟨b, 0, none⟩))
  rw [World.size_alloc, World.size_alloc] at bN
  have hown0 : (w.alloc (.cells (madeCells #[.int .i64 0] c) 3)).ownsRow w.heap.size 3 1 (.slice (some ⟨w.heap.size, 0, none⟩) 0 c) 0 [] :=
    World.ownsRow_made w _ c (Nat.le_refl _) (by unfold maxLen; omega) (by rw [size_madeCells, Nat.mul_one])
  have hB0 : Below w.heap.size w (((w.alloc (.cells (madeCells #[.int .i64 0] c) 3)).alloc (.cells #[.slice (some ⟨w.heap.size, 0, none⟩) 0 c] 87)).alloc (.cells #[.pointer (some ⟨b, 0, none⟩)] 62)) :=
    (((Below.refl _ w).alloc (Nat.le_refl _) _).alloc (by simp) _).alloc (by simp; omega) _
  have hr3 := HR.out.grown (below_grownBy hB0) (by simp) (by simp)
  have ht3 := HT.out.grown (below_grownBy hB0) (by simp)
  have hcL : (onL (onB ws) (64 * ws.length)).length ≤ 1024 := by rw [← HCD.out]; exact hcl
  refine wpIn_rangeFunc_ownG hro h1 (gf := 66) (lb := #[.pointer (some ⟨w.heap.size + 1 + 1, 0, none⟩)]) rfl trivial (enters_of Tryd.func66 (by kernel_rfl) rfl)
    (each_stops (n - 1) (by omega) (w.heap.size + 1 + 1) w.heap.size b wb m ws _ hr3 ht3 HR.out.hb HR.out.hw HT.out.1 (by simp) (by simp; omega) bN.cell) belowK_t (belowK_b (by simp; omega)) (Below.refl _ _) (fun _ => rfl)
    (fun pre W => (∃ v, Boxed W (w.heap.size + 1) 87 v ∧ W.ownsRow w.heap.size 3 1 v pre.length (pre.map (Value.int .i64)) ∧ v ≠ .slice none 0 0) ∧ Below w.heap.size w W)
    (fun _ _ _ => False)
    (OwnFrom.and (Own.from (holdsRow_own w.heap.size (w.heap.size + 1) 87 3 1 (fun pre : List Int => pre.length) (fun pre => pre.map (Value.int .i64)) (fun _ v => v ≠ .slice none 0 0)) _) (ownFrom_below (Nat.le_refl _) (by simp; omega)))
    (fun _ _ _ _ _ hs _ _ => hs)
    ⟨⟨_, bO.alloc _, (hown0.alloc _).alloc _, by intro e; cases e⟩, hB0⟩
    (fun x => { tmps := #[.pointer (some ⟨b, 0, none⟩), undef, .slice none 0 0, .pointer (some ⟨w.heap.size + 1, 0, none⟩), .int .i64 x, .pointer (some ⟨b, 0, none⟩), .int .i64 c, .slice (some ⟨w.heap.size, 0, none⟩) 0 c, .pointer (some ⟨b, 0, none⟩), .func (.func 66) #[] #[.pointer (some ⟨w.heap.size + 1 + 1, 0, none⟩)], .int .i64 x, undef, undef, undef, undef, undef], defers := [] }) ?assign ?body ?done ?stop
  case assign =>
    intro l x W K hK
    gi_wp2
    exact hK
  case body =>
    rintro l pre x W ⟨⟨v, hv, hrow, hnil⟩, hB⟩ hlt
    have hc := hv.cell
    have hpl : pre.length < 1024 := by omega
    gi_wp2_with (gi_at_builtin; refine wpListIn_append_own _ rfl _ _ 87 rfl w.heap.size 3 i0 (.int .i64 0) 1 8 Tryd.underlying87 hi hz0 hz1 hz2 rfl (by decide) _ _ _ rfl (hrow.alloc _) ⟨W.heap.size, 0, none⟩ 1 1 [.int .i64 x] rfl rfl (cell_one_new _ _ _) (by simp [Value.oneCell']) (by unfold maxLen; omega) (by omega) (by have := hB.size; simp; omega) ?_; intro v' w1 hown' hgrow _; obtain ⟨g', cap', rfl⟩ := ownsRow_succ hown'; obtain ⟨hv1, hv2, hr2, hk2, hb2⟩ := hv.appended (by decide) hrow hB.size (by omega) hown' hgrow; have hc1 := hv1.cell; have hf1 := hv1.frozen)
    exact ⟨hk2.from _, hb2, ⟨_, hv2, by simpa using hr2, by intro e; cases e⟩, hB.trans hb2⟩
  case done =>
    rintro D ys W hD rfl ⟨⟨v, hv, hrow, hnil⟩, hB⟩ hK
    have hc := hv.cell
    gi_wp2
    refine ⟨by simp, .inl ⟨_, _, rfl, run_takeDeferred hK, ?_⟩⟩
    exact ⟨_, results_tmp rfl _ _ _, v, rfl, ownsRow_putObj hrow _ hK rfl, hnil, below_grownBy (hB.trans (belowK_b (w := w) (Nat.le_refl _) W D _ _ (by simp at hD; omega) hK rfl rfl))⟩
  case stop =>
    rintro D c pre W _ _ h _
    exact h.elim

/-- All: the places that are on, rising. -/
theorem all_c (b wb n : Nat) (S : Nat → Bool) (w : World) (h : IsSet w b wb n S) (ht : Tab w) : Calls Tryd.prog 54 #[.pointer (some ⟨b, 0, none⟩)] w (AllPost (ints (onL S n)) w) := by
  obtain ⟨ws, hr, ho⟩ := h
  have e : onL (onB ws) (64 * ws.length) = onL S n := by rw [words_onL hr.words]; exact onL_congr fun i _ => ho i
  rw [← e]
  exact callsIn_wide.1 (all_in 3 (Nat.le_refl _) b wb n ws w hr ht)

end Go.Proofs.YtdolcdededmlhaaDoor
