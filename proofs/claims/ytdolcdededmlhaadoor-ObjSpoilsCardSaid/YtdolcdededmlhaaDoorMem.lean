/- Contracts of New, Put, Copy, Same and Count of package bits: rows of bits made, changed, copied, compared, counted. -/
import Derived.Deep.RegionWith
import Derived.StillTailTactics
import Derived.Deep.OwnRows
import Derived.Test.YtdolcdededmlhaaDoorLeaf
namespace Go.Proofs.YtdolcdededmlhaaDoor
open Go.RowKit

theorem Tryd.info84 : (Tryd.prog.info? 84).map (fun i => (i.zero, i.size, i.bytes)) = some (some (.int .u64 0), 1, 8) := by kernel_rfl

/-- What New leaves: a row with nothing on, in blocks of its own. -/
def NewPost (n : Nat) (w : World) (e : Ending) (w' : World) : Prop :=
  ∃ b wb, e = .returned (.pointer (some ⟨b, 0, none⟩)) ∧ w.heap.size ≤ b ∧ w.heap.size ≤ wb ∧ IsSet w' b wb n (fun _ => false) ∧ w.grownBy w' none

/-- n held from 0 to 1000. -/
def clampN (n : Int) : Nat := (min (max n 0) 1000).toNat

theorem made_get (z : Value) (L k : Nat) (hk : k < L) : (madeCells #[z] L)[k]? = some z := by
  have h := congrArg (fun l : List Value => l[k]?) (toList_madeCells_one z L)
  simp only [Array.getElem?_toList, List.getElem?_replicate_of_lt hk] at h
  exact h

theorem new_row (w : World) (n L : Nat) (hL : (n + 63) / 64 = L) (hn : n ≤ 1000) :
    IsSet ((w.alloc (.cells (madeCells #[.int .u64 0] L) 84)).alloc (.cells #[.int .i64 n, .slice (some ⟨w.heap.size, 0, none⟩) L L] 83)) (w.heap.size + 1) w.heap.size n (fun _ => false) := by
  subst hL
  have hz : ∀ k : Nat, k < (n + 63) / 64 → (List.replicate ((n + 63) / 64) 0)[k]?.getD 0 = 0 := by
    intro k hk
    rw [List.getElem?_replicate_of_lt hk]; rfl
  refine ⟨List.replicate ((n + 63) / 64) 0, ?_, zeros_on n⟩
  refine ⟨by simp, by simp; omega, by omega, ?_, ⟨(n + 63) / 64, ?_⟩, ⟨?_, ?_⟩, zeros_words n, hn⟩
  · simp
  · simp
  · intro k hk
    rw [List.length_replicate] at hk
    rw [hz k hk, World.cell?_alloc2_first, made_get _ _ _ hk]
    rfl
  · intro k _
    rw [World.frozen?_alloc2_first]

set_option maxHeartbeats 400000 in
theorem new_mid (n : Nat) (w : World) (hn : n ≤ 1000) : Calls Tryd.prog 45 #[.int .i64 n] w (NewPost n w) := by
  have hmk := run_make_row' (P := Tryd.prog) 81 84 (.int .u64 0) 8 Tryd.underlying81 Tryd.info84 rfl .i64 .i64 ((n + 63) / 64) (by omega) (by omega)
  have ec : (((n + 63) / 64 : Nat) : Int) = ((n : Int) + 64 - 1) / 64 := by omega
  rw [ec] at hmk
  clear ec
  generalize hL : (n + 63) / 64 = L at *
  have HL := Lib.hid hL
  clear hL
  have h0 : (0 : Int) ≤ n := by omega
  have h1 : (n : Int) ≤ 1000 := by omega
  go_enter Tryd.func45, Tryd.ntmps45
  go_wp2
  go_ret
  exact ⟨_, _, rfl, by omega, by omega, new_row w n L HL.out hn, grownBy_trans (World.grownBy_alloc w _ none) (World.grownBy_alloc _ _ none)⟩

set_option maxHeartbeats 400000 in
theorem new_low (i : Int) (w : World) (hi : i < 0) : Calls Tryd.prog 45 #[.int .i64 i] w (NewPost 0 w) := by
  have hmk := run_make_row' (P := Tryd.prog) 81 84 (.int .u64 0) 8 Tryd.underlying81 Tryd.info84 rfl .i64 .i64 0 (by omega) (by omega)
  rw [show ((0 : Nat) : Int) = 0 from rfl] at hmk
  go_enter Tryd.func45, Tryd.ntmps45
  go_wp2
  go_ret
  exact ⟨_, _, rfl, by omega, by omega, new_row w 0 0 rfl (by omega), grownBy_trans (World.grownBy_alloc w _ none) (World.grownBy_alloc _ _ none)⟩

set_option maxHeartbeats 400000 in
theorem new_high (i : Int) (w : World) (hi : 1000 < i) : Calls Tryd.prog 45 #[.int .i64 i] w (NewPost 1000 w) := by
  have hmk := run_make_row' (P := Tryd.prog) 81 84 (.int .u64 0) 8 Tryd.underlying81 Tryd.info84 rfl .i64 .i64 16 (by omega) (by omega)
  rw [show ((16 : Nat) : Int) = 16 from rfl] at hmk
  have h0 : ¬ i < 0 := by omega
  go_enter Tryd.func45, Tryd.ntmps45
  go_wp2
  go_ret
  exact ⟨_, _, rfl, by omega, by omega, new_row w 1000 16 rfl (by omega), grownBy_trans (World.grownBy_alloc w _ none) (World.grownBy_alloc _ _ none)⟩

/-- New, at every number. -/
theorem new_c (i : Int) (w : World) : Calls Tryd.prog 45 #[.int .i64 i] w (NewPost (clampN i) w) := by
  by_cases h0 : i < 0
  · rw [show clampN i = 0 from by unfold clampN; omega]
    exact new_low i w h0
  · by_cases h1 : 1000 < i
    · rw [show clampN i = 1000 from by unfold clampN; omega]
      exact new_high i w h1
    · obtain ⟨n, rfl⟩ := Int.eq_ofNat_of_zero_le (show 0 ≤ i by omega)
      rw [show clampN (n : Int) = n from by unfold clampN; omega]
      exact new_mid n w (by omega)

set_option maxHeartbeats 400000 in
theorem put_no (b : Nat) (n i : Int) (on : Bool) (w : World) (hc : w.cell? ⟨b, 0, none⟩ = some (.int .i64 n)) (h : i < 0 ∨ n ≤ i) : Calls Tryd.prog 46 #[.pointer (some ⟨b, 0, none⟩), .int .i64 i, .bool on] w fun e w' => (∃ v, e = .returned v) ∧ w' = w := by
  have H := Lib.hid h
  clear h
  go_enter Tryd.func46, Tryd.ntmps46
  go_wp2_with (go_at_call 59; refine (isPlace_no _ _ _ _ (by exact hc) H.out).mono ?_; rintro e w' ⟨rfl, h9⟩; subst w')
  refine bodyPost_ret (results_none rfl _ _ _) rfl ?_
  exact ⟨⟨_, rfl⟩, rfl⟩

set_option maxHeartbeats 400000 in
set_option maxRecDepth 20000 in
theorem put_on (b wb n i : Nat) (ws : List Nat) (w : World) (h : RowW w b wb n ws) (hi : i < n) : Calls Tryd.prog 46 #[.pointer (some ⟨b, 0, none⟩), .int .i64 i, .bool true] w fun e w' => (∃ v, e = .returned v) ∧ RowW w' b wb n (putW ws i true) ∧ w.grownBy w' (some wb) := by
  obtain ⟨cap, hc1⟩ := h.c1
  have hc := h.c0
  have hk : i / 64 < ws.length := by rw [h.words.len]; omega
  have hw := h.mem.cell _ hk
  have hf := h.mem.free _ hk
  have hs := h.small
  have hq : IntKind.i64.wrap ((i : Int) / 64) = ((i / 64 : Nat) : Int) := by rw [IntWalk.i64_in _ (by omega)]; omega
  have HB := Lib.hid (u64_or_nat (ws[i / 64]?.getD 0) (pw i) (h.words.lt _) (pow_lt64 i))
  have hfin := (h.kept (w' := w.drew) (Nat.le_refl _) rfl rfl).set hk (ws[i / 64]?.getD 0 ||| pw i) (putW_words h.words i hi true)
  have HF := Lib.hid hfin
  clear h hfin
  generalize hQ : i / 64 = q at *
  have HQ := Lib.hid hQ
  clear hQ
  generalize hX : ws[q]?.getD 0 = x at *
  have HX := Lib.hid hX
  clear hX
  generalize hN : ws.length = len at *
  have HN := Lib.hid hN
  clear hN
  go_enter Tryd.func46, Tryd.ntmps46
  go_wp2_with (go_at_call 59; refine (isPlace_yes _ _ _ _ (by exact hc) (by omega) (by omega)).mono ?_; rintro e w' ⟨rfl, h9⟩; subst w')
  refine wp_region_still_tail 12 (by kernel_rfl) (by kernel_rfl) ?_
  simp only [List.take_succ_cons, List.take_zero, List.drop_succ_cons, List.drop_zero]
  repeat still_step
  still_call (bit_c _ _)
  repeat still_step
  refine wpStill_nil ?_
  change wpList _ _ _ _ _ w.drew
  go_wp2
  go_end0
  rw [HB.out]
  refine ⟨⟨_, rfl⟩, ?_, ?_⟩
  · unfold putW
    rw [HQ.out, HX.out]
    exact HF.out
  · exact grownBy_trans (grownBy_drewN w 1 _) (grownBy_setCell w.drew ⟨wb, q, none⟩ _)

set_option maxHeartbeats 400000 in
set_option maxRecDepth 20000 in
theorem put_off (b wb n i : Nat) (ws : List Nat) (w : World) (h : RowW w b wb n ws) (hi : i < n) : Calls Tryd.prog 46 #[.pointer (some ⟨b, 0, none⟩), .int .i64 i, .bool false] w fun e w' => (∃ v, e = .returned v) ∧ RowW w' b wb n (putW ws i false) ∧ w.grownBy w' (some wb) := by
  obtain ⟨cap, hc1⟩ := h.c1
  have hc := h.c0
  have hk : i / 64 < ws.length := by rw [h.words.len]; omega
  have hw := h.mem.cell _ hk
  have hf := h.mem.free _ hk
  have hs := h.small
  have hq : IntKind.i64.wrap ((i : Int) / 64) = ((i / 64 : Nat) : Int) := by rw [IntWalk.i64_in _ (by omega)]; omega
  have HB := Lib.hid (u64_andNot_nat (ws[i / 64]?.getD 0) (pw i) (h.words.lt _) (pow_lt64 i))
  have hfin := (h.kept (w' := w.drew) (Nat.le_refl _) rfl rfl).set hk (ws[i / 64]?.getD 0 &&& (18446744073709551615 - pw i)) (putW_words h.words i hi false)
  have HF := Lib.hid hfin
  clear h hfin
  generalize hQ : i / 64 = q at *
  have HQ := Lib.hid hQ
  clear hQ
  generalize hX : ws[q]?.getD 0 = x at *
  have HX := Lib.hid hX
  clear hX
  generalize hN : ws.length = len at *
  clear hN
  go_enter Tryd.func46, Tryd.ntmps46
  go_wp2_with (go_at_call 59; refine (isPlace_yes _ _ _ _ (by exact hc) (by omega) (by omega)).mono ?_; rintro e w' ⟨rfl, h9⟩; subst w')
  refine wp_region_still_tail 12 (by kernel_rfl) (by kernel_rfl) ?_
  simp only [List.take_succ_cons, List.take_zero, List.drop_succ_cons, List.drop_zero]
  repeat still_step
  still_call (bit_c _ _)
  repeat still_step
  refine wpStill_nil ?_
  change wpList _ _ _ _ _ w.drew
  go_wp2
  go_end0
  rw [HB.out]
  refine ⟨⟨_, rfl⟩, ?_, ?_⟩
  · unfold putW
    rw [HQ.out, HX.out]
    exact HF.out
  · exact grownBy_trans (grownBy_drewN w 1 _) (grownBy_setCell w.drew ⟨wb, q, none⟩ _)

/-- S with place i put. -/
def putS (S : Nat → Bool) (n : Nat) (i : Int) (on : Bool) (j : Nat) : Bool := if (j : Int) = i ∧ j < n then on else S j

/-- What Put leaves. -/
def PutPost (b wb n : Nat) (T : Nat → Bool) (w : World) (e : Ending) (w' : World) : Prop :=
  (∃ v, e = .returned v) ∧ IsSet w' b wb n T ∧ w.grownBy w' (some wb)

/-- Put, at every number. -/
theorem put_c (b wb n : Nat) (i : Int) (on : Bool) (S : Nat → Bool) (w : World) (h : IsSet w b wb n S) : Calls Tryd.prog 46 #[.pointer (some ⟨b, 0, none⟩), .int .i64 i, .bool on] w (PutPost b wb n (putS S n i on) w) := by
  obtain ⟨ws, hr, ho⟩ := h
  by_cases hp : 0 ≤ i ∧ i < n
  · obtain ⟨k, rfl⟩ := Int.eq_ofNat_of_zero_le hp.1
    have hk : k < n := by omega
    have key : ∀ j, onB (putW ws k on) j = putS S n k on j := by
      intro j
      rw [putW_on hr.words k hk]
      unfold putS
      by_cases e : j = k
      · subst e; rw [if_pos rfl, if_pos ⟨rfl, hk⟩]
      · rw [if_neg e, if_neg (fun h => e (by omega)), ho]
    cases on
    · exact (put_off b wb n k ws w hr hk).mono fun e w' ⟨h1, h2, h3⟩ => ⟨h1, ⟨_, h2, key⟩, h3⟩
    · exact (put_on b wb n k ws w hr hk).mono fun e w' ⟨h1, h2, h3⟩ => ⟨h1, ⟨_, h2, key⟩, h3⟩
  · refine (put_no b n i on w hr.c0 (by omega)).mono ?_
    rintro e w' ⟨h1, rfl⟩
    refine ⟨h1, ⟨ws, hr, fun j => ?_⟩, grownBy_refl _ _⟩
    unfold putS
    rw [if_neg (by omega), ho]

/-- Has, at every number. -/
def hasS (S : Nat → Bool) (n : Nat) (i : Int) : Bool := decide (0 ≤ i) && decide (i < n) && S i.toNat
theorem has_c (b wb n : Nat) (i : Int) (S : Nat → Bool) (w : World) (h : IsSet w b wb n S) : Calls Tryd.prog 49 #[.pointer (some ⟨b, 0, none⟩), .int .i64 i] w fun e w' => e = .returned (.bool (hasS S n i)) ∧ ∃ m, w' = w.drewN m := by
  obtain ⟨ws, hr, ho⟩ := h
  by_cases hp : 0 ≤ i ∧ i < n
  · obtain ⟨k, rfl⟩ := Int.eq_ofNat_of_zero_le hp.1
    have hk : k < n := by omega
    have e : hasS S n k = onB ws k := by unfold hasS; rw [ho]; simp [hk]
    rw [e]
    exact has_yes b wb n k ws w hr hk
  · have e : hasS S n i = false := by
      unfold hasS
      by_cases h0 : 0 ≤ i
      · have : ¬ i < n := by omega
        simp [this]
      · simp [h0]
    rw [e]
    exact has_no b n i w hr.c0 (by omega)

end Go.Proofs.YtdolcdededmlhaaDoor
