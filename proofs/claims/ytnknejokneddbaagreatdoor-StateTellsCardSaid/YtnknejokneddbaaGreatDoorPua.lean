/- Package patch: cmp.Compare, isPath, isEdge, isNumbered, cmp.Or, compareLines, compareEdges. -/
import Derived.Laws.RangeAny
import Derived.Test.YtnknejokneddbaaGreatDoorRefPa
/-! Package patch: comparisons, IsPath, isEdge, isNumbered, ID. -/
namespace Go.Proofs.YtnknejokneddbaaGreatDoor
open Go.RowKit

/-- What a comparison answers. -/
def cmpV {α : Type} (lt : α → α → Bool) (x y : α) : Int := if lt x y = true then -1 else if lt y x = true then 1 else 0
theorem cmpV_lt {α : Type} {lt : α → α → Bool} {x y : α} (h : lt x y = true) : cmpV lt x y = -1 := by unfold cmpV; rw [if_pos h]
theorem cmpV_gt {α : Type} {lt : α → α → Bool} (O : Lin lt) {x y : α} (h : lt y x = true) : cmpV lt x y = 1 := by unfold cmpV; rw [if_neg (by rw [O.not h]; decide), if_pos h]
theorem cmpV_no {α : Type} {lt : α → α → Bool} {x y : α} (h1 : lt x y = false) (h2 : lt y x = false) : cmpV lt x y = 0 := by unfold cmpV; rw [if_neg (by rw [h1]; decide), if_neg (by rw [h2]; decide)]
theorem cmpV_self {α : Type} {lt : α → α → Bool} (O : Lin lt) (x : α) : cmpV lt x x = 0 := cmpV_no (O.irr x) (O.irr x)
def ltI (a b : Int) : Bool := decide (a < b)
theorem linI : Lin ltI := ⟨fun a => by simp [ltI], fun a b c => by simp only [ltI, decide_eq_true_eq]; omega, fun a b => by simp only [ltI, decide_eq_true_eq]; omega⟩

theorem isNaN_u (x : Nat) (w : World) : Calls Tryz.prog 114 #[.int .u32 (x : Int)] w fun e w' => e = .returned (.bool false) ∧ w' = w := by
 have h : ((x : Int) != (x : Int)) = false := by simp
 go_enter Tryz.func114, Tryz.ntmps114
 go_wp2
 go_ret
 exact ⟨rfl, rfl⟩
theorem isNaN_i (x : Int) (w : World) : Calls Tryz.prog 202 #[.int .i64 x] w fun e w' => e = .returned (.bool false) ∧ w' = w := by
 have h : ((x : Int) != (x : Int)) = false := by simp
 go_enter Tryz.func202, Tryz.ntmps202
 go_wp2
 go_ret
 exact ⟨rfl, rfl⟩
theorem isNaN_s (x : ByteArray) (w : World) : Calls Tryz.prog 156 #[.string x] w fun e w' => e = .returned (.bool false) ∧ w' = w := by
 have h : (x.toList == x.toList) = true := by simp
 go_enter Tryz.func156, Tryz.ntmps156
 go_wp2
 go_ret
 exact ⟨rfl, rfl⟩

set_option maxHeartbeats 4000000 in
theorem cmpU_c (x y : Nat) (w : World) : Calls Tryz.prog 113 #[.int .u32 (x : Int), .int .u32 (y : Int)] w fun e w' => e = .returned (.int .i64 (cmpV ltN x y)) ∧ w' = w := by
 obtain ⟨r, hr⟩ : ∃ r, cmpV ltN x y = r := ⟨_, rfl⟩
 rw [hr]
 by_cases h1 : x < y
 ·have f1 : (x : Int) < y := by omega
  obtain rfl : -1 = r := by rw [← hr, cmpV_lt (by simpa [ltN] using h1)]
  clear hr
  go_enter Tryz.func113, Tryz.ntmps113
  go_wp2_with (go_at_call 114; refine (isNaN_u _ _).mono ?_; rintro e w' ⟨rfl, h9⟩; subst w')
  go_ret
  exact ⟨rfl, rfl⟩
 ·have f1 : ¬ (x : Int) < y := by omega
  by_cases h2 : y < x
  ·have f2 : (y : Int) < x := by omega
   obtain rfl : 1 = r := by rw [← hr, cmpV_gt linN (by simpa [ltN] using h2)]
   clear hr
   go_enter Tryz.func113, Tryz.ntmps113
   go_wp2_with (go_at_call 114; refine (isNaN_u _ _).mono ?_; rintro e w' ⟨rfl, h9⟩; subst w')
   go_ret
   exact ⟨rfl, rfl⟩
  ·have f2 : ¬ (y : Int) < x := by omega
   obtain rfl : 0 = r := by rw [← hr, cmpV_no (by simpa [ltN] using h1) (by simpa [ltN] using h2)]
   clear hr
   go_enter Tryz.func113, Tryz.ntmps113
   go_wp2_with (go_at_call 114; refine (isNaN_u _ _).mono ?_; rintro e w' ⟨rfl, h9⟩; subst w')
   go_ret
   exact ⟨rfl, rfl⟩

set_option maxHeartbeats 4000000 in
theorem cmpI_c (x y : Int) (w : World) : Calls Tryz.prog 186 #[.int .i64 x, .int .i64 y] w fun e w' => e = .returned (.int .i64 (cmpV ltI x y)) ∧ w' = w := by
 obtain ⟨r, hr⟩ : ∃ r, cmpV ltI x y = r := ⟨_, rfl⟩
 rw [hr]
 by_cases h1 : x < y
 ·obtain rfl : -1 = r := by rw [← hr, cmpV_lt (by simpa [ltI] using h1)]
  clear hr
  go_enter Tryz.func186, Tryz.ntmps186
  go_wp2_with (go_at_call 202; refine (isNaN_i _ _).mono ?_; rintro e w' ⟨rfl, h9⟩; subst w')
  go_ret
  exact ⟨rfl, rfl⟩
 ·by_cases h2 : y < x
  ·obtain rfl : 1 = r := by rw [← hr, cmpV_gt linI (by simpa [ltI] using h2)]
   clear hr
   go_enter Tryz.func186, Tryz.ntmps186
   go_wp2_with (go_at_call 202; refine (isNaN_i _ _).mono ?_; rintro e w' ⟨rfl, h9⟩; subst w')
   go_ret
   exact ⟨rfl, rfl⟩
  ·obtain rfl : 0 = r := by rw [← hr, cmpV_no (by simpa [ltI] using h1) (by simpa [ltI] using h2)]
   clear hr
   go_enter Tryz.func186, Tryz.ntmps186
   go_wp2_with (go_at_call 202; refine (isNaN_i _ _).mono ?_; rintro e w' ⟨rfl, h9⟩; subst w')
   go_ret
   exact ⟨rfl, rfl⟩

set_option maxHeartbeats 4000000 in
theorem cmpS_c (x y : ByteArray) (w : World) : Calls Tryz.prog 121 #[.string x, .string y] w fun e w' => e = .returned (.int .i64 (cmpV ltS x y)) ∧ w' = w := by
 obtain ⟨r, hr⟩ : ∃ r, cmpV ltS x y = r := ⟨_, rfl⟩
 rw [hr]
 cases h1 : Op.bytesLess x.toList y.toList with
 | true =>
  obtain rfl : -1 = r := by rw [← hr, cmpV_lt (by exact h1)]
  clear hr
  go_enter Tryz.func121, Tryz.ntmps121
  go_wp2_with (go_at_call 156; refine (isNaN_s _ _).mono ?_; rintro e w' ⟨rfl, h9⟩; subst w')
  go_ret
  exact ⟨rfl, rfl⟩
 | false =>
  by_cases h2 : x = y
  ·have f2 := toList_eqP h2
   obtain rfl : 0 = r := by rw [← hr, h2, cmpV_self linS]
   clear hr h2
   go_enter Tryz.func121, Tryz.ntmps121
   go_wp2_with (go_at_call 156; refine (isNaN_s _ _).mono ?_; rintro e w' ⟨rfl, h9⟩; subst w')
   go_ret
   exact ⟨rfl, rfl⟩
  ·have f2 := toList_neP h2
   obtain rfl : 1 = r := by
    rw [← hr]
    rcases linS.tot x y h2 with e | e
    ·rw [show ltS x y = Op.bytesLess x.toList y.toList from rfl, h1] at e; cases e
    ·exact (cmpV_gt linS e).symm
   clear hr h2
   go_enter Tryz.func121, Tryz.ntmps121
   go_wp2_with (go_at_call 156; refine (isNaN_s _ _).mono ?_; rintro e w' ⟨rfl, h9⟩; subst w')
   go_ret
   exact ⟨rfl, rfl⟩

end Go.Proofs.YtnknejokneddbaaGreatDoor
/-! Package patch: IsPath, ID, isEdge, isNumbered. -/
namespace Go.Proofs.YtnknejokneddbaaGreatDoor
open Go.RowKit

set_option maxHeartbeats 8000000 in
theorem isPath_c (s : ByteArray) (r : Bool) (w : World) (hs : s.size ≤ 1000000) (hr : r = true ↔ IsPath s) :
  Calls Tryz.prog 123 #[.string s] w fun e w' => e = .returned (.bool r) ∧ w.grownBy w' none := by
 have HR := Lib.hid hr
 clear hr
 go_enter Tryz.func123, Tryz.ntmps123
 by_cases h0 : s = ⟨#[]⟩
 ·obtain rfl : r = false := no_false HR.out fun h => by have := h.lo; rw [h0] at this; exact absurd this (by decide)
  have f0 : s.toList.isEmpty = true := by rw [h0, ByteArray.toList_eq]; rfl
  go_wp2
  go_ret
  exact ⟨rfl, grownBy_refl _ _⟩
 ·have f0 : s.toList.isEmpty = false := by
   rw [Bool.eq_false_iff]
   intro e
   rw [List.isEmpty_iff] at e
   apply h0
   rw [ByteArray.toList_eq] at e
   cases s
   exact congrArg ByteArray.mk (by simpa using e)
  by_cases h2 : 20 < s.size
  ·obtain rfl : r = false := no_false HR.out fun h => by have := h.hi; omega
   have f1 : (20 : Int) < s.size := by omega
   clear h0
   go_wp2
   go_ret
   exact ⟨rfl, grownBy_refl _ _⟩
  ·have f1 : ¬ (20 : Int) < s.size := by omega
   have H1 : Hid (1 ≤ s.size) := Lib.hid (by
    rcases Nat.eq_zero_or_pos s.size with e | e
    ·exact absurd (by cases s; rename_i d; simp [ByteArray.size] at e; rw [e]) h0
    ·exact e)
   have H2 := Lib.hid h2
   clear h0
   go_wp2
   go_loopw [4] (fun _ wr => ∃ k : Nat, k ≤ s.size ∧ Hid (okU s k) ∧ wr = w.iter s k) (fun _ wr => s.size - wr.iterPos w.heap.size)
   case atStart => exact ⟨0, Nat.zero_le _, Lib.hid fun i hi => absurd hi (Nat.not_lt_zero _), rfl⟩
   case round =>
    obtain ⟨k, hk, HU, rfl⟩ := hrel
    by_cases hks : k < s.size
    ·obtain ⟨c, wd, hnx, hy, hn⟩ : ∃ c wd : Nat, (∀ ty, (Instr.next (.pointer (some ⟨w.heap.size, 0, none⟩)) true ty).run Tryz.prog (w.iter s k) = .ok (.tuple #[.bool true, .int .i64 k, .int .i32 (c : Int)]) (w.iter s (k + wd))) ∧
       (((97 ≤ c ∧ c ≤ 122) ∨ (48 ≤ c ∧ c ≤ 57) ∨ c = 46 ∨ c = 47) → wd = 1 ∧ Hid (okU s (k + 1))) ∧ (¬ ((97 ≤ c ∧ c ≤ 122) ∨ (48 ≤ c ∧ c ≤ 57) ∨ c = 46 ∨ c = 47) → r = false) := by
      have hB := Lib.data_getElem? s k hks
      by_cases ha : (s[k]'hks).toNat < 128
      ·have hO := okC_iff (s[k]'hks) _ rfl
       refine ⟨(s[k]'hks).toNat, 1, fun ty => run_next_ascii w s k ty hks ha, fun h => ⟨rfl, Lib.hid (okU_succ HU.out hB (hO.2 h))⟩, fun h => no_false HR.out (okU_no hB fun h2 => h (hO.1 h2))⟩
      ·obtain ⟨h1, h2⟩ := decode_high s k hks (by omega)
       refine ⟨(Utf8.decode s k).1, (Utf8.decode s k).2, fun ty => run_next_any w s k ty hks, fun h => absurd h (by omega), fun _ => no_false HR.out (okU_no hB fun h3 => ?_)⟩
       have := (okC_iff (s[k]'hks) _ rfl).1 h3
       omega
     have HY := Lib.hid hy
     have HN := Lib.hid hn
     clear hy hn HU
     by_cases c1 : 97 ≤ c
     ·by_cases c2 : c ≤ 122
      ·have e1 : (97 : Int) ≤ c := by omega
       have e2 : (c : Int) ≤ 122 := by omega
       have e3 : (48 : Int) ≤ c := by omega
       have e4 : ¬ (c : Int) ≤ 57 := by omega
       obtain ⟨rfl, HK⟩ := HY.out (by omega)
       clear HY HN
       go_wp2
       exact ⟨⟨k + 1, by omega, HK, rfl⟩, by rw [World.iterPos_iter, World.iterPos_iter]; omega⟩
      ·have e1 : (97 : Int) ≤ c := by omega
       have e2 : ¬ (c : Int) ≤ 122 := by omega
       have e3 : (48 : Int) ≤ c := by omega
       have e4 : ¬ (c : Int) ≤ 57 := by omega
       have g46 : ((c : Int) != 46) = true := by simp; omega
       have g47 : ((c : Int) != 47) = true := by simp; omega
       obtain rfl := HN.out (by omega)
       clear HY HN
       go_wp2
       go_ret
       exact ⟨rfl, World.grownBy_alloc w _ none⟩
     ·by_cases c3 : 48 ≤ c
      ·by_cases c4 : c ≤ 57
       ·have e1 : ¬ (97 : Int) ≤ c := by omega
        have e3 : (48 : Int) ≤ c := by omega
        have e4 : (c : Int) ≤ 57 := by omega
        obtain ⟨rfl, HK⟩ := HY.out (by omega)
        clear HY HN
        go_wp2
        exact ⟨⟨k + 1, by omega, HK, rfl⟩, by rw [World.iterPos_iter, World.iterPos_iter]; omega⟩
       ·have e1 : ¬ (97 : Int) ≤ c := by omega
        have e3 : (48 : Int) ≤ c := by omega
        have e4 : ¬ (c : Int) ≤ 57 := by omega
        have g46 : ((c : Int) != 46) = true := by simp; omega
        have g47 : ((c : Int) != 47) = true := by simp; omega
        obtain rfl := HN.out (by omega)
        clear HY HN
        go_wp2
        go_ret
        exact ⟨rfl, World.grownBy_alloc w _ none⟩
      ·by_cases c5 : c = 46
       ·have e1 : ¬ (97 : Int) ≤ c := by omega
        have e3 : ¬ (48 : Int) ≤ c := by omega
        have g46 : ((c : Int) != 46) = false := by simp; omega
        obtain ⟨rfl, HK⟩ := HY.out (by omega)
        clear HY HN
        go_wp2
        exact ⟨⟨k + 1, by omega, HK, rfl⟩, by rw [World.iterPos_iter, World.iterPos_iter]; omega⟩
       ·by_cases c6 : c = 47
        ·have e1 : ¬ (97 : Int) ≤ c := by omega
         have e3 : ¬ (48 : Int) ≤ c := by omega
         have g46 : ((c : Int) != 46) = true := by simp; omega
         have g47 : ((c : Int) != 47) = false := by simp; omega
         obtain ⟨rfl, HK⟩ := HY.out (by omega)
         clear HY HN
         go_wp2
         exact ⟨⟨k + 1, by omega, HK, rfl⟩, by rw [World.iterPos_iter, World.iterPos_iter]; omega⟩
        ·have e1 : ¬ (97 : Int) ≤ c := by omega
         have e3 : ¬ (48 : Int) ≤ c := by omega
         have g46 : ((c : Int) != 46) = true := by simp; omega
         have g47 : ((c : Int) != 47) = true := by simp; omega
         obtain rfl := HN.out (by omega)
         clear HY HN
         go_wp2
         go_ret
         exact ⟨rfl, World.grownBy_alloc w _ none⟩
    ·obtain rfl : k = s.size := by omega
     have hnx := fun ty => run_next_end (P := Tryz.prog) w s s.size ty (Nat.lt_irrefl _)
     obtain rfl : true = r := (HR.out.2 (okU_end HU.out H1.out (by have := H2.out; omega))).symm
     go_wp2
     go_ret
     exact ⟨rfl, World.grownBy_alloc w _ none⟩

set_option maxHeartbeats 1000000 in
theorem isEdge_c (a b : Ln) (w : World) : Calls Tryz.prog 161 #[.agg #[.int .u32 (a.1 : Int), .int .i64 a.2, .int .u32 (b.1 : Int), .int .i64 b.2]] w fun e w' => e = .returned (.bool (decide (a ≠ b))) ∧ w.grownBy w' none := by
 obtain ⟨x, m⟩ := a
 obtain ⟨y, n⟩ := b
 have hq := ln_neq (x : Int) y m n
 obtain ⟨r, hr⟩ : ∃ r, decide ((x, m) ≠ (y, n)) = r := ⟨_, rfl⟩
 have hb : (!((x : Int) == (y : Int) && m == n)) = r := by
  rw [← hr]
  by_cases h : ((x, m) : Ln) = (y, n)
  ·simp only [Prod.mk.injEq] at h
   obtain ⟨rfl, rfl⟩ := h
   simp
  ·rw [decide_eq_true h, Bool.not_eq_true', Bool.eq_false_iff]
   intro h2
   simp only [Bool.and_eq_true, beq_iff_eq] at h2
   apply h
   simp only [Prod.mk.injEq]
   omega
 rw [hr]
 rw [hb] at hq
 clear hr hb
 go_enter Tryz.func161, Tryz.ntmps161
 go_wp2
 go_ret
 exact ⟨rfl, World.grownBy_alloc w _ none⟩

set_option maxHeartbeats 1000000 in
theorem isNumbered_c (x : Ln) (w : World) : Calls Tryz.prog 165 #[.agg #[.int .u32 (x.1 : Int), .int .i64 x.2]] w fun e w' => e = .returned (.bool (decide (0 ≤ x.2 ∧ x.2 < 40))) ∧ w.grownBy w' none := by
 obtain ⟨x, m⟩ := x
 obtain ⟨r, hr⟩ : ∃ r, decide (0 ≤ m ∧ m < 40) = r := ⟨_, rfl⟩
 show Calls _ _ _ _ fun e w' => e = .returned (.bool (decide (0 ≤ m ∧ m < 40))) ∧ _
 rw [hr]
 by_cases h1 : 0 ≤ m
 ·by_cases h2 : m < 40
  ·obtain rfl : true = r := by rw [← hr]; simp [h1, h2]
   clear hr
   go_enter Tryz.func165, Tryz.ntmps165
   go_wp2
   go_ret
   exact ⟨rfl, World.grownBy_alloc w _ none⟩
  ·obtain rfl : false = r := by rw [← hr]; simp [h2]
   clear hr
   go_enter Tryz.func165, Tryz.ntmps165
   go_wp2
   go_ret
   exact ⟨rfl, World.grownBy_alloc w _ none⟩
 ·obtain rfl : false = r := by rw [← hr]; simp [h1]
  clear hr
  go_enter Tryz.func165, Tryz.ntmps165
  go_wp2
  go_ret
  exact ⟨rfl, World.grownBy_alloc w _ none⟩

end Go.Proofs.YtnknejokneddbaaGreatDoor
/-! Package patch: Or, compareLines, compareEdges. -/
namespace Go.Proofs.YtnknejokneddbaaGreatDoor
open Go.RowKit

theorem cmpLn_eq (a b : Ln) : cmpV ltLn a b = if cmpV ltN a.1 b.1 ≠ 0 then cmpV ltN a.1 b.1 else cmpV ltI a.2 b.2 := by
 obtain ⟨x, m⟩ := a
 obtain ⟨y, n⟩ := b
 unfold cmpV ltLn ltN ltI
 simp only [Bool.or_eq_true, Bool.and_eq_true, decide_eq_true_eq]
 by_cases h1 : x < y
 ·simp [h1]
 ·by_cases h2 : y < x
  ·have : ¬ x = y := by omega
   simp [h1, h2, this]
  ·have : x = y := by omega
   subst this
   simp
theorem cmpEd_eq (a b : Ed) : cmpV ltEd a b = if cmpV ltLn a.1 b.1 ≠ 0 then cmpV ltLn a.1 b.1 else cmpV ltLn a.2 b.2 := by
 obtain ⟨x, m⟩ := a
 obtain ⟨y, n⟩ := b
 by_cases h : x = y
 ·subst h
  rw [if_neg (by rw [cmpV_self linLn]; decide)]
  unfold cmpV ltEd
  simp [linLn.irr]
 ·unfold cmpV ltEd
  have h' : ¬ y = x := fun e => h e.symm
  rcases linLn.tot x y h with e | e
  ·simp [e]
  ·have e2 := linLn.not e
   simp only [e, e2, h]
   simp
theorem cmpV_geq {α : Type} {lt : α → α → Bool} {x y : α} (h : lt x y = false) : 0 ≤ cmpV lt x y := by
 unfold cmpV
 rw [if_neg (by rw [h]; decide)]
 split <;> decide

set_option maxHeartbeats 2000000 in
theorem cmpOr_c (b : Nat) (x y : Int) (w : World) (h0 : w.cell? ⟨b, 0, none⟩ = some (.int .i64 x)) (h1 : w.cell? ⟨b, 1, none⟩ = some (.int .i64 y)) :
  Calls Tryz.prog 185 #[.slice (some ⟨b, 0, none⟩) 2 2] w fun e w' => e = .returned (.int .i64 (if x ≠ 0 then x else y)) ∧ w' = w := by
 obtain ⟨r, hr⟩ : ∃ r, (if x ≠ 0 then x else y) = r := ⟨_, rfl⟩
 rw [hr]
 have HR := Lib.hid hr
 clear hr
 go_enter Tryz.func185, Tryz.ntmps185
 go_wp2
 go_loop [8] (fun i => ∃ k : Nat, k ≤ 2 ∧ i = .int .i64 k ∧ Hid (1 ≤ k → x = 0) ∧ Hid (2 ≤ k → y = 0)) (fun i => 2 - (intOf i).toNat)
 case atStart => exact ⟨0, by omega, rfl, Lib.hid fun h => absurd h (by omega), Lib.hid fun h => absurd h (by omega)⟩
 case round =>
  obtain ⟨k, hk, rfl, HX, HY⟩ := hrel
  by_cases k2 : k = 2
  ·subst k2
   obtain rfl : 0 = r := by rw [← HR.out, HX.out (by omega), HY.out (by omega)]; rfl
   go_wp2
   go_ret
   exact ⟨rfl, rfl⟩
  ·by_cases k1 : k = 1
   ·subst k1
    have hx := HX.out (by omega)
    obtain rfl : y = r := by rw [← HR.out, hx]; rfl
    clear hx
    by_cases hy : y = 0
    ·have f1 : (y != 0) = false := by simp [hy]
     have HY2 : Hid (2 ≤ 2 → y = 0) := Lib.hid fun _ => hy
     clear hy
     go_wp2
     exact ⟨⟨2, by omega, by go_num, Lib.hid (fun _ => HX.out (by omega)), HY2⟩, by simp [intOf]⟩
    ·have f1 : (y != 0) = true := by simp [hy]
     clear hy
     go_wp2
     go_ret
     exact ⟨rfl, rfl⟩
   ·obtain rfl : k = 0 := by omega
    by_cases hx : x = 0
    ·have f1 : (x != 0) = false := by simp [hx]
     have HX2 : Hid (1 ≤ 1 → x = 0) := Lib.hid fun _ => hx
     clear hx
     go_wp2
     exact ⟨⟨1, by omega, by go_num, HX2, Lib.hid fun h => absurd h (by omega)⟩, by simp [intOf]⟩
    ·have f1 : (x != 0) = true := by simp [hx]
     obtain rfl : x = r := by rw [← HR.out, if_pos hx]
     clear hx
     go_wp2
     go_ret
     exact ⟨rfl, rfl⟩

set_option maxHeartbeats 4000000 in
set_option maxRecDepth 8000 in
theorem compareLines_c (x : Nat) (m : Int) (y : Nat) (n : Int) (w : World) : Calls Tryz.prog 163 #[.agg #[.int .u32 (x : Int), .int .i64 m], .agg #[.int .u32 (y : Int), .int .i64 n]] w fun e w' =>
  e = .returned (.int .i64 (cmpV ltLn (x, m) (y, n))) ∧ w.grownBy w' none := by
 rw [cmpLn_eq]
 obtain ⟨p, hp⟩ : ∃ p, cmpV ltN (x, m).1 (y, n).1 = p := ⟨_, rfl⟩
 obtain ⟨q, hq⟩ : ∃ q, cmpV ltI (x, m).2 (y, n).2 = q := ⟨_, rfl⟩
 rw [hp, hq]
 obtain ⟨r, hr⟩ : ∃ r, (if p ≠ 0 then p else q) = r := ⟨_, rfl⟩
 rw [hr]
 have HR := Lib.hid hr
 clear hr
 have HP := Lib.hid hp
 have HQ := Lib.hid hq
 clear hp hq
 have HG := Lib.hid (grownBy_trans (World.grownBy_alloc w (.cells #[.int .u32 (x : Int), .int .i64 m] 60) none) (World.grownBy_alloc _ (.cells #[.int .u32 (y : Int), .int .i64 n] 60) none))
 have HB1 := Lib.hid (BoxV.new w [.int .u32 (x : Int), .int .i64 m] 60)
 have HB2 := Lib.hid (BoxV.second w [.int .u32 (x : Int), .int .i64 m] [.int .u32 (y : Int), .int .i64 n] 60 60)
 have HG2 := Lib.hid (World.grownBy_alloc (w.alloc (.cells #[.int .u32 (x : Int), .int .i64 m] 60)) (.cells #[.int .u32 (y : Int), .int .i64 n] 60) none)
 go_enter Tryz.func163, Tryz.ntmps163
 go_upto_region 1 with fail
 have HC1 := Lib.hid (HB1.out.calm HG2.out)
 generalize w.alloc _ = w1 at *
 generalize w1.alloc _ = w2 at *
 generalize w.heap.size = g1 at *
 have x0 := HC1.out.cell (k := 0) rfl
 have x1 := HC1.out.cell (k := 1) rfl
 have y0 := HB2.out.cell (k := 0) rfl
 have y1 := HB2.out.cell (k := 1) rfl
 have c1 : Calls Tryz.prog 113 #[.int .u32 (x : Int), .int .u32 (y : Int)] w2.drew fun e w' => e = .returned (.int .i64 p) ∧ w' = w2.drew := by
  rw [← HP.out]
  exact cmpU_c x y _
 have c2 : Calls Tryz.prog 186 #[.int .i64 m, .int .i64 n] w2.drew fun e w' => e = .returned (.int .i64 q) ∧ w' = w2.drew := by
  rw [← HQ.out]
  exact cmpI_c m n _
 refine wp_region_still_tail 10 (by kernel_rfl) (by kernel_rfl) ?_
 simp only [List.take_succ_cons, List.take_zero, List.drop_succ_cons, List.drop_zero]
 repeat still_step
 still_call c1
 repeat still_step
 still_call c2
 refine wpStill_nil ?_
 change wpList _ _ _ _ _ w2.drew
 have HG3 := Lib.hid (grownBy_trans HG.out (grownBy_drewN w2 1 none))
 clear c1 c2 x0 x1 y0 y1 HB1 HB2 HC1 HG2
 go_wp2_with fail
 have hn0 := BoxV.new w2.drew [.int .i64 p, .int .i64 q] 3
 have hg5 := World.grownBy_alloc w2.drew (.cells [.int .i64 p, .int .i64 q].toArray 3) none
 have h7 := cmpOr_c _ p q _ (hn0.cell (k := 0) rfl) (hn0.cell (k := 1) rfl)
 rw [HR.out] at h7
 refine h7.mono ?_
 rintro e w5 ⟨rfl, h9⟩
 subst w5
 clear h7
 have HG5 := Lib.hid (grownBy_trans HG3.out hg5)
 clear hn0 hg5
 go_wp2
 go_ret
 exact ⟨rfl, HG5.out⟩

theorem cmpOrNew_c (p q r : Int) (hr : (if p ≠ 0 then p else q) = r) (W : World) :
  Calls Tryz.prog 185 #[.slice (some ⟨W.heap.size, 0, none⟩) 2 2] (W.alloc (.cells #[.int .i64 p, .int .i64 q] 3)) fun e w' => e = .returned (.int .i64 r) ∧ W.grownBy w' none := by
 have hn0 := BoxV.new W [.int .i64 p, .int .i64 q] 3
 have h7 := cmpOr_c _ p q _ (hn0.cell (k := 0) rfl) (hn0.cell (k := 1) rfl)
 rw [hr] at h7
 refine h7.mono ?_
 rintro e w5 ⟨rfl, h9⟩
 rw [h9]
 exact ⟨rfl, World.grownBy_alloc _ _ none⟩
/-- The two boxes of edges. -/
def TwoE (w : World) (g1 : Nat) (x : Nat) (m : Int) (x' : Nat) (m' : Int) (y : Nat) (n : Int) (y' : Nat) (n' : Int) : Prop :=
 w.cell? ⟨g1, 0, none⟩ = some (.int .u32 (x : Int)) ∧ w.cell? ⟨g1, 1, none⟩ = some (.int .i64 m) ∧ w.cell? ⟨g1, 2, none⟩ = some (.int .u32 (x' : Int)) ∧ w.cell? ⟨g1, 3, none⟩ = some (.int .i64 m') ∧ w.cell? ⟨g1 + 1, 0, none⟩ = some (.int .u32 (y : Int)) ∧ w.cell? ⟨g1 + 1, 1, none⟩ = some (.int .i64 n) ∧ w.cell? ⟨g1 + 1, 2, none⟩ = some (.int .u32 (y' : Int)) ∧ w.cell? ⟨g1 + 1, 3, none⟩ = some (.int .i64 n')
theorem cell_calmG {w w' : World} (hg : w.grownBy w' none) {a : Addr} {v : Value} (h : w.cell? a = some v) : w'.cell? a = some v := World.grownBy.cell hg h (by simp)
theorem TwoE.calm {w w' : World} {g1 x x' y y' : Nat} {m m' n n' : Int} (h : TwoE w g1 x m x' m' y n y' n') (hg : w.grownBy w' none) : TwoE w' g1 x m x' m' y n y' n' :=
 ⟨cell_calmG hg h.1, cell_calmG hg h.2.1, cell_calmG hg h.2.2.1, cell_calmG hg h.2.2.2.1, cell_calmG hg h.2.2.2.2.1, cell_calmG hg h.2.2.2.2.2.1, cell_calmG hg h.2.2.2.2.2.2.1, cell_calmG hg h.2.2.2.2.2.2.2⟩

set_option maxRecDepth 8000 in
set_option maxHeartbeats 4000000 in
theorem compareEdges_c (x : Nat) (m : Int) (x' : Nat) (m' : Int) (y : Nat) (n : Int) (y' : Nat) (n' : Int) (w : World) : Calls Tryz.prog 159 #[.agg #[.int .u32 (x : Int), .int .i64 m, .int .u32 (x' : Int), .int .i64 m'], .agg #[.int .u32 (y : Int), .int .i64 n, .int .u32 (y' : Int), .int .i64 n']] w fun e w' =>
  e = .returned (.int .i64 (cmpV ltEd ((x, m), (x', m')) ((y, n), (y', n')))) ∧ w.grownBy w' none := by
 rw [cmpEd_eq]
 obtain ⟨p, hp⟩ : ∃ p, cmpV ltLn (x, m) (y, n) = p := ⟨_, rfl⟩
 obtain ⟨q, hq⟩ : ∃ q, cmpV ltLn (x', m') (y', n') = q := ⟨_, rfl⟩
 show Calls _ _ _ _ fun e w' => e = .returned (.int .i64 (if cmpV ltLn (x, m) (y, n) ≠ 0 then cmpV ltLn (x, m) (y, n) else cmpV ltLn (x', m') (y', n'))) ∧ _
 rw [hp, hq]
 obtain ⟨r, hr⟩ : ∃ r, (if p ≠ 0 then p else q) = r := ⟨_, rfl⟩
 rw [hr]
 have HR := Lib.hid hr
 clear hr
 have HC1 : Hid (∀ W : World, Calls Tryz.prog 163 #[.agg #[.int .u32 (x : Int), .int .i64 m], .agg #[.int .u32 (y : Int), .int .i64 n]] W fun e w' => e = .returned (.int .i64 p) ∧ W.grownBy w' none) := Lib.hid fun W => by rw [← hp]; exact compareLines_c x m y n W
 have HC2 : Hid (∀ W : World, Calls Tryz.prog 163 #[.agg #[.int .u32 (x' : Int), .int .i64 m'], .agg #[.int .u32 (y' : Int), .int .i64 n']] W fun e w' => e = .returned (.int .i64 q) ∧ W.grownBy w' none) := Lib.hid fun W => by rw [← hq]; exact compareLines_c x' m' y' n' W
 clear hp hq
 have HG := Lib.hid (grownBy_trans (World.grownBy_alloc w (.cells #[.int .u32 (x : Int), .int .i64 m, .int .u32 (x' : Int), .int .i64 m'] 70) none) (World.grownBy_alloc _ (.cells #[.int .u32 (y : Int), .int .i64 n, .int .u32 (y' : Int), .int .i64 n'] 70) none))
 have HB1 := Lib.hid (BoxV.new w [.int .u32 (x : Int), .int .i64 m, .int .u32 (x' : Int), .int .i64 m'] 70)
 have HB2 := Lib.hid (BoxV.second w [.int .u32 (x : Int), .int .i64 m, .int .u32 (x' : Int), .int .i64 m'] [.int .u32 (y : Int), .int .i64 n, .int .u32 (y' : Int), .int .i64 n'] 70 70)
 have HG2 := Lib.hid (World.grownBy_alloc (w.alloc (.cells #[.int .u32 (x : Int), .int .i64 m, .int .u32 (x' : Int), .int .i64 m'] 70)) (.cells #[.int .u32 (y : Int), .int .i64 n, .int .u32 (y' : Int), .int .i64 n'] 70) none)
 go_enter Tryz.func159, Tryz.ntmps159
 go_upto_region 1 with fail
 have HC0 := Lib.hid (HB1.out.calm HG2.out)
 generalize w.alloc _ = w1 at *
 generalize w1.alloc _ = w2 at *
 generalize w.heap.size = g1 at *
 have henv : TwoE w2 g1 x m x' m' y n y' n' := ⟨HC0.out.four.1, HC0.out.four.2.1, HC0.out.four.2.2.1, HC0.out.four.2.2.2, HB2.out.four⟩
 have hgr := grownBy_drewN w2 1 none
 have henv := henv.calm hgr
 clear HC0 HB1 HB2 HG2
 go_region_held3 (fun w' => w'.cell? ⟨g1, 0, none⟩ = some (.int .u32 (x : Int)) ∧ w'.cell? ⟨g1, 1, none⟩ = some (.int .i64 m) ∧ w'.cell? ⟨g1, 2, none⟩ = some (.int .u32 (x' : Int)) ∧ w'.cell? ⟨g1, 3, none⟩ = some (.int .i64 m') ∧ w'.cell? ⟨g1 + 1, 0, none⟩ = some (.int .u32 (y : Int)) ∧ w'.cell? ⟨g1 + 1, 1, none⟩ = some (.int .i64 n) ∧ w'.cell? ⟨g1 + 1, 2, none⟩ = some (.int .u32 (y' : Int)) ∧ w'.cell? ⟨g1 + 1, 3, none⟩ = some (.int .i64 n')) (first | exact henv | go_keep)
  (first | (go_at_call 163; (first | (with_reducible refine (HC1.out _).mono ?_) | (with_reducible refine (HC2.out _).mono ?_)); rintro e w5 ⟨rfl, hg5⟩; have henv := henv.calm hg5; have hgr := grownBy_trans hgr hg5; clear hg5) | (go_at_call 185; with_reducible refine (cmpOrNew_c _ _ _ HR.out _).mono ?_; rintro e w5 ⟨rfl, hg5⟩; have henv := henv.calm hg5; have hgr := grownBy_trans hgr hg5; clear hg5))
 have HGR := Lib.hid (grownBy_trans HG.out hgr)
 clear henv hgr
 go_wp2
 go_ret
 exact ⟨rfl, HGR.out⟩

end Go.Proofs.YtnknejokneddbaaGreatDoor
