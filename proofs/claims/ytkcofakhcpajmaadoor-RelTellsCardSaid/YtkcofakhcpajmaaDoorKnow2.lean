/- The contracts of package rel as the statements use them; what their own function known does. Condition: the table of the lowest places is in memory. -/
import Derived.Test.YtkcofakhcpajmaaDoorRelN
namespace Go.Proofs.YtkcofakhcpajmaaDoor
open Go.RowKit

theorem relHas_b (lo hi p n : Nat) (a b : Int) (R : Nat → Nat → Bool) (r : Bool) (w : World) (h : IsRel w lo hi p n R) (hr : hasI n R a b = r) : Calls Tryd.prog 21 #[.pointer (some ⟨p, 0, none⟩), .int .i64 a, .int .i64 b] w fun e w' => e = .returned (.bool r) ∧ w.grownBy w' none :=
  (relHas_c lo hi p n a b R w h).mono fun _ _ ⟨he, m, hw⟩ => ⟨by rw [he, hr], by rw [hw]; exact grownBy_drewN w m none⟩
theorem relLen_b (lo hi p n : Nat) (R : Nat → Nat → Bool) (w : World) (h : IsRel w lo hi p n R) : Calls Tryd.prog 12 #[.pointer (some ⟨p, 0, none⟩)] w fun e w' => e = .returned (.int .i64 n) ∧ w.grownBy w' none :=
  (relLen_c lo hi p n R w h).mono fun _ _ ⟨he, hw⟩ => ⟨he, by rw [hw]; exact grownBy_refl w none⟩
theorem isTrans_b (lo hi p n : Nat) (R : Nat → Nat → Bool) (r : Bool) (w : World) (h : IsRel w lo hi p n R) (hr : (!grewC n R n) = r) : Calls Tryd.prog 17 #[.pointer (some ⟨p, 0, none⟩)] w fun e w' => e = .returned (.bool r) ∧ w.grownBy w' none :=
  (isTrans_c lo hi p n R w h).mono fun _ _ ⟨he, hw⟩ => ⟨by rw [he, hr], hw⟩
theorem add_b (lo hi p n : Nat) (a b : Int) (R : Nat → Nat → Bool) (r : Bool) (w : World) (h : IsRel w lo hi p n R) (hr : newI n R a b = r) : Calls Tryd.prog 29 #[.pointer (some ⟨p, 0, none⟩), .int .i64 a, .int .i64 b] w (TurnPost lo hi p n r (addI n R (a, b)) w) := by
  rw [← hr]; exact add_c lo hi p n a b R w h
theorem join_b (lo hi p n : Nat) (a b : Int) (R : Nat → Nat → Bool) (r : Bool) (w : World) (h : IsRel w lo hi p n R) (hr : joinG n R a b = r) : Calls Tryd.prog 28 #[.pointer (some ⟨p, 0, none⟩), .int .i64 a, .int .i64 b] w (TurnPost lo hi p n r (joinI n R (a, b)) w) := by
  rw [← hr]; exact join_c lo hi p n a b R w h

theorem relOf_ok (n : Nat) (p : Option Addr) (L c lo hi : Nat) (l : List (Int × Int)) (w : World) (hl : PairsAt w lo hi p L l) (hL : L ≤ 1000000) (hok : ofErr n l = 0) : Calls Tryd.prog 9 #[.int .i64 n, .slice p L c] w fun e w' => ∃ p, e = .returned (.tuple #[.pointer (some ⟨p, 0, none⟩), .int .i64 0]) ∧ IsRel w' w.heap.size w'.heap.size p n (ofL n l) ∧ w.grownBy w' none :=
  (relOf_c n p L c lo hi l w hl hL).mono fun e w' h => by
    rcases h with ⟨_, q, h1, h2, h3⟩ | ⟨h, _⟩
    · exact ⟨q, h1, h2, h3⟩
    · exact absurd hok h
theorem relOf_err (n : Int) (k : Int) (p : Option Addr) (L c lo hi : Nat) (l : List (Int × Int)) (w : World) (hl : PairsAt w lo hi p L l) (hL : L ≤ 1000000) (hk : ofErr n l = k) (hno : k ≠ 0) : Calls Tryd.prog 9 #[.int .i64 n, .slice p L c] w fun e w' => e = .returned (.tuple #[.pointer none, .int .i64 k]) ∧ w.grownBy w' none :=
  (relOf_c n p L c lo hi l w hl hL).mono fun e w' h => by
    rcases h with ⟨h0, _⟩ | ⟨_, h1, h2⟩
    · exact absurd (hk.symm.trans h0) hno
    · exact ⟨by rw [h1, hk], h2⟩

theorem pairsAt_nil (w : World) (lo hi : Nat) : PairsAt w lo hi none 0 [] := ⟨rfl, fun h => absurd h (by omega)⟩
theorem pairsAt_two (w : World) (a b c d : Int) : PairsAt (w.alloc (.cells #[.int .i64 a, .int .i64 b, .int .i64 c, .int .i64 d] 48)) w.heap.size (w.heap.size + 1) (some ⟨w.heap.size, 0, none⟩) 2 [(a, b), (c, d)] := by
  refine ⟨rfl, fun _ => ⟨w.heap.size, 0, rfl, Nat.le_refl _, by omega, by simp, fun k hk => ?_⟩⟩
  match k, hk with
  | 0, _ => exact ⟨by simp, by simp⟩
  | 1, _ => exact ⟨by simp, by simp⟩
theorem pairsAt_one (w : World) (a b : Int) : PairsAt (w.alloc (.cells #[.int .i64 a, .int .i64 b] 48)) w.heap.size (w.heap.size + 1) (some ⟨w.heap.size, 0, none⟩) 1 [(a, b)] := by
  refine ⟨rfl, fun _ => ⟨w.heap.size, 0, rfl, Nat.le_refl _, by omega, by simp, fun k hk => ?_⟩⟩
  match k, hk with
  | 0, _ => exact ⟨by simp, by simp⟩

/-- What known makes. -/
def r3 : Nat → Nat → Bool := ofL 3 [(0, 1), (1, 2)]
def c3 : Nat → Nat → Bool := clo 3 r3
theorem known_1 : ofErr ((3 : Nat) : Int) [(0, 1), (1, 2)] = 0 := by decide +kernel
theorem known_2 : ofErr 2 [(0, 2)] = 10 := by decide +kernel
theorem known_3 : ofErr (-1) [] = 11 := by decide +kernel
theorem known_4 : hasI 3 r3 0 2 = false := by decide +kernel
theorem known_5 : hasI 3 c3 0 2 = true := by decide +kernel
theorem known_6 : (!grewC 3 r3 3) = false := by decide +kernel
theorem known_7 : (!grewC 3 c3 3) = true := by decide +kernel
theorem known_8 : (pairsL 3 c3 3).length = 3 := by decide +kernel
theorem known_9 : joinG 3 c3 0 1 = false := by decide +kernel
theorem known_10 : newI 4 (fun _ _ => false) 1 1 = true := by decide +kernel

set_option maxRecDepth 100000 in
set_option maxHeartbeats 4000000 in
theorem known2_c (w : World) (ht : Tab w) : Calls Tryd.prog 8 #[] w fun e w' => e = .returned (.bool true) ∧ w.grownBy w' none := by
  have HT := Lib.hid ht
  clear ht
  go_enter Tryd.func8, Tryd.ntmps8
  go_wp2_with fail
  refine (relOf_ok 3 _ 2 _ _ _ _ _ (pairsAt_two w 0 1 1 2) (by omega) known_1).mono ?_
  rintro e w1 ⟨p, rfl, h1, hg1⟩
  have R1 : Hid (IsRel w1 (w.heap.size + 1) w1.heap.size p 3 r3) := Lib.hid (by rw [World.size_alloc] at h1; exact h1)
  have G1 := Lib.hid (grownBy_trans (World.grownBy_alloc w _ none) hg1)
  clear h1 hg1
  go_wp2_with fail
  refine (relOf_err 2 10 _ 1 _ _ _ _ _ (pairsAt_one w1 0 2) (by omega) known_2 (by decide)).mono ?_
  rintro e w2 ⟨rfl, hg2⟩
  have hg2' := grownBy_trans (World.grownBy_alloc w1 _ none) hg2
  have R2 := Lib.hid (R1.out.calm hg2')
  have G2 := Lib.hid (grownBy_trans G1.out hg2')
  clear hg2 hg2' R1 G1
  go_wp2_with fail
  refine (relOf_err (-1) 11 none 0 0 0 0 [] _ (pairsAt_nil _ _ _) (by omega) known_3 (by decide)).mono ?_
  rintro e w3 ⟨rfl, hg3⟩
  have R3 := Lib.hid (R2.out.calm hg3)
  have G3 := Lib.hid (grownBy_trans G2.out hg3)
  clear hg3 R2 G2
  go_wp2_with fail
  refine (closure_c _ _ p 3 r3 _ R3.out).mono ?_
  rintro e w4 ⟨q, rfl, h4, hg4⟩
  have C4 : Hid (IsRel w4 w3.heap.size w4.heap.size q 3 c3) := Lib.hid h4
  have R4 := Lib.hid (R3.out.calm hg4)
  have G4 := Lib.hid (grownBy_trans G3.out hg4)
  have hs4 : Hid (w.heap.size ≤ w3.heap.size) := Lib.hid G3.out.size
  clear h4 hg4 R3 G3
  go_wp2_with fail
  refine (relLen_b _ _ p 3 r3 _ R4.out).mono ?_
  rintro e w5 ⟨rfl, hg5⟩
  have R5 := Lib.hid (R4.out.calm hg5)
  have C5 := Lib.hid (C4.out.calm hg5)
  have G5 := Lib.hid (grownBy_trans G4.out hg5)
  clear hg5 R4 C4 G4
  go_wp2_with fail
  refine (relHas_b _ _ p 3 0 2 r3 _ _ R5.out known_4).mono ?_
  rintro e w6 ⟨rfl, hg6⟩
  have R6 := Lib.hid (R5.out.calm hg6)
  have C6 := Lib.hid (C5.out.calm hg6)
  have G6 := Lib.hid (grownBy_trans G5.out hg6)
  clear hg6 R5 C5 G5
  go_wp2_with fail
  refine (relHas_b _ _ q 3 0 2 c3 _ _ C6.out known_5).mono ?_
  rintro e w7 ⟨rfl, hg7⟩
  have R7 := Lib.hid (R6.out.calm hg7)
  have C7 := Lib.hid (C6.out.calm hg7)
  have G7 := Lib.hid (grownBy_trans G6.out hg7)
  clear hg7 R6 C6 G6
  go_wp2_with fail
  refine (isTrans_b _ _ p 3 r3 _ _ R7.out known_6).mono ?_
  rintro e w8 ⟨rfl, hg8⟩
  have C8 := Lib.hid (C7.out.calm hg8)
  have G8 := Lib.hid (grownBy_trans G7.out hg8)
  clear hg8 R7 C7 G7
  go_wp2_with fail
  refine (isTrans_b _ _ q 3 c3 _ _ C8.out known_7).mono ?_
  rintro e w9 ⟨rfl, hg9⟩
  have C9 := Lib.hid (C8.out.calm hg9)
  have G9 := Lib.hid (grownBy_trans G8.out hg9)
  clear hg9 C8 G8
  go_wp2_with fail
  refine (relPairs_c _ _ q 3 c3 _ C9.out (HT.out.grown G9.out (by simp))).mono ?_
  rintro e w10 ⟨pp, cc, rfl, _, hg10⟩
  have C10 := Lib.hid (C9.out.calm hg10)
  have G10 := Lib.hid (grownBy_trans G9.out hg10)
  rw [known_8]
  clear hg10 C9 G9
  go_wp2_with fail
  refine (join_b _ _ q 3 0 1 c3 _ _ C10.out known_9).mono ?_
  rintro e w11 ⟨rfl, _, hk11⟩
  have G11 := Lib.hid (Kept.new G10.out hk11 hs4.out)
  clear hk11 C10 G10
  go_wp2_with fail
  refine (relNew_mid 4 _ (by omega)).mono ?_
  rintro e w12 ⟨s, rfl, h12, hg12⟩
  have S12 := Lib.hid h12
  have hs12 : Hid (w.heap.size ≤ w11.heap.size) := Lib.hid G11.out.size
  have G12 := Lib.hid (grownBy_trans G11.out hg12)
  clear h12 hg12 G11
  go_wp2_with fail
  refine (add_b _ _ s 4 1 1 _ _ _ S12.out known_10).mono ?_
  rintro e w13 ⟨rfl, _, hk13⟩
  have G13 := Lib.hid (Kept.new G12.out hk13 hs12.out)
  clear hk13 S12 G12
  go_wp2
  go_ret
  exact ⟨rfl, G13.out⟩

end Go.Proofs.YtkcofakhcpajmaaDoor
