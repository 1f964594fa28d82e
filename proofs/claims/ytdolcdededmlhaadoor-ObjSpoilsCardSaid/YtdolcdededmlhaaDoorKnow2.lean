/- The contracts of package rel as the statements use them; what their own function known does. Condition: the table of the lowest places is in memory. -/
import Derived.Test.YtdolcdededmlhaaDoorRelN
namespace Go.Proofs.YtdolcdededmlhaaDoor
open Go.RowKit

theorem relHas_b (lo hi p n : Nat) (a b : Int) (R : Nat → Nat → Bool) (r : Bool) (w : World) (h : IsRel w lo hi p n R) (hr : hasI n R a b = r) : Calls Tryd.prog 28 #[.pointer (some ⟨p, 0, none⟩), .int .i64 a, .int .i64 b] w fun e w' => e = .returned (.bool r) ∧ w.grownBy w' none :=
  (relHas_c lo hi p n a b R w h).mono fun _ _ ⟨he, m, hw⟩ => ⟨by rw [he, hr], by rw [hw]; exact grownBy_drewN w m none⟩
theorem relLen_b (lo hi p n : Nat) (R : Nat → Nat → Bool) (w : World) (h : IsRel w lo hi p n R) : Calls Tryd.prog 13 #[.pointer (some ⟨p, 0, none⟩)] w fun e w' => e = .returned (.int .i64 n) ∧ w.grownBy w' none :=
  (relLen_c lo hi p n R w h).mono fun _ _ ⟨he, hw⟩ => ⟨he, by rw [hw]; exact grownBy_refl w none⟩
theorem isTrans_b (lo hi p n : Nat) (R : Nat → Nat → Bool) (r : Bool) (w : World) (h : IsRel w lo hi p n R) (hr : (!grewC n R n) = r) : Calls Tryd.prog 51 #[.pointer (some ⟨p, 0, none⟩)] w fun e w' => e = .returned (.bool r) ∧ w.grownBy w' none :=
  (isTrans_c lo hi p n R w h).mono fun _ _ ⟨he, hw⟩ => ⟨by rw [he, hr], hw⟩
theorem add_b (lo hi p n : Nat) (a b : Int) (R : Nat → Nat → Bool) (r : Bool) (w : World) (h : IsRel w lo hi p n R) (hr : newI n R a b = r) : Calls Tryd.prog 26 #[.pointer (some ⟨p, 0, none⟩), .int .i64 a, .int .i64 b] w (TurnPost lo hi p n r (addI n R (a, b)) w) := by
  rw [← hr]; exact add_c lo hi p n a b R w h
theorem relOf_ok (n : Nat) (p : Option Addr) (L c lo hi : Nat) (l : List (Int × Int)) (w : World) (hl : PairsAt w lo hi p L l) (hL : L ≤ 1000000) (hok : ofErr n l = 0) : Calls Tryd.prog 22 #[.int .i64 n, .slice p L c] w fun e w' => ∃ p, e = .returned (.tuple #[.pointer (some ⟨p, 0, none⟩), .int .i64 0]) ∧ IsRel w' w.heap.size w'.heap.size p n (ofL n l) ∧ w.grownBy w' none :=
  (relOf_c n p L c lo hi l w hl hL).mono fun e w' h => by
    rcases h with ⟨_, q, h1, h2, h3⟩ | ⟨h, _⟩
    · exact ⟨q, h1, h2, h3⟩
    · exact absurd hok h
theorem relOf_err (n : Int) (k : Int) (p : Option Addr) (L c lo hi : Nat) (l : List (Int × Int)) (w : World) (hl : PairsAt w lo hi p L l) (hL : L ≤ 1000000) (hk : ofErr n l = k) (hno : k ≠ 0) : Calls Tryd.prog 22 #[.int .i64 n, .slice p L c] w fun e w' => e = .returned (.tuple #[.pointer none, .int .i64 k]) ∧ w.grownBy w' none :=
  (relOf_c n p L c lo hi l w hl hL).mono fun e w' h => by
    rcases h with ⟨h0, _⟩ | ⟨_, h1, h2⟩
    · exact absurd (hk.symm.trans h0) hno
    · exact ⟨by rw [h1, hk], h2⟩

theorem pairsAt_nil (w : World) (lo hi : Nat) : PairsAt w lo hi none 0 [] := ⟨rfl, fun h => absurd h (by omega)⟩
theorem pairsAt_two (w : World) (a b c d : Int) : PairsAt (w.alloc (.cells #[.int .i64 a, .int .i64 b, .int .i64 c, .int .i64 d] 38)) w.heap.size (w.heap.size + 1) (some ⟨w.heap.size, 0, none⟩) 2 [(a, b), (c, d)] := by
  refine ⟨rfl, fun _ => ⟨w.heap.size, 0, rfl, Nat.le_refl _, by omega, by simp, fun k hk => ?_⟩⟩
  match k, hk with
  | 0, _ => exact ⟨by simp, by simp⟩
  | 1, _ => exact ⟨by simp, by simp⟩
theorem pairsAt_one (w : World) (a b : Int) : PairsAt (w.alloc (.cells #[.int .i64 a, .int .i64 b] 38)) w.heap.size (w.heap.size + 1) (some ⟨w.heap.size, 0, none⟩) 1 [(a, b)] := by
  refine ⟨rfl, fun _ => ⟨w.heap.size, 0, rfl, Nat.le_refl _, by omega, by simp, fun k hk => ?_⟩⟩
  match k, hk with
  | 0, _ => exact ⟨by simp, by simp⟩

/-- What known makes. -/
def r3 : Nat → Nat → Bool := ofL 3 [(0, 1), (1, 2)]
def c3 : Nat → Nat → Bool := clo 3 r3
theorem known_1 : ofErr ((3 : Nat) : Int) [(0, 1), (1, 2)] = 0 := by decide +kernel
theorem known_2 : ofErr 2 [(0, 2)] = 10 := by decide +kernel
theorem known_3 : ofErr (-1) [] = 11 := by decide +kernel
theorem known_4 : hasI 3 r3 0 2 = false := by decide +kernel
theorem known_5 : hasI 3 c3 0 2 = true := by decide +kernel
theorem known_6 : (!grewC 3 r3 3) = false := by decide +kernel
theorem known_7 : (!grewC 3 c3 3) = true := by decide +kernel
theorem known_8 : (pairsL 3 c3 3).length = 3 := by decide +kernel
theorem known_9 : joinG 3 c3 0 1 = false := by decide +kernel
theorem known_10 : newI 4 (fun _ _ => false) 1 1 = true := by decide +kernel

end Go.Proofs.YtdolcdededmlhaaDoor
