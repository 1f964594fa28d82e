/- Contracts and plain facts, put together: RefG. -/
import Derived.Laws.StructEq
import Derived.Deep.AppendLies
import Derived.Deep.RegionLaw
import Derived.StillTailTactics
import Derived.OrdersIn
import Derived.RegionIn
import Derived.Stop.RegionWithIn
import Derived.Laws.AppendOwnNone
import Derived.Laws.CopyOwn
import Derived.Test.YtnknejokneddbaaGreatDoorRela
import Derived.Test.YtnknejokneddbaaGreatDoorBits
import Derived.Test.YtnknejokneddbaaGreatDoorRelb
import Derived.Test.YtnknejokneddbaaGreatDoorMats
import Derived.Test.YtnknejokneddbaaGreatDoorObja
import Derived.Test.YtnknejokneddbaaGreatDoorArra
import Derived.Test.YtnknejokneddbaaGreatDoorRefSe
import Derived.Test.YtnknejokneddbaaGreatDoorStaM
import Derived.Test.YtnknejokneddbaaGreatDoorRefPa
import Derived.Test.YtnknejokneddbaaGreatDoorApps
import Derived.Test.YtnknejokneddbaaGreatDoorSplR
import Derived.Test.YtnknejokneddbaaGreatDoorRefB
namespace Go.Proofs.YtnknejokneddbaaGreatDoor

def Trans (R : Nat → Nat → Bool) : Prop := ∀ a b c, R a b = true → R b c = true → R a c = true
theorem wvia_sub (R : Nat → Nat → Bool) (v : Nat) : Sub R (wvia R v) := fun a b h => (wvia_iff R v a b).2 (.inl h)
theorem warsh_sub (R : Nat → Nat → Bool) (k : Nat) : Sub R (warsh R k) := by
 induction k with
 | zero => exact Sub.refl R
 | succ k ih => exact ih.trans (wvia_sub _ _)
theorem warsh_least {R T : Nat → Nat → Bool} (h : Sub R T) (ht : Trans T) (k : Nat) : Sub (warsh R k) T := by
 induction k with
 | zero => exact h
 | succ k ih =>
  intro a b e
  rcases (wvia_iff _ _ _ _).1 e with e | ⟨e1, e2⟩
  ·exact ih a b e
  ·exact ht a k b (ih a k e1) (ih k b e2)

theorem warsh_mid (R : Nat → Nat → Bool) (k : Nat) : ∀ j, j < k → ∀ a b, warsh R k a j = true → warsh R k j b = true → warsh R k a b = true := by
 induction k with
 | zero => intro j hj; omega
 | succ k ih =>
  intro j hj a b h1 h2
  have g1 := (wvia_iff _ _ _ _).1 h1
  have g2 := (wvia_iff _ _ _ _).1 h2
  apply (wvia_iff _ _ _ _).2
  by_cases e : j = k
  ·subst e
   have a1 : warsh R j a j = true := by rcases g1 with g | g; exact g; exact g.1
   have a2 : warsh R j j b = true := by rcases g2 with g | g; exact g; exact g.2
   exact .inr ⟨a1, a2⟩
  ·have hj' : j < k := by omega
   rcases g1 with g1 | ⟨g1, g1'⟩
   ·rcases g2 with g2 | ⟨g2, g2'⟩
    ·exact .inl (ih j hj' a b g1 g2)
    ·exact .inr ⟨ih j hj' a k g1 g2, g2'⟩
   ·rcases g2 with g2 | ⟨g2, g2'⟩
    ·exact .inr ⟨g1, ih j hj' k b g1' g2⟩
    ·exact .inr ⟨g1, g2'⟩

theorem clo_trans {n : Nat} {R : Nat → Nat → Bool} (h : Supp n R) : Trans (clo n R) := fun a b c h1 h2 => warsh_mid R n b ((warsh_supp h n a b h1).2) a c h1 h2
theorem clo_sub (n : Nat) (R : Nat → Nat → Bool) : Sub R (clo n R) := warsh_sub R n
theorem clo_least {n : Nat} {R T : Nat → Nat → Bool} (h : Sub R T) (ht : Trans T) : Sub (clo n R) T := warsh_least h ht n
theorem clo_of_trans {n : Nat} {R : Nat → Nat → Bool} (h : Trans R) : clo n R = R := (clo_least (Sub.refl R) h).antisymm (clo_sub n R)
theorem clo_clo {n : Nat} {R : Nat → Nat → Bool} (h : Supp n R) : clo n (clo n R) = clo n R := clo_of_trans (clo_trans h)
theorem ofL_snoc (n : Nat) (l : List (Int × Int)) (p : Int × Int) : ofL n (l ++ [p]) = addI n (ofL n l) p := by simp [ofL]

theorem pairsL_mem {n : Nat} {R : Nat → Nat → Bool} {k a b : Nat} : ((a : Int), (b : Int)) ∈ pairsL n R k ↔ a < k ∧ b < n ∧ R a b = true := by
 unfold pairsL onL
 simp only [List.mem_flatMap, List.mem_range, List.mem_map, List.mem_filter, Prod.mk.injEq]
 constructor
 ·rintro ⟨x, hx, y, ⟨hy, hr⟩, e1, e2⟩
  obtain rfl : x = a := by omega
  obtain rfl : y = b := by omega
  exact ⟨hx, hy, hr⟩
 ·rintro ⟨h1, h2, h3⟩
  exact ⟨a, h1, b, ⟨h2, h3⟩, rfl, rfl⟩
theorem grewV_iff (n : Nat) (R : Nat → Nat → Bool) (v k : Nat) : grewV n R v k = true ↔ ∃ a b, a < k ∧ b < n ∧ R a v = true ∧ R v b = true ∧ R a b = false := by
 unfold grewV
 simp only [List.any_eq_true, List.mem_range, Bool.and_eq_true, Bool.not_eq_true']
 constructor
 ·rintro ⟨a, ha, h1, b, hb, h2, h3⟩; exact ⟨a, b, ha, hb, h1, h2, h3⟩
 ·rintro ⟨a, b, ha, hb, h1, h2, h3⟩; exact ⟨a, ha, h1, b, hb, h2, h3⟩

theorem grewV_same {n : Nat} {R : Nat → Nat → Bool} (h : Supp n R) (v : Nat) (e : grewV n R v n = false) : wvia R v = R := by
 apply Sub.antisymm _ (wvia_sub R v)
 intro a b hw
 rcases (wvia_iff R v a b).1 hw with hr | ⟨h1, h2⟩
 ·exact hr
 ·cases hr : R a b
  ·have : grewV n R v n = true := (grewV_iff n R v n).2 ⟨a, b, (h a v h1).1, (h v b h2).2, h1, h2, hr⟩
   rw [e] at this
   cases this
  ·rfl

theorem grewC_none {n : Nat} {R : Nat → Nat → Bool} (h : Supp n R) (k : Nat) (e : grewC n R k = false) : warsh R k = R := by
 induction k with
 | zero => rfl
 | succ k ih =>
  unfold grewC at e
  rw [List.range_succ, List.any_append, Bool.or_eq_false_iff] at e
  have e1 := ih e.1
  have e2 : grewV n (warsh R k) k n = false := by simpa using e.2
  show wvia (warsh R k) k = R
  rw [grewV_same (warsh_supp h k) k e2, e1]

theorem warsh_mono_k {R : Nat → Nat → Bool} {j k : Nat} (h : j ≤ k) : Sub (warsh R j) (warsh R k) := by
 induction k with
 | zero => obtain rfl : j = 0 := by omega
           exact Sub.refl _
 | succ k ih =>
  by_cases e : j = k + 1
  ·subst e; exact Sub.refl _
  ·exact (ih (by omega)).trans (wvia_sub _ _)

theorem grewC_some {n : Nat} {R : Nat → Nat → Bool} (k : Nat) (e : grewC n R k = true) : ∃ a b, warsh R k a b = true ∧ R a b = false := by
 unfold grewC at e
 rw [List.any_eq_true] at e
 obtain ⟨v, hv, hg⟩ := e
 have hv' : v < k := by simpa using hv
 obtain ⟨a, b, _, _, h1, h2, h3⟩ := (grewV_iff _ _ _ _).1 hg
 refine ⟨a, b, warsh_mono_k (R := R) (by omega : v + 1 ≤ k) a b ((wvia_iff _ _ _ _).2 (.inr ⟨h1, h2⟩)), ?_⟩
 cases hr : R a b
 ·rfl
 ·rw [warsh_sub R v a b hr] at h3; cases h3

/-- The steps told of growth just when the closure is another one. -/
theorem grewC_iff {n : Nat} {R : Nat → Nat → Bool} (h : Supp n R) : grewC n R n = true ↔ clo n R ≠ R := by
 constructor
 ·intro e heq
  obtain ⟨a, b, h1, h2⟩ := grewC_some n e
  have : clo n R a b = true := h1
  rw [heq, h2] at this
  cases this
 ·intro hne
  cases e : grewC n R n
  ·exact absurd (grewC_none h n e) hne
  ·rfl

end Go.Proofs.YtnknejokneddbaaGreatDoor
/-! A relation in memory: a row of pointers to rows of bits; and the contracts of the functions of package rel that only ask. -/
namespace Go.Proofs.YtnknejokneddbaaGreatDoor
open Go.RowKit

end Go.Proofs.YtnknejokneddbaaGreatDoor
/-! The contracts of Add and complete of package rel: a pair more; the closure in place. -/
namespace Go.Proofs.YtnknejokneddbaaGreatDoor
open Go.RowKit

end Go.Proofs.YtnknejokneddbaaGreatDoor
/-! The contracts of New and Copy of package rel: a relation of its own. -/
namespace Go.Proofs.YtnknejokneddbaaGreatDoor
open Go.RowKit

end Go.Proofs.YtnknejokneddbaaGreatDoor
/-! Slices of pairs in memory; and the contract of the statements' own function same. -/
namespace Go.Proofs.YtnknejokneddbaaGreatDoor
open Go.RowKit

end Go.Proofs.YtnknejokneddbaaGreatDoor
/-! The contract of the iterator behind Pairs of package rel: it hands over the pairs, rising. -/
namespace Go.Proofs.YtnknejokneddbaaGreatDoor
open Go.RowKit Go.Shelf
attribute [local go_sem] Oper.semAt_some

end Go.Proofs.YtnknejokneddbaaGreatDoor
/-! The contract of Pairs of package rel: a new slice of the pairs, rising. -/
namespace Go.Proofs.YtnknejokneddbaaGreatDoor
open Go.RowKit Go.Shelf
attribute [local go_sem] Oper.semAt_some

end Go.Proofs.YtnknejokneddbaaGreatDoor
/-! The contracts of Of and Only of package rel. -/
namespace Go.Proofs.YtnknejokneddbaaGreatDoor
open Go.RowKit

/-- Whether all pairs are of elements. -/
def allIn (n : Nat) (l : List (Int × Int)) : Bool := l.all fun x => decide (inI n x.1 x.2)
/-- What Of tells. -/
def ofErr (n : Int) (l : List (Int × Int)) : Int := if n < 0 ∨ 200 < n then 11 else if allIn n.toNat l then 0 else 10

theorem allIn_snoc {n : Nat} {l : List (Int × Int)} {k : Nat} (hk : k < l.length) : allIn n (l.take (k + 1)) = (allIn n (l.take k) && decide (inI n (l[k]?.getD (0, 0)).1 (l[k]?.getD (0, 0)).2)) := by
 unfold allIn
 rw [List.take_succ_eq_append_getElem hk, List.all_append, List.getElem?_eq_getElem hk]
 simp
theorem ofL_take {n : Nat} {l : List (Int × Int)} {k : Nat} (hk : k < l.length) : ofL n (l.take (k + 1)) = addI n (ofL n (l.take k)) (l[k]?.getD (0, 0)) := by
 rw [List.take_succ_eq_append_getElem hk, ofL_snoc, List.getElem?_eq_getElem hk]
 rfl
theorem allIn_take {n : Nat} {l : List (Int × Int)} {k : Nat} (h : allIn n (l.take k) = false) : allIn n l = false := by
 unfold allIn at *
 rw [List.all_eq_false] at *
 obtain ⟨x, hx, hn⟩ := h
 exact ⟨x, List.mem_of_mem_take hx, hn⟩

end Go.Proofs.YtnknejokneddbaaGreatDoor

namespace Go.Proofs.YtnknejokneddbaaGreatDoor
open Go.RowKit

end Go.Proofs.YtnknejokneddbaaGreatDoor
/-! The contracts of package rel as the statements use them; what their own function known does. Condition: the table of the lowest places is in memory. -/
namespace Go.Proofs.YtnknejokneddbaaGreatDoor
open Go.RowKit

end Go.Proofs.YtnknejokneddbaaGreatDoor
/-! The relation of a list of pairs, in plain lists. -/
namespace Go.Proofs.YtnknejokneddbaaGreatDoor
open Go.RowKit

theorem ofL_iff (n : Nat) (l : List (Int × Int)) (x y : Nat) : ofL n l x y = true ↔ x < n ∧ y < n ∧ ((x : Int), (y : Int)) ∈ l := by
 have key : ∀ (l : List (Int × Int)) (R : Nat → Nat → Bool), l.foldl (addI n) R x y = true ↔ R x y = true ∨ (x < n ∧ y < n ∧ ((x : Int), (y : Int)) ∈ l) := by
  intro l
  induction l with
  | nil => intro R; simp
  | cons p l ih =>
   intro R
   rw [List.foldl_cons, ih]
   have : addI n R p x y = true ↔ R x y = true ∨ (x < n ∧ y < n ∧ ((x : Int), (y : Int)) = p) := by
    unfold addI
    split
    ·rename_i h
     rw [addR_iff]
     constructor
     ·rintro (h1 | ⟨h1, h2⟩)
      ·exact .inl h1
      ·exact .inr ⟨by omega, by omega, Prod.ext (by simp only; omega) (by simp only; omega)⟩
     ·rintro (h1 | ⟨h1, h2, h3⟩)
      ·exact .inl h1
      ·right
       rw [← h3]
       simp
    ·rename_i h
     constructor
     ·exact .inl
     ·rintro (h1 | ⟨h1, h2, h3⟩)
      ·exact h1
      ·exfalso
       apply h
       rw [← h3]
       simp only
       omega
   rw [this, List.mem_cons]
   constructor
   ·rintro ((h | ⟨h1, h2, h3⟩) | ⟨h1, h2, h3⟩)
    ·exact .inl h
    ·exact .inr ⟨h1, h2, .inl h3⟩
    ·exact .inr ⟨h1, h2, .inr h3⟩
   ·rintro (h | ⟨h1, h2, h3 | h3⟩)
    ·exact .inl (.inl h)
    ·exact .inl (.inr ⟨h1, h2, h3⟩)
    ·exact .inr ⟨h1, h2, h3⟩
 have := key l (fun _ _ => false)
 simpa [ofL] using this

theorem ofL_pairsL {n : Nat} {R : Nat → Nat → Bool} (h : Supp n R) : ofL n (pairsL n R n) = R := by
 funext x y
 have h1 := ofL_iff n (pairsL n R n) x y
 rw [pairsL_mem] at h1
 cases hr : R x y
 ·cases ho : ofL n (pairsL n R n) x y
  ·rfl
  ·have := (h1.1 ho).2.2.2.2
   rw [hr] at this
   cases this
 ·have := h x y hr
  exact h1.2 ⟨this.1, this.2, this.1, this.2, hr⟩
theorem pairsL_in {n : Nat} {R : Nat → Nat → Bool} : ∀ p ∈ pairsL n R n, inI n p.1 p.2 := by
 intro p hp
 unfold pairsL at hp
 rw [List.mem_flatMap] at hp
 obtain ⟨a, ha, hb⟩ := hp
 rw [List.mem_map] at hb
 obtain ⟨b, hb, rfl⟩ := hb
 have h1 : a < n := by simpa using ha
 have h2 : b < n := by unfold onL at hb; simpa using (List.mem_filter.1 hb).1
 unfold inI
 simp only
 omega
end Go.Proofs.YtnknejokneddbaaGreatDoor

namespace Go.Proofs.YtnknejokneddbaaGreatDoor
open Go.RowKit

theorem matIs_yes (p n i : Nat) (w : World) (hc : w.cell? ⟨p, 0, none⟩ = some (.int .i64 n)) (h1 : i < n) : Calls Tryz.prog 85 #[.pointer (some ⟨p, 0, none⟩), .int .i64 i] w fun e w' => e = .returned (.bool true) ∧ w' = w := by
 have a0 : (0 : Int) ≤ i := by omega
 have a1 : (i : Int) < n := by omega
 go_enter Tryz.func85, Tryz.ntmps85
 go_wp2
 go_ret
 exact ⟨rfl, rfl⟩
theorem matIs_no (p n : Nat) (i : Int) (w : World) (hc : w.cell? ⟨p, 0, none⟩ = some (.int .i64 n)) (h : i < 0 ∨ (n : Int) ≤ i) : Calls Tryz.prog 85 #[.pointer (some ⟨p, 0, none⟩), .int .i64 i] w fun e w' => e = .returned (.bool false) ∧ w' = w := by
 by_cases h0 : i < 0
 ·clear h
  go_enter Tryz.func85, Tryz.ntmps85
  go_wp2
  go_ret
  exact ⟨rfl, rfl⟩
 ·have h1 : 0 ≤ i := by omega
  have h2 : decide (i < (n : Int)) = false := by simp; omega
  clear h
  go_enter Tryz.func85, Tryz.ntmps85
  go_wp2
  go_ret
  exact ⟨rfl, rfl⟩

end Go.Proofs.YtnknejokneddbaaGreatDoor
/-! The contracts of Has, Of, Copy, Closure of package centoref2. -/
namespace Go.Proofs.YtnknejokneddbaaGreatDoor
open Go.RowKit

set_option maxHeartbeats 400000 in
theorem matHas_r (lo hi p n : Nat) (a b : Int) (R : Nat → Nat → Bool) (w : World) (h : IsMat w lo hi p n R) : Calls Tryz.prog 53 #[.pointer (some ⟨p, 0, none⟩), .int .i64 a, .int .i64 b] w fun e w' => e = .returned (.bool (hasI n R a b)) ∧ w' = w := by
 obtain ⟨_, _, pm, cap, mb, rb, h3⟩ := h
 have hc0 := h3.c0
 by_cases ha : 0 ≤ a ∧ a < n
 ·obtain ⟨i, rfl⟩ := Int.eq_ofNat_of_zero_le ha.1
  have hi' : i < n := by omega
  by_cases hb : 0 ≤ b ∧ b < n
  ·obtain ⟨j, rfl⟩ := Int.eq_ofNat_of_zero_le hb.1
   have hj' : j < n := by omega
   rw [hasI_in (by unfold inI; omega)]
   have hc1 := h3.c1
   obtain ⟨rfl, hcm⟩ := h3.cm hi'
   have hcr := (h3.row i hi').cell hj'
   clear h3
   simp only [Int.toNat_natCast]
   generalize R i j = v at *
   have i0 : (0 : Int) ≤ i := by omega
   have j0 : (0 : Int) ≤ j := by omega
   have i1 : (i : Int) < n := by omega
   have j1 : (j : Int) < n := by omega
   go_enter Tryz.func53, Tryz.ntmps53
   go_wp2_with fail
   refine (matIs_yes p n i _ hc0 hi').mono ?_
   rintro e w' ⟨rfl, h9⟩
   subst w'
   go_wp2_with fail
   refine (matIs_yes p n j _ hc0 hj').mono ?_
   rintro e w' ⟨rfl, h9⟩
   subst w'
   go_wp2
   go_ret
   exact ⟨rfl, rfl⟩
  ·have he : hasI n R i b = false := by
    unfold hasI
    have : (decide (0 ≤ b) && decide (b < (n : Int))) = false := by
     rw [Bool.and_eq_false_iff, decide_eq_false_iff_not, decide_eq_false_iff_not]; omega
    rw [this]; simp
   rw [he]
   have hn' := Lib.hid (show b < 0 ∨ (n : Int) ≤ b by omega)
   clear h3 he ha hb
   go_enter Tryz.func53, Tryz.ntmps53
   go_wp2_with fail
   refine (matIs_yes p n i _ hc0 hi').mono ?_
   rintro e w' ⟨rfl, h9⟩
   subst w'
   go_wp2_with fail
   refine (matIs_no p n _ _ hc0 hn'.out).mono ?_
   rintro e w' ⟨rfl, h9⟩
   subst w'
   go_wp2
   go_ret
   exact ⟨rfl, rfl⟩
 ·have he : hasI n R a b = false := by
   unfold hasI
   have : (decide (0 ≤ a) && decide (a < (n : Int))) = false := by
    rw [Bool.and_eq_false_iff, decide_eq_false_iff_not, decide_eq_false_iff_not]; omega
   rw [this]; rfl
  rw [he]
  have hn' := Lib.hid (show a < 0 ∨ (n : Int) ≤ a by omega)
  clear h3 he ha
  go_enter Tryz.func53, Tryz.ntmps53
  go_wp2_with fail
  refine (matIs_no p n _ _ hc0 hn'.out).mono ?_
  rintro e w' ⟨rfl, h9⟩
  subst w'
  go_wp2
  go_ret
  exact ⟨rfl, rfl⟩

theorem addR_put (R : Nat → Nat → Bool) (a b x y : Nat) : addR R a b x y = if x = a ∧ y = b then true else R x y := by
 unfold addR
 by_cases h : x = a ∧ y = b
 ·rw [if_pos h]; simp [h.1, h.2]
 ·rw [if_neg h]
  have : (decide (x = a) && decide (y = b)) = false := by
   rw [Bool.and_eq_false_iff, decide_eq_false_iff_not, decide_eq_false_iff_not]
   by_cases e : x = a
   ·exact .inr fun e2 => h ⟨e, e2⟩
   ·exact .inl e
  rw [this, Bool.or_false]

/-- What Of of centoref2 leaves. -/
def MatOfPost (n : Int) (l : List (Int × Int)) (w : World) (e : Ending) (w' : World) : Prop :=
 (ofErr n l = 0 ∧ ∃ p, e = .returned (.tuple #[.pointer (some ⟨p, 0, none⟩), .int .i64 0]) ∧ IsMat w' w.heap.size w'.heap.size p n.toNat (ofL n.toNat l) ∧ w.grownBy w' none) ∨
 (ofErr n l ≠ 0 ∧ e = .returned (.tuple #[.pointer none, .int .i64 (ofErr n l)]) ∧ w.grownBy w' none)

theorem matOf_large (n : Int) (p : Option Addr) (L c : Nat) (l : List (Int × Int)) (w : World) (h : n < 0 ∨ 200 < n) : Calls Tryz.prog 115 #[.int .i64 n, .slice p L c] w (MatOfPost n l w) := by
 have he : ofErr n l = 11 := by unfold ofErr; rw [if_pos h]
 have HE : Hid (MatOfPost n l w (.returned (.tuple #[.pointer none, .int .i64 11])) w) := Lib.hid (.inr ⟨by rw [he]; decide, by rw [he], grownBy_refl _ _⟩)
 clear he
 rcases h with h | h
 ·go_enter Tryz.func115, Tryz.ntmps115
  go_wp2
  go_ret2
  exact HE.out
 ·have h' : ¬ n < 0 := by omega
  go_enter Tryz.func115, Tryz.ntmps115
  go_wp2
  go_ret2
  exact HE.out

set_option maxHeartbeats 2000000 in
set_option maxRecDepth 20000 in
theorem matOf_mid (n : Nat) (p : Option Addr) (L c lo hi : Nat) (l : List (Int × Int)) (w : World) (hn : n ≤ 200) (hl : PairsAt w lo hi p L l) (hL : L ≤ 1000000) : Calls Tryz.prog 115 #[.int .i64 n, .slice p L c] w (MatOfPost n l w) := by
 have n0 : ¬ ((n : Int) < 0) := by omega
 have n1 : ¬ (200 < (n : Int)) := by omega
 have HOK : Hid (∀ q w', allIn n l = true → IsMat w' w.heap.size w'.heap.size q n (ofL n l) → w.grownBy w' none → MatOfPost n l w (.returned (.tuple #[.pointer (some ⟨q, 0, none⟩), .int .i64 0])) w') := Lib.hid (fun q w' h1 h2 h3 => by
  have he : ofErr n l = 0 := by unfold ofErr; rw [if_neg (by omega), Int.toNat_natCast, h1]; rfl
  exact .inl ⟨he, q, rfl, by rw [Int.toNat_natCast]; exact h2, h3⟩)
 have HNO : Hid (∀ w', allIn n l = false → w.grownBy w' none → MatOfPost n l w (.returned (.tuple #[.pointer none, .int .i64 10])) w') := Lib.hid (fun w' h1 h3 => by
  have he : ofErr n l = 10 := by unfold ofErr; rw [if_neg (by omega), Int.toNat_natCast, h1]; rfl
  exact .inr ⟨by rw [he]; decide, by rw [he], h3⟩)
 have HL := Lib.hid hl
 have HLEN := Lib.hid hl.len
 clear hl
 go_enter Tryz.func115, Tryz.ntmps115
 go_wp2_with fail
 refine (matNew_c n _ hn).mono ?_
 rintro e w1 ⟨q, rfl, hr1, hg1⟩
 have HR1 := Lib.hid hr1
 have HG1 := Lib.hid hg1
 clear hr1 hg1
 go_wp2_with fail
 go_loopw [7] (fun i wr => ∃ k : Nat, k ≤ L ∧ i = .int .i64 k ∧ Hid (allIn n (l.take k) = true) ∧ IsMat wr w.heap.size w1.heap.size q n (ofL n (l.take k)) ∧ w.grownBy wr none) (fun i _ => L - (intOf i).toNat)
 case atStart => exact ⟨0, Nat.zero_le _, rfl, Lib.hid rfl, HR1.out, HG1.out⟩
 case round =>
  obtain ⟨k, hk, rfl, HA, hmat, hgr⟩ := hrel
  by_cases hkL : k < L
  ·obtain ⟨b, off, rfl, q1, q2, q3, hcs⟩ := (HL.out.calm hgr).cell (by omega)
   obtain ⟨x1, x2⟩ := hcs k hkL
   have HTA := Lib.hid (allIn_snoc (n := n) (l := l) (k := k) (by rw [HLEN.out]; exact hkL))
   have HTO := Lib.hid (ofL_take (n := n) (l := l) (k := k) (by rw [HLEN.out]; exact hkL))
   have hc0 := hmat.c0
   have HMAT := Lib.hid hmat
   have HGR := Lib.hid hgr
   clear hcs hgr hmat
   generalize l[k]?.getD (0, 0) = x at *
   obtain ⟨x, y⟩ := x
   simp only at x1 x2 HTA
   have k0 : (0 : Int) ≤ k := by omega
   have k1 : (k : Int) < L := by omega
   by_cases hx : 0 ≤ x ∧ x < n
   ·obtain ⟨a0, a1⟩ := hx
    obtain ⟨u, rfl⟩ := Int.eq_ofNat_of_zero_le a0
    have hu : u < n := by omega
    by_cases hy : 0 ≤ y ∧ y < n
    ·obtain ⟨b0, b1⟩ := hy
     obtain ⟨v, rfl⟩ := Int.eq_ofNat_of_zero_le b0
     have hv : v < n := by omega
     have hin : inI n (u : Int) (v : Int) := ⟨a0, a1, b0, b1⟩
     have hA2 : allIn n (l.take (k + 1)) = true := by rw [HTA.out, HA.out]; simp [hin]
     have HA2 := Lib.hid hA2
     rw [addI_yes hin] at HTO
     simp only [Int.toNat_natCast] at HTO
     obtain ⟨pm, mb, rb, cap, rfl, hc1, hcm, hcr, hfr, hput⟩ := HMAT.out.put (T := addR (ofL n (l.take k)) u v) hu hv true (addR_put _ _ _) (addR_supp HMAT.out.supp hu hv)
     have HPUT := Lib.hid (hput (wr.drewN 1) rfl rfl rfl rfl)
     clear hA2 hin hput
     go_wp2_with fail
     refine (matIs_yes q n u _ hc0 hu).mono ?_
     rintro e w' ⟨rfl, h9⟩
     subst w'
     go_wp2_with fail
     refine (matIs_yes q n v _ hc0 hv).mono ?_
     rintro e w' ⟨rfl, h9⟩
     subst w'
     go_wp2
     refine wp_region_still_tail 17 (by kernel_rfl) (by kernel_rfl) ?_
     simp only [List.take_succ_cons, List.take_zero, List.drop_succ_cons, List.drop_zero]
     repeat still_step
     refine wpStill_nil ?_
     change wpList _ _ _ _ _ wr.drew
     go_wp2
     exact ⟨⟨k + 1, by omega, by go_num, HA2, by rw [HTO.out]; exact HPUT.out.1, Kept.new HGR.out HPUT.out.2 (Nat.le_refl _)⟩, by simp [intOf]; omega⟩
    ·have hb' := Lib.hid (show y < 0 ∨ (n : Int) ≤ y by omega)
     have hA2 : allIn n l = false := allIn_take (k := k + 1) (by rw [HTA.out]; have : ¬ inI n (u : Int) y := by unfold inI; omega
                                                                 simp [this])
     have HFIN := Lib.hid (HNO.out _ hA2 HGR.out)
     clear hA2 hy
     go_wp2_with fail
     refine (matIs_yes q n u _ hc0 hu).mono ?_
     rintro e w' ⟨rfl, h9⟩
     subst w'
     go_wp2_with fail
     refine (matIs_no q n _ _ hc0 hb'.out).mono ?_
     rintro e w' ⟨rfl, h9⟩
     subst w'
     go_wp2
     go_ret2
     exact HFIN.out
   ·have ha' := Lib.hid (show x < 0 ∨ (n : Int) ≤ x by omega)
    have hA2 : allIn n l = false := allIn_take (k := k + 1) (by rw [HTA.out]; have : ¬ inI n x y := by unfold inI; omega
                                                                simp [this])
    have HFIN := Lib.hid (HNO.out _ hA2 HGR.out)
    clear hA2 hx
    go_wp2_with fail
    refine (matIs_no q n _ _ hc0 ha'.out).mono ?_
    rintro e w' ⟨rfl, h9⟩
    subst w'
    go_wp2
    go_ret2
    exact HFIN.out
  ·obtain rfl : k = L := by omega
   have hta : l.take k = l := List.take_of_length_le (by rw [HLEN.out]; exact Nat.le_refl _)
   rw [hta] at HA hmat
   have HFIN := Lib.hid (HOK.out q wr HA.out (hmat.outer (Nat.le_refl _) hmat.top) hgr)
   clear hmat hgr hta
   go_wp2
   go_ret2
   exact HFIN.out

theorem matOf_c (n : Int) (p : Option Addr) (L c lo hi : Nat) (l : List (Int × Int)) (w : World) (hl : PairsAt w lo hi p L l) (hL : L ≤ 1000000) : Calls Tryz.prog 115 #[.int .i64 n, .slice p L c] w (MatOfPost n l w) := by
 by_cases h : n < 0 ∨ 200 < n
 ·exact matOf_large n p L c l w h
 ·obtain ⟨m, rfl⟩ := Int.eq_ofNat_of_zero_le (show 0 ≤ n by omega)
  exact matOf_mid m p L c lo hi l w (by omega) hl hL

end Go.Proofs.YtnknejokneddbaaGreatDoor
/-! The contracts of Closure, Same, Pairs, Only of package centoref2. -/
namespace Go.Proofs.YtnknejokneddbaaGreatDoor
open Go.RowKit

/-- Whether two relations of n elements are the same. -/
def sameR (n : Nat) (R T : Nat → Nat → Bool) : Bool := (List.range n).all fun a => (List.range n).all fun b => R a b == T a b
theorem sameR_iff {n : Nat} {R T : Nat → Nat → Bool} (h1 : Supp n R) (h2 : Supp n T) : sameR n R T = true ↔ R = T := by
 unfold sameR
 simp only [List.all_eq_true, List.mem_range, beq_iff_eq]
 constructor
 ·intro h
  funext a b
  by_cases hab : a < n ∧ b < n
  ·exact h a hab.1 b hab.2
  ·cases hr : R a b
   ·cases ht : T a b
    ·rfl
    ·exact absurd (h2 a b ht) hab
   ·exact absurd (h1 a b hr) hab
 ·rintro rfl a _ b _
  rfl

set_option maxHeartbeats 4000000 in
theorem matSame_r (lo hi p lo2 hi2 p2 n : Nat) (R T : Nat → Nat → Bool) (r : Bool) (w : World) (h : IsMat w lo hi p n R) (h2 : IsMat w lo2 hi2 p2 n T) (hr : sameR n R T = r) : Calls Tryz.prog 154 #[.pointer (some ⟨p, 0, none⟩), .pointer (some ⟨p2, 0, none⟩)] w fun e w' => e = .returned (.bool r) ∧ w.grownBy w' none := by
 have hn := h.small
 have hc0 := h.c0
 have hd0 := h2.c0
 have H := Lib.hid h
 have H2 := Lib.hid h2
 have HR := Lib.hid hr
 have hnn : ((n : Int) != (n : Int)) = false := by simp
 clear h h2 hr
 go_enter Tryz.func154, Tryz.ntmps154
 go_wp2
 go_quiet (fail)
 go_wp2
 go_loopw [5] (fun i wr => ∃ a : Nat, a ≤ n ∧ i = .int .i64 a ∧ Hid (∀ x, x < a → ∀ y, y < n → R x y = T x y) ∧ w.grownBy wr none) (fun i _ => n - (intOf i).toNat)
 case atStart => exact ⟨0, Nat.zero_le _, rfl, Lib.hid (fun x hx => by omega), grownBy_drewN _ _ _⟩
 case round =>
  obtain ⟨a, ha, rfl, HX, hga⟩ := hrel
  have hc0a := (H.out.calm hga).c0
  by_cases han : a < n
  ·have HGA := Lib.hid hga
   clear hga
   go_wp2_with fail
   go_loopw [6] (fun i wr => ∃ b : Nat, b ≤ n ∧ i = .int .i64 b ∧ Hid (∀ y, y < b → R a y = T a y) ∧ w.grownBy wr none) (fun i _ => n - (intOf i).toNat)
   case atStart => exact ⟨0, Nat.zero_le _, rfl, Lib.hid (fun x hx => by omega), HGA.out⟩
   case round =>
    obtain ⟨b, hb, rfl, HY, hgb⟩ := hrel
    have hc0b := (H.out.calm hgb).c0
    by_cases hbn : b < n
    ·obtain ⟨mb0, rb0, cap0, g1, g2, g3⟩ := (H.out.calm hgb).get han hbn
     obtain ⟨mb1, rb1, cap1, e1, e2, e3⟩ := (H2.out.calm hgb).get han hbn
     have HGB := Lib.hid hgb
     have a0 : (0 : Int) ≤ a := by omega
     have b0 : (0 : Int) ≤ b := by omega
     have a1 : (a : Int) < n := by omega
     have b1 : (b : Int) < n := by omega
     clear hgb
     by_cases heq : R a b = T a b
     ·have HY2 : Hid (∀ y, y < b + 1 → R a y = T a y) := Lib.hid (fun y hy => by
       by_cases e : y = b
       ·subst e; exact heq
       ·exact HY.out y (by omega))
      rw [heq] at g3
      clear heq
      generalize T a b = v at *
      cases v
      all_goals
       go_wp2
       go_quiet (fail)
       go_wp2
       exact ⟨⟨b + 1, by omega, by go_num, HY2, grownBy_trans HGB.out (grownBy_drewN _ _ none)⟩, by simp [intOf]; omega⟩
     ·have hrf : r = false := by
       rw [← HR.out]
       unfold sameR
       rw [List.all_eq_false]
       refine ⟨a, by simpa using han, ?_⟩
       rw [Bool.not_eq_true, List.all_eq_false]
       exact ⟨b, by simpa using hbn, by simpa using heq⟩
      subst hrf
      cases hu : R a b
      ·cases hv : T a b
       ·exact absurd (hu.trans hv.symm) heq
       ·rw [hu] at g3
        rw [hv] at e3
        clear heq hu hv
        go_wp2
        go_quiet (fail)
        go_wp2
        go_ret
        exact ⟨rfl, grownBy_trans HGB.out (grownBy_drewN _ _ none)⟩
      ·cases hv : T a b
       ·rw [hu] at g3
        rw [hv] at e3
        clear heq hu hv
        go_wp2
        go_quiet (fail)
        go_wp2
        go_ret
        exact ⟨rfl, grownBy_trans HGB.out (grownBy_drewN _ _ none)⟩
       ·exact absurd (hu.trans hv.symm) heq
    ·obtain rfl : b = n := by omega
     have HX2 : Hid (∀ x, x < a + 1 → ∀ y, y < b → R x y = T x y) := Lib.hid (fun x hx => by
      by_cases e : x = a
      ·subst e; exact HY.out
      ·exact HX.out x (by omega))
     go_wp2
     exact ⟨⟨a + 1, by omega, by go_num, HX2, hgb⟩, by simp [intOf]; omega⟩
  ·obtain rfl : a = n := by omega
   have hrt : r = true := by
    rw [← HR.out]
    unfold sameR
    simp only [List.all_eq_true, List.mem_range, beq_iff_eq]
    exact HX.out
   subst hrt
   go_wp2
   go_ret
   exact ⟨rfl, hga⟩

end Go.Proofs.YtnknejokneddbaaGreatDoor
/-! The contract of Pairs of package centoref2. -/
namespace Go.Proofs.YtnknejokneddbaaGreatDoor
open Go.RowKit

end Go.Proofs.YtnknejokneddbaaGreatDoor
/-! The contract of Some of package centoref2. -/
namespace Go.Proofs.YtnknejokneddbaaGreatDoor
open Go.RowKit

set_option maxHeartbeats 2000000 in
set_option maxRecDepth 20000 in
theorem matSome_c (n : Nat) (p : Option Addr) (L c lo hi : Nat) (l : List (Int × Int)) (w : World) (hn : n ≤ 200) (hl : PairsAt w lo hi p L l) (hL : L ≤ 1000000) : Calls Tryz.prog 84 #[.int .i64 n, .slice p L c] w (MatPost n (ofL n l) w) := by
 have HL := Lib.hid hl
 have HLEN := Lib.hid hl.len
 clear hl
 go_enter Tryz.func84, Tryz.ntmps84
 go_wp2_with fail
 refine (matNew_c n _ hn).mono ?_
 rintro e w1 ⟨q, rfl, hr1, hg1⟩
 have HR1 := Lib.hid hr1
 have HG1 := Lib.hid hg1
 clear hr1 hg1
 go_wp2_with fail
 go_loopw [6] (fun i wr => ∃ k : Nat, k ≤ L ∧ i = .int .i64 k ∧ IsMat wr w.heap.size w1.heap.size q n (ofL n (l.take k)) ∧ w.grownBy wr none) (fun i _ => L - (intOf i).toNat)
 case atStart => exact ⟨0, Nat.zero_le _, rfl, HR1.out, HG1.out⟩
 case round =>
  obtain ⟨k, hk, rfl, hmat, hgr⟩ := hrel
  by_cases hkL : k < L
  ·obtain ⟨b, off, rfl, q1, q2, q3, hcs⟩ := (HL.out.calm hgr).cell (by omega)
   obtain ⟨x1, x2⟩ := hcs k hkL
   have HTO := Lib.hid (ofL_take (n := n) (l := l) (k := k) (by rw [HLEN.out]; exact hkL))
   have hc0 := hmat.c0
   have HMAT := Lib.hid hmat
   have HGR := Lib.hid hgr
   clear hcs hgr hmat
   generalize l[k]?.getD (0, 0) = x at *
   obtain ⟨x, y⟩ := x
   simp only at x1 x2
   have k0 : (0 : Int) ≤ k := by omega
   have k1 : (k : Int) < L := by omega
   by_cases hx : 0 ≤ x ∧ x < n
   ·obtain ⟨a0, a1⟩ := hx
    obtain ⟨u, rfl⟩ := Int.eq_ofNat_of_zero_le a0
    have hu : u < n := by omega
    by_cases hy : 0 ≤ y ∧ y < n
    ·obtain ⟨b0, b1⟩ := hy
     obtain ⟨v, rfl⟩ := Int.eq_ofNat_of_zero_le b0
     have hv : v < n := by omega
     have hin : inI n (u : Int) (v : Int) := ⟨a0, a1, b0, b1⟩
     rw [addI_yes hin] at HTO
     simp only [Int.toNat_natCast] at HTO
     obtain ⟨pm, mb, rb, cap, rfl, hc1, hcm, hcr, hfr, hput⟩ := HMAT.out.put (T := addR (ofL n (l.take k)) u v) hu hv true (addR_put _ _ _) (addR_supp HMAT.out.supp hu hv)
     have HPUT := Lib.hid (hput (wr.drewN 1) rfl rfl rfl rfl)
     clear hin hput
     go_wp2_with fail
     refine (matIs_yes q n u _ hc0 hu).mono ?_
     rintro e w' ⟨rfl, h9⟩
     subst w'
     go_wp2_with fail
     refine (matIs_yes q n v _ hc0 hv).mono ?_
     rintro e w' ⟨rfl, h9⟩
     subst w'
     go_wp2
     refine wp_region_still_tail 17 (by kernel_rfl) (by kernel_rfl) ?_
     simp only [List.take_succ_cons, List.take_zero, List.drop_succ_cons, List.drop_zero]
     repeat still_step
     refine wpStill_nil ?_
     change wpList _ _ _ _ _ wr.drew
     go_wp2
     exact ⟨⟨k + 1, by omega, by go_num, by rw [HTO.out]; exact HPUT.out.1, Kept.new HGR.out HPUT.out.2 (Nat.le_refl _)⟩, by simp [intOf]; omega⟩
    ·have hb' := Lib.hid (show y < 0 ∨ (n : Int) ≤ y by omega)
     have HNO : Hid (ofL n (l.take (k + 1)) = ofL n (l.take k)) := Lib.hid (HTO.out.trans (addI_no (by unfold inI; omega)))
     clear hy
     go_wp2_with fail
     refine (matIs_yes q n u _ hc0 hu).mono ?_
     rintro e w' ⟨rfl, h9⟩
     subst w'
     go_wp2_with fail
     refine (matIs_no q n _ _ hc0 hb'.out).mono ?_
     rintro e w' ⟨rfl, h9⟩
     subst w'
     go_wp2
     exact ⟨⟨k + 1, by omega, by go_num, by rw [HNO.out]; exact HMAT.out, HGR.out⟩, by simp [intOf]; omega⟩
   ·have ha' := Lib.hid (show x < 0 ∨ (n : Int) ≤ x by omega)
    have HNO : Hid (ofL n (l.take (k + 1)) = ofL n (l.take k)) := Lib.hid (HTO.out.trans (addI_no (by unfold inI; omega)))
    clear hx
    go_wp2_with fail
    refine (matIs_no q n _ _ hc0 ha'.out).mono ?_
    rintro e w' ⟨rfl, h9⟩
    subst w'
    go_wp2
    exact ⟨⟨k + 1, by omega, by go_num, by rw [HNO.out]; exact HMAT.out, HGR.out⟩, by simp [intOf]; omega⟩
  ·obtain rfl : k = L := by omega
   have hta : l.take k = l := List.take_of_length_le (by rw [HLEN.out]; exact Nat.le_refl _)
   rw [hta] at hmat
   have HFIN := Lib.hid (hmat.outer (Nat.le_refl _) hmat.top)
   have HGR := Lib.hid hgr
   clear hmat hgr hta
   go_wp2
   go_ret
   exact ⟨q, rfl, HFIN.out, HGR.out⟩

end Go.Proofs.YtnknejokneddbaaGreatDoor

namespace Go.Proofs.YtnknejokneddbaaGreatDoor
open Go.RowKit

/-- A label isn't too long. -/
def okS (s : ByteArray) : Bool := decide (s.size ≤ 60)
/-- What checkLabels answers. -/
def labErr (L : List ByteArray) : Int := if 40 < L.length then 11 else if L.all okS then 0 else 10

theorem all_take {L : List ByteArray} {k : Nat} (f : ByteArray → Bool) (hk : k < L.length) : (L.take (k + 1)).all f = ((L.take k).all f && f (L[k]?.getD .empty)) := by
 rw [List.take_succ_eq_append_getElem hk, List.getElem?_eq_getElem hk]
 simp only [List.all_append, List.all_cons, List.all_nil, Bool.and_true, Option.getD_some]

theorem all_out {L : List ByteArray} {k : Nat} (f : ByteArray → Bool) (hk : k < L.length) (h : f (L[k]?.getD .empty) = false) : L.all f = false := by
 rw [List.getElem?_eq_getElem hk] at h
 rw [Bool.eq_false_iff]
 intro e
 have := List.all_eq_true.1 e _ (List.getElem_mem hk)
 rw [show f L[k] = false from h] at this
 cases this

end Go.Proofs.YtnknejokneddbaaGreatDoor
/-! The contract of the iterator neighbours of package obj, which hands over each pair with the one behind it. -/
namespace Go.Proofs.YtnknejokneddbaaGreatDoor
open Go.RowKit Go.Shelf
attribute [local go_sem] Oper.semAt_some

abbrev PP := (Int × Int) × (Int × Int)
/-- Pairs with the ones behind them, the first k - 1 of them. -/
def nbr (l : List (Int × Int)) (k : Nat) : List PP := (List.range (k - 1)).map fun i => (l[i]?.getD (0, 0), l[i + 1]?.getD (0, 0))
def ltP (x : PP) : Bool := decide (x.1.1 < x.2.1) || (decide (x.1.1 = x.2.1) && decide (x.1.2 < x.2.2))
/-- Whether pairs rise. -/
def risesB (l : List (Int × Int)) : Bool := (nbr l l.length).all ltP
theorem nbr_succ (l : List (Int × Int)) (k : Nat) : nbr l (k + 1 + 1) = nbr l (k + 1) ++ [(l[k]?.getD (0, 0), l[k + 1]?.getD (0, 0))] := by
 unfold nbr
 rw [Nat.add_sub_cancel, Nat.add_sub_cancel, List.range_succ, List.map_append]
 rfl
theorem nbr_split (l : List (Int × Int)) {k m : Nat} (hk : k + 1 < m) : ∃ rest, nbr l m = nbr l (k + 1) ++ ([(l[k]?.getD (0, 0), l[k + 1]?.getD (0, 0))] ++ rest) := by
 have h : ∃ r, nbr l m = nbr l (k + 1 + 1) ++ r := by
  unfold nbr
  refine ⟨((List.range (m - 1 - (k + 1))).map fun x => (k + 1) + x).map fun i => (l[i]?.getD (0, 0), l[i + 1]?.getD (0, 0)), ?_⟩
  rw [Nat.add_sub_cancel, ← List.map_append, ← List.range_add]
  congr 2
  omega
 obtain ⟨r, h⟩ := h
 exact ⟨r, by rw [h, nbr_succ, List.append_assoc]⟩

end Go.Proofs.YtnknejokneddbaaGreatDoor
/-! The contract of rises of package obj: whether pairs rise. -/
namespace Go.Proofs.YtnknejokneddbaaGreatDoor
open Go.RowKit Go.Shelf
attribute [local go_sem] Oper.semAt_some

end Go.Proofs.YtnknejokneddbaaGreatDoor
/-! The contracts of read, Check, Is, Rel of package obj. -/
namespace Go.Proofs.YtnknejokneddbaaGreatDoor
open Go.RowKit

/-- Whether labels and pairs are an object: what Check answers. -/
def chk (L : List ByteArray) (P : List (Int × Int)) : Int := if labErr L ≠ 0 then labErr L else if risesB P && (allIn L.length P && !grewC L.length (ofL L.length P) L.length) then 0 else 10

theorem chk_lab {L : List ByteArray} {P : List (Int × Int)} {k : Int} (h : labErr L = k) (hk : k ≠ 0) : chk L P = k := by unfold chk; rw [h, if_pos hk]
theorem chk_no {L : List ByteArray} {P : List (Int × Int)} (h : labErr L = 0) (hk : (risesB P && (allIn L.length P && !grewC L.length (ofL L.length P) L.length)) = false) : chk L P = 10 := by unfold chk; rw [h, if_neg (by simp), hk]; rfl
theorem chk_ok {L : List ByteArray} {P : List (Int × Int)} (h : labErr L = 0) (hk : (risesB P && (allIn L.length P && !grewC L.length (ofL L.length P) L.length)) = true) : chk L P = 0 := by unfold chk; rw [h, if_neg (by simp), hk]; rfl
theorem lab_small {L : List ByteArray} (h : labErr L = 0) : L.length ≤ 40 := by
 unfold labErr at h
 by_cases e : 40 < L.length
 ·rw [if_pos e] at h; cases h
 ·omega

/-- The object's elements, its relation. -/
def objN (L : List ByteArray) (P : List (Int × Int)) : Nat := if chk L P = 0 then L.length else 0
def objR (L : List ByteArray) (P : List (Int × Int)) : Nat → Nat → Bool := if chk L P = 0 then ofL L.length P else fun _ _ => false

end Go.Proofs.YtnknejokneddbaaGreatDoor
/-! The contracts of fresh, Copy, Make, Same of package obj. -/
namespace Go.Proofs.YtnknejokneddbaaGreatDoor
open Go.RowKit

end Go.Proofs.YtnknejokneddbaaGreatDoor
/-! The contracts of slices.Equal over strings and pairs, Same of package obj. -/
namespace Go.Proofs.YtnknejokneddbaaGreatDoor
open Go.RowKit

end Go.Proofs.YtnknejokneddbaaGreatDoor
/-! The contracts of Copy and Make of package obj. -/
namespace Go.Proofs.YtnknejokneddbaaGreatDoor
open Go.RowKit

end Go.Proofs.YtnknejokneddbaaGreatDoor

namespace Go.Proofs.YtnknejokneddbaaGreatDoor
open Go.RowKit

/-- Whether there is such a place among n. -/
def hasZ (n : Nat) (z : Int) : Bool := decide (0 ≤ z) && decide (z < n)
theorem hasZ_iff {n : Nat} {z : Int} : hasZ n z = true ↔ 0 ≤ z ∧ z < n := by simp [hasZ]
theorem hasZ_not {n : Nat} {z : Int} : hasZ n z = false ↔ z < 0 ∨ (n : Int) ≤ z := by
 rw [← Bool.not_eq_true, hasZ_iff]; omega

end Go.Proofs.YtnknejokneddbaaGreatDoor
/-! Package arrow: the contracts of keepsLabels, keepsPairs, Is, movesNothing, Inverse. -/
namespace Go.Proofs.YtnknejokneddbaaGreatDoor
open Go.RowKit

/-- The i-th element goes to one with the same label. -/
def lab1 (L L' : List ByteArray) (f : List Int) (i : Nat) : Bool := hasZ L'.length (f[i]?.getD 0) && decide (L[i]?.getD .empty = L'[(f[i]?.getD 0).toNat]?.getD .empty)
def labK (L L' : List ByteArray) (f : List Int) (k : Nat) : Bool := (List.range k).all (lab1 L L' f)
def labB (L L' : List ByteArray) (f : List Int) : Bool := decide (f.length = L.length) && labK L L' f f.length
theorem labK_succ (L L' : List ByteArray) (f : List Int) (k : Nat) : labK L L' f (k + 1) = (labK L L' f k && lab1 L L' f k) := by simp [labK, List.range_succ]
theorem labK_not {L L' : List ByteArray} {f : List Int} {k m : Nat} (hk : k < m) (h : lab1 L L' f k = false) : labK L L' f m = false := by
 rw [Bool.eq_false_iff]
 intro e
 have := List.all_eq_true.1 e k (List.mem_range.2 hk)
 rw [h] at this
 cases this
/-- A pair stays one. -/
def pr1 (N : Nat) (R : Nat → Nat → Bool) (f : List Int) (x : Int × Int) : Bool := hasI N R (f[x.1.toNat]?.getD 0) (f[x.2.toNat]?.getD 0)
def prB (N : Nat) (R : Nat → Nat → Bool) (P : List (Int × Int)) (f : List Int) : Bool := P.all (pr1 N R f)
theorem prB_succ {N : Nat} {R : Nat → Nat → Bool} {P : List (Int × Int)} {f : List Int} {k : Nat} (hk : k < P.length) : prB N R (P.take (k + 1)) f = (prB N R (P.take k) f && pr1 N R f (P[k]?.getD (0, 0))) := by
 unfold prB
 rw [List.take_succ_eq_append_getElem hk, List.getElem?_eq_getElem hk]
 simp only [List.all_append, List.all_cons, List.all_nil, Bool.and_true, Option.getD_some]
theorem prB_not {N : Nat} {R : Nat → Nat → Bool} {P : List (Int × Int)} {f : List Int} {k : Nat} (hk : k < P.length) (h : pr1 N R f (P[k]?.getD (0, 0)) = false) : prB N R P f = false := by
 rw [List.getElem?_eq_getElem hk] at h
 rw [Bool.eq_false_iff]
 intro e
 have := List.all_eq_true.1 e _ (List.getElem_mem hk)
 rw [show pr1 N R f P[k] = false from h] at this
 cases this
/-- Whether f is an arrow. -/
def arB (L : List ByteArray) (P : List (Int × Int)) (L' : List ByteArray) (P' : List (Int × Int)) (f : List Int) : Bool :=
 (chk L P == 0) && ((chk L' P' == 0) && (labB L L' f && prB (objN L' P') (objR L' P') P f))

theorem inI_of_all {n : Nat} {P : List (Int × Int)} {k : Nat} (h : allIn n P = true) (hk : k < P.length) : inI n (P[k]?.getD (0, 0)).1 (P[k]?.getD (0, 0)).2 := by
 rw [List.getElem?_eq_getElem hk, Option.getD_some]
 have := List.all_eq_true.1 h _ (List.getElem_mem hk)
 exact of_decide_eq_true this

theorem chk_in {L : List ByteArray} {P : List (Int × Int)} (h : chk L P = 0) : labErr L = 0 ∧ risesB P = true ∧ allIn L.length P = true ∧ grewC L.length (ofL L.length P) L.length = false := by
 unfold chk at h
 split at h
 ·rename_i h1; exact absurd h h1
 ·rename_i h1
  split at h
  ·rename_i h2
   simp only [Bool.and_eq_true, Bool.not_eq_true'] at h2
   exact ⟨by simpa using h1, h2.1, h2.2.1, h2.2.2⟩
  ·cases h

end Go.Proofs.YtnknejokneddbaaGreatDoor

namespace Go.Proofs.YtnknejokneddbaaGreatDoor
open Go.RowKit

end Go.Proofs.YtnknejokneddbaaGreatDoor
/-! RefSb -/
namespace Go.Proofs.YtnknejokneddbaaGreatDoor
open Go.RowKit

theorem legK_len {a b : List Lne} {k : Nat} (hk : k ≤ a.length) : (legK a b k).length = k := by
 unfold legK
 rw [List.length_map, List.length_take]
 omega
end Go.Proofs.YtnknejokneddbaaGreatDoor
/-! RefSc -/
namespace Go.Proofs.YtnknejokneddbaaGreatDoor
open Go.RowKit

end Go.Proofs.YtnknejokneddbaaGreatDoor
/-! RefSd -/
namespace Go.Proofs.YtnknejokneddbaaGreatDoor
open Go.RowKit

end Go.Proofs.YtnknejokneddbaaGreatDoor
/-! RefSe -/
namespace Go.Proofs.YtnknejokneddbaaGreatDoor
open Go.RowKit

end Go.Proofs.YtnknejokneddbaaGreatDoor

namespace Go.Proofs.YtnknejokneddbaaGreatDoor
open Go.RowKit

/-- The first k pairs rise. -/
def upTo (l : List (Int × Int)) (k : Nat) : Bool := (nbr l k).all ltP
theorem upTo_succ (l : List (Int × Int)) (k : Nat) : upTo l (k + 1 + 1) = (upTo l (k + 1) && ltP (l[k]?.getD (0, 0), l[k + 1]?.getD (0, 0))) := by
 unfold upTo
 rw [nbr_succ, List.all_append]
 simp
theorem upTo_not {l : List (Int × Int)} {k m : Nat} (hk : k + 1 < m) (h : ltP (l[k]?.getD (0, 0), l[k + 1]?.getD (0, 0)) = false) : upTo l m = false := by
 obtain ⟨r, e⟩ := nbr_split l hk
 unfold upTo
 rw [e, List.all_append, List.all_append]
 simp [h]

set_option maxRecDepth 20000 in
set_option maxHeartbeats 4000000 in
theorem rising_c (p : Option Addr) (m c lo hi : Nat) (P : List (Int × Int)) (r : Bool) (w : World) (hm : m ≤ 1000000) (hP : PairsAt w lo hi p m P) (hr : risesB P = r) :
  Calls Tryz.prog 116 #[.slice p m c] w fun e w' => e = .returned (.bool r) ∧ w.grownBy w' none := by
 have HU : Hid (upTo P m = r) := Lib.hid (by rw [← hr]; unfold risesB upTo; rw [hP.len])
 have HP := Lib.hid hP
 clear hP hr
 go_enter Tryz.func116, Tryz.ntmps116
 go_wp2
 go_loopw [3] (fun i wr => ∃ k : Nat, (k + 1 ≤ m ∨ k = 0) ∧ i = .int .i64 ((k : Int) + 1) ∧ Hid (upTo P (k + 1) = true) ∧ w.grownBy wr none) (fun i _ => m + 1 - (intOf i).toNat)
 case atStart => exact ⟨0, .inr rfl, rfl, Lib.hid rfl, grownBy_refl _ _⟩
 case round =>
  obtain ⟨k, hk, rfl, HT, hgr⟩ := hrel
  by_cases hkm : k + 1 < m
  ·obtain ⟨b, off, rfl, q1, q2, q3, hcells⟩ := (HP.out.calm hgr).cell (by omega)
   obtain ⟨x1, x2⟩ := hcells k (by omega)
   obtain ⟨y1, y2⟩ := hcells (k + 1) (by omega)
   clear hcells
   have e0 : (k : Int) + 1 < m := by omega
   have e1 : IntKind.i64.wrap ((k : Int) + 1 - 1) = k := by rw [IntWalk.i64_in _ (by omega)]; omega
   have e7 : IntKind.i64.wrap (k : Int) = k := by rw [IntWalk.i64_in _ (by omega)]
   have e2 : (0 : Int) ≤ k := by omega
   have e3 : (k : Int) < m := by omega
   have e4 : (0 : Int) ≤ (k : Int) + 1 := by omega
   have e5 : k < m := by omega
   have e6 : ((k : Int) + 1).toNat = k + 1 := by omega
   have HS := Lib.hid (upTo_succ P k)
   have HN := Lib.hid (fun h => upTo_not (l := P) hkm h)
   generalize P[k]?.getD (0, 0) = u at *
   generalize P[k + 1]?.getD (0, 0) = v at *
   by_cases c0 : ltP (u, v) = true
   ·have HT2 : Hid (upTo P (k + 1 + 1) = true) := Lib.hid (by rw [HS.out, HT.out, c0]; rfl)
    unfold ltP at c0
    simp only [Bool.or_eq_true, Bool.and_eq_true, decide_eq_true_eq] at c0
    by_cases c1 : u.1 < v.1
    ·have d1 : decide (v.1 < u.1) = false := by simp; omega
     have d2 : (v.1 == u.1) = false := by simp; omega
     clear c0
     go_wp2
     go_quiet (fail)
     go_wp2
     exact ⟨⟨k + 1, .inl (by omega), by go_num, HT2, grownBy_trans hgr (grownBy_drewN _ _ none)⟩, by simp [intOf]; omega⟩
    ·have d1 : decide (v.1 < u.1) = false := by simp; omega
     have d2 : (v.1 == u.1) = true := by simp; omega
     have d3 : decide (v.2 ≤ u.2) = false := by simp; omega
     clear c0
     go_wp2
     go_quiet (fail)
     go_wp2
     exact ⟨⟨k + 1, .inl (by omega), by go_num, HT2, grownBy_trans hgr (grownBy_drewN _ _ none)⟩, by simp [intOf]; omega⟩
   ·have c0' : ltP (u, v) = false := by simpa using c0
    obtain rfl : r = false := by rw [← HU.out]; exact HN.out c0'
    unfold ltP at c0
    simp only [Bool.or_eq_true, Bool.and_eq_true, decide_eq_true_eq] at c0
    by_cases c1 : v.1 < u.1
    ·have d1 : decide (v.1 < u.1) = true := by simpa using c1
     clear c0 c0'
     go_wp2
     go_quiet (fail)
     go_wp2
     go_ret
     exact ⟨rfl, grownBy_trans hgr (grownBy_drewN _ _ none)⟩
    ·have d1 : decide (v.1 < u.1) = false := by simpa using c1
     have d2 : (v.1 == u.1) = true := by simp; omega
     have d3 : decide (v.2 ≤ u.2) = true := by simp; omega
     clear c0 c0'
     go_wp2
     go_quiet (fail)
     go_wp2
     go_ret
     exact ⟨rfl, grownBy_trans hgr (grownBy_drewN _ _ none)⟩
  ·have e0 : ¬ ((k : Int) + 1 < m) := by omega
   obtain rfl : r = true := by
    rw [← HU.out, ← HT.out]
    unfold upTo nbr
    rw [show k + 1 - 1 = m - 1 from by omega]
   go_wp2
   go_ret
   exact ⟨rfl, hgr⟩

end Go.Proofs.YtnknejokneddbaaGreatDoor
/-! The contracts of the reference's IsTransitive, Check, Is, Rel, Make, Same. -/
namespace Go.Proofs.YtnknejokneddbaaGreatDoor
open Go.RowKit

theorem grew_same {n : Nat} {R : Nat → Nat → Bool} (h : Supp n R) : (!grewC n R n) = sameR n R (clo n R) := by
 rw [Bool.eq_iff_iff, sameR_iff h (clo_supp h), Bool.not_eq_true']
 constructor
 ·intro e
  exact (grewC_none h n e).symm
 ·intro e
  cases g : grewC n R n
  ·rfl
  ·exact absurd e.symm ((grewC_iff h).1 g)

set_option maxHeartbeats 1000000 in
theorem matTrans_b (lo hi p n : Nat) (R : Nat → Nat → Bool) (r : Bool) (w : World) (h : IsMat w lo hi p n R) (hr : (!grewC n R n) = r) : Calls Tryz.prog 117 #[.pointer (some ⟨p, 0, none⟩)] w fun e w' => e = .returned (.bool r) ∧ w.grownBy w' none := by
 have HR : Hid (sameR n R (clo n R) = r) := Lib.hid (by rw [← hr, grew_same h.supp])
 have H := Lib.hid h
 clear h hr
 go_enter Tryz.func117, Tryz.ntmps117
 go_wp2_with fail
 refine (matClosure_c _ _ _ _ R _ (by exact H.out)).mono ?_
 rintro e w1 ⟨q, rfl, hq, hg1⟩
 have H1 := Lib.hid (H.out.calm hg1)
 have HQ := Lib.hid hq
 have HG := Lib.hid hg1
 clear hq hg1
 go_wp2_with fail
 refine (matSame_r _ _ _ _ _ _ n R (clo n R) r _ (by exact H1.out) (by exact HQ.out) HR.out).mono ?_
 rintro e w2 ⟨rfl, hg2⟩
 have HG2 := Lib.hid (grownBy_trans HG.out hg2)
 clear hg2
 go_wp2
 go_ret
 exact ⟨rfl, HG2.out⟩

theorem matOf_ok4 (n : Nat) (p : Option Addr) (L c lo hi : Nat) (l : List (Int × Int)) (w : World) (hl : PairsAt w lo hi p L l) (hL : L ≤ 1000000) (hok : ofErr n l = 0) : Calls Tryz.prog 115 #[.int .i64 n, .slice p L c] w fun e w' => ∃ p, e = .returned (.tuple #[.pointer (some ⟨p, 0, none⟩), .int .i64 0]) ∧ IsMat w' w.heap.size w'.heap.size p n (ofL n l) ∧ w.grownBy w' none :=
 (matOf_c n p L c lo hi l w hl hL).mono fun e w' h => by
  rcases h with ⟨_, q, h1, h2, h3⟩ | ⟨h, _⟩
  ·exact ⟨q, h1, h2, h3⟩
  ·exact absurd hok h
theorem matOf_err4 (n : Int) (k : Int) (p : Option Addr) (L c lo hi : Nat) (l : List (Int × Int)) (w : World) (hl : PairsAt w lo hi p L l) (hL : L ≤ 1000000) (hk : ofErr n l = k) (hno : k ≠ 0) : Calls Tryz.prog 115 #[.int .i64 n, .slice p L c] w fun e w' => e = .returned (.tuple #[.pointer none, .int .i64 k]) ∧ w.grownBy w' none :=
 (matOf_c n p L c lo hi l w hl hL).mono fun e w' h => by
  rcases h with ⟨h0, _⟩ | ⟨_, h1, h2⟩
  ·exact absurd (hk.symm.trans h0) hno
  ·exact ⟨by rw [h1, hk], h2⟩

theorem lab_of_all {L : List ByteArray} (h : L.length ≤ 40) (ha : L.all okS = true) : labErr L = 0 := by unfold labErr; rw [if_neg (by omega), ha]; rfl
theorem lab_of_not {L : List ByteArray} (h : L.length ≤ 40) (ha : L.all okS = false) : labErr L = 10 := by unfold labErr; rw [if_neg (by omega), ha]; rfl

set_option maxRecDepth 20000 in
set_option maxHeartbeats 2000000 in
theorem refCheck_c (p q : Option Addr) (n c m d lo hi : Nat) (L : List ByteArray) (P : List (Int × Int)) (k9 : Int) (w : World) (h : ObjAt w lo hi p n q m L P) (hm : m ≤ 1000000) (hk9 : chk L P = k9) :
  Calls Tryz.prog 83 #[.agg #[.slice p n c, .slice q m d]] w fun e w' => e = .returned (.int .i64 k9) ∧ w.grownBy w' none := by
 have hg0 := World.grownBy_alloc w (.cells #[.slice p n c, .slice q m d] 50) none
 by_cases hn : 40 < n
 ·have h40 : (40 : Int) < n := by omega
  obtain rfl : k9 = 11 := by
   rw [← hk9, chk_lab (k := 11) (by unfold labErr; rw [h.ls.len, if_pos hn]) (by decide)]
  clear h hk9
  go_enter Tryz.func83, Tryz.ntmps83
  go_wp2
  go_ret
  exact ⟨rfl, hg0⟩
 ·have h40 : (n : Int) ≤ 40 := by omega
  have H1 := Lib.hid (h.calm hg0)
  have HLEN := Lib.hid h.ls.len
  have HK := Lib.hid hk9
  have HG0 := Lib.hid hg0
  clear h hk9 hg0
  go_enter Tryz.func83, Tryz.ntmps83
  go_wp2
  go_loop [3] (fun i => ∃ k : Nat, k ≤ n ∧ i = .int .i64 k ∧ Hid ((L.take k).all okS = true)) (fun i => n - (intOf i).toNat)
  case atStart => exact ⟨0, Nat.zero_le _, rfl, Lib.hid rfl⟩
  case round =>
   obtain ⟨k, hk, rfl, HA⟩ := hrel
   by_cases hkn : k < n
   ·obtain ⟨b, off, rfl, q1, q2, q3, hc⟩ := H1.out.ls.cell (by omega)
    have hck := hc k hkn
    have k0 : (k : Int) < n := by omega
    have HS := Lib.hid (all_take okS (L := L) (k := k) (by rw [HLEN.out]; exact hkn))
    have HO := Lib.hid (fun h => all_out okS (L := L) (k := k) (by rw [HLEN.out]; exact hkn) h)
    clear hc
    generalize L[k]?.getD .empty = s at *
    by_cases hs : s.size ≤ 60
    ·have hs' : (s.size : Int) ≤ 60 := by omega
     have HN : Hid ((L.take (k + 1)).all okS = true) := Lib.hid (by rw [HS.out, HA.out]; simpa [okS] using hs)
     go_wp2
     go_round
     case rel => exact ⟨k + 1, by omega, by go_num, HN⟩
     case measure => simp [intOf]; omega
    ·have hs' : (60 : Int) < s.size := by omega
     obtain rfl : k9 = 10 := by
      rw [← HK.out, chk_lab (k := 10) (lab_of_not (by rw [HLEN.out]; omega) (HO.out (by unfold okS; simpa using hs))) (by decide)]
     go_wp2
     go_ret
     exact ⟨rfl, HG0.out⟩
   ·obtain rfl : k = n := by omega
    have k0 : ¬ ((k : Int) < k) := by omega
    have HL : Hid (labErr L = 0) := by
     refine Lib.hid (lab_of_all (by rw [HLEN.out]; omega) ?_)
     have := HA.out
     rw [List.take_of_length_le (by rw [HLEN.out]; exact Nat.le_refl _)] at this
     exact this
    have hn2 : k ≤ 200 := by omega
    cases ha : allIn k P
    ·have HE : Hid (ofErr (k : Int) P = 10) := Lib.hid (by unfold ofErr; rw [if_neg (by omega), Int.toNat_natCast, ha]; rfl)
     obtain rfl : k9 = 10 := by
      rw [← HK.out]
      exact chk_no HL.out (by rw [HLEN.out, ha]; cases risesB P <;> rfl)
     clear ha
     go_wp2_with fail
     refine (matOf_err4 k 10 _ _ _ _ _ P _ (by exact H1.out.ps) hm HE.out (by decide)).mono ?_
     rintro e w1 ⟨rfl, hg1⟩
     have HG1 := Lib.hid (grownBy_trans HG0.out hg1)
     clear hg1
     go_wp2
     go_ret
     exact ⟨rfl, HG1.out⟩
    ·have HE : Hid (ofErr (k : Int) P = 0) := Lib.hid (by unfold ofErr; rw [if_neg (by omega), Int.toNat_natCast, ha]; rfl)
     have HA2 := Lib.hid ha
     clear ha
     go_wp2_with fail
     refine (matOf_ok4 k _ _ _ _ _ P _ (by exact H1.out.ps) hm HE.out).mono ?_
     rintro e w1 ⟨t, rfl, hM, hg1⟩
     have HM := Lib.hid hM
     have b0 := (box2 hg1).1
     have b1 := (box2 hg1).2.1
     have HG1 := Lib.hid (box2 hg1).2.2
     have H2 := Lib.hid (H1.out.calm hg1)
     clear hM hg1
     cases hr : risesB P
     ·have HR := Lib.hid hr
      obtain rfl : k9 = 10 := by
       rw [← HK.out]
       exact chk_no HL.out (by rw [hr]; rfl)
      clear hr
      go_wp2_with fail
      refine (rising_c _ _ _ _ _ P false _ hm (by exact H2.out.ps) HR.out).mono ?_
      rintro e w2 ⟨rfl, hg2⟩
      have HG2 := Lib.hid (grownBy_trans HG1.out hg2)
      clear hg2
      go_wp2
      go_ret
      exact ⟨rfl, HG2.out⟩
     ·have HR := Lib.hid hr
      clear hr
      go_wp2_with fail
      refine (rising_c _ _ _ _ _ P true _ hm (by exact H2.out.ps) HR.out).mono ?_
      rintro e w2 ⟨rfl, hg2⟩
      have HG2 := Lib.hid (grownBy_trans HG1.out hg2)
      have HM2 := Lib.hid (HM.out.calm hg2)
      clear hg2
      cases ht : grewC k (ofL k P) k
      ·have HT := Lib.hid ht
       obtain rfl : k9 = 0 := by
        rw [← HK.out]
        exact chk_ok HL.out (by rw [HLEN.out, HR.out, HA2.out, ht]; rfl)
       clear ht
       go_wp2_with fail
       refine (matTrans_b _ _ _ _ _ true _ (by exact HM2.out) (by rw [HT.out]; rfl)).mono ?_
       rintro e w3 ⟨rfl, hg3⟩
       have HG3 := Lib.hid (grownBy_trans HG2.out hg3)
       clear hg3
       go_wp2
       go_ret
       exact ⟨rfl, HG3.out⟩
      ·have HT := Lib.hid ht
       obtain rfl : k9 = 10 := by
        rw [← HK.out]
        exact chk_no HL.out (by rw [HLEN.out, HR.out, HA2.out, ht]; rfl)
       clear ht
       go_wp2_with fail
       refine (matTrans_b _ _ _ _ _ false _ (by exact HM2.out) (by rw [HT.out]; rfl)).mono ?_
       rintro e w3 ⟨rfl, hg3⟩
       have HG3 := Lib.hid (grownBy_trans HG2.out hg3)
       clear hg3
       go_wp2
       go_ret
       exact ⟨rfl, HG3.out⟩

set_option maxHeartbeats 1000000 in
theorem refIs_c (p q : Option Addr) (n c m d lo hi : Nat) (L : List ByteArray) (P : List (Int × Int)) (r : Bool) (w : World) (h : ObjAt w lo hi p n q m L P) (hm : m ≤ 1000000) (hk : (chk L P == 0) = r) :
  Calls Tryz.prog 51 #[.agg #[.slice p n c, .slice q m d]] w fun e w' => e = .returned (.bool r) ∧ w.grownBy w' none := by
 have h1 := h.calm (World.grownBy_alloc w (.cells #[.slice p n c, .slice q m d] 50) none)
 have H1 := Lib.hid h1
 have HK := Lib.hid hk
 clear h h1 hk
 generalize hq : chk L P = k at *
 have HQ := Lib.hid hq
 clear hq
 go_enter Tryz.func51, Tryz.ntmps51
 go_wp2_with fail
 refine (refCheck_c _ _ _ _ _ _ _ _ L P k _ (by exact H1.out) hm HQ.out).mono ?_
 rintro e w1 ⟨rfl, hg⟩
 have HG := Lib.hid (box2 hg).2.2
 clear hg
 go_wp2
 go_ret
 exact ⟨by rw [HK.out]; rfl, HG.out⟩

set_option maxHeartbeats 1000000 in
theorem refRel_c (p q : Option Addr) (n c m d lo hi : Nat) (L : List ByteArray) (P : List (Int × Int)) (w : World) (h : ObjAt w lo hi p n q m L P) (hm : m ≤ 1000000) :
  Calls Tryz.prog 52 #[.agg #[.slice p n c, .slice q m d]] w (MatPost (objN L P) (objR L P) w) := by
 have h1 := h.calm (World.grownBy_alloc w (.cells #[.slice p n c, .slice q m d] 50) none)
 have H1 := Lib.hid h1
 have HLEN := Lib.hid h.ls.len
 clear h h1
 by_cases h0 : chk L P = 0
 ·have HO : Hid (objN L P = n ∧ objR L P = ofL n P) := Lib.hid ⟨by unfold objN; rw [if_pos h0, HLEN.out], by unfold objR; rw [if_pos h0, HLEN.out]⟩
  have hl : labErr L = 0 := by
   unfold chk at h0
   by_cases e : labErr L = 0
   ·exact e
   ·rw [if_pos e] at h0; exact absurd h0 e
  have hn : n ≤ 40 := by have := lab_small hl; rw [HLEN.out] at this; exact this
  have HK := Lib.hid h0
  clear h0 hl
  go_enter Tryz.func52, Tryz.ntmps52
  go_wp2_with fail
  refine (refIs_c _ _ _ _ _ _ _ _ L P true _ (by exact H1.out) hm (by rw [HK.out]; rfl)).mono ?_
  rintro e w1 ⟨rfl, hg⟩
  have b0 := (box2 hg).1
  have b1 := (box2 hg).2.1
  have HG := Lib.hid (box2 hg).2.2
  have H2 := Lib.hid (H1.out.calm hg)
  clear hg
  go_wp2_with fail
  refine (matSome_c n _ _ _ _ _ P _ (by omega) (by exact H2.out.ps) hm).mono ?_
  rintro e w2 ⟨r, rfl, hM, hg2⟩
  have HM := Lib.hid hM
  have hsz := HG.out.size
  have HG2 := Lib.hid (grownBy_trans HG.out hg2)
  clear hM hg2
  go_wp2
  go_ret
  refine ⟨r, rfl, ?_, HG2.out⟩
  rw [HO.out.1, HO.out.2]
  exact HM.out.outer hsz (Nat.le_refl _)
 ·have HO : Hid (objN L P = 0 ∧ objR L P = fun _ _ => false) := Lib.hid ⟨by unfold objN; rw [if_neg h0], by unfold objR; rw [if_neg h0]⟩
  have HK : Hid ((chk L P == 0) = false) := Lib.hid (by simpa using h0)
  clear h0
  go_enter Tryz.func52, Tryz.ntmps52
  go_wp2_with fail
  refine (refIs_c _ _ _ _ _ _ _ _ L P false _ (by exact H1.out) hm HK.out).mono ?_
  rintro e w1 ⟨rfl, hg⟩
  have HG := Lib.hid (box2 hg).2.2
  clear hg
  go_wp2_with fail
  refine (matNew_c 0 _ (by omega)).mono ?_
  rintro e w2 ⟨r, rfl, hM, hg2⟩
  have HM := Lib.hid hM
  have hsz := HG.out.size
  have HG2 := Lib.hid (grownBy_trans HG.out hg2)
  clear hM hg2
  go_wp2
  go_ret
  refine ⟨r, rfl, ?_, HG2.out⟩
  rw [HO.out.1, HO.out.2]
  exact HM.out.outer hsz (Nat.le_refl _)

end Go.Proofs.YtnknejokneddbaaGreatDoor
/-! The contracts of the reference's Make and Same. -/
namespace Go.Proofs.YtnknejokneddbaaGreatDoor
open Go.RowKit

end Go.Proofs.YtnknejokneddbaaGreatDoor

namespace Go.Proofs.YtnknejokneddbaaGreatDoor
open Go.RowKit

end Go.Proofs.YtnknejokneddbaaGreatDoor
/-! The reference's Arrow and Inverse (package centoref4). -/
namespace Go.Proofs.YtnknejokneddbaaGreatDoor
open Go.RowKit

theorem matHas_z (lo hi p n : Nat) (a b : Int) (R : Nat → Nat → Bool) (r : Bool) (w : World) (h : IsMat w lo hi p n R) (hr : hasI n R a b = r) : Calls Tryz.prog 53 #[.pointer (some ⟨p, 0, none⟩), .int .i64 a, .int .i64 b] w fun e w' => e = .returned (.bool r) ∧ w' = w := by
 rw [← hr]
 exact matHas_r lo hi p n a b R w h

set_option maxRecDepth 20000 in
set_option maxHeartbeats 2000000 in
theorem refArrow_r (p q p' q' pf : Option Addr) (n c m d n' c' m' d' nf cf lo hi lo' hi' lof hif : Nat) (L L' : List ByteArray) (P P' : List (Int × Int)) (f : List Int) (r : Bool) (w : World) (h : ObjAt w lo hi p n q m L P) (h' : ObjAt w lo' hi' p' n' q' m' L' P') (hf : ZsAt w lof hif pf nf f) (hn : nf ≤ 1000000) (hm : m ≤ 1000000) (hm' : m' ≤ 1000000)
  (hr : arB L P L' P' f = r) :
  Calls Tryz.prog 30 #[.agg #[.slice p n c, .slice q m d], .agg #[.slice p' n' c', .slice q' m' d'], .slice pf nf cf] w fun e w' => e = .returned (.bool r) ∧ w.grownBy w' none := by
 have hg0 := grownBy_trans (World.grownBy_alloc w (.cells #[.slice p n c, .slice q m d] 50) none) (World.grownBy_alloc _ (.cells #[.slice p' n' c', .slice q' m' d'] 50) none)
 have hbx := box22 (grownBy_refl ((w.alloc (.cells #[.slice p n c, .slice q m d] 50)).alloc (.cells #[.slice p' n' c', .slice q' m' d'] 50)) none)
 have HE0 : Hid (Env3 ((w.alloc (.cells #[.slice p n c, .slice q m d] 50)).alloc (.cells #[.slice p' n' c', .slice q' m' d'] 50)) w.heap.size lo hi lo' hi' lof hif p q p' q' pf n c m d n' c' m' d' nf L L' P P' f) :=
  Lib.hid ⟨h.calm hg0, h'.calm hg0, hf.calm hg0, hbx.1.1, hbx.1.2, hbx.2.1.1, hbx.2.1.2, by simp⟩
 have HG0 := Lib.hid hg0
 have HLF := Lib.hid hf.len
 have HLL := Lib.hid h.ls.len
 have HLL' := Lib.hid h'.ls.len
 have HPL := Lib.hid h.ps.len
 have HR := Lib.hid hr
 clear h h' hf hr hg0 hbx
 cases ha : chk L P == 0
 ·have HA := Lib.hid ha
  obtain rfl : r = false := by rw [← HR.out]; unfold arB; rw [ha]; rfl
  clear ha
  go_enter Tryz.func30, Tryz.ntmps30
  go_wp2_with fail
  refine (refIs_c _ _ _ _ _ _ _ _ L P false _ (by exact HE0.out.a) hm HA.out).mono ?_
  rintro e w1 ⟨rfl, hg⟩
  have HG := Lib.hid (grownBy_trans HG0.out hg)
  clear hg
  go_wp2
  go_ret
  exact ⟨rfl, HG.out⟩
 ·have HA := Lib.hid ha
  clear ha
  go_enter Tryz.func30, Tryz.ntmps30
  go_wp2_with fail
  refine (refIs_c _ _ _ _ _ _ _ _ L P true _ (by exact HE0.out.a) hm HA.out).mono ?_
  rintro e w1 ⟨rfl, hg⟩
  have HE1 := Lib.hid (HE0.out.calm hg)
  have HG1 := Lib.hid (grownBy_trans HG0.out hg)
  have b2 := HE1.out.b2
  have b3 := HE1.out.b3
  clear hg HE0 HG0
  cases hb : chk L' P' == 0
  ·have HB := Lib.hid hb
   obtain rfl : r = false := by rw [← HR.out]; unfold arB; rw [hb, HA.out]; rfl
   clear hb
   go_wp2_with fail
   refine (refIs_c _ _ _ _ _ _ _ _ L' P' false _ (by exact HE1.out.b) hm' HB.out).mono ?_
   rintro e w2 ⟨rfl, hg2⟩
   have HG := Lib.hid (grownBy_trans HG1.out hg2)
   clear hg2
   go_wp2
   go_ret
   exact ⟨rfl, HG.out⟩
  ·have HB := Lib.hid hb
   clear hb
   go_wp2_with fail
   refine (refIs_c _ _ _ _ _ _ _ _ L' P' true _ (by exact HE1.out.b) hm' HB.out).mono ?_
   rintro e w2 ⟨rfl, hg2⟩
   have HE2 := Lib.hid (HE1.out.calm hg2)
   have HG2 := Lib.hid (grownBy_trans HG1.out hg2)
   clear b2 b3 hg2
   have b0 := HE2.out.b0
   clear HE1 HG1
   by_cases hl : nf = n
   ·subst hl
    have hbb : ((nf : Int) != (nf : Int)) = false := by simp
    have HR2 : Hid ((labK L L' f nf && prB (objN L' P') (objR L' P') P f) = r) := Lib.hid (by rw [← HR.out]; unfold arB labB; rw [HB.out, HA.out, HLF.out, HLL.out]; simp)
    have HIN : Hid (allIn nf P = true) := Lib.hid (by
     have e1 := (chk_in (by simpa using HA.out)).2.2.1
     rw [HLL.out] at e1
     exact e1)
    go_wp2
    clear b0
    go_loopw [7] (fun i wr => ∃ k : Nat, k ≤ nf ∧ i = .int .i64 k ∧ Hid (labK L L' f k = true) ∧ w2.grownBy wr none) (fun i _ => nf - (intOf i).toNat)
    case atStart => exact ⟨0, Nat.zero_le _, rfl, Lib.hid rfl, grownBy_refl _ _⟩
    case round =>
     obtain ⟨k, hk, rfl, HT, hgr⟩ := hrel
     have HE3 := Lib.hid (HE2.out.calm hgr)
     have HGR := Lib.hid (grownBy_trans HG2.out hgr)
     have HGR1 := Lib.hid hgr
     clear hgr
     have b0 := HE3.out.b0
     have b2 := HE3.out.b2
     by_cases hkn : k < nf
     ·obtain ⟨bf, of', rfl, q1, q2, q3, hcf⟩ := HE3.out.f.cell (by omega)
      have xf := hcf k hkn
      have HSC := Lib.hid (labK_succ L L' f k)
      have HNT := Lib.hid (fun h => labK_not (L := L) (L' := L') (f := f) hkn h)
      obtain ⟨b1', o1, rfl, s1, s2, s3, hc1⟩ := HE3.out.a.ls.cell (by omega)
      have x1 := hc1 k hkn
      clear hcf hc1
      have k0 : (0 : Int) ≤ k := by omega
      have k1 : (k : Int) < nf := by omega
      have HL1 : Hid (lab1 L L' f k = (hasZ n' (f[k]?.getD 0) && decide (L[k]?.getD .empty = L'[(f[k]?.getD 0).toNat]?.getD .empty))) := Lib.hid (by unfold lab1; rw [HLL'.out])
      generalize f[k]?.getD 0 = z at *
      generalize L[k]?.getD .empty = u at *
      by_cases h0 : z < 0
      ·have hz0 : decide (z < 0) = true := by simpa using h0
       obtain rfl : r = false := by rw [← HR2.out, HNT.out (by rw [HL1.out, hasZ_not.2 (.inl h0)]; rfl)]; rfl
       go_wp2
       go_quiet (fail)
       go_wp2
       go_ret
       exact ⟨rfl, grownBy_trans HGR.out (grownBy_drewN _ _ none)⟩
      ·have h00 : 0 ≤ z := by omega
       obtain ⟨y, rfl⟩ := Int.eq_ofNat_of_zero_le h00
       have hz0 : decide ((y : Int) < 0) = false := decide_eq_false (by omega)
       by_cases h1 : y < n'
       ·have hz1 : ((n' : Int) ≤ (y : Int)) = False := eq_false (by omega)
        obtain ⟨b2', o2, rfl, r1, r2, r3, hc2⟩ := HE3.out.b.ls.cell (by omega)
        have y1 := hc2 y h1
        have HL2 : Hid (lab1 L L' f k = decide (u = L'[y]?.getD .empty)) := Lib.hid (by rw [HL1.out, hasZ_iff.2 ⟨h00, by omega⟩, Int.toNat_natCast]; rfl)
        have h1i : (y : Int) < n' := by omega
        clear hc2 HL1
        generalize L'[y]?.getD .empty = v at *
        by_cases he : u = v
        ·have hN : (u.toList == v.toList) = true := by rw [str_eq]; simpa using he
         have HNX : Hid (labK L L' f (k + 1) = true) := Lib.hid (by rw [HSC.out, HT.out, HL2.out]; simpa using he)
         clear he
         go_wp2
         go_quiet (fail)
         go_wp2
         exact ⟨⟨k + 1, by omega, by go_num, HNX, grownBy_trans HGR1.out (grownBy_drewN _ _ none)⟩, by simp [intOf]; omega⟩
        ·have hN : (u.toList == v.toList) = false := by rw [str_eq]; simpa using he
         obtain rfl : r = false := by rw [← HR2.out, HNT.out (by rw [HL2.out]; simpa using he)]; rfl
         clear he
         go_wp2
         go_quiet (fail)
         go_wp2
         go_ret
         exact ⟨rfl, grownBy_trans HGR.out (grownBy_drewN _ _ none)⟩
       ·have hz1 : ((n' : Int) ≤ (y : Int)) := by omega
        obtain rfl : r = false := by rw [← HR2.out, HNT.out (by rw [HL1.out, hasZ_not.2 (.inr (by omega))]; rfl)]; rfl
        go_wp2
        go_quiet (fail)
        go_wp2
        go_ret
        exact ⟨rfl, grownBy_trans HGR.out (grownBy_drewN _ _ none)⟩
     ·obtain rfl : k = nf := by omega
      have k1 : ¬ ((k : Int) < k) := by omega
      have b3 := HE3.out.b3
      have HPB : Hid (prB (objN L' P') (objR L' P') P f = r) := Lib.hid (by rw [← HR2.out, HT.out]; rfl)
      generalize hN : objN L' P' = N at *
      generalize hRR : objR L' P' = R at *
      have HNN := Lib.hid hN
      have HRR := Lib.hid hRR
      clear hN hRR
      go_wp2_with fail
      refine (refRel_c _ _ _ _ _ _ _ _ L' P' _ (by exact HE3.out.b) hm').mono ?_
      rw [HNN.out, HRR.out]
      rintro e w4 ⟨t, rfl, hrel, hg4⟩
      have HREL := Lib.hid hrel
      have HE4 := Lib.hid (HE3.out.calm hg4)
      have HG4 := Lib.hid (grownBy_trans HGR.out hg4)
      clear hrel hg4 b0 b2 b3
      go_wp2
      go_loopw [9] (fun i wr => ∃ k : Nat, k ≤ m ∧ i = .int .i64 k ∧ Hid (prB N R (P.take k) f = true) ∧ w4.grownBy wr none) (fun i _ => m - (intOf i).toNat)
      case atStart => exact ⟨0, Nat.zero_le _, rfl, Lib.hid rfl, grownBy_refl _ _⟩
      case round =>
       obtain ⟨j, hj, rfl, HTJ, hgj⟩ := hrel
       have HE5 := Lib.hid (HE4.out.calm hgj)
       have HG5 := Lib.hid (grownBy_trans HG4.out hgj)
       have HG51 := Lib.hid hgj
       have HREL5 := Lib.hid (HREL.out.calm hgj)
       clear hgj
       have b1 := HE5.out.b1
       by_cases hjm : j < m
       ·have j0 : (0 : Int) ≤ j := by omega
        have j1 : (j : Int) < m := by omega
        obtain ⟨bp, op, rfl, q1, q2, q3, hcp⟩ := HE5.out.a.ps.cell (by omega)
        obtain ⟨c0, c1⟩ := hcp j hjm
        have HI := Lib.hid (inI_of_all (k := j) HIN.out (by rw [HPL.out]; exact hjm))
        have HSC := Lib.hid (prB_succ (N := N) (R := R) (f := f) (P := P) (k := j) (by rw [HPL.out]; exact hjm))
        have HNT := Lib.hid (fun h => prB_not (N := N) (R := R) (f := f) (P := P) (k := j) (by rw [HPL.out]; exact hjm) h)
        clear hcp
        obtain ⟨x, hx⟩ : ∃ x, x = P[j]?.getD (0, 0) := ⟨_, rfl⟩
        rw [← hx] at c0 c1 HI HSC HNT
        clear hx
        obtain ⟨xa, xb⟩ := x
        obtain ⟨a0, a1, a2, a3⟩ : 0 ≤ xa ∧ xa < k ∧ 0 ≤ xb ∧ xb < k := by have := HI.out; unfold inI at this; simp only at this; omega
        obtain ⟨ya, rfl⟩ := Int.eq_ofNat_of_zero_le a0
        obtain ⟨yb, rfl⟩ := Int.eq_ofNat_of_zero_le a2
        obtain ⟨bf, of', rfl, s1, s2, s3, hcf⟩ := HE5.out.f.cell (by omega)
        have fa := hcf ya (by omega)
        have fb := hcf yb (by omega)
        have HP1 : Hid (pr1 N R f ((ya : Int), (yb : Int)) = hasI N R (f[ya]?.getD 0) (f[yb]?.getD 0)) := Lib.hid (by simp [pr1])
        clear hcf
        simp only at c0 c1
        generalize f[ya]?.getD 0 = u at *
        generalize f[yb]?.getD 0 = v at *
        cases hh : hasI N R u v
        ·have HH := Lib.hid hh
         obtain rfl : r = false := by rw [← HPB.out]; exact HNT.out (by rw [HP1.out, hh])
         clear hh
         go_wp2
         go_quiet ((go_at_call 53; exact Calls.quiet_of_same (matHas_z _ _ t N u v R false _ (by exact HREL5.out.calm (grownBy_drewN _ _ none)) HH.out)))
         go_wp2
         go_ret
         exact ⟨rfl, grownBy_trans HG5.out (grownBy_drewN _ _ none)⟩
        ·have HH := Lib.hid hh
         have HNX : Hid (prB N R (P.take (j + 1)) f = true) := Lib.hid (by rw [HSC.out, HTJ.out, HP1.out, hh]; rfl)
         clear hh
         go_wp2
         go_quiet ((go_at_call 53; exact Calls.quiet_of_same (matHas_z _ _ t N u v R true _ (by exact HREL5.out.calm (grownBy_drewN _ _ none)) HH.out)))
         go_wp2
         exact ⟨⟨j + 1, by omega, by go_num, HNX, grownBy_trans HG51.out (grownBy_drewN _ _ none)⟩, by simp [intOf]; omega⟩
       ·obtain rfl : j = m := by omega
        have j1 : ¬ ((j : Int) < j) := by omega
        obtain rfl : r = true := by
         have := HTJ.out
         rw [List.take_of_length_le (by rw [HPL.out]; exact Nat.le_refl _)] at this
         rw [← HPB.out, this]
        go_wp2
        go_ret
        exact ⟨rfl, HG5.out⟩
   ·have hbb : ((nf : Int) != (n : Int)) = true := by simp; omega
    obtain rfl : r = false := by rw [← HR.out]; unfold arB labB; rw [HB.out, HA.out, HLF.out, HLL.out, decide_eq_false hl]; rfl
    clear hl
    go_wp2
    go_ret
    exact ⟨rfl, HG2.out⟩

end Go.Proofs.YtnknejokneddbaaGreatDoor

namespace Go.Proofs.YtnknejokneddbaaGreatDoor

theorem objN_ok {L : List ByteArray} {P : List (Int × Int)} (h : chk L P = 0) : objN L P = L.length := by unfold objN; rw [if_pos h]
theorem objR_ok {L : List ByteArray} {P : List (Int × Int)} (h : chk L P = 0) : objR L P = ofL L.length P := by unfold objR; rw [if_pos h]
theorem hasI_iff {n : Nat} {R : Nat → Nat → Bool} {a b : Int} : hasI n R a b = true ↔ (0 ≤ a ∧ a < n) ∧ (0 ≤ b ∧ b < n) ∧ R a.toNat b.toNat = true := by
 unfold hasI
 simp only [Bool.and_eq_true, decide_eq_true_eq]
theorem hasI_ofL {n : Nat} {P : List (Int × Int)} {a b : Int} : hasI n (ofL n P) a b = true ↔ (0 ≤ a ∧ a < n) ∧ (0 ≤ b ∧ b < n) ∧ (a, b) ∈ P := by
 rw [hasI_iff]
 constructor
 ·rintro ⟨h1, h2, h3⟩
  refine ⟨h1, h2, ?_⟩
  have := ((ofL_iff n P _ _).1 h3).2.2
  rw [Int.toNat_of_nonneg h1.1, Int.toNat_of_nonneg h2.1] at this
  exact this
 ·rintro ⟨h1, h2, h3⟩
  refine ⟨h1, h2, (ofL_iff n P _ _).2 ⟨by omega, by omega, ?_⟩⟩
  rw [Int.toNat_of_nonneg h1.1, Int.toNat_of_nonneg h2.1]
  exact h3
theorem arB_mk {L : List ByteArray} {P : List (Int × Int)} {L' : List ByteArray} {P' : List (Int × Int)} {f : List Int} (h1 : chk L P = 0) (h2 : chk L' P' = 0) (h3 : f.length = L.length)
  (h4 : ∀ i, i < f.length → hasZ L'.length (f[i]?.getD 0) = true ∧ L[i]?.getD .empty = L'[(f[i]?.getD 0).toNat]?.getD .empty)
  (h5 : ∀ x ∈ P, (f[x.1.toNat]?.getD 0, f[x.2.toNat]?.getD 0) ∈ P') : arB L P L' P' f = true := by
 have h6 := (chk_in h1).2.2.1
 unfold arB labB
 rw [h1, h2, decide_eq_true h3, objN_ok h2, objR_ok h2]
 simp only [beq_self_eq_true, Bool.true_and, Bool.and_eq_true]
 constructor
 ·unfold labK
  rw [List.all_eq_true]
  intro i hi
  have := h4 i (List.mem_range.1 hi)
  unfold lab1
  rw [this.1, decide_eq_true this.2]
  rfl
 ·unfold prB
  rw [List.all_eq_true]
  intro x hx
  have hin : inI L.length x.1 x.2 := of_decide_eq_true (List.all_eq_true.1 h6 x hx)
  unfold inI at hin
  unfold pr1
  have q1 := hasZ_iff.1 (h4 x.1.toNat (by omega)).1
  have q2 := hasZ_iff.1 (h4 x.2.toNat (by omega)).1
  exact hasI_ofL.2 ⟨q1, q2, h5 x hx⟩
end Go.Proofs.YtnknejokneddbaaGreatDoor
