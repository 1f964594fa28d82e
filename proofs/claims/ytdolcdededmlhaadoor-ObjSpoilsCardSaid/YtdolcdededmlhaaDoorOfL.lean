/- The relation of a list of pairs, in plain lists. -/
import Derived.Test.YtdolcdededmlhaaDoorRelO
namespace Go.Proofs.YtdolcdededmlhaaDoor
open Go.RowKit

theorem ofL_iff (n : Nat) (l : List (Int × Int)) (x y : Nat) : ofL n l x y = true ↔ x < n ∧ y < n ∧ ((x : Int), (y : Int)) ∈ l := by
  have key : ∀ (l : List (Int × Int)) (R : Nat → Nat → Bool), l.foldl (addI n) R x y = true ↔ R x y = true ∨ (x < n ∧ y < n ∧ ((x : Int), (y : Int)) ∈ l) := by
    intro l
    induction l with
    | nil => intro R; simp
    | cons p l ih =>
      intro R
      rw [List.foldl_cons, ih]
      have : addI n R p x y = true ↔ R x y = true ∨ (x < n ∧ y < n ∧ ((x : Int), (y : Int)) = p) := by
        unfold addI
        split
        · rename_i h
          rw [addR_iff]
          constructor
          · rintro (h1 | ⟨h1, h2⟩)
            · exact .inl h1
            · exact .inr ⟨by omega, by omega, Prod.ext (by simp only; omega) (by simp only; omega)⟩
          · rintro (h1 | ⟨h1, h2, h3⟩)
            · exact .inl h1
            · right
              rw [← h3]
              simp
        · rename_i h
          constructor
          · exact .inl
          · rintro (h1 | ⟨h1, h2, h3⟩)
            · exact h1
            · exfalso
              apply h
              rw [← h3]
              simp only
              omega
      rw [this, List.mem_cons]
      constructor
      · rintro ((h | ⟨h1, h2, h3⟩) | ⟨h1, h2, h3⟩)
        · exact .inl h
        · exact .inr ⟨h1, h2, .inl h3⟩
        · exact .inr ⟨h1, h2, .inr h3⟩
      · rintro (h | ⟨h1, h2, h3 | h3⟩)
        · exact .inl (.inl h)
        · exact .inl (.inr ⟨h1, h2, h3⟩)
        · exact .inr ⟨h1, h2, h3⟩
  have := key l (fun _ _ => false)
  simpa [ofL] using this

/-- Lists of the same pairs. -/
theorem ofL_congr {n : Nat} {l r : List (Int × Int)} (h : ∀ x, x ∈ l ↔ x ∈ r) : ofL n l = ofL n r := by
  funext x y
  rw [Bool.eq_iff_iff, ofL_iff, ofL_iff, h]

theorem ofL_pairsL {n : Nat} {R : Nat → Nat → Bool} (h : Supp n R) : ofL n (pairsL n R n) = R := by
  funext x y
  have h1 := ofL_iff n (pairsL n R n) x y
  rw [pairsL_mem] at h1
  cases hr : R x y
  · cases ho : ofL n (pairsL n R n) x y
    · rfl
    · have := (h1.1 ho).2.2.2.2
      rw [hr] at this
      cases this
  · have := h x y hr
    exact h1.2 ⟨this.1, this.2, this.1, this.2, hr⟩
theorem pairsL_in {n : Nat} {R : Nat → Nat → Bool} : ∀ p ∈ pairsL n R n, inI n p.1 p.2 := by
  intro p hp
  unfold pairsL at hp
  rw [List.mem_flatMap] at hp
  obtain ⟨a, ha, hb⟩ := hp
  rw [List.mem_map] at hb
  obtain ⟨b, hb, rfl⟩ := hb
  have h1 : a < n := by simpa using ha
  have h2 : b < n := by unfold onL at hb; simpa using (List.mem_filter.1 hb).1
  unfold inI
  simp only
  omega
theorem pairsL_ok {n : Nat} {R : Nat → Nat → Bool} (hn : n ≤ 200) : ofErr n (pairsL n R n) = 0 := by
  unfold ofErr
  rw [if_neg (by omega), Int.toNat_natCast, if_pos]
  unfold allIn
  rw [List.all_eq_true]
  intro p hp
  simpa using pairsL_in p hp

end Go.Proofs.YtdolcdededmlhaaDoor
