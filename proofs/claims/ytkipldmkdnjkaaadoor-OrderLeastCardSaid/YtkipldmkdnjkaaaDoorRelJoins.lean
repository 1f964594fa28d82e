/- The walk of the statement RelJoins: at every input it answers true and leaves all that lay as it lay. Condition: the table of the lowest places is in memory. -/
import Derived.Test.YtkipldmkdnjkaaaDoorKnow2
namespace Go.Proofs.YtkipldmkdnjkaaaDoor
open Go.RowKit

/-- Pairs joined one by one. -/
def joinL (n : Nat) (l : List (Int × Int)) : Nat → Nat → Bool := l.foldl (joinI n) (fun _ _ => false)
theorem joinL_snoc (n : Nat) (l : List (Int × Int)) (p : Int × Int) : joinL n (l ++ [p]) = joinI n (joinL n l) p := by simp [joinL]
theorem joinL_take {n : Nat} {l : List (Int × Int)} {k : Nat} (hk : k < l.length) : joinL n (l.take (k + 1)) = joinI n (joinL n (l.take k)) (l[k]?.getD (0, 0)) := by
  rw [List.take_succ_eq_append_getElem hk, joinL_snoc, List.getElem?_eq_getElem hk]
  rfl

theorem addI_mono {n : Nat} {R T : Nat → Nat → Bool} (h : Sub R T) (p : Int × Int) : Sub (addI n R p) (addI n T p) := by
  unfold addI
  split
  · intro x y e
    rcases (addR_iff _ _ _ _ _).1 e with e | e
    · exact (addR_iff _ _ _ _ _).2 (.inl (h x y e))
    · exact (addR_iff _ _ _ _ _).2 (.inr e)
  · exact h

theorem addI_clo {n : Nat} {R : Nat → Nat → Bool} (h : Supp n R) (p : Int × Int) : clo n (addI n (clo n R) p) = clo n (addI n R p) := by
  apply Sub.antisymm
  · apply clo_least _ (clo_trans (addI_supp h p))
    intro x y e
    unfold addI at e
    split at e
    · rename_i hin
      rcases (addR_iff _ _ _ _ _).1 e with e | ⟨e1, e2⟩
      · exact clo_mono (addI_sub n R p) (addI_supp h p) x y e
      · apply clo_sub
        unfold addI
        rw [if_pos hin]
        exact (addR_iff _ _ _ _ _).2 (.inr ⟨e1, e2⟩)
    · exact clo_mono (addI_sub n R p) (addI_supp h p) x y e
  · exact clo_mono (addI_mono (clo_sub n R) p) (addI_supp (clo_supp h) p)

/-- Pairs joined one by one come to the closure of them all. -/
theorem joinL_clo (n : Nat) (l : List (Int × Int)) : joinL n l = clo n (ofL n l) := by
  have key : ∀ (l : List (Int × Int)) (R T : Nat → Nat → Bool), Supp n R → T = clo n R → l.foldl (joinI n) T = clo n (l.foldl (addI n) R) := by
    intro l
    induction l with
    | nil => intro R T _ h; exact h
    | cons p l ih =>
      intro R T hs h
      refine ih (addI n R p) (joinI n T p) (addI_supp hs p) ?_
      unfold joinI
      split
      · rw [h, addI_clo hs]
      · rename_i hno
        rw [h]
        have : addI n R p = R := addI_no (a := p.1) (b := p.2) hno
        rw [this]
  exact key l _ _ (supp_none n) (clo_of_trans (fun _ _ _ h => by cases h)).symm

theorem ofL_iff (n : Nat) (l : List (Int × Int)) (x y : Nat) : ofL n l x y = true ↔ x < n ∧ y < n ∧ ((x : Int), (y : Int)) ∈ l := by
  have key : ∀ (l : List (Int × Int)) (R : Nat → Nat → Bool), l.foldl (addI n) R x y = true ↔ R x y = true ∨ (x < n ∧ y < n ∧ ((x : Int), (y : Int)) ∈ l) := by
    intro l
    induction l with
    | nil => intro R; simp
    | cons p l ih =>
      intro R
      rw [List.foldl_cons, ih]
      have : addI n R p x y = true ↔ R x y = true ∨ (x < n ∧ y < n ∧ ((x : Int), (y : Int)) = p) := by
        unfold addI
        split
        · rename_i h
          rw [addR_iff]
          constructor
          · rintro (h1 | ⟨h1, h2⟩)
            · exact .inl h1
            · exact .inr ⟨by omega, by omega, Prod.ext (by simp only; omega) (by simp only; omega)⟩
          · rintro (h1 | ⟨h1, h2, h3⟩)
            · exact .inl h1
            · right
              rw [← h3]
              simp
        · rename_i h
          constructor
          · exact .inl
          · rintro (h1 | ⟨h1, h2, h3⟩)
            · exact h1
            · exfalso
              apply h
              rw [← h3]
              simp only
              omega
      rw [this, List.mem_cons]
      constructor
      · rintro ((h | ⟨h1, h2, h3⟩) | ⟨h1, h2, h3⟩)
        · exact .inl h
        · exact .inr ⟨h1, h2, .inl h3⟩
        · exact .inr ⟨h1, h2, .inr h3⟩
      · rintro (h | ⟨h1, h2, h3 | h3⟩)
        · exact .inl (.inl h)
        · exact .inl (.inr ⟨h1, h2, h3⟩)
        · exact .inr ⟨h1, h2, h3⟩
  have := key l (fun _ _ => false)
  simpa [ofL] using this

/-- Lists of the same pairs. -/
theorem ofL_congr {n : Nat} {l r : List (Int × Int)} (h : ∀ x, x ∈ l ↔ x ∈ r) : ofL n l = ofL n r := by
  funext x y
  rw [Bool.eq_iff_iff, ofL_iff, ofL_iff, h]

/-- The row turned by t. -/
def turnL (l : List (Int × Int)) (t : Nat) : List (Int × Int) := (List.range l.length).map fun i => l[(i + t) % l.length]?.getD (0, 0)
theorem turnL_len (l : List (Int × Int)) (t : Nat) : (turnL l t).length = l.length := by simp [turnL]
theorem turnL_get (l : List (Int × Int)) (t k : Nat) (hk : k < l.length) : (turnL l t)[k]?.getD (0, 0) = l[(k + t) % l.length]?.getD (0, 0) := by
  unfold turnL
  rw [List.getElem?_map, List.getElem?_range hk]
  rfl
theorem turnL_mem (l : List (Int × Int)) (t : Nat) (x : Int × Int) : x ∈ turnL l t ↔ x ∈ l := by
  unfold turnL
  rw [List.mem_map]
  constructor
  · rintro ⟨i, hi, rfl⟩
    have hi' : i < l.length := by simpa using hi
    have hm : (i + t) % l.length < l.length := Nat.mod_lt _ (by omega)
    rw [List.getElem?_eq_getElem hm]
    exact List.getElem_mem hm
  · intro hx
    obtain ⟨j, hj, rfl⟩ := List.mem_iff_getElem.1 hx
    refine ⟨(j + (l.length - t % l.length)) % l.length, by simpa using Nat.mod_lt _ (by omega), ?_⟩
    have e : ((j + (l.length - t % l.length)) % l.length + t) % l.length = j := by
      have ht : t % l.length < l.length := Nat.mod_lt _ (by omega)
      have h1 : ((j + (l.length - t % l.length)) % l.length + t) % l.length = (j + (l.length - t % l.length) + t) % l.length := by
        rw [Nat.add_mod, Nat.mod_mod, ← Nat.add_mod]
      rw [h1]
      have h2 : t = l.length * (t / l.length) + t % l.length := (Nat.div_add_mod t l.length).symm
      have h3 : j + (l.length - t % l.length) + t = j + l.length * (t / l.length + 1) := by
        rw [Nat.mul_add, Nat.mul_one]
        omega
      rw [h3, Nat.add_mul_mod_self_left, Nat.mod_eq_of_lt hj]
    rw [e, List.getElem?_eq_getElem hj]
    rfl

end Go.Proofs.YtkipldmkdnjkaaaDoor
