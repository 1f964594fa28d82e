/- What the program's table of matchings holds, in plain words: the places of a text, a row out of the one behind it. -/
import Derived.Test.YtbobbpghdfhkgaaLcsQ
namespace Go.Proofs.Ytbobbpghdfhkgaa
section
variable {α : Type} [DecidableEq α] {a b : List α} {x : α} {i k n p : Nat}

/-- The places of b ahead of place n that hold x. -/
def plcL (b : List α) (x : α) (n : Nat) : List Nat := (List.range n).filter fun q => decide (b[q]? = some x)
theorem plcL_succ (b : List α) (x : α) (n : Nat) : plcL b x (n + 1) = plcL b x n ++ (if b[n]? = some x then [n] else []) := by
  unfold plcL
  rw [List.range_succ, List.filter_append]
  congr 1
  by_cases h : b[n]? = some x
  · rw [if_pos h, List.filter_cons_of_pos (by simpa using h), List.filter_nil]
  · rw [if_neg h, List.filter_cons_of_neg (by simpa using h), List.filter_nil]
theorem plcL_mem {q : Nat} : q ∈ plcL b x n ↔ q < n ∧ b[q]? = some x := by
  unfold plcL
  rw [List.mem_filter, List.mem_range, decide_eq_true_eq]
theorem plcL_len (b : List α) (x : α) (n : Nat) : (plcL b x n).length ≤ n := by
  unfold plcL
  exact Nat.le_trans (List.length_filter_le _ _) (by rw [List.length_range]; exact Nat.le_refl _)
theorem plcL_sorted (b : List α) (x : α) (n : Nat) : (plcL b x n).Pairwise (· < ·) := List.pairwise_lt_range.filter _
theorem plcL_get {j : Nat} (hj : j < (plcL b x n).length) : (plcL b x n)[j]?.getD 0 < n ∧ b[(plcL b x n)[j]?.getD 0]? = some x := by
  rw [List.getElem?_eq_getElem hj, Option.getD_some]
  exact plcL_mem.1 (List.getElem_mem hj)
theorem plcL_at {q : Nat} (h : q < n) (e : b[q]? = some x) : ∃ j, j < (plcL b x n).length ∧ (plcL b x n)[j]?.getD 0 = q := by
  obtain ⟨j, hj, e2⟩ := List.getElem_of_mem (plcL_mem.2 ⟨h, e⟩ : q ∈ plcL b x n)
  exact ⟨j, hj, by rw [List.getElem?_eq_getElem hj, Option.getD_some, e2]⟩
theorem plcL_mono {i j : Nat} (hij : i ≤ j) (hj : j < (plcL b x n).length) : (plcL b x n)[i]?.getD 0 ≤ (plcL b x n)[j]?.getD 0 := by
  rcases Nat.eq_or_lt_of_le hij with rfl | h
  · exact Nat.le_refl _
  · have := List.pairwise_iff_getElem.1 (plcL_sorted b x n) i j (by omega) hj h
    rw [List.getElem?_eq_getElem hj, List.getElem?_eq_getElem (by omega : i < (plcL b x n).length)]
    exact Nat.le_of_lt this
theorem plcL_least {j : Nat} (hj : j < (plcL b x n).length) (hlow : ∀ i, i < j → (plcL b x n)[i]?.getD 0 < k) : ∀ q, k ≤ q → q < (plcL b x n)[j]?.getD 0 → b[q]? ≠ some x := by
  intro q h1 h2 h3
  have := (plcL_get hj).1
  obtain ⟨m, hm, e⟩ := plcL_at (n := n) (by omega) h3
  by_cases h4 : m < j
  · have := hlow m h4
    omega
  · have := plcL_mono (by omega : j ≤ m) hm
    omega
theorem plcL_none (hlow : ∀ i, i < (plcL b x n).length → (plcL b x n)[i]?.getD 0 < k) : ∀ q, k ≤ q → q < n → b[q]? ≠ some x := by
  intro q h1 h2 h3
  obtain ⟨m, hm, e⟩ := plcL_at h2 h3
  have := hlow m hm
  omega

/-- The place of b that goes with place i of a where a longest matching begins; -1: none does. -/
noncomputable def placeL (a b : List α) (i k : Nat) : Int := open Classical in if h : ∃ p, nextL a b i k i p then ((Classical.choose h : Nat) : Int) else -1
theorem placeL_some (h : nextL a b i k i p) : placeL a b i k = (p : Int) := by
  have hx : ∃ p, nextL a b i k i p := ⟨p, h⟩
  unfold placeL
  rw [dif_pos hx, ((Classical.choose_spec hx).uniq h).2]
theorem placeL_none (h : ∀ q, k ≤ q → ¬ hitL a b i k i q) : placeL a b i k = -1 := by
  unfold placeL
  rw [dif_neg]
  rintro ⟨p, hp⟩
  exact h p hp.kq hp.hit
theorem nextL_least {q : Nat} (hk : k ≤ q) (h : hitL a b i k i q) : ∃ p, nextL a b i k i p := by
  obtain ⟨p, _, ⟨h1, h2⟩, h3⟩ := @least_ex (fun q => k ≤ q ∧ hitL a b i k i q) (fun _ => Classical.propDecidable _) q ⟨hk, h⟩
  exact ⟨p, Nat.le_refl _, h1, h2, fun p' q' h4 h5 _ _ => absurd h4 (by omega), fun q' h4 h5 h6 => h3 q' h5 ⟨h4, h6⟩⟩
theorem placeL_cases (a b : List α) (i k : Nat) : (placeL a b i k = -1 ∧ ∀ q, k ≤ q → ¬ hitL a b i k i q) ∨ ∃ p : Nat, placeL a b i k = (p : Int) ∧ nextL a b i k i p := by
  by_cases h : ∃ q, k ≤ q ∧ hitL a b i k i q
  · obtain ⟨q, h1, h2⟩ := h
    obtain ⟨p, hp⟩ := nextL_least h1 h2
    exact .inr ⟨p, placeL_some hp, hp⟩
  · have h' : ∀ q, k ≤ q → ¬ hitL a b i k i q := fun q h1 h2 => h ⟨q, h1, h2⟩
    exact .inl ⟨placeL_none h', h'⟩

theorem tab_skip (hi : i < a.length) (hp : p ≤ b.length) : ∀ (d k : Nat), k + d = p → (∀ q, k ≤ q → q < p → b[q]? ≠ a[i]?) → tabL a b i k = max (tabL a b (i + 1) k) (tabL a b i p)
  | 0, k, e, _ => by
    obtain rfl : k = p := by omega
    have := tabL_up a b i k
    omega
  | d + 1, k, e, h => by
    have ih := tab_skip hi hp d (k + 1) (by omega) (fun q h1 h2 => h q (by omega) h2)
    have h1 := tabL_other hi (by omega : k < b.length) (fun e => h k (Nat.le_refl _) (by omega) e.symm)
    have h2 := tabL_along a b (i + 1) k
    omega
/-- No place holds it: the row as it is behind. -/
theorem row_none (hi : i < a.length) (hk : k ≤ b.length) (h : ∀ q, k ≤ q → q < b.length → b[q]? ≠ a[i]?) : tabL a b i k = tabL a b (i + 1) k ∧ placeL a b i k = -1 := by
  refine ⟨?_, placeL_none fun q hq hh => h q hq hh.2.1 hh.2.2.1.symm⟩
  have h1 := tab_skip hi (Nat.le_refl _) (b.length - k) k (by omega) h
  have h2 := tabL_b (a := a) (b := b) (i := i) (Nat.le_refl b.length)
  omega
/-- The first place that holds it tells. -/
theorem row_some (hi : i < a.length) (hk : k ≤ p) (hp : p < b.length) (he : b[p]? = a[i]?) (h : ∀ q, k ≤ q → q < p → b[q]? ≠ a[i]?) :
    (tabL a b (i + 1) k ≤ 1 + tabL a b (i + 1) (p + 1) → tabL a b i k = 1 + tabL a b (i + 1) (p + 1) ∧ placeL a b i k = (p : Int)) ∧
    (1 + tabL a b (i + 1) (p + 1) < tabL a b (i + 1) k → tabL a b i k = tabL a b (i + 1) k ∧ placeL a b i k = -1) := by
  have h1 := tab_skip hi (Nat.le_of_lt hp) (p - k) k (by omega) h
  have h2 := tabL_same hi hp he.symm
  constructor
  · intro h3
    have h4 : tabL a b i k = 1 + tabL a b (i + 1) (p + 1) := by omega
    exact ⟨h4, placeL_some ⟨Nat.le_refl _, hk, ⟨hi, hp, he.symm, by omega⟩, fun p' q' h4 h5 _ _ => absurd h4 (by omega), fun q' h5 h6 hh => h q' h5 h6 hh.2.2.1.symm⟩⟩
  · intro h3
    refine ⟨by omega, placeL_none fun q hq hh => ?_⟩
    by_cases h5 : q < p
    · exact h q hq h5 hh.2.2.1.symm
    · have h6 := tabL_mono a b (Nat.le_refl (i + 1)) (by omega : p + 1 ≤ q + 1)
      have h7 := hh.2.2.2
      omega

/-- No longest matching begins at place i: it begins behind. -/
theorem LgL_skip (hi : i < a.length) (h : ∀ q, k ≤ q → ¬ hitL a b i k i q) {l : List (Nat × Nat)} (hl : LgL a b (i + 1) k l) : LgL a b i k l := by
  have ht : tabL a b i k = tabL a b (i + 1) k := by
    have h1 := tabL_up a b i k
    by_cases hx : tabL a b i k = tabL a b (i + 1) k
    · exact hx
    · exfalso
      obtain ⟨p, q, hn⟩ := nextL_ex (a := a) (b := b) (i := i) (k := k) (by omega)
      have hip := hn.ip
      have hkq := hn.kq
      by_cases e : p = i
      · subst e
        exact h q hkq hn.hit
      · have h3 := tabL_mono a b (by omega : i + 1 ≤ p) hkq
        have h4 := tabL_same hn.hit.1 hn.hit.2.1 hn.hit.2.2.1
        have h5 := hn.hit.2.2.2
        omega
  cases hl with
  | done h2 => exact .done (by omega)
  | more h2 hn hl =>
    refine .more (by omega) ⟨by have := hn.ip; omega, hn.kq, ?_, ?_, ?_⟩ hl
    · obtain ⟨h3, h4, h5, h6⟩ := hn.hit
      exact ⟨h3, h4, h5, by omega⟩
    · intro p' q' h3 h4 h5 h6 hh
      by_cases e : p' = i
      · subst e
        exact h q' h5 hh
      · exact hn.none1 p' q' (by omega) h4 h5 h6 ⟨hh.1, hh.2.1, hh.2.2.1, by have := hh.2.2.2; omega⟩
    · intro q' h3 h4 hh
      exact hn.none2 q' h3 h4 ⟨hh.1, hh.2.1, hh.2.2.1, by have := hh.2.2.2; omega⟩

/-- A row's cells, two for each place: how many, and where. -/
noncomputable def cellF (a b : List α) (i j : Nat) : Int := if j % 2 = 0 then (tabL a b i (j / 2) : Int) else if i < a.length then placeL a b i (j / 2) else 0
theorem cellF_even (a b : List α) (i k : Nat) : cellF a b i (k * 2) = (tabL a b i k : Int) := by
  unfold cellF
  rw [if_pos (by omega), show k * 2 / 2 = k by omega]
theorem cellF_odd (hi : i < a.length) (k : Nat) : cellF a b i (k * 2 + 1) = placeL a b i k := by
  unfold cellF
  rw [if_neg (by omega), if_pos hi, show (k * 2 + 1) / 2 = k by omega]
theorem cellF_last (a b : List α) (j : Nat) : cellF a b a.length j = 0 := by
  unfold cellF
  rw [tabL_a (Nat.le_refl _), if_neg (Nat.lt_irrefl _)]
  split <;> rfl
end
end Go.Proofs.Ytbobbpghdfhkgaa
