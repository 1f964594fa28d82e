/- A row of neighbours, and the ring, in plain lists. -/
import Derived.Test.YtkipldmkdnjkaaaOrdQ
namespace Go.Proofs.Ytkipldmkdnjkaaa

def atF (k t i : Nat) : Nat := (i + t) % k
def atL (k t : Nat) : List Nat := (List.range k).map (atF k t)
theorem atF_lt {k t i : Nat} (hk : 0 < k) : atF k t i < k := Nat.mod_lt _ hk
theorem atF_inj {k t i j : Nat} (hi : i < k) (hj : j < k) (h : atF k t i = atF k t j) : i = j := by
  have key : ∀ a b : Nat, a < k → b < k → a ≤ b → (a + t) % k = (b + t) % k → a = b := by
    intro a b ha hb hab e
    have h1 : (b + t - (a + t)) % k = 0 := Nat.sub_mod_eq_zero_of_mod_eq e.symm
    have h2 : b + t - (a + t) = b - a := by omega
    rw [h2, Nat.mod_eq_of_lt (by omega)] at h1
    omega
  rcases Nat.le_total i j with h1 | h1
  · exact key i j hi hj h1 h
  · exact (key j i hj hi h1 h.symm).symm
theorem atL_length (k t : Nat) : (atL k t).length = k := by simp [atL]
theorem atL_get {k t i : Nat} (hi : i < k) : (atL k t)[i]? = some (atF k t i) := by
  unfold atL
  rw [List.getElem?_map, List.getElem?_range hi]
  rfl

theorem atF_onto {k : Nat} (t : Nat) {y : Nat} (hy : y < k) : ∃ i, i < k ∧ atF k t i = y := by
  have hd := Nat.div_add_mod t k
  have hr := Nat.mod_lt t (show 0 < k by omega)
  unfold atF
  generalize t / k = q at *
  generalize t % k = r at *
  by_cases h : r ≤ y
  · refine ⟨y - r, by omega, ?_⟩
    rw [show y - r + t = y + k * q by omega, Nat.add_mul_mod_self_left, Nat.mod_eq_of_lt hy]
  · refine ⟨y + k - r, by omega, ?_⟩
    rw [show y + k - r + t = y + k * (q + 1) by rw [Nat.mul_succ]; omega, Nat.add_mul_mod_self_left, Nat.mod_eq_of_lt hy]

/-- The first m neighbours. -/
def rowR (k t m : Nat) (x y : Nat) : Bool := (List.range m).any fun i => decide (x = atF k t i) && decide (y = atF k t (i + 1))
theorem rowR_iff (k t m x y : Nat) : rowR k t m x y = true ↔ ∃ i, i < m ∧ x = atF k t i ∧ y = atF k t (i + 1) := by
  unfold rowR
  rw [List.any_eq_true]
  constructor
  · rintro ⟨i, hi, h⟩
    simp at hi h
    exact ⟨i, hi, h⟩
  · rintro ⟨i, hi, h⟩
    exact ⟨i, by simpa using hi, by simpa using h⟩
theorem rowR_zero (k t : Nat) : rowR k t 0 = fun _ _ => false := by funext x y; simp [rowR]
theorem rowR_succ (k t m : Nat) : rowR k t (m + 1) = addR (rowR k t m) (atF k t m) (atF k t (m + 1)) := by
  funext x y
  unfold rowR addR
  rw [List.range_succ, List.any_append]
  simp
theorem rowR_supp {k : Nat} (hk : 0 < k) (t m : Nat) : Supp k (rowR k t m) := fun x y h => by
  obtain ⟨i, _, h1, h2⟩ := (rowR_iff k t m x y).1 h
  rw [h1, h2]
  exact ⟨atF_lt hk, atF_lt hk⟩

/-- Ahead in the row. -/
def aheadR (k t : Nat) (x y : Nat) : Bool := (List.range k).any fun i => (List.range k).any fun j => decide (i < j) && (decide (x = atF k t i) && decide (y = atF k t j))
theorem aheadR_iff (k t x y : Nat) : aheadR k t x y = true ↔ ∃ i j, i < j ∧ j < k ∧ x = atF k t i ∧ y = atF k t j := by
  unfold aheadR
  simp only [List.any_eq_true, List.mem_range, Bool.and_eq_true, decide_eq_true_eq]
  constructor
  · rintro ⟨i, hi, j, hj, h1, h2, h3⟩
    exact ⟨i, j, h1, hj, h2, h3⟩
  · rintro ⟨i, j, h1, hj, h2, h3⟩
    exact ⟨i, by omega, j, hj, h1, h2, h3⟩
theorem aheadR_trans (k t : Nat) : Trans (aheadR k t) := fun x y z h1 h2 => by
  rw [aheadR_iff] at *
  obtain ⟨i, j, a1, a2, a3, a4⟩ := h1
  obtain ⟨i', j', b1, b2, b3, b4⟩ := h2
  have := atF_inj a2 (by omega) (a4.symm.trans b3)
  exact ⟨i, j', by omega, b2, a3, b4⟩
theorem row_clo {k : Nat} (hk : 0 < k) (t : Nat) : clo k (rowR k t (k - 1)) = aheadR k t := by
  apply Sub.antisymm
  · apply clo_least _ (aheadR_trans k t)
    intro x y h
    obtain ⟨i, h1, h2, h3⟩ := (rowR_iff k t _ x y).1 h
    exact (aheadR_iff k t x y).2 ⟨i, i + 1, by omega, by omega, h2, h3⟩
  · intro x y h
    obtain ⟨i, j, h1, h2, rfl, rfl⟩ := (aheadR_iff k t x y).1 h
    have ht := clo_trans (rowR_supp hk t (k - 1))
    have step : ∀ i, i + 1 < k → clo k (rowR k t (k - 1)) (atF k t i) (atF k t (i + 1)) = true := fun i hi => clo_sub _ _ _ _ ((rowR_iff k t _ _ _).2 ⟨i, by omega, rfl, rfl⟩)
    have key : ∀ d i, i + d + 1 < k → clo k (rowR k t (k - 1)) (atF k t i) (atF k t (i + d + 1)) = true := by
      intro d
      induction d with
      | zero => intro i hi; exact step i hi
      | succ d ih => intro i hi; exact ht _ _ _ (ih i (by omega)) (step (i + d + 1) (by omega))
    have := key (j - i - 1) i (by omega)
    rwa [show i + (j - i - 1) + 1 = j by omega] at this

theorem aheadR_at {k t i j : Nat} (hi : i < k) (hj : j < k) : aheadR k t (atF k t i) (atF k t j) = decide (i < j) := by
  by_cases h : i < j
  · rw [(aheadR_iff k t _ _).2 ⟨i, j, h, hj, rfl, rfl⟩]
    simp [h]
  · cases e : aheadR k t (atF k t i) (atF k t j) with
    | false => simp [h]
    | true =>
      obtain ⟨i', j', h1, h2, h3, h4⟩ := (aheadR_iff k t _ _).1 e
      have := atF_inj hi (by omega) h3
      have := atF_inj hj h2 h4
      omega
theorem aheadR_anti {k t x y : Nat} (h : aheadR k t x y = true) : aheadR k t y x = false ∧ x ≠ y := by
  obtain ⟨i, j, h1, h2, rfl, rfl⟩ := (aheadR_iff k t _ _).1 h
  rw [aheadR_at h2 (by omega)]
  refine ⟨by simp; omega, fun e => ?_⟩
  have := atF_inj (by omega) h2 e
  omega
theorem row_one {k t x y : Nat} : oneC (aheadR k t) x y = decide (x = y) := by
  unfold oneC
  cases h : aheadR k t x y
  · simp
  · rw [(aheadR_anti h).1]
    simp
theorem row_leads (k t n : Nat) : leadsC (aheadR k t) n = List.range n := by
  unfold leadsC
  rw [List.filter_eq_self]
  intro x _
  rw [leadC_iff]
  intro b hb
  rw [row_one]
  simp
  omega
theorem row_cls {k t n x : Nat} (hx : x < n) : clsC (aheadR k t) n x = [x] := by
  have h : ∀ m, clsC (aheadR k t) m x = if x < m then [x] else [] := by
    intro m
    induction m with
    | zero => rfl
    | succ m ih =>
      rw [cls_succ, ih, row_one]
      by_cases h1 : x = m
      · subst h1
        simp
      · by_cases h2 : x < m
        · rw [if_pos h2, if_neg (by simpa using h1), if_pos (by omega)]
          simp
        · rw [if_neg h2, if_neg (by simpa using h1), if_neg (by omega)]
          rfl
  rw [h, if_pos hx]
theorem row_circ (k t : Nat) : circL (aheadR k t) k = (List.range k).map fun x => [x] := by
  unfold circL
  rw [row_leads]
  apply List.map_congr_left
  intro x hx
  exact row_cls (by simpa using hx)

/-- A rising map below k is none but itself. -/
theorem rise_id {k : Nat} (f : Nat → Nat) (h1 : ∀ i j, i < j → j < k → f i < f j) (h2 : ∀ i, i < k → f i < k) : ∀ i, i < k → f i = i := by
  have low : ∀ i, i < k → i ≤ f i := by
    intro i
    induction i with
    | zero => intro _; omega
    | succ i ih => intro h; have := ih (by omega); have := h1 i (i + 1) (by omega) h; omega
  have high : ∀ d i, i + d + 1 = k → f i ≤ i := by
    intro d
    induction d with
    | zero => intro i hi; have := h2 i (by omega); omega
    | succ d ih => intro i hi; have := ih (i + 1) (by omega); have := h1 i (i + 1) (by omega) (by omega); omega
  intro i hi
  have := low i hi
  have := high (k - i - 1) i (by omega)
  omega

theorem row_sort {k : Nat} (t : Nat) : sortL (aheadR k t) k = atL k t := by
  have ht := aheadR_trans k t
  have hlen := sort_length ht k
  have hnd := sort_nodup ht k
  have hpw := sort_order ht k
  have hex : ∀ p : Nat, ∃ i, p < k → i < k ∧ (sortL (aheadR k t) k)[p]? = some (atF k t i) := by
    intro p
    by_cases hp : p < k
    · have hg := List.getElem?_eq_getElem (show p < (sortL (aheadR k t) k).length by rw [hlen]; exact hp)
      have hm := (sort_mem ht k).1 (List.mem_of_getElem? hg)
      obtain ⟨i, h1, h2⟩ := atF_onto t hm
      exact ⟨i, fun _ => ⟨h1, by rw [h2]; exact hg⟩⟩
    · exact ⟨0, fun h => absurd h hp⟩
  have hid := rise_id (k := k) (fun p => Classical.choose (hex p)) (fun p q hpq hq => by
    have s1 := Classical.choose_spec (hex p) (by omega)
    have s2 := Classical.choose_spec (hex q) hq
    generalize Classical.choose (hex p) = a at *
    generalize Classical.choose (hex q) = b at *
    obtain ⟨u1, u2⟩ := List.getElem?_eq_some_iff.1 s1.2
    obtain ⟨v1, v2⟩ := List.getElem?_eq_some_iff.1 s2.2
    have := List.pairwise_iff_getElem.1 hpw p q u1 v1 hpq
    rw [u2, v2, aheadR_at s2.1 s1.1, aheadR_at s1.1 s2.1] at this
    have hne : a ≠ b := fun e => by
      subst e
      have := nodup_inj hnd s1.2 s2.2
      omega
    simp at this
    rcases Nat.lt_trichotomy a b with h | h | h
    · exact h
    · exact absurd h hne
    · have := this h; omega) (fun p hp => (Classical.choose_spec (hex p) hp).1)
  apply List.ext_getElem?
  intro p
  by_cases hp : p < k
  · have s1 := (Classical.choose_spec (hex p) hp).2
    have s2 : Classical.choose (hex p) = p := hid p hp
    rw [s1, s2, atL_get hp]
  · rw [List.getElem?_eq_none (by omega), List.getElem?_eq_none (by rw [atL_length]; omega)]

theorem sort_perm {C : Nat → Nat → Bool} (ht : Trans C) (n : Nat) : (sortL C n).Perm (circL C n).flatten := by
  obtain ⟨done, h1, h2, _⟩ := sort_end ht n
  rw [h1]
  exact h2.flatten
theorem row_perm (k t : Nat) : (atL k t).Perm (List.range k) := by
  have := sort_perm (aheadR_trans k t) k
  rw [row_sort, row_circ] at this
  have e : ((List.range k).map fun x => [x]).flatten = List.range k := by
    generalize List.range k = l
    induction l with
    | nil => rfl
    | cons a r ih => simp [ih]
  rwa [e] at this

theorem row_ord (k t : Nat) : ordB (aheadR k t) k = true := by
  unfold ordB
  rw [List.all_eq_true]
  intro a _
  cases e : aheadR k t a a with
  | false => rfl
  | true => exact absurd rfl (aheadR_anti e).2
theorem row_tot (k t : Nat) : totB (aheadR k t) k = true := by
  unfold totB
  simp only [List.all_eq_true, List.mem_range]
  intro a ha b hb
  obtain ⟨i, hi, rfl⟩ := atF_onto t ha
  obtain ⟨j, hj, rfl⟩ := atF_onto t (show b < k by omega)
  rw [aheadR_at hi hj, aheadR_at hj hi]
  have : i ≠ j := fun e => by subst e; omega
  simp
  omega

theorem filter_eq_len (c : Nat) : ∀ k, ((List.range k).filter fun y => decide (y = c)).length = if c < k then 1 else 0 := by
  intro k
  induction k with
  | zero => rfl
  | succ k ih =>
    rw [List.range_succ, List.filter_append, List.length_append, ih, List.filter_cons]
    by_cases h1 : k = c
    · subst h1
      simp
    · have h0 : decide (k = c) = false := by simpa using h1
      rw [h0]
      by_cases h2 : c < k
      · have h3 : c < k + 1 := by omega
        simp [h2, h3]
      · have h3 : ¬ c < k + 1 := by omega
        simp [h2, h3]

theorem row_redF {k t i : Nat} (hi : i < k) : (redF (aheadR k t) ((List.range k).map fun x => [x]) [atF k t i] ((List.range k).map fun x => [x])).length = if i + 1 < k then 1 else 0 := by
  unfold redF
  rw [List.length_map, List.filter_map, List.length_map]
  have hb : ∀ y, betw (aheadR k t) ((List.range k).map fun x => [x]) [atF k t i] [y] = true ↔ ∃ z, z < k ∧ aheadL (aheadR k t) [atF k t i] [z] = true ∧ aheadL (aheadR k t) [z] [y] = true := by
    intro y
    unfold betw
    rw [List.any_eq_true]
    constructor
    · rintro ⟨l, hl, h⟩
      obtain ⟨z, hz, rfl⟩ := List.mem_map.1 hl
      rw [Bool.and_eq_true] at h
      exact ⟨z, by simpa using hz, h.1, h.2⟩
    · rintro ⟨z, hz, h1, h2⟩
      exact ⟨[z], List.mem_map.2 ⟨z, by simpa using hz, rfl⟩, by rw [h1, h2]; rfl⟩
  have ha : ∀ a b, a < k → b < k → (aheadL (aheadR k t) [atF k t a] [atF k t b] = true ↔ a < b) := by
    intro a b ha hb
    rw [ahead_iff, aheadR_at ha hb]
    constructor
    · rintro ⟨_, h⟩; simpa using h
    · intro h
      refine ⟨fun e => ?_, by simpa using h⟩
      have := atF_inj ha hb e
      omega
  have key : ∀ y ∈ List.range k, ((fun t_1 => aheadL (aheadR k t) [atF k t i] t_1 && !betw (aheadR k t) ((List.range k).map fun x => [x]) [atF k t i] t_1) ∘ fun x => [x]) y = decide (y = if i + 1 < k then atF k t (i + 1) else k) := by
    intro y hy
    have hyk : y < k := by simpa using hy
    obtain ⟨j, hj, rfl⟩ := atF_onto t hyk
    rw [Bool.eq_iff_iff]
    simp only [Function.comp, Bool.and_eq_true, Bool.not_eq_true', decide_eq_true_eq]
    rw [ha i j hi hj, ← Bool.not_eq_true, hb]
    constructor
    · rintro ⟨h1, h2⟩
      have : j = i + 1 := by
        rcases Nat.lt_or_ge (i + 1) j with h | h
        · exact absurd ⟨atF k t (i + 1), atF_lt (by omega), (ha _ _ hi (by omega)).2 (by omega), (ha _ _ (by omega) hj).2 h⟩ h2
        · omega
      subst this
      rw [if_pos hj]
    · intro h
      by_cases h3 : i + 1 < k
      · rw [if_pos h3] at h
        have := atF_inj hj h3 h
        subst this
        refine ⟨by omega, ?_⟩
        rintro ⟨z, hz, h4, h5⟩
        obtain ⟨m, hm, rfl⟩ := atF_onto t hz
        rw [ha _ _ hi hm] at h4
        rw [ha _ _ hm hj] at h5
        omega
      · rw [if_neg h3] at h
        have := atF_lt (k := k) (t := t) (i := j) (by omega)
        omega
  rw [List.filter_congr key, filter_eq_len]
  by_cases h3 : i + 1 < k
  · simp only [if_pos h3]
    rw [if_pos (atF_lt (by omega))]
  · simp only [if_neg h3]
    rw [if_neg (by omega)]

theorem row_red (k t : Nat) : (redL (aheadR k t) k).length = k - 1 := by
  unfold redL
  rw [row_circ]
  have hp : ((List.range k).map fun x => [x]).Perm ((atL k t).map fun x => [x]) := ((row_perm k t).map _).symm
  have h1 : (redK (aheadR k t) ((List.range k).map fun x => [x]) ((List.range k).map fun x => [x])).length = (redK (aheadR k t) ((List.range k).map fun x => [x]) ((atL k t).map fun x => [x])).length := by
    unfold redK
    exact (hp.flatMap_right _).length_eq
  rw [h1]
  have h2 : ∀ m, m ≤ k → (redK (aheadR k t) ((List.range k).map fun x => [x]) ((List.range m).map fun i => [atF k t i])).length = if m < k then m else k - 1 := by
    intro m
    induction m with
    | zero =>
      intro _
      simp [redK]
      omega
    | succ m ih =>
      intro hm
      rw [List.range_succ, List.map_append, List.map_singleton, redK_snoc, List.length_append, ih (by omega), row_redF (by omega), if_pos (by omega)]
      split <;> omega
  have h3 := h2 k (Nat.le_refl _)
  rw [if_neg (by omega)] at h3
  rw [← h3]
  unfold atL
  rw [List.map_map]
  rfl

def allR (k : Nat) (x y : Nat) : Bool := decide (x < k) && decide (y < k)
theorem ring_clo {k : Nat} (hk : 0 < k) (t : Nat) : clo k (addR (rowR k t (k - 1)) (atF k t (k - 1)) (atF k t 0)) = allR k := by
  have hs : Supp k (addR (rowR k t (k - 1)) (atF k t (k - 1)) (atF k t 0)) := addR_supp (rowR_supp hk t _) (atF_lt hk) (atF_lt hk)
  have ht := clo_trans hs
  apply Sub.antisymm
  · intro x y h
    have := clo_supp hs x y h
    simp [allR, this.1, this.2]
  · intro x y h
    simp [allR] at h
    obtain ⟨i, hi, rfl⟩ := atF_onto t h.1
    obtain ⟨j, hj, rfl⟩ := atF_onto t h.2
    have h0 : clo k (addR (rowR k t (k - 1)) (atF k t (k - 1)) (atF k t 0)) (atF k t (k - 1)) (atF k t 0) = true := clo_sub _ _ _ _ ((addR_iff _ _ _ _ _).2 (.inr ⟨rfl, rfl⟩))
    have hm : Sub (aheadR k t) (clo k (addR (rowR k t (k - 1)) (atF k t (k - 1)) (atF k t 0))) := by
      rw [← row_clo hk t]
      exact clo_mono (addR_sub _ _ _) hs
    have h1 : clo k (addR (rowR k t (k - 1)) (atF k t (k - 1)) (atF k t 0)) (atF k t i) (atF k t 0) = true := by
      by_cases e : i = k - 1
      · rw [e]; exact h0
      · exact ht _ _ _ (hm _ _ ((aheadR_iff k t _ _).2 ⟨i, k - 1, by omega, by omega, rfl, rfl⟩)) h0
    by_cases e : j = 0
    · rw [e]; exact h1
    · exact ht _ _ _ h1 (hm _ _ ((aheadR_iff k t _ _).2 ⟨0, j, by omega, hj, rfl, rfl⟩))
theorem ring_circ {k : Nat} (hk : 0 < k) : circL (allR k) k = [List.range k] := by
  have h1 : leadsC (allR k) k = [0] := by
    have : ∀ m, m ≤ k → leadsC (allR k) m = if 0 < m then [0] else [] := by
      intro m
      induction m with
      | zero => intro _; rfl
      | succ m ih =>
        intro hm
        rw [leads_succ, ih (by omega)]
        by_cases e : m = 0
        · subst e
          simp [leadC]
        · have : leadC (allR k) m = false := by
            cases e2 : leadC (allR k) m with
            | false => rfl
            | true =>
              rw [leadC_iff] at e2
              have := e2 0 (by omega)
              simp [oneC, allR, e] at this
              omega
          have h2 : 0 < m := by omega
          simp [this, h2]
    rw [this k (Nat.le_refl _), if_pos hk]
  unfold circL
  rw [h1]
  have : clsC (allR k) k 0 = List.range k := by
    unfold clsC
    rw [List.filter_eq_self]
    intro a ha
    have : a < k := by simpa using ha
    simp [oneC, allR, this, hk]
  simp [this]
theorem ring_ord {k : Nat} (hk : 0 < k) : ordB (allR k) k = false := by
  unfold ordB
  rw [List.all_eq_false]
  exact ⟨0, by simpa using hk, by simp [allR, hk]⟩
theorem ring_red {k : Nat} (hk : 0 < k) : redL (allR k) k = [] := by
  unfold redL
  rw [ring_circ hk]
  simp [redK, redF, ahead_self]

end Go.Proofs.Ytkipldmkdnjkaaa
