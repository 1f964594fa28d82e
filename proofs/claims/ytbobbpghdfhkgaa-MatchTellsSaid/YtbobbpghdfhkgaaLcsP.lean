/- What two rows have in common, in plain words: how long the longest matching is, the table of what is behind two places, the longest one that begins first. -/
namespace Go.Proofs.Ytbobbpghdfhkgaa
section
variable {α : Type} [DecidableEq α]

/-- How many the longest matching has. -/
def lcs : List α → List α → Nat
  | [], _ => 0
  | _ :: _, [] => 0
  | x :: a, y :: b => max (max (lcs a (y :: b)) (lcs (x :: a) b)) (if x = y then lcs a b + 1 else 0)
termination_by a b => a.length + b.length

theorem lcs_nil (b : List α) : lcs [] b = 0 := by rw [lcs]
theorem lcs_nil_r : ∀ a : List α, lcs a [] = 0
  | [] => by rw [lcs]
  | _ :: _ => by rw [lcs]
theorem lcs_cons (x y : α) (a b : List α) : lcs (x :: a) (y :: b) = max (max (lcs a (y :: b)) (lcs (x :: a) b)) (if x = y then lcs a b + 1 else 0) := by rw [lcs]

theorem lcs_left (x : α) (a : List α) : ∀ b : List α, lcs a b ≤ lcs (x :: a) b
  | [] => by rw [lcs_nil_r]; exact Nat.zero_le _
  | y :: b => by rw [lcs_cons]; omega
theorem lcs_right (y : α) (b : List α) : ∀ a : List α, lcs a b ≤ lcs a (y :: b)
  | [] => by rw [lcs_nil]; exact Nat.zero_le _
  | x :: a => by rw [lcs_cons]; omega

theorem lcs_len_a : ∀ (n : Nat) (a b : List α), a.length + b.length ≤ n → lcs a b ≤ a.length
  | _, [], b, _ => by rw [lcs_nil]; exact Nat.zero_le _
  | _, x :: a, [], _ => by rw [lcs_nil_r]; exact Nat.zero_le _
  | 0, x :: a, y :: b, h => by simp at h
  | n + 1, x :: a, y :: b, h => by
    simp only [List.length_cons] at h ⊢
    have h1 := lcs_len_a n a (y :: b) (by simp only [List.length_cons]; omega)
    have h2 := lcs_len_a n (x :: a) b (by simp only [List.length_cons]; omega)
    have h3 := lcs_len_a n a b (by omega)
    simp only [List.length_cons] at h2
    rw [lcs_cons]
    split <;> omega
theorem lcs_le (a b : List α) : lcs a b ≤ a.length := lcs_len_a _ a b (Nat.le_refl _)

theorem lcs_sym_n : ∀ (n : Nat) (a b : List α), a.length + b.length ≤ n → lcs a b = lcs b a
  | _, [], b, _ => by rw [lcs_nil, lcs_nil_r]
  | _, x :: a, [], _ => by rw [lcs_nil, lcs_nil_r]
  | 0, x :: a, y :: b, h => by simp at h
  | n + 1, x :: a, y :: b, h => by
    simp only [List.length_cons] at h
    rw [lcs_cons, lcs_cons, lcs_sym_n n a (y :: b) (by simp only [List.length_cons]; omega), lcs_sym_n n (x :: a) b (by simp only [List.length_cons]; omega), lcs_sym_n n a b (by omega)]
    by_cases e : x = y
    · subst e; simp only [if_true]; omega
    · rw [if_neg e, if_neg (Ne.symm e)]; omega
theorem lcs_sym (a b : List α) : lcs a b = lcs b a := lcs_sym_n _ a b (Nat.le_refl _)
theorem lcs_le_r (a b : List α) : lcs a b ≤ b.length := by rw [lcs_sym]; exact lcs_le b a

/-- One more in front makes it longer by one at most. -/
theorem lcs_one_n (x : α) : ∀ (n : Nat) (a b : List α), b.length ≤ n → lcs (x :: a) b ≤ lcs a b + 1
  | _, a, [], _ => by rw [lcs_nil_r]; exact Nat.zero_le _
  | 0, a, y :: b, h => by simp at h
  | n + 1, a, y :: b, h => by
    have h1 := lcs_one_n x n a b (by simpa using h)
    have h2 := lcs_right y b a
    rw [lcs_cons]
    split <;> omega
theorem lcs_one (x : α) (a b : List α) : lcs (x :: a) b ≤ lcs a b + 1 := lcs_one_n x _ a b (Nat.le_refl _)
theorem lcs_one_r (y : α) (a b : List α) : lcs a (y :: b) ≤ lcs a b + 1 := by rw [lcs_sym, lcs_sym a b]; exact lcs_one y b a

theorem lcs_same (x : α) (a b : List α) : lcs (x :: a) (x :: b) = lcs a b + 1 := by
  have h1 := lcs_one x a b
  have h2 := lcs_one_r x a b
  rw [lcs_cons, if_pos rfl]
  omega
theorem lcs_other {x y : α} (h : x ≠ y) (a b : List α) : lcs (x :: a) (y :: b) = max (lcs a (y :: b)) (lcs (x :: a) b) := by
  rw [lcs_cons, if_neg h]; omega

theorem lcs_sub {a a' : List α} (h : a.Sublist a') (b : List α) : lcs a b ≤ lcs a' b := by
  induction h generalizing b with
  | slnil => exact Nat.le_refl _
  | cons x _ ih => exact Nat.le_trans (ih b) (lcs_left x _ b)
  | @cons_cons a a' x _ ih =>
    induction b with
    | nil => rw [lcs_nil_r]; exact Nat.zero_le _
    | cons y b ihb =>
      by_cases e : x = y
      · subst e
        rw [lcs_same, lcs_same]
        have := ih b
        omega
      · rw [lcs_other e, lcs_other e]
        have := ih (y :: b)
        omega
theorem lcs_sub_r (a : List α) {b b' : List α} (h : b.Sublist b') : lcs a b ≤ lcs a b' := by rw [lcs_sym, lcs_sym a]; exact lcs_sub h a
theorem lcs_self : ∀ a : List α, lcs a a = a.length
  | [] => lcs_nil _
  | x :: a => by rw [lcs_same, lcs_self a]; rfl
/-- What lies in another is found there whole. -/
theorem lcs_within {a b : List α} (h : a.Sublist b) : lcs a b = a.length :=
  Nat.le_antisymm (lcs_le a b) (by have := lcs_sub_r a h; rwa [lcs_self] at this)
/-- Nothing in common. -/
theorem lcs_none : ∀ (n : Nat) (a b : List α), a.length + b.length ≤ n → (∀ x ∈ a, x ∉ b) → lcs a b = 0
  | _, [], b, _, _ => lcs_nil b
  | _, x :: a, [], _, _ => lcs_nil_r _
  | 0, x :: a, y :: b, h, _ => by simp at h
  | n + 1, x :: a, y :: b, h, hd => by
    simp only [List.length_cons] at h
    have hxy : x ≠ y := fun e => hd x (List.mem_cons_self ..) (e ▸ List.mem_cons_self ..)
    rw [lcs_other hxy, lcs_none n a (y :: b) (by simp only [List.length_cons]; omega) (fun z hz => hd z (List.mem_cons_of_mem _ hz)),
      lcs_none n (x :: a) b (by simp only [List.length_cons]; omega) (fun z hz hb => hd z hz (List.mem_cons_of_mem _ hb))]
    rfl
theorem lcs_apart {a b : List α} (h : ∀ x ∈ a, x ∉ b) : lcs a b = 0 := lcs_none _ a b (Nat.le_refl _) h
theorem lcs_snoc (x : α) (b : List α) : ∀ a : List α, lcs (a ++ [x]) b ≤ lcs a b + 1 := by
  induction b with
  | nil => intro a; rw [lcs_nil_r]; exact Nat.zero_le _
  | cons y b ihb =>
    intro a
    induction a with
    | nil =>
      have := lcs_le [x] (y :: b)
      rw [lcs_nil]
      exact this
    | cons z a iha =>
      rw [List.cons_append]
      by_cases e : z = y
      · subst e
        rw [lcs_same, lcs_same]
        have := ihb a
        omega
      · have h2 := ihb (z :: a)
        rw [List.cons_append] at h2
        rw [lcs_other e, lcs_other e]
        omega

/-! The table: what is behind two places. -/
def tabL (a b : List α) (i k : Nat) : Nat := lcs (a.drop i) (b.drop k)

theorem tabL_a {a b : List α} {i k : Nat} (h : a.length ≤ i) : tabL a b i k = 0 := by
  unfold tabL; rw [List.drop_eq_nil_of_le h, lcs_nil]
theorem tabL_b {a b : List α} {i k : Nat} (h : b.length ≤ k) : tabL a b i k = 0 := by
  unfold tabL; rw [List.drop_eq_nil_of_le h, lcs_nil_r]
theorem tabL_same {a b : List α} {i k : Nat} (hi : i < a.length) (hk : k < b.length) (h : a[i]? = b[k]?) : tabL a b i k = tabL a b (i + 1) (k + 1) + 1 := by
  unfold tabL
  rw [List.getElem?_eq_getElem hi, List.getElem?_eq_getElem hk] at h
  rw [List.drop_eq_getElem_cons hi, List.drop_eq_getElem_cons hk, Option.some.inj h, lcs_same]
theorem tabL_other {a b : List α} {i k : Nat} (hi : i < a.length) (hk : k < b.length) (h : a[i]? ≠ b[k]?) : tabL a b i k = max (tabL a b (i + 1) k) (tabL a b i (k + 1)) := by
  unfold tabL
  rw [List.getElem?_eq_getElem hi, List.getElem?_eq_getElem hk] at h
  have hne : a[i] ≠ b[k] := fun e => h (by rw [e])
  rw [List.drop_eq_getElem_cons hi, List.drop_eq_getElem_cons hk, lcs_other hne]
theorem tabL_up (a b : List α) (i k : Nat) : tabL a b (i + 1) k ≤ tabL a b i k := lcs_sub (List.drop_sublist_drop_left a (Nat.le_succ i)) _
theorem tabL_along (a b : List α) (i k : Nat) : tabL a b i (k + 1) ≤ tabL a b i k := lcs_sub_r _ (List.drop_sublist_drop_left b (Nat.le_succ k))
theorem tabL_mono (a b : List α) {i k p q : Nat} (hp : i ≤ p) (hq : k ≤ q) : tabL a b p q ≤ tabL a b i k :=
  Nat.le_trans (lcs_sub (List.drop_sublist_drop_left a hp) _) (lcs_sub_r _ (List.drop_sublist_drop_left b hq))
/-- The table's own step: the larger neighbour, or one more. -/
theorem tabL_max {a b : List α} {i k : Nat} (hi : i < a.length) (hk : k < b.length) :
    tabL a b i k = if a[i]? = b[k]? then max (max (tabL a b (i + 1) k) (tabL a b i (k + 1))) (tabL a b (i + 1) (k + 1) + 1) else max (tabL a b (i + 1) k) (tabL a b i (k + 1)) := by
  split
  · rename_i h
    have h1 := tabL_same hi hk h
    have h2 := tabL_up a b i k
    have h3 := tabL_along a b i k
    omega
  · rename_i h
    exact tabL_other hi hk h
theorem tabL_small (a b : List α) (i k : Nat) : tabL a b i k ≤ a.length - i ∧ tabL a b i k ≤ b.length - k := by
  unfold tabL
  exact ⟨by rw [← List.length_drop]; exact lcs_le _ _, by rw [← List.length_drop]; exact lcs_le_r _ _⟩
theorem tabL_zero (a b : List α) : tabL a b 0 0 = lcs a b := rfl

/-! The longest matching that begins first. -/
/-- A pair of one of the longest matchings from two places on. -/
def hitL (a b : List α) (i k p q : Nat) : Prop := p < a.length ∧ q < b.length ∧ a[p]? = b[q]? ∧ tabL a b (p + 1) (q + 1) + 1 = tabL a b i k
instance (a b : List α) (i k p q : Nat) : Decidable (hitL a b i k p q) := by unfold hitL; infer_instance
/-- The first of them. -/
structure nextL (a b : List α) (i k p q : Nat) : Prop where
  ip : i ≤ p
  kq : k ≤ q
  hit : hitL a b i k p q
  none1 : ∀ p' q', i ≤ p' → p' < p → k ≤ q' → q' < b.length → ¬ hitL a b i k p' q'
  none2 : ∀ q', k ≤ q' → q' < q → ¬ hitL a b i k p q'

theorem nextL.uniq {a b : List α} {i k p q p' q' : Nat} (h : nextL a b i k p q) (h' : nextL a b i k p' q') : p = p' ∧ q = q' := by
  have hp : p = p' := by
    rcases Nat.lt_trichotomy p p' with e | e | e
    · exact absurd h.hit (h'.none1 p q h.ip e h.kq h.hit.2.1)
    · exact e
    · exact absurd h'.hit (h.none1 p' q' h'.ip e h'.kq h'.hit.2.1)
  subst hp
  refine ⟨rfl, ?_⟩
  rcases Nat.lt_trichotomy q q' with e | e | e
  · exact absurd h.hit (h'.none2 q h.kq e)
  · exact e
  · exact absurd h'.hit (h.none2 q' h'.kq e)

theorem hitL_ex {a b : List α} (c : Nat) : ∀ (n i k : Nat), (a.length - i) + (b.length - k) ≤ n → tabL a b i k = c + 1 → ∃ p q, i ≤ p ∧ k ≤ q ∧ p < a.length ∧ q < b.length ∧ a[p]? = b[q]? ∧ tabL a b (p + 1) (q + 1) = c
  | n, i, k, hn, h => by
    have hs := tabL_small a b i k
    have hi : i < a.length := by omega
    have hk : k < b.length := by omega
    cases n with
    | zero => omega
    | succ n =>
      by_cases e : a[i]? = b[k]?
      · exact ⟨i, k, Nat.le_refl _, Nat.le_refl _, hi, hk, e, by have := tabL_same hi hk e; omega⟩
      · have h1 := tabL_other hi hk e
        by_cases h2 : tabL a b (i + 1) k = c + 1
        · obtain ⟨p, q, hp, hq, r⟩ := hitL_ex (a := a) (b := b) c n (i + 1) k (by omega) h2
          exact ⟨p, q, by omega, hq, r⟩
        · obtain ⟨p, q, hp, hq, r⟩ := hitL_ex (a := a) (b := b) c n i (k + 1) (by omega) (by omega)
          exact ⟨p, q, hp, by omega, r⟩

/-- The least of what there is. -/
theorem least_ex {P : Nat → Prop} [DecidablePred P] : ∀ n, P n → ∃ m, m ≤ n ∧ P m ∧ ∀ j, j < m → ¬ P j
  | 0, h => ⟨0, Nat.le_refl _, h, fun j hj => absurd hj (by omega)⟩
  | n + 1, h => by
    by_cases e : ∃ j, j < n + 1 ∧ P j
    · obtain ⟨j, hj, hPj⟩ := e
      induction j using Nat.strongRecOn with
      | _ j ih =>
        by_cases e2 : ∃ m, m < j ∧ P m
        · obtain ⟨m, hm, hPm⟩ := e2
          exact ih m hm (by omega) hPm
        · exact ⟨j, by omega, hPj, fun m hm hP => e2 ⟨m, hm, hP⟩⟩
    · exact ⟨n + 1, Nat.le_refl _, h, fun j hj hP => e ⟨j, hj, hP⟩⟩

theorem nextL_ex {a b : List α} {i k : Nat} (h : 0 < tabL a b i k) : ∃ p q, nextL a b i k p q := by
  obtain ⟨c, hc⟩ : ∃ c, tabL a b i k = c + 1 := ⟨tabL a b i k - 1, by omega⟩
  obtain ⟨p0, q0, hp0, hq0, h1, h2, h3, h4⟩ := hitL_ex c _ i k (Nat.le_refl _) hc
  have hh : hitL a b i k p0 q0 := ⟨h1, h2, h3, by omega⟩
  obtain ⟨p, _, ⟨hip, q1, hkq1, hh1⟩, hp⟩ := @least_ex (fun p => i ≤ p ∧ ∃ q, k ≤ q ∧ hitL a b i k p q) (fun _ => Classical.propDecidable _) p0 ⟨hp0, q0, hq0, hh⟩
  obtain ⟨q, _, ⟨hkq, hh2⟩, hq⟩ := @least_ex (fun q => k ≤ q ∧ hitL a b i k p q) (fun _ => Classical.propDecidable _) q1 ⟨hkq1, hh1⟩
  exact ⟨p, q, hip, hkq, hh2, fun p' q' h5 h6 h7 _ h9 => hp p' h6 ⟨h5, q', h7, h9⟩, fun q' h5 h6 h7 => hq q' h6 ⟨h5, h7⟩⟩

/-- The longest matching from two places on that begins first. -/
inductive LgL (a b : List α) : Nat → Nat → List (Nat × Nat) → Prop
  | done {i k : Nat} (h : tabL a b i k = 0) : LgL a b i k []
  | more {i k p q : Nat} {l : List (Nat × Nat)} (h : 0 < tabL a b i k) (hn : nextL a b i k p q) (hl : LgL a b (p + 1) (q + 1) l) : LgL a b i k ((p, q) :: l)

theorem LgL.uniq {a b : List α} {i k : Nat} {l l' : List (Nat × Nat)} (h : LgL a b i k l) (h' : LgL a b i k l') : l = l' := by
  induction h generalizing l' with
  | done h =>
    cases h' with
    | done _ => rfl
    | more h2 _ _ => omega
  | more h hn _ ih =>
    cases h' with
    | done h2 => omega
    | more _ hn' hl' =>
      obtain ⟨rfl, rfl⟩ := hn.uniq hn'
      rw [ih hl']
theorem LgL_ex_n {a b : List α} : ∀ (n i k : Nat), tabL a b i k ≤ n → ∃ l, LgL a b i k l
  | 0, i, k, h => ⟨[], .done (by omega)⟩
  | n + 1, i, k, h => by
    by_cases e : tabL a b i k = 0
    · exact ⟨[], .done e⟩
    · obtain ⟨p, q, hn⟩ := nextL_ex (a := a) (b := b) (i := i) (k := k) (by omega)
      have := hn.hit.2.2.2
      obtain ⟨l, hl⟩ := LgL_ex_n (a := a) (b := b) n (p + 1) (q + 1) (by omega)
      exact ⟨(p, q) :: l, .more (by omega) hn hl⟩
theorem LgL_ex (a b : List α) : ∃ l, LgL a b 0 0 l := LgL_ex_n _ 0 0 (Nat.le_refl _)
theorem LgL.len {a b : List α} {i k : Nat} {l : List (Nat × Nat)} (h : LgL a b i k l) : l.length = tabL a b i k := by
  induction h with
  | done h => exact h.symm
  | more h hn _ ih =>
    have := hn.hit.2.2.2
    rw [List.length_cons, ih]
    exact this

/-- Pairs that are a matching, from two places on. -/
def matL (a b : List α) : Nat → Nat → List (Nat × Nat) → Prop
  | _, _, [] => True
  | i, k, (p, q) :: l => i ≤ p ∧ k ≤ q ∧ p < a.length ∧ q < b.length ∧ a[p]? = b[q]? ∧ matL a b (p + 1) (q + 1) l
theorem LgL.mat {a b : List α} {i k : Nat} {l : List (Nat × Nat)} (h : LgL a b i k l) : matL a b i k l := by
  induction h with
  | done _ => trivial
  | more _ hn _ ih => exact ⟨hn.ip, hn.kq, hn.hit.1, hn.hit.2.1, hn.hit.2.2.1, ih⟩
/-- No matching is longer. -/
theorem matL_len {a b : List α} : ∀ {l : List (Nat × Nat)} {i k : Nat}, matL a b i k l → l.length ≤ tabL a b i k
  | [], _, _, _ => Nat.zero_le _
  | (p, q) :: l, i, k, h => by
    obtain ⟨h1, h2, h3, h4, h5, h6⟩ := h
    have h7 := matL_len h6
    have h8 := tabL_same h3 h4 h5
    have h9 := tabL_mono a b h1 h2
    rw [List.length_cons]
    omega

/-- On the diagonal: what begins with the same. -/
theorem LgL_diag {a b : List α} {n : Nat} (hn : tabL a b n n = 0) (h : ∀ i, i < n → i < a.length ∧ i < b.length ∧ a[i]? = b[i]?) : ∀ (d i : Nat), i + d = n → LgL a b i i ((List.range d).map fun j => (i + j, i + j))
  | 0, i, e => .done (by obtain rfl : i = n := by omega
                         exact hn)
  | d + 1, i, e => by
    obtain ⟨h1, h2, h3⟩ := h i (by omega)
    have h4 := tabL_same h1 h2 h3
    have ih := LgL_diag hn h d (i + 1) (by omega)
    have hx : nextL a b i i i i := ⟨Nat.le_refl _, Nat.le_refl _, ⟨h1, h2, h3, h4.symm⟩, fun p' q' h5 h6 _ _ => absurd h5 (by omega), fun q' h5 h6 => absurd h5 (by omega)⟩
    have := LgL.more (by omega) hx ih
    rw [List.range_succ_eq_map, List.map_cons, List.map_map]
    have e2 : ((fun j => (i + j, i + j)) ∘ Nat.succ) = fun j => (i + 1 + j, i + 1 + j) := by
      funext j
      simp only [Function.comp, Nat.succ_eq_add_one]
      rw [show i + (j + 1) = i + 1 + j by omega]
    rw [e2]
    exact this
/-- One in the middle of another, its elements nowhere else. -/
theorem LgL_shift {a b : List α} {s : Nat} (hb : ∀ i, i < a.length → s + i < b.length) (h : ∀ i q, i < a.length → q < b.length → (a[i]? = b[q]? ↔ q = s + i)) :
    ∀ (d i k : Nat), i + d = a.length → k ≤ s + i → LgL a b i k ((List.range d).map fun j => (i + j, s + (i + j)))
  | 0, i, k, e, _ => .done (tabL_a (by omega))
  | d + 1, i, k, e, hk => by
    have hi : i < a.length := by omega
    have h2 := hb i hi
    have h3 := (h i (s + i) hi h2).2 rfl
    have ih := LgL_shift hb h d (i + 1) (s + i + 1) (by omega) (by omega)
    have hl := ih.len
    rw [List.length_map, List.length_range] at hl
    have hs := (tabL_small a b i k).1
    have h4 := tabL_same hi h2 h3
    have h5 := tabL_mono a b (Nat.le_refl i) hk
    have hx : nextL a b i k i (s + i) := ⟨Nat.le_refl _, hk, ⟨hi, h2, h3, by omega⟩, fun p' q' h6 h7 _ _ => absurd h6 (by omega), fun q' h6 h7 hh => by
      have := (h i q' hi (by omega)).1 hh.2.2.1
      omega⟩
    have := LgL.more (by omega) hx ih
    rw [List.range_succ_eq_map, List.map_cons, List.map_map]
    have e2 : ((fun j => (i + j, s + (i + j))) ∘ Nat.succ) = fun j => (i + 1 + j, s + (i + 1 + j)) := by
      funext j
      simp only [Function.comp, Nat.succ_eq_add_one]
      rw [show i + (j + 1) = i + 1 + j by omega]
    rw [e2]
    exact this
end
end Go.Proofs.Ytbobbpghdfhkgaa
