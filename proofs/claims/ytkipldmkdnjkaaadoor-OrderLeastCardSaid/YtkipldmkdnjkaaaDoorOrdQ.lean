/- What is so of the row, in plain lists: all elements once, each behind those ahead of it. -/
import Derived.Test.YtkipldmkdnjkaaaDoorOrdP
namespace Go.Proofs.YtkipldmkdnjkaaaDoor

/-- Rows that begin with least elements. -/
def Heads (C : Nat → Nat → Bool) (ls : List (List Nat)) : Prop := ∀ l ∈ ls, ∃ x r, l = x :: r ∧ leadC C x = true
theorem heads_circ (C : Nat → Nat → Bool) (n : Nat) : Heads C (circL C n) := fun l hl => by
  obtain ⟨i, hi⟩ := List.getElem?_of_mem hl
  obtain ⟨x, r, h1, _, _, h2⟩ := circ_head hi
  exact ⟨x, r, h1, h2⟩

theorem ahead_iff (C : Nat → Nat → Bool) (x y : Nat) (r s : List Nat) : aheadL C (x :: r) (y :: s) = true ↔ x ≠ y ∧ C x y = true := by simp [aheadL]
theorem ahead_self (C : Nat → Nat → Bool) (l : List Nat) : aheadL C l l = false := by simp [aheadL]
theorem ahead_asym {C : Nat → Nat → Bool} {x y : Nat} {r s : List Nat} (hx : leadC C x = true) (hy : leadC C y = true) (h : aheadL C (x :: r) (y :: s) = true) : aheadL C (y :: s) (x :: r) = false := by
  cases e : aheadL C (y :: s) (x :: r) with
  | false => rfl
  | true =>
    rw [ahead_iff] at h e
    exact absurd (lead_one hx hy ((oneC_iff C x y).2 (.inr ⟨h.2, e.2⟩))) h.1
theorem ahead_trans {C : Nat → Nat → Bool} (ht : Trans C) {x y z : Nat} {r s t : List Nat} (hx : leadC C x = true) (hy : leadC C y = true) (h : aheadL C (x :: r) (y :: s) = true) (k : aheadL C (y :: s) (z :: t) = true) : aheadL C (x :: r) (z :: t) = true := by
  have h' := (ahead_iff C x y r s).1 h
  have k' := (ahead_iff C y z s t).1 k
  refine (ahead_iff C x z r t).2 ⟨?_, ht _ _ _ h'.2 k'.2⟩
  rintro rfl
  exact h'.1 (lead_one hx hy ((oneC_iff C x y).2 (.inr ⟨h'.2, k'.2⟩)))

/-- One always has none ahead of it. -/
theorem free_exists {C : Nat → Nat → Bool} (ht : Trans C) : ∀ (ls : List (List Nat)), ls ≠ [] → Heads C ls → ∃ l ∈ ls, ∀ o ∈ ls, aheadL C o l = false
  | [], h, _ => absurd rfl h
  | [a], _, _ => ⟨a, by simp, fun o ho => by simp at ho; subst ho; exact ahead_self C o⟩
  | a :: b :: r, _, hh => by
    obtain ⟨m, hm, h1⟩ := free_exists ht (b :: r) (by simp) (fun l hl => hh l (List.mem_cons_of_mem _ hl))
    obtain ⟨x, xs, rfl, hx⟩ := hh a List.mem_cons_self
    obtain ⟨y, ys, rfl, hy⟩ := hh m (List.mem_cons_of_mem _ hm)
    cases e : aheadL C (x :: xs) (y :: ys) with
    | false =>
      refine ⟨y :: ys, List.mem_cons_of_mem _ hm, fun o ho => ?_⟩
      rcases List.mem_cons.1 ho with rfl | ho
      · exact e
      · exact h1 o ho
    | true =>
      refine ⟨x :: xs, List.mem_cons_self, fun o ho => ?_⟩
      rcases List.mem_cons.1 ho with rfl | ho
      · exact ahead_self C _
      · obtain ⟨z, zs, rfl, hz⟩ := hh o (List.mem_cons_of_mem _ ho)
        cases e2 : aheadL C (z :: zs) (x :: xs) with
        | false => rfl
        | true =>
          have := h1 _ ho
          rw [ahead_trans ht hz hx e2 e] at this
          cases this

theorem step_exists {C : Nat → Nat → Bool} (ht : Trans C) {left : List (List Nat)} (hne : left ≠ []) (hh : Heads C left) (out : List Nat) : ∃ (k : Nat) (l : List Nat), left[k]? = some l ∧ freeL C left l = true ∧ stepL C (left, out) = (left.eraseIdx k, out ++ l) := by
  obtain ⟨m, hm, h1⟩ := free_exists ht left hne hh
  have hf : freeL C left m = true := by
    unfold freeL
    rw [List.all_eq_true]
    intro o ho
    rw [h1 o ho]
    rfl
  cases e : left.findIdx? (freeL C left) with
  | none =>
    rw [List.findIdx?_eq_none_iff] at e
    rw [e m hm] at hf
    cases hf
  | some k =>
    have e' := e
    rw [List.findIdx?_eq_some_iff_getElem] at e
    obtain ⟨hk, h2, _⟩ := e
    refine ⟨k, left[k], List.getElem?_eq_getElem hk, h2, ?_⟩
    unfold stepL
    simp only [e']
    rw [List.getD_eq_getElem?_getD, List.getElem?_eq_getElem hk]
    rfl

theorem perm_erase : ∀ (l : List (List Nat)) (k : Nat) (hk : k < l.length), (l[k] :: l.eraseIdx k).Perm l
  | [], k, hk => by simp at hk
  | a :: r, 0, _ => by simp
  | a :: r, k + 1, hk => by
    have := perm_erase r k (by simpa using hk)
    simp only [List.getElem_cons_succ, List.eraseIdx_cons_succ]
    exact (List.Perm.swap a _ _).trans (List.Perm.cons a this)

structure SortInv (C : Nat → Nat → Bool) (ls : List (List Nat)) (r : Nat) (s : List (List Nat) × List Nat) (done : List (List Nat)) : Prop where
  out : s.2 = done.flatten
  perm : (done ++ s.1).Perm ls
  len : done.length = r
  pw : done.Pairwise fun x y => aheadL C y x = false
  beh : ∀ x ∈ done, ∀ y ∈ s.1, aheadL C y x = false

theorem sort_inv {C : Nat → Nat → Bool} (ht : Trans C) {ls : List (List Nat)} (hh : Heads C ls) (r : Nat) (hr : r ≤ ls.length) : ∃ done, SortInv C ls r (sortK C ls r) done := by
  induction r with
  | zero => exact ⟨[], rfl, List.Perm.refl _, rfl, List.Pairwise.nil, fun x hx => by simp at hx⟩
  | succ r ih =>
    obtain ⟨done, h⟩ := ih (by omega)
    have hlen := h.perm.length_eq
    rw [List.length_append, h.len] at hlen
    have hne : (sortK C ls r).1 ≠ [] := by
      intro e
      rw [e] at hlen
      simp at hlen
      omega
    have hh' : Heads C (sortK C ls r).1 := fun l hl => hh l (h.perm.mem_iff.1 (List.mem_append_right _ hl))
    obtain ⟨k, l, h1, h2, h3⟩ := step_exists ht hne hh' (sortK C ls r).2
    have h3' : sortK C ls (r + 1) = ((sortK C ls r).1.eraseIdx k, (sortK C ls r).2 ++ l) := h3
    obtain ⟨hk, hl⟩ := List.getElem?_eq_some_iff.1 h1
    have hp : (l :: (sortK C ls r).1.eraseIdx k).Perm (sortK C ls r).1 := by
      rw [← hl]
      exact perm_erase _ k hk
    have hml : l ∈ (sortK C ls r).1 := List.mem_of_getElem? h1
    refine ⟨done ++ [l], ?_, ?_, by rw [List.length_append, h.len]; rfl, ?_, ?_⟩
    · rw [h3', List.flatten_append, ← h.out]
      simp
    · rw [h3', List.append_assoc]
      exact (List.Perm.append_left done hp).trans h.perm
    · rw [List.pairwise_append]
      refine ⟨h.pw, List.pairwise_singleton _ _, fun x hx y hy => ?_⟩
      rw [List.mem_singleton] at hy
      subst hy
      exact h.beh x hx _ hml
    · rw [h3']
      intro x hx y hy
      have hy' := List.mem_of_mem_eraseIdx hy
      rcases List.mem_append.1 hx with hx | hx
      · exact h.beh x hx y hy'
      · rw [List.mem_singleton] at hx
        subst hx
        unfold freeL at h2
        rw [List.all_eq_true] at h2
        have := h2 y hy'
        simpa using this

theorem sort_end {C : Nat → Nat → Bool} (ht : Trans C) (n : Nat) : ∃ done : List (List Nat), sortL C n = done.flatten ∧ done.Perm (circL C n) ∧ done.Pairwise fun x y => aheadL C y x = false := by
  obtain ⟨done, h⟩ := sort_inv ht (heads_circ C n) (circL C n).length (Nat.le_refl _)
  have hlen := h.perm.length_eq
  rw [List.length_append, h.len] at hlen
  have he : (sortK C (circL C n) (circL C n).length).1 = [] := List.eq_nil_of_length_eq_zero (by omega)
  have hp := h.perm
  rw [he, List.append_nil] at hp
  exact ⟨done, h.out, hp, h.pw⟩

theorem circ_disj {C : Nat → Nat → Bool} (ht : Trans C) (n : Nat) : (circL C n).flatten.Nodup := by
  unfold List.Nodup
  rw [List.pairwise_flatten]
  constructor
  · intro l hl
    obtain ⟨y, _, rfl⟩ := List.mem_map.1 hl
    exact List.nodup_range.filter _
  · rw [List.pairwise_iff_getElem]
    intro i j hi hj hij x hx y hy e
    subst e
    have := cls_unique ht (List.getElem?_eq_getElem hi) (List.getElem?_eq_getElem hj) hx hy
    omega

theorem sort_nodup {C : Nat → Nat → Bool} (ht : Trans C) (n : Nat) : (sortL C n).Nodup := by
  obtain ⟨done, h1, h2, _⟩ := sort_end ht n
  rw [h1]
  exact (List.Perm.nodup_iff h2.flatten).2 (circ_disj ht n)
theorem sort_mem {C : Nat → Nat → Bool} (ht : Trans C) (n : Nat) {x : Nat} : x ∈ sortL C n ↔ x < n := by
  obtain ⟨done, h1, h2, _⟩ := sort_end ht n
  rw [h1, h2.flatten.mem_iff, List.mem_flatten]
  constructor
  · rintro ⟨l, hl, hx⟩
    unfold circL at hl
    obtain ⟨y, _, rfl⟩ := List.mem_map.1 hl
    exact (mem_cls.1 hx).1
  · intro h
    obtain ⟨i, l, h3, h4⟩ := cls_cover ht h
    exact ⟨l, List.mem_of_getElem? h3, h4⟩
theorem sort_length {C : Nat → Nat → Bool} (ht : Trans C) (n : Nat) : (sortL C n).length = n := by
  obtain ⟨done, h1, h2, _⟩ := sort_end ht n
  rw [h1, h2.flatten.length_eq, List.length_flatten]
  exact circ_total ht n

/-- Who stands ahead isn't behind. -/
theorem sort_order {C : Nat → Nat → Bool} (ht : Trans C) (n : Nat) : (sortL C n).Pairwise fun p q => ¬ (C q p = true ∧ C p q = false) := by
  obtain ⟨done, h1, h2, h3⟩ := sort_end ht n
  rw [h1, List.pairwise_flatten]
  have nice : ∀ l ∈ done, ∃ x r, l = x :: r ∧ leadC C x = true ∧ ∀ y ∈ l, oneC C x y = true := by
    intro l hl
    have hm := h2.mem_iff.1 hl
    obtain ⟨i, hi⟩ := List.getElem?_of_mem hm
    obtain ⟨x, r, e, _, _, hx⟩ := circ_head hi
    exact ⟨x, r, e, hx, fun y hy => cls_one ht hi (by rw [e]; exact List.mem_cons_self) hy⟩
  constructor
  · intro l hl
    obtain ⟨x, r, _, _, hx⟩ := nice l hl
    have : ∀ p ∈ l, ∀ q ∈ l, ¬ (C q p = true ∧ C p q = false) := by
      rintro p hp q hq ⟨c1, c2⟩
      have := oneC_trans ht (oneC_symm (hx p hp)) (hx q hq)
      rcases (oneC_iff C p q).1 this with e | e
      · subst e
        rw [c1] at c2
        cases c2
      · rw [e.1] at c2
        cases c2
    rw [List.pairwise_iff_getElem]
    intro i j hi hj _
    exact this _ (List.getElem_mem hi) _ (List.getElem_mem hj)
  · refine h3.imp_of_mem ?_
    rintro l m hl hm hno p hp q hq ⟨c1, c2⟩
    obtain ⟨x, r, rfl, hx, hxl⟩ := nice l hl
    obtain ⟨y, s, rfl, hy, hym⟩ := nice m hm
    have hyx : C y x = true ∨ x = y := by
      have e1 := (oneC_iff C y q).1 (hym q hq)
      have e2 := (oneC_iff C x p).1 (hxl p hp)
      rcases e1 with rfl | e1 <;> rcases e2 with rfl | e2
      · exact .inl c1
      · exact .inl (ht _ _ _ c1 e2.2)
      · exact .inl (ht _ _ _ e1.1 c1)
      · exact .inl (ht _ _ _ e1.1 (ht _ _ _ c1 e2.2))
    by_cases e : y = x
    · subst e
      have := oneC_trans ht (oneC_symm (hxl p hp)) (hym q hq)
      rcases (oneC_iff C p q).1 this with e | e
      · subst e
        rw [c1] at c2
        cases c2
      · rw [e.1] at c2
        cases c2
    · rcases hyx with h | h
      · rw [(ahead_iff C y x s r).2 ⟨e, h⟩] at hno
        cases hno
      · exact e h.symm

end Go.Proofs.YtkipldmkdnjkaaaDoor
