/- What is so of classes, rows and least pairs, in plain lists: each element is in just one class. -/
import Derived.Test.YtkipldmkdnjkaaaDoorOrd
namespace Go.Proofs.YtkipldmkdnjkaaaDoor

def total (ls : List (List Nat)) : Nat := (ls.map List.length).sum
theorem total_snoc (ls : List (List Nat)) (l : List Nat) : total (ls ++ [l]) = total ls + l.length := by simp [total]
theorem total_take_succ {ls : List (List Nat)} {k : Nat} {l : List Nat} (h : ls[k]? = some l) : total (ls.take (k + 1)) = total (ls.take k) + l.length := by
  rw [List.take_add_one, h]
  exact total_snoc _ _
theorem total_set (ls : List (List Nat)) : ∀ (k : Nat) (l m : List Nat), ls[k]? = some l → total (ls.set k m) + l.length = total ls + m.length := by
  induction ls with
  | nil => intro k l m h; simp at h
  | cons x r ih =>
    intro k l m h
    cases k with
    | zero =>
      simp at h
      subst h
      simp [total]
      omega
    | succ k =>
      rw [List.getElem?_cons_succ] at h
      have := ih k l m h
      simp [total] at this ⊢
      omega

/-- Each step of the classes is one of two. -/
theorem circ_step {C : Nat → Nat → Bool} (ht : Trans C) (a : Nat) : (∃ k l, (circL C a)[k]? = some l ∧ circL C (a + 1) = (circL C a).set k (l ++ [a])) ∨ circL C (a + 1) = circL C a ++ [[a]] := by
  by_cases h : ∃ (k x : Nat), (leadsC C a)[k]? = some x ∧ C a x = true ∧ C x a = true
  · obtain ⟨k, x, h1, h2⟩ := h
    left
    have hk : k < (circL C a).length := by rw [circ_length]; exact (List.getElem?_eq_some_iff.1 h1).1
    exact ⟨k, _, List.getElem?_eq_getElem hk, circ_hit ht (List.getElem?_eq_getElem hk) h1 h2⟩
  · right
    exact circ_miss ht fun k x hk hc => h ⟨k, x, hk, hc⟩
theorem circ_total {C : Nat → Nat → Bool} (ht : Trans C) (n : Nat) : total (circL C n) = n := by
  induction n with
  | zero => rfl
  | succ a ih =>
    rcases circ_step ht a with ⟨k, l, h1, h2⟩ | h
    · have := total_set _ k l (l ++ [a]) h1
      rw [h2]
      simp at this
      omega
    · rw [h, total_snoc, ih]
      rfl

theorem setL_get (xs : List Nat) (k : Nat) : ∀ (o : List Nat) (x : Nat), (setL o xs k)[x]? = if x ∈ xs ∧ x < o.length then some k else o[x]? := by
  induction xs with
  | nil => intro o x; simp [setL]
  | cons y r ih =>
    intro o x
    show (setL (o.set y k) r k)[x]? = _
    rw [ih, List.length_set]
    by_cases c : x ∈ r ∧ x < o.length
    · rw [if_pos c, if_pos ⟨List.mem_cons_of_mem _ c.1, c.2⟩]
    · rw [if_neg c, List.getElem?_set]
      by_cases e : y = x
      · subst e
        rw [if_pos rfl]
        by_cases h : y < o.length
        · rw [if_pos h, if_pos ⟨List.mem_cons_self, h⟩]
        · rw [if_neg h, if_neg (fun hh => h hh.2), List.getElem?_eq_none (by omega)]
      · rw [if_neg e, if_neg]
        rintro ⟨h1, h2⟩
        rcases List.mem_cons.1 h1 with h1 | h1
        · exact e h1.symm
        · exact c ⟨h1, h2⟩

theorem cls_unique {C : Nat → Nat → Bool} (ht : Trans C) {n i j : Nat} {l m : List Nat} (hl : (circL C n)[i]? = some l) (hm : (circL C n)[j]? = some m) {x : Nat} (h1 : x ∈ l) (h2 : x ∈ m) : i = j := by
  obtain ⟨y, p1, rfl⟩ := circ_get hl
  obtain ⟨z, p2, rfl⟩ := circ_get hm
  have q1 := (mem_leads.1 (List.mem_of_getElem? p1)).2
  have q2 := (mem_leads.1 (List.mem_of_getElem? p2)).2
  have e := lead_one q1 q2 (oneC_trans ht (mem_cls.1 h1).2 (oneC_symm (mem_cls.1 h2).2))
  subst e
  exact nodup_inj (leads_nodup C n) p1 p2
theorem cls_cover {C : Nat → Nat → Bool} (ht : Trans C) {n x : Nat} (hx : x < n) : ∃ (i : Nat) (l : List Nat), (circL C n)[i]? = some l ∧ x ∈ l := by
  obtain ⟨y, h1, h2, h3⟩ := lead_of ht x
  have hm : y ∈ leadsC C n := mem_leads.2 ⟨by omega, h2⟩
  obtain ⟨i, hi⟩ := List.getElem?_of_mem hm
  refine ⟨i, clsC C n y, ?_, mem_cls.2 ⟨hx, h3⟩⟩
  unfold circL
  rw [List.getElem?_map, hi]
  rfl
theorem cls_one {C : Nat → Nat → Bool} (ht : Trans C) {n i : Nat} {l : List Nat} (hl : (circL C n)[i]? = some l) {x y : Nat} (h1 : x ∈ l) (h2 : y ∈ l) : oneC C x y = true := by
  obtain ⟨z, p1, rfl⟩ := circ_get hl
  exact oneC_trans ht (oneC_symm (mem_cls.1 h1).2) (mem_cls.1 h2).2
theorem cls_in {C : Nat → Nat → Bool} (ht : Trans C) {n i : Nat} {l : List Nat} (hl : (circL C n)[i]? = some l) {x y : Nat} (h1 : x ∈ l) (hy : y < n) (h : oneC C x y = true) : y ∈ l := by
  obtain ⟨z, p1, rfl⟩ := circ_get hl
  exact mem_cls.2 ⟨hy, oneC_trans ht (mem_cls.1 h1).2 h⟩

/-- Where an element's class stands. -/
theorem of_at {C : Nat → Nat → Bool} (ht : Trans C) {n i x : Nat} {l : List Nat} (hl : (circL C n)[i]? = some l) (hx : x ∈ l) (hn : x < n) : (ofK (circL C n) n (circL C n).length)[x]? = some i := by
  have key : ∀ k, i < k → (ofK (circL C n) n k)[x]? = some i := by
    intro k
    induction k with
    | zero => intro h; omega
    | succ k ih =>
      intro h
      rw [ofK, setL_get, ofK_len]
      by_cases e : i = k
      · subst e
        rw [if_pos]
        rw [List.getD_eq_getElem?_getD, hl]
        exact ⟨hx, hn⟩
      · rw [if_neg, ih (by omega)]
        rintro ⟨h1, _⟩
        rw [List.getD_eq_getElem?_getD] at h1
        cases hm : (circL C n)[k]? with
        | none => rw [hm] at h1; simp at h1
        | some m =>
          rw [hm] at h1
          exact e (cls_unique ht hl hm hx h1)
  exact key _ (List.getElem?_eq_some_iff.1 hl).1

theorem of_same {C : Nat → Nat → Bool} (ht : Trans C) {n a b x y : Nat} (ha : a < n) (hb : b < n) (hx : (ofK (circL C n) n (circL C n).length)[a]? = some x) (hy : (ofK (circL C n) n (circL C n).length)[b]? = some y) : (x = y) ↔ oneC C a b = true := by
  obtain ⟨i, l, h1, h2⟩ := cls_cover ht ha
  obtain ⟨j, m, h3, h4⟩ := cls_cover ht hb
  rw [of_at ht h1 h2 ha] at hx
  rw [of_at ht h3 h4 hb] at hy
  cases hx
  cases hy
  constructor
  · rintro rfl
    rw [h1] at h3
    cases h3
    exact cls_one ht h1 h2 h4
  · intro h
    exact cls_unique ht h1 h3 (cls_in ht h1 h2 hb h) h4

end Go.Proofs.YtkipldmkdnjkaaaDoor
