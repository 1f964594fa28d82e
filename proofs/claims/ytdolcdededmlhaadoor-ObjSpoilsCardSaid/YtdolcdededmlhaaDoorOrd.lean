/- Classes of a transitive relation, in plain lists: each told by its least element; the row; the least pairs. -/
import Derived.Test.YtdolcdededmlhaaDoorClo
namespace Go.Proofs.YtdolcdededmlhaaDoor

def oneC (C : Nat → Nat → Bool) (a b : Nat) : Bool := decide (a = b) || (C a b && C b a)
/-- No element ahead of a in number is in its class. -/
def leadC (C : Nat → Nat → Bool) (a : Nat) : Bool := (List.range a).all fun b => !oneC C a b
def leadsC (C : Nat → Nat → Bool) (k : Nat) : List Nat := (List.range k).filter (leadC C)
def clsC (C : Nat → Nat → Bool) (k l : Nat) : List Nat := (List.range k).filter (oneC C l)
/-- The classes of the elements below k. -/
def circL (C : Nat → Nat → Bool) (k : Nat) : List (List Nat) := (leadsC C k).map (clsC C k)

theorem oneC_iff (C : Nat → Nat → Bool) (a b : Nat) : oneC C a b = true ↔ a = b ∨ (C a b = true ∧ C b a = true) := by simp [oneC]
theorem oneC_refl (C : Nat → Nat → Bool) (a : Nat) : oneC C a a = true := by simp [oneC]
theorem oneC_symm {C : Nat → Nat → Bool} {a b : Nat} (h : oneC C a b = true) : oneC C b a = true := by
  rw [oneC_iff] at h ⊢
  rcases h with h | h
  · exact .inl h.symm
  · exact .inr ⟨h.2, h.1⟩
theorem oneC_trans {C : Nat → Nat → Bool} (ht : Trans C) {a b c : Nat} (h : oneC C a b = true) (k : oneC C b c = true) : oneC C a c = true := by
  rw [oneC_iff] at h k ⊢
  rcases h with rfl | h
  · exact k
  · rcases k with rfl | k
    · exact .inr h
    · exact .inr ⟨ht _ _ _ h.1 k.1, ht _ _ _ k.2 h.2⟩

theorem leadC_iff (C : Nat → Nat → Bool) (a : Nat) : leadC C a = true ↔ ∀ b, b < a → oneC C a b = false := by
  simp [leadC]
theorem mem_leads {C : Nat → Nat → Bool} {k a : Nat} : a ∈ leadsC C k ↔ a < k ∧ leadC C a = true := by simp [leadsC]
theorem mem_cls {C : Nat → Nat → Bool} {k l a : Nat} : a ∈ clsC C k l ↔ a < k ∧ oneC C l a = true := by simp [clsC]

/-- Each element has a least one in its class. -/
theorem lead_of {C : Nat → Nat → Bool} (ht : Trans C) (a : Nat) : ∃ l, l ≤ a ∧ leadC C l = true ∧ oneC C l a = true := by
  induction a using Nat.strongRecOn with
  | _ a ih =>
    by_cases h : leadC C a = true
    · exact ⟨a, Nat.le_refl _, h, oneC_refl C a⟩
    · rw [leadC_iff] at h
      simp only [Classical.not_forall] at h
      obtain ⟨b, hb, h1⟩ := h
      simp only [Bool.not_eq_false] at h1
      obtain ⟨l, h2, h3, h4⟩ := ih b hb
      exact ⟨l, by omega, h3, oneC_trans ht h4 (oneC_symm h1)⟩
theorem lead_one {C : Nat → Nat → Bool} {a b : Nat} (h1 : leadC C a = true) (h2 : leadC C b = true) (h : oneC C a b = true) : a = b := by
  rw [leadC_iff] at h1 h2
  rcases Nat.lt_trichotomy a b with h3 | h3 | h3
  · have := h2 a h3; rw [oneC_symm h] at this; cases this
  · exact h3
  · have := h1 b h3; rw [h] at this; cases this

theorem leads_succ (C : Nat → Nat → Bool) (a : Nat) : leadsC C (a + 1) = leadsC C a ++ if leadC C a then [a] else [] := by
  unfold leadsC
  rw [List.range_succ, List.filter_append, List.filter_cons]
  cases leadC C a <;> rfl
theorem cls_succ (C : Nat → Nat → Bool) (a l : Nat) : clsC C (a + 1) l = clsC C a l ++ if oneC C l a then [a] else [] := by
  unfold clsC
  rw [List.range_succ, List.filter_append, List.filter_cons]
  cases oneC C l a <;> rfl
theorem leads_nodup (C : Nat → Nat → Bool) (k : Nat) : (leadsC C k).Nodup := List.nodup_range.filter _
theorem nodup_inj {l : List Nat} (h : l.Nodup) {i j x : Nat} (hi : l[i]? = some x) (hj : l[j]? = some x) : i = j := by
  obtain ⟨p1, p2⟩ := List.getElem?_eq_some_iff.1 hi
  obtain ⟨p3, p4⟩ := List.getElem?_eq_some_iff.1 hj
  rcases Nat.lt_trichotomy i j with h3 | h3 | h3
  · exact absurd (p2.trans p4.symm) (List.pairwise_iff_getElem.1 h i j p1 p3 h3)
  · exact h3
  · exact absurd (p4.trans p2.symm) (List.pairwise_iff_getElem.1 h j i p3 p1 h3)
theorem leads_le (C : Nat → Nat → Bool) (k : Nat) : (leadsC C k).length ≤ k := by
  have := List.length_filter_le (leadC C) (List.range k)
  simpa [leadsC] using this
theorem cls_le (C : Nat → Nat → Bool) (k l : Nat) : (clsC C k l).length ≤ k := by
  have := List.length_filter_le (oneC C l) (List.range k)
  simpa [clsC] using this
theorem circ_length (C : Nat → Nat → Bool) (k : Nat) : (circL C k).length = (leadsC C k).length := by simp [circL]
theorem circ_get {C : Nat → Nat → Bool} {k i : Nat} {l : List Nat} (h : (circL C k)[i]? = some l) : ∃ x, (leadsC C k)[i]? = some x ∧ l = clsC C k x := by
  unfold circL at h
  rw [List.getElem?_map, Option.map_eq_some_iff] at h
  obtain ⟨x, h1, h2⟩ := h
  exact ⟨x, h1, h2.symm⟩

/-- The class of a least element begins with it. -/
theorem cls_head {C : Nat → Nat → Bool} {k x : Nat} (hx : x < k) (hl : leadC C x = true) : ∃ r, clsC C k x = x :: r := by
  induction k with
  | zero => omega
  | succ k ih =>
    rw [cls_succ]
    by_cases h : x < k
    · obtain ⟨r, hr⟩ := ih h
      rw [hr]
      exact ⟨_, rfl⟩
    · obtain rfl : x = k := by omega
      have : clsC C x x = [] := by
        unfold clsC
        rw [List.filter_eq_nil_iff]
        intro b hb
        rw [leadC_iff] at hl
        simp [hl b (by simpa using hb)]
      rw [this, oneC_refl]
      exact ⟨[], rfl⟩
theorem circ_head {C : Nat → Nat → Bool} {k i : Nat} {l : List Nat} (h : (circL C k)[i]? = some l) : ∃ x r, l = x :: r ∧ (leadsC C k)[i]? = some x ∧ x < k ∧ leadC C x = true := by
  obtain ⟨x, h1, rfl⟩ := circ_get h
  have hm := mem_leads.1 (List.mem_of_getElem? h1)
  obtain ⟨r, hr⟩ := cls_head hm.1 hm.2
  exact ⟨x, r, hr, h1, hm.1, hm.2⟩

theorem circ_hit {C : Nat → Nat → Bool} (ht : Trans C) {a k x : Nat} {l : List Nat} (hl : (circL C a)[k]? = some l) (hx : (leadsC C a)[k]? = some x) (h : C a x = true ∧ C x a = true) : circL C (a + 1) = (circL C a).set k (l ++ [a]) := by
  have hm := mem_leads.1 (List.mem_of_getElem? hx)
  have hno : leadC C a = false := by
    cases e : leadC C a with
    | false => rfl
    | true =>
      rw [leadC_iff] at e
      have := e x hm.1
      rw [(oneC_iff C a x).2 (.inr h)] at this
      cases this
  have hls : leadsC C (a + 1) = leadsC C a := by rw [leads_succ, hno]; simp
  obtain ⟨x', hx', hlx⟩ := circ_get hl
  obtain rfl : x' = x := by rw [hx] at hx'; exact (Option.some.inj hx').symm
  apply List.ext_getElem?
  intro i
  unfold circL
  rw [hls, List.getElem?_set, List.getElem?_map, List.getElem?_map]
  by_cases hik : k = i
  · subst hik
    rw [if_pos rfl, if_pos (by simp; exact (List.getElem?_eq_some_iff.1 hx).1), hx, hlx]
    simp only [Option.map_some, cls_succ]
    rw [(oneC_iff C x' a).2 (.inr ⟨h.2, h.1⟩)]
    rfl
  · rw [if_neg hik]
    cases hy : (leadsC C a)[i]? with
    | none => rfl
    | some y =>
      simp only [Option.map_some, cls_succ]
      have hmy := mem_leads.1 (List.mem_of_getElem? hy)
      have : oneC C y a = false := by
        cases e : oneC C y a with
        | false => rfl
        | true =>
          have h2 : oneC C y x' = true := oneC_trans ht e ((oneC_iff C a x').2 (.inr h))
          have h3 := lead_one hmy.2 hm.2 h2
          subst h3
          exact absurd (nodup_inj (leads_nodup C a) hx hy) hik
      rw [this]
      simp

theorem circ_miss {C : Nat → Nat → Bool} (ht : Trans C) {a : Nat} (h : ∀ (k x : Nat), (leadsC C a)[k]? = some x → ¬ (C a x = true ∧ C x a = true)) : circL C (a + 1) = circL C a ++ [[a]] := by
  have hn : ∀ b, b < a → oneC C a b = false := by
    intro b hb
    cases e : oneC C a b with
    | false => rfl
    | true =>
      obtain ⟨l, h1, h2, h3⟩ := lead_of ht b
      have hm : l ∈ leadsC C a := mem_leads.2 ⟨by omega, h2⟩
      obtain ⟨k, hk⟩ := List.getElem?_of_mem hm
      have h4 := oneC_trans ht e (oneC_symm h3)
      rw [oneC_iff] at h4
      rcases h4 with h4 | h4
      · omega
      · exact absurd h4 (h k l hk)
  have hl : leadC C a = true := (leadC_iff C a).2 hn
  unfold circL
  rw [leads_succ, hl, if_pos rfl, List.map_append]
  congr 1
  · apply List.map_congr_left
    intro y hy
    have hmy := mem_leads.1 hy
    rw [cls_succ]
    have : oneC C y a = false := by
      cases e : oneC C y a with
      | false => rfl
      | true => have := hn y hmy.1; rw [oneC_symm e] at this; cases this
    rw [this]
    simp
  · have : clsC C a a = [] := by
      unfold clsC
      rw [List.filter_eq_nil_iff]
      intro b hb
      simp [hn b (by simpa using hb)]
    rw [List.map_singleton, cls_succ, this, oneC_refl]
    rfl

/-- Of each element the place of its class, as the loops lay it. -/
def setL (o xs : List Nat) (k : Nat) : List Nat := xs.foldl (fun o x => o.set x k) o
def ofK (ls : List (List Nat)) (n : Nat) : Nat → List Nat
  | 0 => List.replicate n 0
  | k + 1 => setL (ofK ls n k) (ls.getD k []) k
theorem setL_len (xs : List Nat) (k : Nat) : ∀ o, (setL o xs k).length = o.length := by
  induction xs with
  | nil => intro o; rfl
  | cons x r ih => intro o; show (setL (o.set x k) r k).length = _; rw [ih]; simp
theorem ofK_len (ls : List (List Nat)) (n k : Nat) : (ofK ls n k).length = n := by
  induction k with
  | zero => simp [ofK]
  | succ k ih => rw [ofK, setL_len, ih]
theorem setL_snoc (o xs : List Nat) (x k : Nat) : setL o (xs ++ [x]) k = (setL o xs k).set x k := by simp [setL]

/-- Class a is ahead of class b: told by their first elements. -/
def aheadL (C : Nat → Nat → Bool) (a b : List Nat) : Bool := decide (a.headD 0 ≠ b.headD 0) && C (a.headD 0) (b.headD 0)
/-- None of those left is ahead of l. -/
def freeL (C : Nat → Nat → Bool) (left : List (List Nat)) (l : List Nat) : Bool := left.all fun o => !aheadL C o l
def stepL (C : Nat → Nat → Bool) (s : List (List Nat) × List Nat) : List (List Nat) × List Nat :=
  match s.1.findIdx? (freeL C s.1) with
  | some k => (s.1.eraseIdx k, s.2 ++ s.1.getD k [])
  | none => s
def sortK (C : Nat → Nat → Bool) (ls : List (List Nat)) : Nat → List (List Nat) × List Nat
  | 0 => (ls, [])
  | r + 1 => stepL C (sortK C ls r)
def sortL (C : Nat → Nat → Bool) (n : Nat) : List Nat := (sortK C (circL C n) (circL C n).length).2
/-- A third class lies between. -/
def betw (C : Nat → Nat → Bool) (ls : List (List Nat)) (f t : List Nat) : Bool := ls.any fun b => aheadL C f b && aheadL C b t
def redF (C : Nat → Nat → Bool) (ls : List (List Nat)) (f : List Nat) (ts : List (List Nat)) : List (Int × Int) :=
  (ts.filter fun t => aheadL C f t && !betw C ls f t).map fun t => ((f.headD 0 : Nat), (t.headD 0 : Nat))
def redK (C : Nat → Nat → Bool) (ls fs : List (List Nat)) : List (Int × Int) := fs.flatMap fun f => redF C ls f ls
def redL (C : Nat → Nat → Bool) (n : Nat) : List (Int × Int) := redK C (circL C n) (circL C n)
def ordB (C : Nat → Nat → Bool) (n : Nat) : Bool := (List.range n).all fun a => !C a a
def totB (C : Nat → Nat → Bool) (n : Nat) : Bool := (List.range n).all fun a => (List.range a).all fun b => C a b || C b a

theorem setL_nil (o : List Nat) (k : Nat) : setL o [] k = o := rfl
theorem redF_snoc (C : Nat → Nat → Bool) (ls : List (List Nat)) (f : List Nat) (ts : List (List Nat)) (t : List Nat) : redF C ls f (ts ++ [t]) = redF C ls f ts ++ if aheadL C f t && !betw C ls f t then [(((f.headD 0 : Nat) : Int), ((t.headD 0 : Nat) : Int))] else [] := by
  unfold redF
  rw [List.filter_append, List.map_append, List.filter_cons]
  cases (aheadL C f t && !betw C ls f t) <;> rfl
theorem redK_snoc (C : Nat → Nat → Bool) (ls fs : List (List Nat)) (f : List Nat) : redK C ls (fs ++ [f]) = redK C ls fs ++ redF C ls f ls := by simp [redK]
theorem redF_len (C : Nat → Nat → Bool) (ls : List (List Nat)) (f : List Nat) (ts : List (List Nat)) : (redF C ls f ts).length ≤ ts.length := by
  unfold redF
  rw [List.length_map]
  exact List.length_filter_le _ _
theorem redK_len (C : Nat → Nat → Bool) (ls fs : List (List Nat)) : (redK C ls fs).length ≤ fs.length * ls.length := by
  induction fs with
  | nil => simp [redK]
  | cons f r ih =>
    have h1 := redF_len C ls f ls
    have : redK C ls (f :: r) = redF C ls f ls ++ redK C ls r := rfl
    rw [this, List.length_append, List.length_cons, Nat.succ_mul]
    omega

end Go.Proofs.YtdolcdededmlhaaDoor
