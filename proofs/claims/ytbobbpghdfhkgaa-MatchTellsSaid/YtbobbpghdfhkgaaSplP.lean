/- Texts as lines, in plain words: what the lines of a text are, when texts are lines, what fits. -/
import Derived.Lib.Join
import Derived.Lib.Bytealg
import Derived.Lib.Strings
import Derived.Lib.IndexBytes
namespace Go.Proofs.Ytbobbpghdfhkgaa

/-- The lines of a text: each up to the byte 10 and with it. -/
def cutL : List UInt8 → List (List UInt8)
  | [] => []
  | x :: t => if x = 10 then [x] :: cutL t else match cutL t with | [] => [[x]] | l :: r => (x :: l) :: r

/-- How many bytes the first line has. -/
def firstL : List UInt8 → Nat
  | [] => 0
  | x :: t => if x = 10 then 1 else firstL t + 1

theorem cutL_cons (x : UInt8) (t : List UInt8) : cutL (x :: t) = if x = 10 then [x] :: cutL t else match cutL t with | [] => [[x]] | l :: r => (x :: l) :: r := rfl
theorem firstL_cons (x : UInt8) (t : List UInt8) : firstL (x :: t) = if x = 10 then 1 else firstL t + 1 := rfl

theorem firstL_le : ∀ l : List UInt8, firstL l ≤ l.length
  | [] => Nat.le_refl _
  | x :: t => by
    rw [firstL_cons]
    have := firstL_le t
    split <;> simp <;> omega
theorem firstL_pos {l : List UInt8} (h : l ≠ []) : 0 < firstL l := by
  cases l with
  | nil => exact absurd rfl h
  | cons x t => rw [firstL_cons]; split <;> omega

/-- What strings.IndexByte tells of the first line. -/
theorem firstL_index (l : List UInt8) : (Lib.indexByte l 10 = -1 ∧ firstL l = l.length) ∨ (Lib.indexByte l 10 = (firstL l : Int) - 1 ∧ 0 < firstL l) := by
  induction l with
  | nil => exact .inl ⟨rfl, rfl⟩
  | cons x t ih =>
    rw [firstL_cons]
    unfold Lib.indexByte
    by_cases h : x = 10
    · right
      subst h
      exact ⟨rfl, by simp⟩
    · have hx : (x == 10) = false := by simpa using h
      rw [hx, if_neg h]
      rcases ih with ⟨h1, h2⟩ | ⟨h1, h2⟩
      · left
        rw [h1]
        exact ⟨rfl, by simp [h2]⟩
      · right
        rw [h1]
        have : ((firstL t : Int) - 1 == -1) = false := by simp; omega
        rw [this]
        refine ⟨?_, by omega⟩
        simp only [Bool.false_eq_true, if_false]
        omega

theorem cutL_first : ∀ {l : List UInt8}, l ≠ [] → cutL l = l.take (firstL l) :: cutL (l.drop (firstL l))
  | [], h => absurd rfl h
  | x :: t, _ => by
    rw [cutL_cons, firstL_cons]
    by_cases h : x = 10
    · rw [if_pos h, if_pos h]; rfl
    · rw [if_neg h, if_neg h]
      by_cases ht : t = []
      · subst ht; rfl
      · rw [cutL_first ht]
        rfl

theorem cutL_flatten : ∀ l : List UInt8, (cutL l).flatten = l
  | [] => rfl
  | x :: t => by
    have ih := cutL_flatten t
    rw [cutL_cons]
    split
    · rw [List.flatten_cons, ih]; rfl
    · cases h : cutL t with
      | nil => rw [h] at ih; simp at ih; simp [← ih]
      | cons l r =>
        rw [h] at ih
        simp only [List.flatten_cons, List.cons_append] at ih ⊢
        rw [ih]

theorem cutL_nil {l : List UInt8} (h : cutL l = []) : l = [] := by
  have := cutL_flatten l
  rw [h] at this
  exact this.symm

/-- A text that ends with a line's end, and another one behind it: the lines of both. -/
theorem cutL_append : ∀ (a b : List UInt8), cutL (a ++ 10 :: b) = cutL (a ++ [10]) ++ cutL b
  | [], b => rfl
  | x :: t, b => by
    have ih := cutL_append t b
    simp only [List.cons_append, cutL_cons]
    split
    · rw [ih]; rfl
    · rw [ih]
      cases h : cutL (t ++ [10]) with
      | nil => exact absurd (cutL_nil h) (by simp)
      | cons l r => rfl

/-- No end within: one line. -/
theorem cutL_one : ∀ {l : List UInt8}, l ≠ [] → (∀ x ∈ l, x ≠ 10) → cutL l = [l]
  | [], h, _ => absurd rfl h
  | x :: t, _, h => by
    have hx : x ≠ 10 := h x (List.mem_cons_self ..)
    rw [cutL_cons]
    rw [if_neg hx]
    by_cases ht : t = []
    · subst ht; rfl
    · rw [cutL_one ht fun y hy => h y (List.mem_cons_of_mem _ hy)]
theorem cutL_end : ∀ {l : List UInt8}, (∀ x ∈ l, x ≠ 10) → cutL (l ++ [10]) = [l ++ [10]]
  | [], _ => rfl
  | x :: t, h => by
    have hx : x ≠ 10 := h x (List.mem_cons_self ..)
    rw [List.cons_append, cutL_cons, if_neg hx, cutL_end fun y hy => h y (List.mem_cons_of_mem _ hy)]

/-- One line's end more makes no line fewer, and one at least. -/
theorem cutL_more : ∀ l : List UInt8, (cutL l).length ≤ (cutL (l ++ [10])).length ∧ 1 ≤ (cutL (l ++ [10])).length
  | [] => ⟨Nat.zero_le _, Nat.le_refl _⟩
  | x :: t => by
    have ih := cutL_more t
    simp only [List.cons_append, cutL_cons]
    split
    · simp only [List.length_cons]; omega
    · cases h : cutL t with
      | nil =>
        have := cutL_nil h
        subst this
        exact ⟨Nat.le_refl 1, Nat.le_refl 1⟩
      | cons l r =>
        rw [h] at ih
        cases h2 : cutL (t ++ [10]) with
        | nil => exact absurd (cutL_nil h2) (by simp)
        | cons l2 r2 => rw [h2] at ih; exact ih

/-- Whether a text is a line; whether it must have an end. -/
def goodB (last : Bool) (s : List UInt8) : Bool := decide (s ≠ []) && decide (firstL s = s.length) && (last || decide (s.getLast? = some 10))
/-- Whether texts are lines of one. -/
def isB (L : List (List UInt8)) : Bool := (List.range L.length).all fun i => goodB (decide (i + 1 = L.length)) (L[i]?.getD [])

theorem isB_cons (s : List UInt8) (t : List (List UInt8)) : isB (s :: t) = (goodB t.isEmpty s && isB t) := by
  unfold isB
  rw [List.length_cons, List.range_succ_eq_map, List.all_cons, List.all_map]
  congr 1
  · cases t <;> simp
  · congr 1
    funext i
    simp

theorem firstL_append : ∀ (s b : List UInt8), firstL s = s.length → s.getLast? = some 10 → firstL (s ++ b) = s.length
  | [], _, _, h => by cases h
  | x :: t, b, h, hl => by
    simp only [List.cons_append]
    rw [firstL_cons] at h ⊢
    by_cases hx : x = 10
    · rw [if_pos hx] at h ⊢; exact h
    · rw [if_neg hx] at h ⊢
      simp only [List.length_cons] at h ⊢
      have ht : t ≠ [] := by
        rintro rfl
        simp at hl
        exact hx hl
      rw [firstL_append t b (by omega) (by
        obtain ⟨y, r, rfl⟩ : ∃ y r, t = y :: r := by cases t with | nil => exact absurd rfl ht | cons y r => exact ⟨y, r, rfl⟩
        rwa [List.getLast?_cons_cons] at hl)]

theorem take_last : ∀ {l : List UInt8}, l.drop (firstL l) ≠ [] → (l.take (firstL l)).getLast? = some 10
  | [], h => absurd rfl h
  | x :: t, h => by
    rw [firstL_cons] at h ⊢
    by_cases hx : x = 10
    · rw [if_pos hx]; simp [hx]
    · rw [if_neg hx] at h ⊢
      simp only [List.drop_succ_cons, List.take_succ_cons] at h ⊢
      have ih := take_last h
      cases ht : t.take (firstL t) with
      | nil => rw [ht] at ih; cases ih
      | cons y r => rw [ht] at ih; rw [List.getLast?_cons_cons, ih]

theorem firstL_take : ∀ l : List UInt8, firstL (l.take (firstL l)) = firstL l
  | [] => rfl
  | x :: t => by
    rw [firstL_cons x t]
    by_cases hx : x = 10
    · rw [if_pos hx]; simp [firstL, hx]
    · rw [if_neg hx, List.take_succ_cons]
      rw [firstL_cons, if_neg hx, firstL_take t]

/-- A text's lines are lines. -/
theorem isB_cut (n : Nat) : ∀ l : List UInt8, l.length ≤ n → isB (cutL l) = true := by
  induction n with
  | zero => intro l h; obtain rfl : l = [] := by cases l with | nil => rfl | cons => simp at h
            rfl
  | succ n ih =>
    intro l h
    by_cases hl : l = []
    · subst hl; rfl
    · rw [cutL_first hl, isB_cons, ih _ (by have := firstL_pos hl; rw [List.length_drop]; omega), Bool.and_true]
      have hp := firstL_pos hl
      have hle := firstL_le l
      unfold goodB
      have h1 : decide (l.take (firstL l) ≠ []) = true := by
        rw [decide_eq_true_eq]
        intro e
        have := congrArg List.length e
        rw [List.length_take] at this
        simp at this
        rcases this with h | h
        · omega
        · exact hl h
      have h2 : decide (firstL (l.take (firstL l)) = (l.take (firstL l)).length) = true := by
        rw [decide_eq_true_eq, firstL_take, List.length_take]
        omega
      rw [h1, h2]
      by_cases hd : l.drop (firstL l) = []
      · rw [hd]; rfl
      · rw [take_last hd]; simp

/-- What are lines is what is split so again. -/
theorem cut_isB : ∀ L : List (List UInt8), isB L = true → cutL L.flatten = L
  | [], _ => rfl
  | s :: t, h => by
    rw [isB_cons, Bool.and_eq_true] at h
    obtain ⟨h, ht⟩ := h
    have ih := cut_isB t ht
    unfold goodB at h
    simp only [Bool.and_eq_true, decide_eq_true_eq, Bool.or_eq_true] at h
    obtain ⟨⟨hs, hf⟩, hl⟩ := h
    have hne : (s :: t).flatten ≠ [] := by
      rw [List.flatten_cons]
      exact fun e => hs (List.append_eq_nil_iff.1 e).1
    rw [cutL_first hne, List.flatten_cons]
    have hfl : firstL (s ++ t.flatten) = s.length := by
      rcases hl with he | hl
      · have : t = [] := List.isEmpty_iff.1 he
        subst this
        simpa using hf
      · exact firstL_append s _ hf hl
    rw [hfl, List.take_left', List.drop_left', ih] <;> rfl

theorem isB_iff (L : List (List UInt8)) : isB L = decide (cutL L.flatten = L) := by
  rw [Bool.eq_iff_iff, decide_eq_true_eq]
  constructor
  · exact cut_isB L
  · intro h
    rw [← h]
    exact isB_cut _ _ (Nat.le_refl _)

/-- Ends stand nowhere but at the end. -/
theorem firstL_full : ∀ (s : List UInt8), firstL s = s.length ↔ ∀ k, k + 1 < s.length → s[k]? ≠ some 10
  | [] => by simp [firstL]
  | x :: t => by
    have ih := firstL_full t
    rw [firstL_cons]
    simp only [List.length_cons]
    by_cases hx : x = 10
    · rw [if_pos hx]
      constructor
      · intro h k hk; omega
      · intro h
        by_cases h0 : t.length = 0
        · omega
        · exact absurd (by simp [hx]) (h 0 (by omega))
    · rw [if_neg hx]
      constructor
      · intro h k hk
        cases k with
        | zero => simpa using hx
        | succ k => rw [List.getElem?_cons_succ]; exact ih.1 (by omega) k (by omega)
      · intro h
        have := ih.2 fun k hk => by have := h (k + 1) (by omega); rwa [List.getElem?_cons_succ] at this
        omega

/-! Texts as they lie in memory. -/
def bl (s : ByteArray) : List UInt8 := s.data.toList
def mkB (l : List UInt8) : ByteArray := ⟨l.toArray⟩
theorem bl_mk (l : List UInt8) : bl (mkB l) = l := rfl
theorem mk_bl (s : ByteArray) : mkB (bl s) = s := by obtain ⟨⟨l⟩⟩ := s; rfl
theorem bl_size (s : ByteArray) : (bl s).length = s.size := (Lib.size_eq s).symm
theorem bl_append (a b : ByteArray) : bl (a ++ b) = bl a ++ bl b := by
  unfold bl
  simp [ByteArray.data_append]
theorem bl_inj {a b : ByteArray} (h : bl a = bl b) : a = b := by rw [← mk_bl a, h, mk_bl]
theorem map_mk_bl (L : List ByteArray) : (L.map bl).map mkB = L := by
  rw [List.map_map, show mkB ∘ bl = id from funext mk_bl, List.map_id]
theorem map_bl_mk (L : List (List UInt8)) : (L.map mkB).map bl = L := by
  rw [List.map_map, show bl ∘ mkB = id from rfl, List.map_id]

/-- The lines of a text. -/
def linesS (s : ByteArray) : List ByteArray := (cutL (bl s)).map mkB
/-- One behind the other. -/
def joinS (L : List ByteArray) : ByteArray := mkB (L.map bl).flatten
/-- Whether texts are lines. -/
def isS (L : List ByteArray) : Bool := isB (L.map bl)
/-- Whether a text fits. -/
def fitL (l : List ByteArray) : Bool := decide (l.length ≤ 40) && l.all fun s => decide (s.size ≤ 60)
def fitsS (s : ByteArray) : Bool := fitL (linesS s)

theorem joinS_lines (s : ByteArray) : joinS (linesS s) = s := by
  unfold joinS linesS
  rw [map_bl_mk, cutL_flatten, mk_bl]
theorem isS_lines (s : ByteArray) : isS (linesS s) = true := by
  unfold isS linesS
  rw [map_bl_mk]
  exact isB_cut _ _ (Nat.le_refl _)
theorem isS_iff (L : List ByteArray) : isS L = decide (linesS (joinS L) = L) := by
  unfold isS
  rw [isB_iff, Bool.eq_iff_iff, decide_eq_true_eq, decide_eq_true_eq]
  unfold linesS joinS
  rw [bl_mk]
  constructor
  · intro h; rw [h, map_mk_bl]
  · intro h
    have := congrArg (List.map bl) h
    rwa [map_bl_mk] at this

theorem join_empty : ∀ L : List (List UInt8), Lib.join L [] = L.flatten
  | [] => rfl
  | x :: r => by
    rw [Lib.join_cons, List.flatten_cons]
    unfold Lib.joinTail
    simp

theorem linesS_len (s : ByteArray) : (linesS s).length ≤ s.size := by
  unfold linesS
  rw [List.length_map, ← bl_size]
  generalize bl s = l
  induction l with
  | nil => exact Nat.le_refl _
  | cons x t ih =>
    rw [cutL_cons]
    split
    · simp only [List.length_cons]; omega
    · cases h : cutL t with
      | nil => simp
      | cons a b => rw [h] at ih; simp only [List.length_cons] at ih ⊢; omega

theorem linesS_empty {s : ByteArray} (h : s.size = 0) : linesS s = [] := by
  have : bl s = [] := List.length_eq_zero_iff.1 (by rw [bl_size, h])
  unfold linesS
  rw [this]; rfl

/-- The next line of what is left. -/
theorem linesS_next {r : ByteArray} {n : Nat} (h : r.size ≠ 0) (hn : firstL (bl r) = n) : linesS r = r.extract 0 n :: linesS (r.extract n r.size) ∧ 0 < n ∧ n ≤ r.size := by
  have hne : bl r ≠ [] := by
    intro e
    have := bl_size r
    rw [e] at this
    exact h this.symm
  subst hn
  refine ⟨?_, firstL_pos hne, by rw [← bl_size]; exact firstL_le _⟩
  have h0 : r.extract 0 (firstL (bl r)) = mkB ((bl r).take (firstL (bl r))) := by
    apply bl_inj
    rw [bl_mk]
    unfold bl
    rw [Lib.extract_data]
    simp
  have h1 : bl (r.extract (firstL (bl r)) r.size) = (bl r).drop (firstL (bl r)) := by
    unfold bl
    rw [Lib.extract_to_end]
  unfold linesS
  rw [h1, h0, cutL_first hne]
  rfl

theorem linesS_append (a b : ByteArray) (e : ByteArray) (he : bl e = [10]) : linesS (a ++ e ++ b) = linesS (a ++ e) ++ linesS b := by
  unfold linesS
  rw [bl_append, bl_append, he, List.append_assoc, List.singleton_append, cutL_append, List.map_append]
theorem linesS_more (a e : ByteArray) (he : bl e = [10]) : (linesS a).length ≤ (linesS (a ++ e)).length ∧ 1 ≤ (linesS (a ++ e)).length := by
  unfold linesS
  rw [bl_append, he, List.length_map, List.length_map]
  exact cutL_more _

theorem bl_get {s : ByteArray} {k : Nat} (hk : k < s.size) : (bl s)[k]? = some (s.get k hk) := Lib.data_getElem? s k hk

theorem fitL_append {a b : List ByteArray} (h : fitL a = false) : fitL (a ++ b) = false := by
  unfold fitL at h ⊢
  rw [Bool.and_eq_false_iff] at h ⊢
  rcases h with h | h
  · left
    rw [decide_eq_false_iff_not] at h ⊢
    rw [List.length_append]; omega
  · right
    rw [List.all_append, h]; rfl
theorem fitL_snoc (a : List ByteArray) (s : ByteArray) (ha : fitL a = true) : fitL (a ++ [s]) = (decide (a.length + 1 ≤ 40) && decide (s.size ≤ 60)) := by
  unfold fitL at ha ⊢
  rw [Bool.and_eq_true] at ha
  rw [List.all_append, ha.2, List.length_append]
  simp

theorem cutL_mem : ∀ {l x : List UInt8}, x ∈ cutL l → x.length ≤ l.length
  | [], _, h => by cases h
  | y :: t, x, h => by
    rw [cutL_cons] at h
    split at h
    · rcases List.mem_cons.1 h with rfl | h
      · simp
      · have := cutL_mem h; simp only [List.length_cons]; omega
    · cases hc : cutL t with
      | nil =>
        rw [hc] at h
        rcases List.mem_cons.1 h with rfl | h
        · simp
        · cases h
      | cons a r =>
        rw [hc] at h
        rcases List.mem_cons.1 h with rfl | h
        · have := cutL_mem (l := t) (x := a) (by rw [hc]; exact List.mem_cons_self ..)
          simp only [List.length_cons]; omega
        · have := cutL_mem (l := t) (x := x) (by rw [hc]; exact List.mem_cons_of_mem _ h)
          simp only [List.length_cons]; omega
theorem linesS_mem {s x : ByteArray} {k : Nat} (h : x ∈ linesS s) (hs : s.size ≤ k) : x.size ≤ k := by
  unfold linesS at h
  obtain ⟨y, hy, rfl⟩ := List.mem_map.1 h
  have := cutL_mem hy
  rw [← bl_size, bl_mk]
  rw [bl_size] at this
  omega

end Go.Proofs.Ytbobbpghdfhkgaa
