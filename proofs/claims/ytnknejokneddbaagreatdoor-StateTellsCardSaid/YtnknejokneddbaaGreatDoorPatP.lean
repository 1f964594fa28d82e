/- Plain: lines of a text; rising rows; comparing; patches. -/
import Derived.Lib.Join
import Derived.Lib.Bytealg
import Derived.Lib.Strings
import Derived.Lib.IndexBytes
import Derived.Lib.SlicesCompact
import Derived.Test.YtnknejokneddbaaGreatDoorBits
/-! Texts as lines, in plain words: what the lines of a text are, when texts are lines, what fits. -/
namespace Go.Proofs.YtnknejokneddbaaGreatDoor

/-- The lines of a text: each up to the byte 10 and with it. -/
def cutL : List UInt8 → List (List UInt8)
 | [] => []
 | x :: t => if x = 10 then [x] :: cutL t else match cutL t with | [] => [[x]] | l :: r => (x :: l) :: r

/-- How many bytes the first line has. -/
def firstL : List UInt8 → Nat
 | [] => 0
 | x :: t => if x = 10 then 1 else firstL t + 1

theorem cutL_cons (x : UInt8) (t : List UInt8) : cutL (x :: t) = if x = 10 then [x] :: cutL t else match cutL t with | [] => [[x]] | l :: r => (x :: l) :: r := rfl
theorem firstL_cons (x : UInt8) (t : List UInt8) : firstL (x :: t) = if x = 10 then 1 else firstL t + 1 := rfl

theorem firstL_le : ∀ l : List UInt8, firstL l ≤ l.length
 | [] => Nat.le_refl _
 | x :: t => by
  rw [firstL_cons]
  have := firstL_le t
  split <;> simp <;> omega
theorem firstL_pos {l : List UInt8} (h : l ≠ []) : 0 < firstL l := by
 cases l with
 | nil => exact absurd rfl h
 | cons x t => rw [firstL_cons]; split <;> omega

/-- What strings.IndexByte tells of the first line. -/
theorem firstL_index (l : List UInt8) : (Lib.indexByte l 10 = -1 ∧ firstL l = l.length) ∨ (Lib.indexByte l 10 = (firstL l : Int) - 1 ∧ 0 < firstL l) := by
 induction l with
 | nil => exact .inl ⟨rfl, rfl⟩
 | cons x t ih =>
  rw [firstL_cons]
  unfold Lib.indexByte
  by_cases h : x = 10
  ·right
   subst h
   exact ⟨rfl, by simp⟩
  ·have hx : (x == 10) = false := by simpa using h
   rw [hx, if_neg h]
   rcases ih with ⟨h1, h2⟩ | ⟨h1, h2⟩
   ·left
    rw [h1]
    exact ⟨rfl, by simp [h2]⟩
   ·right
    rw [h1]
    have : ((firstL t : Int) - 1 == -1) = false := by simp; omega
    rw [this]
    refine ⟨?_, by omega⟩
    simp only [Bool.false_eq_true, if_false]
    omega

theorem cutL_first : ∀ {l : List UInt8}, l ≠ [] → cutL l = l.take (firstL l) :: cutL (l.drop (firstL l))
 | [], h => absurd rfl h
 | x :: t, _ => by
  rw [cutL_cons, firstL_cons]
  by_cases h : x = 10
  ·rw [if_pos h, if_pos h]; rfl
  ·rw [if_neg h, if_neg h]
   by_cases ht : t = []
   ·subst ht; rfl
   ·rw [cutL_first ht]
    rfl

theorem cutL_flatten : ∀ l : List UInt8, (cutL l).flatten = l
 | [] => rfl
 | x :: t => by
  have ih := cutL_flatten t
  rw [cutL_cons]
  split
  ·rw [List.flatten_cons, ih]; rfl
  ·cases h : cutL t with
   | nil => rw [h] at ih; simp at ih; simp [← ih]
   | cons l r =>
    rw [h] at ih
    simp only [List.flatten_cons, List.cons_append] at ih ⊢
    rw [ih]

theorem cutL_nil {l : List UInt8} (h : cutL l = []) : l = [] := by
 have := cutL_flatten l
 rw [h] at this
 exact this.symm

/-- A text that ends with a line's end, and another one behind it: the lines of both. -/
theorem cutL_append : ∀ (a b : List UInt8), cutL (a ++ 10 :: b) = cutL (a ++ [10]) ++ cutL b
 | [], b => rfl
 | x :: t, b => by
  have ih := cutL_append t b
  simp only [List.cons_append, cutL_cons]
  split
  ·rw [ih]; rfl
  ·rw [ih]
   cases h : cutL (t ++ [10]) with
   | nil => exact absurd (cutL_nil h) (by simp)
   | cons l r => rfl

/-- No end within: one line. -/
theorem cutL_one : ∀ {l : List UInt8}, l ≠ [] → (∀ x ∈ l, x ≠ 10) → cutL l = [l]
 | [], h, _ => absurd rfl h
 | x :: t, _, h => by
  have hx : x ≠ 10 := h x (List.mem_cons_self ..)
  rw [cutL_cons]
  rw [if_neg hx]
  by_cases ht : t = []
  ·subst ht; rfl
  ·rw [cutL_one ht fun y hy => h y (List.mem_cons_of_mem _ hy)]
/-- Whether a text is a line; whether it must have an end. -/
def goodB (last : Bool) (s : List UInt8) : Bool := decide (s ≠ []) && decide (firstL s = s.length) && (last || decide (s.getLast? = some 10))
/-- Whether texts are lines of one. -/
def isB (L : List (List UInt8)) : Bool := (List.range L.length).all fun i => goodB (decide (i + 1 = L.length)) (L[i]?.getD [])

theorem isB_cons (s : List UInt8) (t : List (List UInt8)) : isB (s :: t) = (goodB t.isEmpty s && isB t) := by
 unfold isB
 rw [List.length_cons, List.range_succ_eq_map, List.all_cons, List.all_map]
 congr 1
 ·cases t <;> simp
 ·congr 1
  funext i
  simp

theorem firstL_append : ∀ (s b : List UInt8), firstL s = s.length → s.getLast? = some 10 → firstL (s ++ b) = s.length
 | [], _, _, h => by cases h
 | x :: t, b, h, hl => by
  simp only [List.cons_append]
  rw [firstL_cons] at h ⊢
  by_cases hx : x = 10
  ·rw [if_pos hx] at h ⊢; exact h
  ·rw [if_neg hx] at h ⊢
   simp only [List.length_cons] at h ⊢
   have ht : t ≠ [] := by
    rintro rfl
    simp at hl
    exact hx hl
   rw [firstL_append t b (by omega) (by
    obtain ⟨y, r, rfl⟩ : ∃ y r, t = y :: r := by cases t with | nil => exact absurd rfl ht | cons y r => exact ⟨y, r, rfl⟩
    rwa [List.getLast?_cons_cons] at hl)]

theorem take_last : ∀ {l : List UInt8}, l.drop (firstL l) ≠ [] → (l.take (firstL l)).getLast? = some 10
 | [], h => absurd rfl h
 | x :: t, h => by
  rw [firstL_cons] at h ⊢
  by_cases hx : x = 10
  ·rw [if_pos hx]; simp [hx]
  ·rw [if_neg hx] at h ⊢
   simp only [List.drop_succ_cons, List.take_succ_cons] at h ⊢
   have ih := take_last h
   cases ht : t.take (firstL t) with
   | nil => rw [ht] at ih; cases ih
   | cons y r => rw [ht] at ih; rw [List.getLast?_cons_cons, ih]

theorem firstL_take : ∀ l : List UInt8, firstL (l.take (firstL l)) = firstL l
 | [] => rfl
 | x :: t => by
  rw [firstL_cons x t]
  by_cases hx : x = 10
  ·rw [if_pos hx]; simp [firstL, hx]
  ·rw [if_neg hx, List.take_succ_cons]
   rw [firstL_cons, if_neg hx, firstL_take t]

/-- A text's lines are lines. -/
theorem isB_cut (n : Nat) : ∀ l : List UInt8, l.length ≤ n → isB (cutL l) = true := by
 induction n with
 | zero => intro l h; obtain rfl : l = [] := by cases l with | nil => rfl | cons => simp at h
           rfl
 | succ n ih =>
  intro l h
  by_cases hl : l = []
  ·subst hl; rfl
  ·rw [cutL_first hl, isB_cons, ih _ (by have := firstL_pos hl; rw [List.length_drop]; omega), Bool.and_true]
   have hp := firstL_pos hl
   have hle := firstL_le l
   unfold goodB
   have h1 : decide (l.take (firstL l) ≠ []) = true := by
    rw [decide_eq_true_eq]
    intro e
    have := congrArg List.length e
    rw [List.length_take] at this
    simp at this
    rcases this with h | h
    ·omega
    ·exact hl h
   have h2 : decide (firstL (l.take (firstL l)) = (l.take (firstL l)).length) = true := by
    rw [decide_eq_true_eq, firstL_take, List.length_take]
    omega
   rw [h1, h2]
   by_cases hd : l.drop (firstL l) = []
   ·rw [hd]; rfl
   ·rw [take_last hd]; simp

/-- What are lines is what is split so again. -/
theorem cut_isB : ∀ L : List (List UInt8), isB L = true → cutL L.flatten = L
 | [], _ => rfl
 | s :: t, h => by
  rw [isB_cons, Bool.and_eq_true] at h
  obtain ⟨h, ht⟩ := h
  have ih := cut_isB t ht
  unfold goodB at h
  simp only [Bool.and_eq_true, decide_eq_true_eq, Bool.or_eq_true] at h
  obtain ⟨⟨hs, hf⟩, hl⟩ := h
  have hne : (s :: t).flatten ≠ [] := by
   rw [List.flatten_cons]
   exact fun e => hs (List.append_eq_nil_iff.1 e).1
  rw [cutL_first hne, List.flatten_cons]
  have hfl : firstL (s ++ t.flatten) = s.length := by
   rcases hl with he | hl
   ·have : t = [] := List.isEmpty_iff.1 he
    subst this
    simpa using hf
   ·exact firstL_append s _ hf hl
  rw [hfl, List.take_left', List.drop_left', ih] <;> rfl

theorem isB_iff (L : List (List UInt8)) : isB L = decide (cutL L.flatten = L) := by
 rw [Bool.eq_iff_iff, decide_eq_true_eq]
 constructor
 ·exact cut_isB L
 ·intro h
  rw [← h]
  exact isB_cut _ _ (Nat.le_refl _)

/-! Texts as they lie in memory. -/
def bl (s : ByteArray) : List UInt8 := s.data.toList
def mkB (l : List UInt8) : ByteArray := ⟨l.toArray⟩
theorem bl_mk (l : List UInt8) : bl (mkB l) = l := rfl
theorem mk_bl (s : ByteArray) : mkB (bl s) = s := by obtain ⟨⟨l⟩⟩ := s; rfl
theorem bl_size (s : ByteArray) : (bl s).length = s.size := (Lib.size_eq s).symm
theorem bl_inj {a b : ByteArray} (h : bl a = bl b) : a = b := by rw [← mk_bl a, h, mk_bl]
theorem map_mk_bl (L : List ByteArray) : (L.map bl).map mkB = L := by
 rw [List.map_map, show mkB ∘ bl = id from funext mk_bl, List.map_id]
theorem map_bl_mk (L : List (List UInt8)) : (L.map mkB).map bl = L := by
 rw [List.map_map, show bl ∘ mkB = id from rfl, List.map_id]

/-- The lines of a text. -/
def linesS (s : ByteArray) : List ByteArray := (cutL (bl s)).map mkB
/-- One behind the other. -/
def joinS (L : List ByteArray) : ByteArray := mkB (L.map bl).flatten
/-- Whether texts are lines. -/
def isS (L : List ByteArray) : Bool := isB (L.map bl)
theorem joinS_lines (s : ByteArray) : joinS (linesS s) = s := by
 unfold joinS linesS
 rw [map_bl_mk, cutL_flatten, mk_bl]
theorem isS_iff (L : List ByteArray) : isS L = decide (linesS (joinS L) = L) := by
 unfold isS
 rw [isB_iff, Bool.eq_iff_iff, decide_eq_true_eq, decide_eq_true_eq]
 unfold linesS joinS
 rw [bl_mk]
 constructor
 ·intro h; rw [h, map_mk_bl]
 ·intro h
  have := congrArg (List.map bl) h
  rwa [map_bl_mk] at this

theorem linesS_len (s : ByteArray) : (linesS s).length ≤ s.size := by
 unfold linesS
 rw [List.length_map, ← bl_size]
 generalize bl s = l
 induction l with
 | nil => exact Nat.le_refl _
 | cons x t ih =>
  rw [cutL_cons]
  split
  ·simp only [List.length_cons]; omega
  ·cases h : cutL t with
   | nil => simp
   | cons a b => rw [h] at ih; simp only [List.length_cons] at ih ⊢; omega

theorem linesS_empty {s : ByteArray} (h : s.size = 0) : linesS s = [] := by
 have : bl s = [] := List.length_eq_zero_iff.1 (by rw [bl_size, h])
 unfold linesS
 rw [this]; rfl

/-- The next line of what is left. -/
theorem linesS_next {r : ByteArray} {n : Nat} (h : r.size ≠ 0) (hn : firstL (bl r) = n) : linesS r = r.extract 0 n :: linesS (r.extract n r.size) ∧ 0 < n ∧ n ≤ r.size := by
 have hne : bl r ≠ [] := by
  intro e
  have := bl_size r
  rw [e] at this
  exact h this.symm
 subst hn
 refine ⟨?_, firstL_pos hne, by rw [← bl_size]; exact firstL_le _⟩
 have h0 : r.extract 0 (firstL (bl r)) = mkB ((bl r).take (firstL (bl r))) := by
  apply bl_inj
  rw [bl_mk]
  unfold bl
  rw [Lib.extract_data]
  simp
 have h1 : bl (r.extract (firstL (bl r)) r.size) = (bl r).drop (firstL (bl r)) := by
  unfold bl
  rw [Lib.extract_to_end]
 unfold linesS
 rw [h1, h0, cutL_first hne]
 rfl

end Go.Proofs.YtnknejokneddbaaGreatDoor
/-! Rising rows of what is ordered, in plain words: put in, each once, the only such row of its members; numbers, texts byte by byte. -/
namespace Go.Proofs.YtnknejokneddbaaGreatDoor

/-- Two of a kind: one of them is ahead, and none of itself. -/
structure Lin {α : Type} (lt : α → α → Bool) : Prop where
 irr : ∀ a, lt a a = false
 tr : ∀ a b c, lt a b = true → lt b c = true → lt a c = true
 tot : ∀ a b, a ≠ b → lt a b = true ∨ lt b a = true

section
variable {α : Type} {lt : α → α → Bool}

def risR (lt : α → α → Bool) (l : List α) : Prop := l.Pairwise fun a b => lt a b = true
theorem takeW_all {p : α → Bool} : ∀ {l : List α} {x : α}, x ∈ l.takeWhile p → p x = true
 | [], _, h => by cases h
 | a :: l, x, h => by
  rw [List.takeWhile_cons] at h
  split at h
  ·rename_i hp
   rcases List.mem_cons.1 h with rfl | h
   ·exact hp
   ·exact takeW_all h
  ·cases h
theorem Lin.not (O : Lin lt) {a b : α} (h : lt a b = true) : lt b a = false := by
 cases e : lt b a
 ·rfl
 ·have := O.tr a b a h e
  rw [O.irr] at this
  cases this
/-- Behind the first that isn't ahead none is. -/
theorem dropW_all (O : Lin lt) {x : α} : ∀ {l : List α}, risR lt l → x ∉ l → ∀ y, y ∈ l.dropWhile (fun y => lt y x) → lt x y = true
 | [], _, _, _, h => by cases h
 | a :: l, hr, hx, y, h => by
  rw [List.dropWhile_cons] at h
  have hc := List.pairwise_cons.1 hr
  split at h
  ·exact dropW_all O hc.2 (fun e => hx (List.mem_cons_of_mem _ e)) y h
  ·rename_i hp
   have hax : lt x a = true := by
    rcases O.tot x a (fun e => hx (e ▸ List.mem_cons_self ..)) with e | e
    ·exact e
    ·exact absurd e hp
   rcases List.mem_cons.1 h with rfl | h
   ·exact hax
   ·exact O.tr _ _ _ hax (hc.1 y h)
/-- The only rising row of its members. -/
theorem ris_uniq (O : Lin lt) : ∀ {l l' : List α}, risR lt l → risR lt l' → (∀ x, x ∈ l ↔ x ∈ l') → l = l'
 | [], [], _, _, _ => rfl
 | [], b :: l', _, _, h => absurd ((h b).2 (List.mem_cons_self ..)) (by simp)
 | a :: l, [], _, _, h => absurd ((h a).1 (List.mem_cons_self ..)) (by simp)
 | a :: l, b :: l', h1, h2, h => by
  have c1 := List.pairwise_cons.1 h1
  have c2 := List.pairwise_cons.1 h2
  have e : a = b := by
   rcases List.mem_cons.1 ((h a).1 (List.mem_cons_self ..)) with e | e
   ·exact e
   ·rcases List.mem_cons.1 ((h b).2 (List.mem_cons_self ..)) with e2 | e2
    ·exact e2.symm
    ·have := O.tr _ _ _ (c1.1 b e2) (c2.1 a e)
     rw [O.irr] at this
     cases this
  subst e
  have ih : l = l' := ris_uniq O c1.2 c2.2 fun x => by
   constructor
   ·intro hx
    rcases List.mem_cons.1 ((h x).1 (List.mem_cons_of_mem _ hx)) with rfl | e
    ·have := c1.1 x hx
     rw [O.irr] at this
     cases this
    ·exact e
   ·intro hx
    rcases List.mem_cons.1 ((h x).2 (List.mem_cons_of_mem _ hx)) with rfl | e
    ·have := c2.1 x hx
     rw [O.irr] at this
     cases this
    ·exact e
  rw [ih]
/-- Some of a rising row are one. -/
theorem ris_filter {l : List α} (h : risR lt l) (p : α → Bool) : risR lt (l.filter p) := h.filter p
/-- A rising row, place by place, as a loop asks it. -/
def risB (lt : α → α → Bool) (d : α) (l : List α) (n : Nat) : Bool := (List.range n).all fun i => decide (i = 0) || lt (l[i - 1]?.getD d) (l[i]?.getD d)
theorem risB_succ (d : α) (l : List α) (n : Nat) : risB lt d l (n + 1) = (risB lt d l n && (decide (n = 0) || lt (l[n - 1]?.getD d) (l[n]?.getD d))) := by
 unfold risB
 rw [List.range_succ, List.all_append]
 simp
theorem risB_iff (O : Lin lt) (d : α) {l : List α} : ∀ {n : Nat}, n ≤ l.length → (risB lt d l n = true ↔ risR lt (l.take n))
 | 0, _ => by simp [risB, risR]
 | n + 1, h => by
  rw [risB_succ, Bool.and_eq_true, risB_iff O d (by omega : n ≤ l.length), List.take_succ_eq_append_getElem (by omega)]
  unfold risR
  rw [List.pairwise_append]
  have hn : l[n]?.getD d = l[n] := by rw [List.getElem?_eq_getElem (by omega)]; rfl
  rw [hn]
  constructor
  ·rintro ⟨h1, h2⟩
   refine ⟨h1, List.pairwise_singleton .., fun a ha b hb => ?_⟩
   obtain rfl := List.mem_singleton.1 hb
   rcases Nat.eq_zero_or_pos n with e | e
   ·subst e; simp at ha
   ·have h3 : lt (l[n - 1]?.getD d) l[n] = true := by
     rw [Bool.or_eq_true, decide_eq_true_eq] at h2
     rcases h2 with h2 | h2
     ·omega
     ·exact h2
    have hn1 : l[n - 1]?.getD d = l[n - 1]'(by omega) := by rw [List.getElem?_eq_getElem (by omega)]; rfl
    rw [hn1] at h3
    obtain ⟨j, hj, rfl⟩ := List.getElem_of_mem ha
    rw [List.length_take] at hj
    rw [List.getElem_take]
    by_cases ej : j = n - 1
    ·subst ej; exact h3
    ·have h4 := List.pairwise_iff_getElem.1 h1 j (n - 1) (by rw [List.length_take]; omega) (by rw [List.length_take]; omega) (by omega)
     rw [List.getElem_take, List.getElem_take] at h4
     exact O.tr _ _ _ h4 h3
  ·rintro ⟨h1, _, h2⟩
   refine ⟨h1, ?_⟩
   rcases Nat.eq_zero_or_pos n with e | e
   ·simp [e]
   ·have hn1 : l[n - 1]?.getD d = l[n - 1]'(by omega) := by rw [List.getElem?_eq_getElem (by omega)]; rfl
    rw [hn1, h2 _ (List.mem_iff_getElem.2 ⟨n - 1, by rw [List.length_take]; omega, by rw [List.getElem_take]⟩) _ (List.mem_singleton.2 rfl), Bool.or_true]
theorem risB_no {d : α} {l : List α} {k n : Nat} (hk : k < n) (h0 : 0 < k) (h : lt (l[k - 1]?.getD d) (l[k]?.getD d) = false) : risB lt d l n = false := by
 unfold risB
 rw [Bool.eq_false_iff]
 intro e
 have := List.all_eq_true.1 e k (List.mem_range.2 hk)
 rw [h, Bool.or_false, decide_eq_true_eq] at this
 omega
end

section
variable {α : Type} [DecidableEq α] {lt : α → α → Bool}

/-- Put where it belongs, if it isn't there. -/
def putR (lt : α → α → Bool) (l : List α) (x : α) : List α := if x ∈ l then l else l.takeWhile (fun y => lt y x) ++ x :: l.dropWhile (fun y => lt y x)
/-- All of them, each once. -/
def allR (lt : α → α → Bool) (xs : List α) : List α := xs.foldl (putR lt) []
theorem putR_has {l : List α} {x : α} (h : x ∈ l) : putR lt l x = l := by unfold putR; rw [if_pos h]
theorem putR_new {l : List α} {x : α} (h : x ∉ l) : putR lt l x = l.takeWhile (fun y => lt y x) ++ x :: l.dropWhile (fun y => lt y x) := by unfold putR; rw [if_neg h]
theorem putR_mem {l : List α} {x y : α} : y ∈ putR lt l x ↔ y = x ∨ y ∈ l := by
 by_cases h : x ∈ l
 ·rw [putR_has h]
  exact ⟨.inr, fun e => e.elim (fun e => e ▸ h) id⟩
 ·have e : y ∈ l ↔ y ∈ l.takeWhile (fun y => lt y x) ∨ y ∈ l.dropWhile (fun y => lt y x) := by
   rw [← List.mem_append, List.takeWhile_append_dropWhile]
  rw [putR_new h, List.mem_append, List.mem_cons, e]
  constructor
  ·rintro (h | h | h)
   ·exact .inr (.inl h)
   ·exact .inl h
   ·exact .inr (.inr h)
  ·rintro (h | h | h)
   ·exact .inr (.inl h)
   ·exact .inl h
   ·exact .inr (.inr h)
theorem putR_ris (O : Lin lt) {l : List α} {x : α} (h : risR lt l) : risR lt (putR lt l x) := by
 by_cases hx : x ∈ l
 ·rw [putR_has hx]; exact h
 ·rw [putR_new hx]
  have hs : risR lt (l.takeWhile (fun y => lt y x) ++ l.dropWhile (fun y => lt y x)) := by rw [List.takeWhile_append_dropWhile]; exact h
  have h3 := List.pairwise_append.1 hs
  refine List.pairwise_append.2 ⟨h3.1, List.pairwise_cons.2 ⟨fun y hy => dropW_all O h hx y hy, h3.2.1⟩, fun a ha b hb => ?_⟩
  rcases List.mem_cons.1 hb with rfl | hb
  ·exact takeW_all (p := fun y => lt y _) ha
  ·exact h3.2.2 a ha b hb
theorem foldR_mem : ∀ (xs l : List α) (y : α), y ∈ xs.foldl (putR lt) l ↔ y ∈ xs ∨ y ∈ l
 | [], l, y => by simp
 | x :: xs, l, y => by
  rw [List.foldl_cons, foldR_mem xs, putR_mem, List.mem_cons]
  constructor
  ·rintro (h | h | h)
   ·exact .inl (.inr h)
   ·exact .inl (.inl h)
   ·exact .inr h
  ·rintro ((h | h) | h)
   ·exact .inr (.inl h)
   ·exact .inl h
   ·exact .inr (.inr h)
theorem allR_mem {xs : List α} {y : α} : y ∈ allR lt xs ↔ y ∈ xs := by
 unfold allR
 rw [foldR_mem]
 simp
theorem foldR_ris (O : Lin lt) : ∀ (xs l : List α), risR lt l → risR lt (xs.foldl (putR lt) l)
 | [], _, h => h
 | x :: xs, l, h => by rw [List.foldl_cons]; exact foldR_ris O xs _ (putR_ris O h)
theorem allR_ris (O : Lin lt) (xs : List α) : risR lt (allR lt xs) := foldR_ris O xs [] List.Pairwise.nil
end

/-! Numbers and texts. -/
def ltN (a b : Nat) : Bool := decide (a < b)
theorem linN : Lin ltN := ⟨fun a => by simp [ltN], fun a b c => by simp only [ltN, decide_eq_true_eq]; omega, fun a b => by simp only [ltN, decide_eq_true_eq]; omega⟩
def ltS (a b : ByteArray) : Bool := Op.bytesLess a.toList b.toList
theorem less_irr : ∀ l : List UInt8, Op.bytesLess l l = false
 | [] => by simp [Op.bytesLess]
 | a :: l => by simp [Op.bytesLess, less_irr l]
theorem less_tr : ∀ a b c : List UInt8, Op.bytesLess a b = true → Op.bytesLess b c = true → Op.bytesLess a c = true
 | _, [], _, h, _ => by cases ‹List UInt8› <;> simp [Op.bytesLess] at h
 | _, _ :: _, [], _, h => by simp [Op.bytesLess] at h
 | [], _ :: _, _ :: _, _, _ => by simp [Op.bytesLess]
 | x :: a, y :: b, z :: c, h1, h2 => by
  simp only [Op.bytesLess, Bool.or_eq_true, Bool.and_eq_true, decide_eq_true_eq, beq_iff_eq] at h1 h2 ⊢
  rcases h1 with h1 | ⟨rfl, h1⟩
  ·rcases h2 with h2 | ⟨rfl, _⟩
   ·exact .inl (UInt8.lt_trans h1 h2)
   ·exact .inl h1
  ·rcases h2 with h2 | ⟨rfl, h2⟩
   ·exact .inl h2
   ·exact .inr ⟨rfl, less_tr a b c h1 h2⟩
theorem less_tot : ∀ a b : List UInt8, a ≠ b → Op.bytesLess a b = true ∨ Op.bytesLess b a = true
 | [], [], h => absurd rfl h
 | [], _ :: _, _ => .inl (by simp [Op.bytesLess])
 | _ :: _, [], _ => .inr (by simp [Op.bytesLess])
 | x :: a, y :: b, h => by
  simp only [Op.bytesLess, Bool.or_eq_true, Bool.and_eq_true, decide_eq_true_eq, beq_iff_eq]
  by_cases e : x = y
  ·subst e
   rcases less_tot a b (fun e => h (by rw [e])) with h1 | h1
   ·exact .inl (.inr ⟨rfl, h1⟩)
   ·exact .inr (.inr ⟨rfl, h1⟩)
  ·rcases UInt8.lt_or_lt_of_ne e with h1 | h1
   ·exact .inl (.inl h1)
   ·exact .inr (.inl h1)
theorem linS : Lin ltS := ⟨fun a => less_irr _, fun a b c => less_tr _ _ _, fun a b h => less_tot _ _ fun e => h (by
 rw [ByteArray.toList_eq, ByteArray.toList_eq] at e
 cases a; cases b; exact congrArg ByteArray.mk (Array.toList_inj.1 e))⟩

end Go.Proofs.YtnknejokneddbaaGreatDoor
/-! What Go's slices.Compact leaves of a sorted list, in plain words: its members, rising, each once. -/
namespace Go.Proofs.YtnknejokneddbaaGreatDoor
open Go.Lib

section
variable {α : Type} [Inhabited α] [DecidableEq α]
theorem compUp_mem (d : Array α) : ∀ (m : Nat) (x : α), x ∈ compactUpTo d m ↔ ∃ j, j < m ∧ d[j]! = x
 | 0, x => by
  constructor
  ·intro h; simp [compactUpTo] at h
  ·rintro ⟨j, hj, _⟩; omega
 | m + 1, x => by
  rw [compactUpTo_succ, List.mem_append, compUp_mem d m x]
  constructor
  ·rintro (⟨j, hj, e⟩ | h)
   ·exact ⟨j, by omega, e⟩
   ·split at h
    ·exact ⟨m, by omega, (List.mem_singleton.1 h).symm⟩
    ·cases h
  ·rintro ⟨j, hj, e⟩
   by_cases h : j < m
   ·exact .inl ⟨j, h, e⟩
   ·obtain rfl : j = m := by omega
    cases hk : keeps d j with
    | true => exact .inr (by rw [if_pos rfl, e]; exact List.mem_singleton.2 rfl)
    | false =>
     unfold keeps at hk
     rw [decide_eq_false_iff_not] at hk
     have h0 : ¬ j = 0 := fun h0 => hk (.inl h0)
     have h1 : d[j]! = d[j - 1]! := Classical.byContradiction fun h1 => hk (.inr h1)
     exact .inl ⟨j - 1, by omega, by rw [← h1, e]⟩
theorem compUp_ris {lt : α → α → Bool} (O : Lin lt) (d : Array α) (n : Nat) (hs : ∀ i j, i < j → j < n → lt d[j]! d[i]! = false) : ∀ m, m ≤ n → risR lt (compactUpTo d m) ∧ ∀ x ∈ compactUpTo d m, x = d[m - 1]! ∨ lt x d[m - 1]! = true
 | 0, _ => ⟨by simp [compactUpTo, risR], fun x h => by simp [compactUpTo] at h⟩
 | m + 1, hm => by
  obtain ⟨h1, h2⟩ := compUp_ris O d n hs m (by omega)
  rw [compactUpTo_succ, Nat.add_sub_cancel]
  cases hk : keeps d m with
  | true =>
   rw [if_pos rfl]
   have h3 : ∀ x ∈ compactUpTo d m, lt x d[m]! = true := fun x hx => by
    rcases Nat.eq_zero_or_pos m with e | e
    ·subst e; simp [compactUpTo] at hx
    ·have hne : d[m - 1]! ≠ d[m]! := fun e2 => by
      unfold keeps at hk
      rw [decide_eq_true_eq] at hk
      rcases hk with hk | hk
      ·omega
      ·exact hk e2.symm
     have hl : lt d[m - 1]! d[m]! = true := by
      rcases O.tot _ _ hne with h | h
      ·exact h
      ·rw [hs (m - 1) m (by omega) (by omega)] at h; cases h
     rcases h2 x hx with rfl | h
     ·exact hl
     ·exact O.tr _ _ _ h hl
   refine ⟨List.pairwise_append.2 ⟨h1, List.pairwise_singleton .., fun a ha b hb => ?_⟩, fun x hx => ?_⟩
   ·rw [List.mem_singleton.1 hb]; exact h3 a ha
   ·rcases List.mem_append.1 hx with h | h
    ·exact .inr (h3 x h)
    ·exact .inl (List.mem_singleton.1 h)
  | false =>
   rw [if_neg (by decide), List.append_nil]
   unfold keeps at hk
   rw [decide_eq_false_iff_not] at hk
   have e1 : d[m]! = d[m - 1]! := Classical.byContradiction fun h1 => hk (.inr h1)
   exact ⟨h1, fun x hx => by rw [e1]; exact h2 x hx⟩
end

/-- Byte by byte, as the library has it. -/
theorem bytesLess_lt : ∀ a b : List UInt8, Op.bytesLess a b = decide (a < b)
 | [], [] => by simp [Op.bytesLess]
 | [], _ :: _ => by simp [Op.bytesLess]
 | _ :: _, [] => by simp [Op.bytesLess]
 | x :: a, y :: b => by
  simp only [Op.bytesLess, bytesLess_lt a b]
  rw [Bool.eq_iff_iff]
  simp only [Bool.or_eq_true, Bool.and_eq_true, decide_eq_true_eq, beq_iff_eq, List.cons_lt_cons_iff]
def ltB (a b : List UInt8) : Bool := Op.bytesLess a b
theorem linB : Lin ltB := ⟨less_irr, less_tr, less_tot⟩
theorem mergeB_sorted (ss : List (List UInt8)) : ∀ i j, i < j → j < ss.length → ltB (ss.mergeSort fun x y => decide (x ≤ y)).toArray[j]! (ss.mergeSort fun x y => decide (x ≤ y)).toArray[i]! = false := by
 intro i j hij hj
 have hp := List.pairwise_mergeSort (le := fun x y : List UInt8 => decide (x ≤ y)) (fun a b c h1 h2 => by
  simp only [decide_eq_true_eq] at *
  exact List.le_trans h1 h2) (fun a b => by
  simp only [Bool.or_eq_true, decide_eq_true_eq]
  exact List.le_total a b) ss
 have hl : (ss.mergeSort fun x y => decide (x ≤ y)).length = ss.length := List.length_mergeSort ss
 have h := List.pairwise_iff_getElem.1 hp i j (by omega) (by omega) hij
 simp only [decide_eq_true_eq] at h
 rw [getElem!_pos _ j (by simp; omega), getElem!_pos _ i (by simp; omega)]
 unfold ltB
 rw [bytesLess_lt, decide_eq_false_iff_not]
 simpa using List.not_lt.2 h

end Go.Proofs.YtnknejokneddbaaGreatDoor
/-! Patches in plain words: what is one, what it needs, its paths, its lines. -/
namespace Go.Proofs.YtnknejokneddbaaGreatDoor

/-- A line's number: who added it, which one; an edge; a hunk: path, adds, edges, kills; a patch: ID, deps, makes, drops, hunks. -/
abbrev Ln := Nat × Int
abbrev Ed := Ln × Ln
abbrev Hk := ByteArray × List ByteArray × List Ed × List Ln
abbrev Pt := Nat × List Nat × List ByteArray × List ByteArray × List Hk
abbrev hPath (h : Hk) : ByteArray := h.1
abbrev hAdds (h : Hk) : List ByteArray := h.2.1
abbrev hEdges (h : Hk) : List Ed := h.2.2.1
abbrev hKills (h : Hk) : List Ln := h.2.2.2
abbrev pID (p : Pt) : Nat := p.1
abbrev pDeps (p : Pt) : List Nat := p.2.1
abbrev pMakes (p : Pt) : List ByteArray := p.2.2.1
abbrev pDrops (p : Pt) : List ByteArray := p.2.2.2.1
abbrev pHunks (p : Pt) : List Hk := p.2.2.2.2

def ltLn (a b : Ln) : Bool := decide (a.1 < b.1) || (decide (a.1 = b.1) && decide (a.2 < b.2))
def ltEd (a b : Ed) : Bool := ltLn a.1 b.1 || (decide (a.1 = b.1) && ltLn a.2 b.2)
theorem linLn : Lin ltLn where
 irr a := by simp [ltLn]
 tr a b c h1 h2 := by
  simp only [ltLn, Bool.or_eq_true, Bool.and_eq_true, decide_eq_true_eq] at *
  omega
 tot a b h := by
  obtain ⟨a1, a2⟩ := a
  obtain ⟨b1, b2⟩ := b
  simp only [ltLn, Bool.or_eq_true, Bool.and_eq_true, decide_eq_true_eq]
  have : a1 ≠ b1 ∨ a2 ≠ b2 := by
   by_cases e : a1 = b1
   ·exact .inr fun e2 => h (by rw [e, e2])
   ·exact .inl e
  omega
theorem linEd : Lin ltEd where
 irr a := by simp [ltEd, linLn.irr]
 tr a b c h1 h2 := by
  simp only [ltEd, Bool.or_eq_true, Bool.and_eq_true, decide_eq_true_eq] at *
  rcases h1 with h1 | ⟨e1, h1⟩
  ·rcases h2 with h2 | ⟨e2, _⟩
   ·exact .inl (linLn.tr _ _ _ h1 h2)
   ·exact .inl (e2 ▸ h1)
  ·rcases h2 with h2 | ⟨e2, h2⟩
   ·exact .inl (e1 ▸ h2)
   ·exact .inr ⟨e1.trans e2, linLn.tr _ _ _ h1 h2⟩
 tot a b h := by
  simp only [ltEd, Bool.or_eq_true, Bool.and_eq_true, decide_eq_true_eq]
  by_cases e : a.1 = b.1
  ·have : a.2 ≠ b.2 := fun e2 => h (Prod.ext e e2)
   rcases linLn.tot _ _ this with h1 | h1
   ·exact .inl (.inr ⟨e, h1⟩)
   ·exact .inr (.inr ⟨e.symm, h1⟩)
  ·rcases linLn.tot _ _ e with h1 | h1
   ·exact .inl (.inl h1)
   ·exact .inr (.inl h1)

/-- A byte of a path. -/
def okC (c : UInt8) : Bool := (decide (97 ≤ c.toNat) && decide (c.toNat ≤ 122)) || ((decide (48 ≤ c.toNat) && decide (c.toNat ≤ 57)) || (decide (c.toNat = 46) || decide (c.toNat = 47)))
structure IsPath (s : ByteArray) : Prop where
 ch : ∀ c ∈ bl s, okC c = true
 lo : 1 ≤ s.size
 hi : s.size ≤ 20
/-- A line: one of a text's, not too long. -/
structure IsLine (s : ByteArray) : Prop where
 one : (linesS s).length = 1
 hi : s.size ≤ 60
/-- .. the first byte 10 stands at its end, or nowhere. -/
theorem lines_one {s : ByteArray} : (linesS s).length = 1 ↔ s.size ≠ 0 ∧ firstL (bl s) = s.size := by
 by_cases h : s.size = 0
 ·rw [linesS_empty h]
  exact ⟨(fun e => by cases e), fun e => absurd h e.1⟩
 ·obtain ⟨e, h0, h1⟩ := linesS_next h (rfl : firstL (bl s) = firstL (bl s))
  rw [e, List.length_cons]
  have hsz : (s.extract (firstL (bl s)) s.size).size = s.size - firstL (bl s) := by rw [ByteArray.size_extract]; omega
  constructor
  ·intro hl
   refine ⟨h, ?_⟩
   by_cases e2 : firstL (bl s) = s.size
   ·exact e2
   ·obtain ⟨e3, _, _⟩ := linesS_next (r := s.extract (firstL (bl s)) s.size) (by omega) rfl
    rw [e3, List.length_cons] at hl
    omega
  ·rintro ⟨_, e2⟩
   rw [linesS_empty (by omega)]
   rfl
theorem lines_is {s : ByteArray} : isS [s] = true ↔ (linesS s).length = 1 := by
 have hj : joinS [s] = s := by
  apply bl_inj
  unfold joinS
  rw [bl_mk]
  simp
 rw [isS_iff, decide_eq_true_eq, hj]
 constructor
 ·intro e; rw [e]; rfl
 ·intro e
  match hl : linesS s, e with
  | [x], _ =>
   have h2 := joinS_lines s
   rw [hl] at h2
   have h3 : joinS [x] = x := by
    apply bl_inj
    unfold joinS
    rw [bl_mk]
    simp
   rw [h3] at h2
   rw [h2]
structure Named (x : Ln) (id a b : Nat) : Prop where
 lo : 0 ≤ x.2
 hi : x.2 < 40
 own : x.1 = id → (a : Int) ≤ x.2 ∧ x.2 < b
structure IsHk (h : Hk) (id a : Nat) : Prop where
 path : IsPath (hPath h)
 nAdds : (hAdds h).length ≤ 40
 nEdges : (hEdges h).length ≤ 80
 nKills : (hKills h).length ≤ 40
 adds : ∀ s ∈ hAdds h, IsLine s
 edges : ∀ e ∈ hEdges h, Named e.1 id a (a + (hAdds h).length) ∧ Named e.2 id a (a + (hAdds h).length) ∧ e.1 ≠ e.2
 eris : risR ltEd (hEdges h)
 kills : ∀ x ∈ hKills h, x.1 ≠ id ∧ 0 ≤ x.2 ∧ x.2 < 40
 kris : risR ltLn (hKills h)

/-- How many lines the first k hunks add. -/
def addsN (hs : List Hk) (k : Nat) : Nat := ((hs.take k).map fun h => (hAdds h).length).sum
theorem addsN_zero (hs : List Hk) : addsN hs 0 = 0 := rfl
theorem addsN_succ {hs : List Hk} {k : Nat} (hk : k < hs.length) : addsN hs (k + 1) = addsN hs k + (hAdds (hs[k]'hk)).length := by
 unfold addsN
 rw [List.take_succ_eq_append_getElem hk, List.map_append, List.sum_append]
 simp
/-- Whose lines are named. -/
def namesH (h : Hk) : List Nat := (hEdges h).flatMap (fun e => [e.1.1, e.2.1]) ++ (hKills h).map (fun x => x.1)
def namesL (p : Pt) : List Nat := (pHunks p).flatMap namesH
def needsL (p : Pt) : List Nat := (allR ltN (namesL p)).filter fun x => decide (x ≠ pID p)
theorem needsL_mem {p : Pt} {x : Nat} : x ∈ needsL p ↔ x ∈ namesL p ∧ x ≠ pID p := by
 unfold needsL
 rw [List.mem_filter, allR_mem, decide_eq_true_eq]
theorem needsL_ris (p : Pt) : risR ltN (needsL p) := ris_filter (allR_ris linN _) _
theorem needsL_uniq {p : Pt} {l : List Nat} (h : risR ltN l) (hm : ∀ x, x ∈ l ↔ x ∈ namesL p ∧ x ≠ pID p) : l = needsL p := ris_uniq linN h (needsL_ris p) fun x => (hm x).trans needsL_mem.symm
structure IsPt (p : Pt) : Prop where
 id : pID p ≠ 0
 deps : ∀ d ∈ pDeps p, d ≠ 0
 dris : risR ltN (pDeps p)
 own : pID p ∉ pDeps p
 nDeps : (pDeps p).length ≤ 60
 makes : ∀ s ∈ pMakes p, IsPath s
 mris : risR ltS (pMakes p)
 nMakes : (pMakes p).length ≤ 6
 drops : ∀ s ∈ pDrops p, IsPath s
 xris : risR ltS (pDrops p)
 nDrops : (pDrops p).length ≤ 6
 apart : ∀ s ∈ pMakes p, s ∉ pDrops p
 nHunks : (pHunks p).length ≤ 6
 hris : risR ltS ((pHunks p).map hPath)
 hunks : ∀ i, (hi : i < (pHunks p).length) → IsHk ((pHunks p)[i]) (pID p) (addsN (pHunks p) i)
 needs : ∀ d ∈ needsL p, d ∈ pDeps p

/-! One thing spoilt. -/
/-! Who and which one, as one number. -/
end Go.Proofs.YtnknejokneddbaaGreatDoor
