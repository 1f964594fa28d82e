/- A row of bits in memory, and the plain facts on its words: which places are on, how many, in which order; what putting, joining and cutting words do to them. -/
import Derived.WalkKit
import Derived.Deep.Draws
import Derived.Test.YtdolcdededmlhaaDoorMath
namespace Go.Proofs.YtdolcdededmlhaaDoor
open Go.RowKit

/-- Whether place i is on in the words ws. -/
def onB (ws : List Nat) (i : Nat) : Bool := (ws[i / 64]?.getD 0).testBit (i % 64)

/-- The words ws of a row of n places: as many as are needed, each below 2^64, off beyond n. -/
structure Words (n : Nat) (ws : List Nat) : Prop where
  len : ws.length = (n + 63) / 64
  lt : ∀ k : Nat, ws[k]?.getD 0 < 18446744073709551616
  top : ∀ i, n ≤ i → onB ws i = false

/-- The cells of block wb hold the words ws. -/
structure Holds64 (w : World) (wb : Nat) (ws : List Nat) : Prop where
  cell : ∀ k, k < ws.length → w.cell? ⟨wb, k, none⟩ = some (.int .u64 (ws[k]?.getD 0 : Nat))
  free : ∀ k, k < ws.length → w.frozen? ⟨wb, k, none⟩ = false

/-- A row at block b, its words in block wb. -/
structure RowW (w : World) (b wb n : Nat) (ws : List Nat) : Prop where
  hb : b < w.heap.size
  hw : wb < w.heap.size
  ne : b ≠ wb
  c0 : w.cell? ⟨b, 0, none⟩ = some (.int .i64 n)
  c1 : ∃ cap, w.cell? ⟨b, 1, none⟩ = some (.slice (some ⟨wb, 0, none⟩) ws.length cap)
  mem : Holds64 w wb ws
  words : Words n ws
  small : n ≤ 1000

/-- A row at block b that has just the places of S on. -/
def IsSet (w : World) (b wb n : Nat) (S : Nat → Bool) : Prop := ∃ ws, RowW w b wb n ws ∧ ∀ i, onB ws i = S i

theorem Holds64.kept {w w' : World} {wb : Nat} {ws : List Nat} (h : Holds64 w wb ws) (e : w'.heap[wb]? = w.heap[wb]?) : Holds64 w' wb ws :=
  ⟨fun k hk => (World.cell?_of_block (a := ⟨wb, k, none⟩) e).trans (h.cell k hk), fun k hk => (World.frozen?_of_block (a := ⟨wb, k, none⟩) e).trans (h.free k hk)⟩

theorem RowW.kept {w w' : World} {b wb n : Nat} {ws : List Nat} (h : RowW w b wb n ws) (hs : w.heap.size ≤ w'.heap.size) (e1 : w'.heap[b]? = w.heap[b]?) (e2 : w'.heap[wb]? = w.heap[wb]?) : RowW w' b wb n ws := by
  obtain ⟨cap, hc⟩ := h.c1
  exact ⟨by have := h.hb; omega, by have := h.hw; omega, h.ne, (World.cell?_of_block (a := ⟨b, 0, none⟩) e1).trans h.c0, ⟨cap, (World.cell?_of_block (a := ⟨b, 1, none⟩) e1).trans hc⟩, h.mem.kept e2, h.words, h.small⟩

theorem RowW.grown {w w' : World} {b wb n : Nat} {ws : List Nat} {row : Option Nat} (h : RowW w b wb n ws) (hg : w.grownBy w' row) (h1 : some b ≠ row) (h2 : some wb ≠ row) : RowW w' b wb n ws :=
  h.kept hg.size (hg.block b h.hb h1) (hg.block wb h.hw h2)

theorem IsSet.grown {w w' : World} {b wb n : Nat} {S : Nat → Bool} {row : Option Nat} (h : IsSet w b wb n S) (hg : w.grownBy w' row) (h1 : some b ≠ row) (h2 : some wb ≠ row) : IsSet w' b wb n S := by
  obtain ⟨ws, hr, ho⟩ := h
  exact ⟨ws, hr.grown hg h1 h2, ho⟩

theorem IsSet.drewN {w : World} {b wb n : Nat} {S : Nat → Bool} (h : IsSet w b wb n S) (m : Nat) : IsSet (w.drewN m) b wb n S := by
  obtain ⟨ws, hr, ho⟩ := h
  exact ⟨ws, hr.kept (Nat.le_refl _) rfl rfl, ho⟩

theorem IsSet.congr {w : World} {b wb n : Nat} {S T : Nat → Bool} (h : IsSet w b wb n S) (e : ∀ i, S i = T i) : IsSet w b wb n T := by
  obtain ⟨ws, hr, ho⟩ := h
  exact ⟨ws, hr, fun i => (ho i).trans (e i)⟩

theorem grownBy_refl (w : World) (row : Option Nat) : w.grownBy w row := ⟨rfl, rfl, rfl, Nat.le_refl _, fun _ _ _ => rfl⟩
theorem grownBy_drewN (w : World) (m : Nat) (row : Option Nat) : w.grownBy (w.drewN m) row := ⟨rfl, rfl, rfl, Nat.le_refl _, fun _ _ _ => rfl⟩
theorem grownBy_trans {a b c : World} {row : Option Nat} (h : a.grownBy b row) (k : b.grownBy c row) : a.grownBy c row :=
  ⟨k.os.trans h.os, k.tape.trans h.tape, k.output.trans h.output, Nat.le_trans h.size k.size, fun i hi hr => (k.block i (Nat.lt_of_lt_of_le hi h.size) hr).trans (h.block i hi hr)⟩
theorem grownBy_none {a b : World} {row : Option Nat} (h : a.grownBy b none) : a.grownBy b row :=
  ⟨h.os, h.tape, h.output, h.size, fun i hi _ => h.block i hi (by simp)⟩
theorem grownBy_setCell (w : World) (p : Addr) (v : Value) : w.grownBy (w.setCell p v) (some p.block) :=
  ⟨rfl, rfl, rfl, by simp [World.setCell], fun k _ hk => Below.heap_setCell _ _ _ _ (fun e => hk (by rw [e]))⟩
/-- What was written lay beyond the world where we began. -/
theorem grownBy_new {a b c : World} {row : Nat} (h : a.grownBy b none) (k : b.grownBy c (some row)) (hr : a.heap.size ≤ row) : a.grownBy c none :=
  ⟨k.os.trans h.os, k.tape.trans h.tape, k.output.trans h.output, Nat.le_trans h.size k.size, fun i hi _ => (k.block i (Nat.lt_of_lt_of_le hi h.size) (fun e => by cases e; omega)).trans (h.block i hi (by simp))⟩
theorem grownBy_below {a b : World} (h : a.grownBy b none) : Below a.heap.size a b := ⟨h.os, h.tape, h.output, h.size, fun k hk => h.block k hk (by simp)⟩
theorem below_grownBy {a b : World} (h : Below a.heap.size a b) : a.grownBy b none := ⟨h.os, h.tape, h.output, h.size, fun k hk _ => h.block k hk⟩

/-- A word is stored. -/
theorem Holds64.set {w : World} {wb : Nat} {ws : List Nat} (h : Holds64 w wb ws) {k : Nat} (hk : k < ws.length) (x : Nat) : Holds64 (w.setCell ⟨wb, k, none⟩ (.int .u64 (x : Nat))) wb (ws.set k x) := by
  constructor
  · intro j hj
    rw [List.length_set] at hj
    by_cases e : j = k
    · subst e
      rw [List.getElem?_set_self hj]
      exact World.cell?_setCell_same' _ _ _ (by rw [h.cell j hj]; rfl)
    · rw [List.getElem?_set_ne (fun e' => e e'.symm), ← h.cell j hj]
      (apply World.cell?_setCell_other; intro e'; cases e'; exact e rfl)
  · intro j hj
    rw [List.length_set] at hj
    rw [World.frozen?_setCell]
    exact h.free j hj

theorem RowW.set {w : World} {b wb n : Nat} {ws : List Nat} (h : RowW w b wb n ws) {k : Nat} (hk : k < ws.length) (x : Nat) (hws : Words n (ws.set k x)) :
    RowW (w.setCell ⟨wb, k, none⟩ (.int .u64 (x : Nat))) b wb n (ws.set k x) := by
  have hg := grownBy_setCell w ⟨wb, k, none⟩ (.int .u64 (x : Nat))
  have eb : (w.setCell ⟨wb, k, none⟩ (.int .u64 (x : Nat))).heap[b]? = w.heap[b]? := hg.block b h.hb (fun e => by simp only [Option.some.injEq] at e; exact h.ne e)
  have hsz := hg.size
  obtain ⟨cap, hc⟩ := h.c1
  exact ⟨Nat.lt_of_lt_of_le h.hb hsz, Nat.lt_of_lt_of_le h.hw hsz, h.ne, (World.cell?_of_block (a := ⟨b, 0, none⟩) eb).trans h.c0, ⟨cap, by rw [List.length_set]; exact (World.cell?_of_block (a := ⟨b, 1, none⟩) eb).trans hc⟩, h.mem.set hk x, hws, h.small⟩

/-! ### Words -/

theorem onB_set (ws : List Nat) (k x i : Nat) (hk : k < ws.length) : onB (ws.set k x) i = if i / 64 = k then x.testBit (i % 64) else onB ws i := by
  unfold onB
  by_cases e : i / 64 = k
  · rw [if_pos e, e, List.getElem?_set_self hk]; rfl
  · rw [if_neg e, List.getElem?_set_ne (fun e' => e e'.symm)]

theorem lt_set {ws : List Nat} (h : ∀ k : Nat, ws[k]?.getD 0 < 18446744073709551616) (k x : Nat) (hx : x < 18446744073709551616) : ∀ j : Nat, (ws.set k x)[j]?.getD 0 < 18446744073709551616 := by
  intro j
  by_cases e : k = j
  · subst e
    by_cases hk : k < ws.length
    · rw [List.getElem?_set_self hk]; exact hx
    · rw [List.getElem?_eq_none (by rw [List.length_set]; omega)]; show 0 < _; omega
  · rw [List.getElem?_set_ne e]; exact h j

theorem testBit_high {x j : Nat} (h : x < 18446744073709551616) (hj : 64 ≤ j) : x.testBit j = false :=
  Nat.testBit_lt_two_pow (Nat.lt_of_lt_of_le h (Nat.pow_le_pow_right (by omega : 2 > 0) hj : 2 ^ 64 ≤ 2 ^ j))

/-- Two lists of words that have the same places on are the same. -/
theorem words_ext {n : Nat} {ws vs : List Nat} (h1 : Words n ws) (h2 : Words n vs) (h : ∀ i, i < n → onB ws i = onB vs i) : ws = vs := by
  apply List.ext_getElem?
  intro k
  have hl : ws.length = vs.length := by rw [h1.len, h2.len]
  by_cases hk : k < ws.length
  · have e : ws[k]?.getD 0 = vs[k]?.getD 0 := by
      apply Nat.eq_of_testBit_eq
      intro j
      by_cases hj : j < 64
      · have hall : onB ws (64 * k + j) = onB vs (64 * k + j) := by
          by_cases hn : 64 * k + j < n
          · exact h _ hn
          · rw [h1.top _ (by omega), h2.top _ (by omega)]
        unfold onB at hall
        rw [show (64 * k + j) / 64 = k from by omega, show (64 * k + j) % 64 = j from by omega] at hall
        exact hall
      · rw [testBit_high (h1.lt k) (by omega), testBit_high (h2.lt k) (by omega)]
    rw [List.getElem?_eq_getElem hk, List.getElem?_eq_getElem (by omega)] at e ⊢
    simpa using e
  · rw [List.getElem?_eq_none (by omega), List.getElem?_eq_none (by omega)]

/-- The places on, rising. -/
def onL (S : Nat → Bool) (n : Nat) : List Nat := (List.range n).filter S

theorem onL_off (S : Nat → Bool) (n m : Nat) (h : n ≤ m) (top : ∀ i, n ≤ i → S i = false) : onL S m = onL S n := by
  unfold onL
  rw [show m = n + (m - n) from by omega, List.range_add, List.filter_append]
  have : ((List.range (m - n)).map (fun x => n + x)).filter S = [] := by
    rw [List.filter_eq_nil_iff]
    intro a ha
    obtain ⟨x, _, rfl⟩ := List.mem_map.1 ha
    rw [top _ (by omega)]
    simp
  rw [this, List.append_nil]

/-- What the words ahead of k come to. -/
theorem onL_word (ws : List Nat) (k : Nat) : onL (onB ws) (64 * (k + 1)) = onL (onB ws) (64 * k) ++ Bw.lsf 64 (64 * k) (ws[k]?.getD 0) := by
  unfold onL
  rw [show 64 * (k + 1) = 64 * k + 64 from by omega, List.range_add, List.filter_append, Bw.lsf_filter, List.filter_map]
  congr 2
  apply List.filter_congr
  intro i hi
  have : i < 64 := by simpa using hi
  simp only [Function.comp, onB]
  rw [show (64 * k + i) / 64 = k from by omega, show (64 * k + i) % 64 = i from by omega]

theorem onL_congr {S T : Nat → Bool} {n : Nat} (h : ∀ i, i < n → S i = T i) : onL S n = onL T n := by
  unfold onL
  apply List.filter_congr
  intro i hi
  exact h i (by simpa using hi)

theorem onL_le (S : Nat → Bool) (n : Nat) : (onL S n).length ≤ n := by
  unfold onL
  have := List.length_filter_le S (List.range n)
  simpa using this

theorem words_onL {n : Nat} {ws : List Nat} (h : Words n ws) : onL (onB ws) (64 * ws.length) = onL (onB ws) n :=
  onL_off _ _ _ (by rw [h.len]; omega) h.top

/-- The bits of word k that are places of a row of n. -/
def plc (n k : Nat) : Nat := if 64 ≤ n - 64 * k then 18446744073709551615 else 2 ^ (n - 64 * k) - 1

theorem plc_lt (n k : Nat) : plc n k < 18446744073709551616 := by
  unfold plc
  split
  · omega
  · have : 2 ^ (n - 64 * k) ≤ 2 ^ 64 := Nat.pow_le_pow_right (by omega) (by omega)
    have p : 0 < 2 ^ (n - 64 * k) := Nat.two_pow_pos _
    omega

theorem plc_bit (n k j : Nat) (hj : j < 64) : (plc n k).testBit j = decide (64 * k + j < n) := by
  unfold plc
  split
  · rename_i h
    rw [show (18446744073709551615 : Nat) = 2 ^ 64 - 1 from by decide, Nat.testBit_two_pow_sub_one]
    have a : 64 * k + j < n := by omega
    simp [hj, a]
  · rename_i h
    rw [Nat.testBit_two_pow_sub_one]
    by_cases hk : 64 * k + j < n
    · simp [hk]; omega
    · simp [hk]; omega

theorem pow_lt64 (i : Nat) : 2 ^ (i % 64) < 18446744073709551616 := by
  have : 2 ^ (i % 64) < 2 ^ 64 := Nat.pow_lt_pow_right (by omega) (by omega)
  simpa using this

theorem or64 {a b : Nat} (ha : a < 18446744073709551616) (hb : b < 18446744073709551616) : a ||| b < 18446744073709551616 := by
  have := Nat.or_lt_two_pow (n := 64) (x := a) (y := b) (by simpa using ha) (by simpa using hb)
  simpa using this
theorem and64 {a : Nat} (b : Nat) (ha : a < 18446744073709551616) : a &&& b < 18446744073709551616 := Nat.lt_of_le_of_lt Nat.and_le_left ha
theorem and64r {b : Nat} (a : Nat) (hb : b < 18446744073709551616) : a &&& b < 18446744073709551616 := Nat.lt_of_le_of_lt Nat.and_le_right hb

/-- One place put on in a word. -/
theorem bit_on (x i j : Nat) : (x ||| 2 ^ (i % 64)).testBit j = (x.testBit j || decide (i % 64 = j)) := by
  rw [Nat.testBit_or, Nat.testBit_two_pow]

theorem bit_off (x i j : Nat) (hx : x < 18446744073709551616) : (x &&& (18446744073709551615 - 2 ^ (i % 64))).testBit j = (x.testBit j && !decide (i % 64 = j)) := by
  rw [Nat.testBit_and]
  by_cases hj : j < 64
  · have hp := pow_lt64 i
    have := Nat.testBit_two_pow_sub_succ (n := 64) (x := 2 ^ (i % 64)) (by simpa using hp) j
    rw [show 2 ^ 64 - (2 ^ (i % 64) + 1) = 18446744073709551615 - 2 ^ (i % 64) from by omega] at this
    rw [this, Nat.testBit_two_pow]
    simp [hj]
  · rw [testBit_high hx (by omega)]
    simp

/-- A place put on, or off. -/
def putW (ws : List Nat) (i : Nat) (on : Bool) : List Nat := ws.set (i / 64) (if on then ws[i / 64]?.getD 0 ||| 2 ^ (i % 64) else ws[i / 64]?.getD 0 &&& (18446744073709551615 - 2 ^ (i % 64)))

theorem putW_on {n : Nat} {ws : List Nat} (h : Words n ws) (i : Nat) (hi : i < n) (on : Bool) (j : Nat) : onB (putW ws i on) j = if j = i then on else onB ws j := by
  have hk : i / 64 < ws.length := by rw [h.len]; omega
  unfold putW
  rw [onB_set _ _ _ _ hk]
  by_cases e : j / 64 = i / 64
  · rw [if_pos e]
    have ho : onB ws j = (ws[i / 64]?.getD 0).testBit (j % 64) := by unfold onB; rw [e]
    by_cases e2 : j = i
    · subst e2
      cases on
      · rw [if_neg (by simp), bit_off _ _ _ (h.lt _)]; simp
      · rw [if_pos rfl, bit_on]; simp
    · have e3 : ¬ i % 64 = j % 64 := by omega
      rw [if_neg e2, ho]
      cases on
      · rw [if_neg (by simp), bit_off _ _ _ (h.lt _)]; simp [e3]
      · rw [if_pos rfl, bit_on]; simp [e3]
  · rw [if_neg e, if_neg (fun e' => e (by rw [e']))]

theorem putW_words {n : Nat} {ws : List Nat} (h : Words n ws) (i : Nat) (hi : i < n) (on : Bool) : Words n (putW ws i on) := by
  refine ⟨by unfold putW; rw [List.length_set]; exact h.len, ?_, ?_⟩
  · unfold putW
    apply lt_set h.lt
    cases on
    · rw [if_neg (by simp)]; exact and64 _ (h.lt _)
    · rw [if_pos rfl]; exact or64 (h.lt _) (pow_lt64 i)
  · intro j hj
    rw [putW_on h i hi, if_neg (by omega)]
    exact h.top j hj

theorem zeros_words (n : Nat) : Words n (List.replicate ((n + 63) / 64) 0) := by
  have e : ∀ k : Nat, (List.replicate ((n + 63) / 64) 0)[k]?.getD 0 = 0 := by
    intro k
    by_cases hk : k < (n + 63) / 64
    · rw [List.getElem?_replicate_of_lt hk]; rfl
    · rw [List.getElem?_eq_none (by simp; omega)]; rfl
  refine ⟨by simp, fun k => by rw [e]; omega, fun i _ => by unfold onB; rw [e]; simp⟩

theorem zeros_on (n i : Nat) : onB (List.replicate ((n + 63) / 64) 0) i = false := by
  have e : ∀ k : Nat, (List.replicate ((n + 63) / 64) 0)[k]?.getD 0 = 0 := by
    intro k
    by_cases hk : k < (n + 63) / 64
    · rw [List.getElem?_replicate_of_lt hk]; rfl
    · rw [List.getElem?_eq_none (by simp; omega)]; rfl
  unfold onB; rw [e]; simp

/-- The words ahead of k taken from f, the others left. -/
def updW (f : Nat → Nat) (ws : List Nat) : Nat → List Nat
  | 0 => ws
  | k + 1 => (updW f ws k).set k (f k)

theorem updW_length (f : Nat → Nat) (ws : List Nat) (k : Nat) : (updW f ws k).length = ws.length := by
  induction k with
  | zero => rfl
  | succ k ih => unfold updW; rw [List.length_set, ih]

theorem updW_get (f : Nat → Nat) (ws : List Nat) (k j : Nat) : (updW f ws k)[j]?.getD 0 = if j < k ∧ j < ws.length then f j else ws[j]?.getD 0 := by
  induction k with
  | zero => rw [if_neg (by omega)]; rfl
  | succ k ih =>
    unfold updW
    by_cases e : k = j
    · subst e
      by_cases hk : k < ws.length
      · rw [List.getElem?_set_self (by rw [updW_length]; exact hk), if_pos ⟨by omega, hk⟩]; rfl
      · rw [if_neg (by omega), List.getElem?_eq_none (by rw [List.length_set, updW_length]; omega), List.getElem?_eq_none (by omega)]
    · rw [List.getElem?_set_ne e, ih]
      by_cases h : j < k ∧ j < ws.length
      · rw [if_pos h, if_pos (by omega)]
      · rw [if_neg h, if_neg (by omega)]

/-- What joining does to word k. -/
def orF (n : Nat) (ws vs : List Nat) (k : Nat) : Nat := ws[k]?.getD 0 ||| (vs[k]?.getD 0 &&& plc n k)
/-- What cutting does to word k. -/
def andF (ws vs : List Nat) (k : Nat) : Nat := ws[k]?.getD 0 &&& vs[k]?.getD 0

theorem upd_on {n : Nat} {ws : List Nat} (h : Words n ws) (f : Nat → Nat) (i : Nat) : onB (updW f ws ws.length) i = if i / 64 < ws.length then (f (i / 64)).testBit (i % 64) else false := by
  unfold onB
  rw [updW_get]
  by_cases hk : i / 64 < ws.length
  · rw [if_pos ⟨hk, hk⟩, if_pos hk]
  · rw [if_neg (by omega), if_neg hk]
    exact h.top i (by rw [h.len] at hk; omega)

theorem orW_on {n m : Nat} {ws vs : List Nat} (h : Words n ws) (_h2 : Words m vs) (i : Nat) : onB (updW (orF n ws vs) ws ws.length) i = (onB ws i || (onB vs i && decide (i < n))) := by
  rw [upd_on h]
  by_cases hk : i / 64 < ws.length
  · rw [if_pos hk]
    unfold orF onB
    rw [Nat.testBit_or, Nat.testBit_and, plc_bit _ _ _ (by omega), show 64 * (i / 64) + i % 64 = i from by omega]
  · have hn : n ≤ i := by rw [h.len] at hk; omega
    rw [if_neg hk, h.top i hn]
    simp; omega

theorem andW_on {n m : Nat} {ws vs : List Nat} (h : Words n ws) (_h2 : Words m vs) (i : Nat) : onB (updW (andF ws vs) ws ws.length) i = (onB ws i && onB vs i) := by
  rw [upd_on h]
  by_cases hk : i / 64 < ws.length
  · rw [if_pos hk]
    unfold andF onB
    rw [Nat.testBit_and]
  · have hn : n ≤ i := by rw [h.len] at hk; omega
    rw [if_neg hk, h.top i hn]
    simp

theorem orF_lt {n m : Nat} {ws vs : List Nat} (h : Words n ws) (h2 : Words m vs) (k : Nat) : orF n ws vs k < 18446744073709551616 := or64 (h.lt k) (and64 _ (h2.lt k))
theorem andF_lt {n : Nat} {ws vs : List Nat} (h : Words n ws) (k : Nat) : andF ws vs k < 18446744073709551616 := and64 _ (h.lt k)

theorem upd_lt {n : Nat} {ws : List Nat} (h : Words n ws) (f : Nat → Nat) (hf : ∀ k, f k < 18446744073709551616) (k j : Nat) : (updW f ws k)[j]?.getD 0 < 18446744073709551616 := by
  rw [updW_get]
  split
  · exact hf j
  · exact h.lt j

theorem orW_words {n m : Nat} {ws vs : List Nat} (h : Words n ws) (h2 : Words m vs) : Words n (updW (orF n ws vs) ws ws.length) :=
  ⟨by rw [updW_length]; exact h.len, upd_lt h _ (orF_lt h h2) _, fun i hi => by rw [orW_on h h2, h.top i hi]; simp; omega⟩
theorem andW_words {n m : Nat} {ws vs : List Nat} (h : Words n ws) (h2 : Words m vs) : Words n (updW (andF ws vs) ws ws.length) :=
  ⟨by rw [updW_length]; exact h.len, upd_lt h _ (andF_lt h) _, fun i hi => by rw [andW_on h h2, h.top i hi]; simp⟩

end Go.Proofs.YtdolcdededmlhaaDoor
