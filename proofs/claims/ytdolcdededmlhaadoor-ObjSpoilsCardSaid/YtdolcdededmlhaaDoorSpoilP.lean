/- Plain facts on the chain of k elements: its closure, its pairs; what is left of it when one is taken out, two are turned, one is put behind. -/
import Derived.Laws.BytesArg
import Derived.Test.YtdolcdededmlhaaDoorMakes4
import Derived.Test.YtdolcdededmlhaaDoorOrdA
namespace Go.Proofs.YtdolcdededmlhaaDoor
open Go.RowKit

/-- Neighbours among the first j elements. -/
def chainR (j x y : Nat) : Bool := decide (x + 1 = y ∧ y < j)
/-- Who is less, among the first k. -/
def ltR (k x y : Nat) : Bool := decide (x < y ∧ y < k)
theorem chainR_supp {j k : Nat} (h : j ≤ k) : Supp k (chainR j) := fun x y e => by
  have : x + 1 = y ∧ y < j := by simpa [chainR] using e
  omega
theorem chainR_zero : chainR 0 = fun _ _ => false := by funext x y; simp [chainR]
theorem chainR_one : chainR 1 = fun _ _ => false := by funext x y; simp [chainR]; omega
theorem chainR_step {k j : Nat} (hj : 0 < j) (hk : j < k) : addI k (chainR j) (((j : Nat) : Int) - 1, (j : Int)) = chainR (j + 1) := by
  unfold addI
  rw [if_pos (by simp only; omega)]
  funext x y
  rw [Bool.eq_iff_iff, addR_iff]
  simp only [chainR, decide_eq_true_eq]
  omega
theorem ltR_supp (k : Nat) : Supp k (ltR k) := fun x y e => by
  have : x < y ∧ y < k := by simpa [ltR] using e
  omega
theorem ltR_trans (k : Nat) : Trans (ltR k) := fun a b c h1 h2 => by
  simp only [ltR, decide_eq_true_eq] at *
  omega
theorem chain_clo (k : Nat) : clo k (chainR k) = ltR k := by
  apply Sub.antisymm
  · apply clo_least _ (ltR_trans k)
    intro x y e
    simp only [chainR, ltR, decide_eq_true_eq] at *
    omega
  · intro x y e
    have hs := chainR_supp (Nat.le_refl k)
    have ht := clo_trans hs
    have h : x < y ∧ y < k := by simpa [ltR] using e
    obtain ⟨d, rfl⟩ : ∃ d, y = x + 1 + d := ⟨y - x - 1, by omega⟩
    induction d with
    | zero => exact clo_sub k _ x (x + 1) (by simp [chainR]; omega)
    | succ d ih =>
      refine ht x (x + 1 + d) _ (ih (by simp [ltR]; omega) (by omega)) (clo_sub k _ _ _ ?_)
      simp [chainR]
      omega

/-- The pairs of the chain's closure. -/
def upL (k : Nat) : List (Int × Int) := pairsL k (ltR k) k
theorem upL_len : ∀ k, k < 13 → (upL k).length = k * (k - 1) / 2 := by decide +kernel
theorem upL_two : ∀ k, k < 13 → 3 ≤ k → (upL k).take 2 = [(0, 1), (0, 2)] := by decide +kernel
theorem upL_mem {k x y : Nat} : ((x : Int), (y : Int)) ∈ upL k ↔ x < y ∧ y < k := by
  unfold upL
  rw [pairsL_mem]
  simp only [ltR, decide_eq_true_eq]
  omega
theorem upL_eq {k : Nat} (h1 : k < 13) (h2 : 3 ≤ k) : ∃ r, upL k = (0, 1) :: (0, 2) :: r := by
  refine ⟨(upL k).drop 2, ?_⟩
  conv => lhs; rw [← List.take_append_drop 2 (upL k)]
  rw [upL_two k h1 h2]
  rfl
theorem upL_ofL (k : Nat) : ofL k (upL k) = ltR k := ofL_pairsL (ltR_supp k)
theorem upL_tot (k : Nat) : (ordB (clo k (ltR k)) k && totB (clo k (ltR k)) k) = true := by
  rw [clo_of_trans (ltR_trans k), Bool.and_eq_true]
  constructor
  · unfold ordB
    rw [List.all_eq_true]
    intro a _
    simp [ltR]
  · unfold totB
    rw [List.all_eq_true]
    intro a ha
    rw [List.all_eq_true]
    intro b hb
    have h1 : a < k := by simpa using ha
    have h2 : b < a := by simpa using hb
    simp [ltR]
    omega

/-- One less: 0 isn't ahead of 2 any more. -/
theorem less_chk {L : List ByteArray} {k : Nat} {r : List (Int × Int)} (hl : labErr L = 0) (hn : L.length = k) (h2 : 3 ≤ k) (he : upL k = (0, 1) :: (0, 2) :: r) : chk L ((0, 1) :: r) = 10 := by
  refine chk_no hl ?_
  rw [hn, Bool.and_eq_false_iff, Bool.and_eq_false_iff]
  refine .inr (.inr ?_)
  have hs := ofL_supp k ((0, 1) :: r)
  rw [Bool.not_eq_false', grewC_iff hs]
  intro e
  have h01 : ofL k ((0, 1) :: r) 0 1 = true := (ofL_iff _ _ _ _).2 ⟨by omega, by omega, by simp⟩
  have h12m : (((1 : Nat) : Int), ((2 : Nat) : Int)) ∈ upL k := upL_mem.2 ⟨by omega, by omega⟩
  have h12 : ofL k ((0, 1) :: r) 1 2 = true := (ofL_iff _ _ _ _).2 ⟨by omega, by omega, by
    rw [he] at h12m
    simpa using h12m⟩
  have ht := clo_trans hs
  rw [e] at ht
  have h02 := ht 0 1 2 h01 h12
  have hm := ((ofL_iff _ _ _ _).1 h02).2.2
  have hpw := (pairsL_rise k (ltR k) k).1
  rw [show pairsL k (ltR k) k = (0, 1) :: (0, 2) :: r from he] at hpw
  have h3 := (List.pairwise_cons.1 (List.pairwise_cons.1 hpw).2).1
  have hr : ((0 : Int), (2 : Int)) ∈ r := by simpa using hm
  have := h3 _ hr
  simp [LtP] at this
theorem less_ne {k : Nat} {r : List (Int × Int)} (he : upL k = (0, 1) :: (0, 2) :: r) : upL k ≠ (0, 1) :: r := by
  rw [he]
  intro e
  have := congrArg List.length e
  simp at this
/-- Two turned. -/
theorem turn_chk {L : List ByteArray} {r : List (Int × Int)} (hl : labErr L = 0) : chk L ((0, 2) :: (0, 1) :: r) = 10 := by
  refine chk_no hl ?_
  have : risesB ((0, 2) :: (0, 1) :: r) = false := by
    unfold risesB
    obtain ⟨t, ht⟩ := nbr_split ((0, 2) :: (0, 1) :: r) (k := 0) (m := ((0, 2) :: (0, 1) :: r : List (Int × Int)).length) (by simp)
    rw [ht]
    simp [nbr, ltP]
  rw [this]
  rfl
theorem turn_ne {k : Nat} {r : List (Int × Int)} (he : upL k = (0, 1) :: (0, 2) :: r) : upL k ≠ (0, 2) :: (0, 1) :: r := by
  rw [he]
  intro e
  simp at e
/-- One behind, of which one isn't there. -/
theorem more_chk {L : List ByteArray} {k : Nat} {l : List (Int × Int)} (hl : labErr L = 0) (hn : L.length = k) : chk L (l ++ [((k : Int), 0)]) = 10 := by
  refine chk_no hl ?_
  have : allIn k (l ++ [((k : Int), 0)]) = false := by
    unfold allIn
    rw [List.all_append]
    simp [inI]
  rw [hn, this]
  cases risesB (l ++ [((k : Int), 0)]) <;> rfl
theorem more_ne {l : List (Int × Int)} {x : Int × Int} : l ≠ l ++ [x] := by
  intro e
  have := congrArg List.length e
  simp at this

theorem k_len : ∀ k : Nat, k < 13 → 3 ≤ k → ((((k * (k - 1) / 2 : Nat) : Int)) != wrap64 ((wrap64 ((k : Int) * ((k : Int) - 1))).tdiv 2)) = false := by decide +kernel

/-- The labels. -/
def labS (i : Nat) : ByteArray := strOfNums [(97 : Int) + (i : Int)]
def labs (k : Nat) : List ByteArray := (List.range k).map labS
theorem labs_len (k : Nat) : (labs k).length = k := by simp [labs]
theorem labs_succ (k : Nat) : labs (k + 1) = labs k ++ [labS k] := by unfold labs; rw [List.range_succ, List.map_append]; rfl
theorem labs_ok {k : Nat} (h : k < 13) : labErr (labs k) = 0 := by
  refine lab_of_all (by rw [labs_len]; omega) ?_
  rw [List.all_eq_true]
  intro x hx
  unfold labs at hx
  rw [List.mem_map] at hx
  obtain ⟨i, _, rfl⟩ := hx
  unfold okS labS
  rw [strOfNums_size]
  rfl
theorem long_chk {L : List ByteArray} {s : ByteArray} (hl : L.length < 40) (hs : 60 < s.size) (P : List (Int × Int)) : chk (s :: L) P = 10 := by
  refine chk_lab (lab_of_not (by simp; omega) ?_) (by decide)
  rw [List.all_cons]
  have : okS s = false := by unfold okS; simpa using hs
  rw [this]
  rfl
theorem long_ne {L : List ByteArray} {s t : ByteArray} (hs : 60 < s.size) (ht : t.size ≤ 60) : t :: L ≠ s :: L := by
  intro e
  simp at e
  rw [e] at ht
  omega

end Go.Proofs.YtdolcdededmlhaaDoor
