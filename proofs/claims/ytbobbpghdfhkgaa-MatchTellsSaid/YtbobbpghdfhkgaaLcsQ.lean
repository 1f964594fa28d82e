/- Matchings as pairs of ints, place by place; rows of texts of which the longest matching is known, in plain words. -/
import Derived.Test.YtbobbpghdfhkgaaLcsP
namespace Go.Proofs.Ytbobbpghdfhkgaa
section
variable {α : Type}
/-- The first i of a, something ahead of each of the first of them. -/
def mixL (a z : List α) (d : α) : Nat → List α
  | 0 => []
  | i + 1 => mixL a z d i ++ ((if i < z.length then [z[i]?.getD d] else []) ++ [a[i]?.getD d])
theorem mixL_sub (a z : List α) (d : α) : ∀ i, i ≤ a.length → (a.take i).Sublist (mixL a z d i)
  | 0, _ => by simp [mixL]
  | i + 1, h => by
    rw [List.take_succ_eq_append_getElem (by omega)]
    unfold mixL
    refine (mixL_sub a z d i (by omega)).append ?_
    rw [List.getElem?_eq_getElem (by omega : i < a.length)]
    exact List.sublist_append_right _ _
end

section
variable {α : Type} [DecidableEq α]

/-- Whether a pair may stand behind another one. -/
def okP (a b : List α) (prev p : Int × Int) : Bool :=
  decide (0 ≤ p.1) && (decide (0 ≤ p.2) && (decide (p.1 < a.length) && (decide (p.2 < b.length) && (decide (a[p.1.toNat]? = b[p.2.toNat]?) && (decide (prev.1 < p.1) && decide (prev.2 < p.2))))))
/-- The pair ahead of place i. -/
def ahead (l : List (Int × Int)) (i : Nat) : Int × Int := if i = 0 then (-1, -1) else l[i - 1]?.getD (0, 0)
/-- The first n pairs are a matching. -/
def upM (a b : List α) (l : List (Int × Int)) (n : Nat) : Bool := (List.range n).all fun i => okP a b (ahead l i) (l[i]?.getD (0, 0))
/-- Whether pairs are a matching. -/
def isMB (a b : List α) (l : List (Int × Int)) : Bool := upM a b l l.length

theorem upM_zero (a b : List α) (l : List (Int × Int)) : upM a b l 0 = true := rfl
theorem upM_succ (a b : List α) (l : List (Int × Int)) (n : Nat) : upM a b l (n + 1) = (upM a b l n && okP a b (ahead l n) (l[n]?.getD (0, 0))) := by
  unfold upM
  rw [List.range_succ, List.all_append]
  simp
theorem isMB_no {a b : List α} {l : List (Int × Int)} {n : Nat} (hn : n < l.length) (h : okP a b (ahead l n) (l[n]?.getD (0, 0)) = false) : isMB a b l = false := by
  unfold isMB upM
  rw [Bool.eq_false_iff]
  intro e
  have := List.all_eq_true.1 e n (List.mem_range.2 hn)
  rw [h] at this
  cases this

def matI (a b : List α) : Int × Int → List (Int × Int) → Bool
  | _, [] => true
  | prev, p :: l => okP a b prev p && matI a b p l

theorem matI_range (a b : List α) : ∀ (l : List (Int × Int)) (prev : Int × Int),
    ((List.range l.length).all fun i => okP a b (if i = 0 then prev else l[i - 1]?.getD (0, 0)) (l[i]?.getD (0, 0))) = matI a b prev l
  | [], _ => rfl
  | p :: l, prev => by
    rw [List.length_cons, List.range_succ_eq_map, List.all_cons, List.all_map]
    unfold matI
    rw [← matI_range a b l p]
    congr 1
    congr 1
    funext i
    cases i with
    | zero => rfl
    | succ i => rfl
theorem isMB_matI (a b : List α) (l : List (Int × Int)) : isMB a b l = matI a b (-1, -1) l := matI_range a b l (-1, -1)

theorem okP_spec {a b : List α} {prev p : Int × Int} (h : okP a b prev p = true) : 0 ≤ p.1 ∧ 0 ≤ p.2 ∧ p.1 < a.length ∧ p.2 < b.length ∧ a[p.1.toNat]? = b[p.2.toNat]? ∧ prev.1 < p.1 ∧ prev.2 < p.2 := by
  unfold okP at h
  simpa only [Bool.and_eq_true, decide_eq_true_eq] using h
theorem okP_mk {a b : List α} {prev p : Int × Int} (h : 0 ≤ p.1 ∧ 0 ≤ p.2 ∧ p.1 < a.length ∧ p.2 < b.length ∧ a[p.1.toNat]? = b[p.2.toNat]? ∧ prev.1 < p.1 ∧ prev.2 < p.2) : okP a b prev p = true := by
  unfold okP
  simpa only [Bool.and_eq_true, decide_eq_true_eq] using h

def natP (p : Int × Int) : Nat × Nat := (p.1.toNat, p.2.toNat)
def intP (p : Nat × Nat) : Int × Int := ((p.1 : Int), (p.2 : Int))

theorem matI_matL {a b : List α} : ∀ {l : List (Int × Int)} {prev : Int × Int} {i k : Nat}, (i : Int) ≤ prev.1 + 1 → (k : Int) ≤ prev.2 + 1 → matI a b prev l = true → matL a b i k (l.map natP)
  | [], _, _, _, _, _, _ => trivial
  | p :: l, prev, i, k, hi, hk, h => by
    unfold matI at h
    rw [Bool.and_eq_true] at h
    obtain ⟨h1, h2, h3, h4, h5, h6, h7⟩ := okP_spec h.1
    refine ⟨?_, ?_, ?_, ?_, h5, matI_matL ?_ ?_ h.2⟩
    · show i ≤ p.1.toNat; omega
    · show k ≤ p.2.toNat; omega
    · show p.1.toNat < a.length; omega
    · show p.2.toNat < b.length; omega
    · omega
    · omega
theorem matL_matI {a b : List α} : ∀ {l : List (Nat × Nat)} {prev : Int × Int} {i k : Nat}, prev.1 + 1 ≤ (i : Int) → prev.2 + 1 ≤ (k : Int) → matL a b i k l → matI a b prev (l.map intP) = true
  | [], _, _, _, _, _, _ => rfl
  | p :: l, prev, i, k, hi, hk, h => by
    obtain ⟨h1, h2, h3, h4, h5, h6⟩ := h
    rw [List.map_cons]
    unfold matI
    rw [okP_mk ⟨by show (0 : Int) ≤ (p.1 : Int); omega, by show (0 : Int) ≤ (p.2 : Int); omega, by show (p.1 : Int) < _; omega, by show (p.2 : Int) < _; omega, h5, by show _ < (p.1 : Int); omega, by show _ < (p.2 : Int); omega⟩, Bool.true_and]
    exact matL_matI (by show (p.1 : Int) + 1 ≤ ((p.1 + 1 : Nat) : Int); omega) (by show (p.2 : Int) + 1 ≤ ((p.2 + 1 : Nat) : Int); omega) h6

/-- No matching is longer than the longest. -/
theorem isMB_len {a b : List α} {l : List (Int × Int)} (h : isMB a b l = true) : l.length ≤ lcs a b := by
  rw [isMB_matI] at h
  have := matL_len (matI_matL (i := 0) (k := 0) (by decide) (by decide) h)
  rwa [List.length_map] at this
/-- The longest one that begins first is a matching. -/
theorem isMB_first {a b : List α} {l : List (Nat × Nat)} (h : LgL a b 0 0 l) : isMB a b (l.map intP) = true := by
  rw [isMB_matI]
  exact matL_matI (by decide) (by decide) h.mat
theorem LgL.size {a b : List α} {l : List (Nat × Nat)} (h : LgL a b 0 0 l) : (l.map intP).length = lcs a b := by
  rw [List.length_map, h.len]; rfl

/-! Rows of which the longest matching is known. -/
theorem mixL_within (a z : List α) (d : α) : lcs a (mixL a z d a.length) = a.length := by
  have := mixL_sub a z d a.length (Nat.le_refl _)
  rw [List.take_length] at this
  exact lcs_within this

theorem LgL_self (a : List α) : LgL a a 0 0 ((List.range a.length).map fun j => (j, j)) := by
  have := LgL_diag (a := a) (b := a) (n := a.length) (tabL_a (Nat.le_refl _)) (fun i h => ⟨h, h, rfl⟩) a.length 0 (by omega)
  simpa using this
theorem LgL_equal (c : α) (x y : Nat) : LgL (List.replicate x c) (List.replicate y c) 0 0 ((List.range (min x y)).map fun j => (j, j)) := by
  have hz : tabL (List.replicate x c) (List.replicate y c) (min x y) (min x y) = 0 := by
    rcases Nat.le_total x y with h | h
    · exact tabL_a (by rw [List.length_replicate]; omega)
    · exact tabL_b (by rw [List.length_replicate]; omega)
  have := LgL_diag hz (fun i h => by
    have h1 : i < x := by omega
    have h2 : i < y := by omega
    refine ⟨by rw [List.length_replicate]; exact h1, by rw [List.length_replicate]; exact h2, ?_⟩
    rw [List.getElem?_replicate_of_lt h1, List.getElem?_replicate_of_lt h2]) (min x y) 0 (by omega)
  simpa using this
/-- One in the middle of what it has not. -/
theorem LgL_middle {a : List α} {u v : α} (hn : ∀ i j, i < a.length → j < a.length → a[i]? = a[j]? → i = j) (hu : u ∉ a) (hv : v ∉ a) (s t : Nat) :
    LgL a (List.replicate s u ++ a ++ List.replicate t v) 0 0 ((List.range a.length).map fun j => (j, s + j)) := by
  have hlen : (List.replicate s u ++ a ++ List.replicate t v).length = s + a.length + t := by simp [Nat.add_assoc]
  have hget : ∀ q, q < s + a.length + t → (List.replicate s u ++ a ++ List.replicate t v)[q]? = if q < s then some u else if q < s + a.length then a[q - s]? else some v := by
    intro q hq
    by_cases h1 : q < s
    · rw [if_pos h1, List.append_assoc, List.getElem?_append_left (by simpa using h1), List.getElem?_replicate_of_lt h1]
    · rw [if_neg h1]
      by_cases h2 : q < s + a.length
      · rw [if_pos h2, List.getElem?_append_left (by simpa using h2), List.getElem?_append_right (by simpa using h1), List.length_replicate]
      · rw [if_neg h2, List.getElem?_append_right (by simpa using h2), List.getElem?_replicate_of_lt (by simp; omega)]
  have := LgL_shift (a := a) (b := List.replicate s u ++ a ++ List.replicate t v) (s := s) (fun i hi => by rw [hlen]; omega) (fun i q hi hq => by
    rw [hlen] at hq
    rw [hget q hq]
    constructor
    · intro e
      split at e
      · exact absurd (List.mem_of_getElem? e) hu
      · split at e
        · have := hn i (q - s) hi (by omega) e
          omega
        · exact absurd (List.mem_of_getElem? e) hv
    · rintro rfl
      rw [if_neg (by omega), if_pos (by omega), Nat.add_sub_cancel_left]) a.length 0 0 (by omega) (by omega)
  simpa using this
end
end Go.Proofs.Ytbobbpghdfhkgaa
