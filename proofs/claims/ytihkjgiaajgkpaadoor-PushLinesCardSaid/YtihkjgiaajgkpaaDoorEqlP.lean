/- Plain: what is made one by a map and itself stays as it is. -/
import Derived.Test.YtihkjgiaajgkpaaDoorPusi
import Derived.Test.YtihkjgiaajgkpaaDoorUnis
namespace Go.Proofs.YtihkjgiaajgkpaaDoor
open Go.RowKit

/-- Pairs that rise, all of them. -/
def LtQ (x y : Int × Int) : Prop := x.1 < y.1 ∨ (x.1 = y.1 ∧ x.2 < y.2)
theorem LtQ.trans {x y z : Int × Int} (h : LtQ x y) (k : LtQ y z) : LtQ x z := by unfold LtQ at *; omega
theorem LtQ.irrefl (x : Int × Int) : ¬ LtQ x x := by unfold LtQ; omega
theorem onL_up (S : Nat → Bool) (n : Nat) : (onL S n).Pairwise (· < ·) := by
  unfold onL
  exact List.Pairwise.filter _ List.pairwise_lt_range
theorem pairsL_up (n : Nat) (R : Nat → Nat → Bool) (k : Nat) : (pairsL n R k).Pairwise LtQ ∧ ∀ x ∈ pairsL n R k, x.1 < k := by
  induction k with
  | zero => simp [pairsL]
  | succ k ih =>
    rw [pairsL_succ]
    refine ⟨?_, ?_⟩
    · rw [List.pairwise_append]
      refine ⟨ih.1, ?_, ?_⟩
      · rw [List.pairwise_map]
        exact (onL_up (R k) n).imp fun h => .inr ⟨rfl, by simpa using h⟩
      · intro x hx y hy
        rw [List.mem_map] at hy
        obtain ⟨b, _, rfl⟩ := hy
        exact .inl (ih.2 x hx)
    · intro x hx
      rcases List.mem_append.1 hx with hx | hx
      · have := ih.2 x hx; omega
      · rw [List.mem_map] at hx
        obtain ⟨b, _, rfl⟩ := hx
        show (k : Int) < ((k + 1 : Nat) : Int)
        omega
theorem rises_up {l : List (Int × Int)} (h : risesB l = true) : l.Pairwise LtQ := by
  unfold risesB nbr at h
  rw [List.all_map, List.all_eq_true] at h
  rw [List.pairwise_iff_getElem]
  intro i j hi hj hij
  induction j with
  | zero => omega
  | succ j ih =>
    have hs := h j (by simp; omega)
    have h2 : LtQ l[j] l[j + 1] := by
      have h3 : ltP (l[j]?.getD (0, 0), l[j + 1]?.getD (0, 0)) = true := hs
      rw [List.getElem?_eq_getElem (by omega), List.getElem?_eq_getElem hj] at h3
      unfold ltP at h3
      simpa [LtQ] using h3
    by_cases e : i = j
    · subst e; exact h2
    · exact (ih (by omega) (by omega)).trans h2
theorem up_ext : ∀ {l1 l2 : List (Int × Int)}, l1.Pairwise LtQ → l2.Pairwise LtQ → (∀ x, x ∈ l1 ↔ x ∈ l2) → l1 = l2
  | [], [], _, _, _ => rfl
  | [], y :: l2, _, _, h => absurd ((h y).2 (by simp)) (by simp)
  | x :: l1, [], _, _, h => absurd ((h x).1 (by simp)) (by simp)
  | x :: l1, y :: l2, h1, h2, h => by
    rw [List.pairwise_cons] at h1 h2
    have hxy : x = y := by
      have hx := (h x).1 (by simp)
      have hy := (h y).2 (by simp)
      rcases List.mem_cons.1 hx with e | hx
      · exact e
      · rcases List.mem_cons.1 hy with e | hy
        · exact e.symm
        · exact absurd ((h1.1 y hy).trans (h2.1 x hx)) (LtQ.irrefl _)
    subst hxy
    rw [up_ext h1.2 h2.2 fun z => ?_]
    have hz := h z
    constructor
    · intro hm
      rcases List.mem_cons.1 (hz.1 (List.mem_cons_of_mem _ hm)) with e | e
      · subst e; exact absurd (h1.1 z hm) (LtQ.irrefl _)
      · exact e
    · intro hm
      rcases List.mem_cons.1 (hz.2 (List.mem_cons_of_mem _ hm)) with e | e
      · subst e; exact absurd (h2.1 z hm) (LtQ.irrefl _)
      · exact e
theorem obj_pairs {L : List ByteArray} {P : List (Int × Int)} (h : chk L P = 0) : pairsL L.length (clo L.length (ofL L.length P)) L.length = P := by
  obtain ⟨_, h1, h2, h3⟩ := chk_in h
  have hc : clo L.length (ofL L.length P) = ofL L.length P := grewC_none (ofL_supp _ _) _ h3
  rw [hc]
  refine up_ext (pairsL_up _ _ _).1 (rises_up h1) fun x => ?_
  obtain ⟨a, b⟩ := x
  constructor
  · intro hx
    obtain ⟨q1, q2, q3, q4⟩ := pairsL_in _ hx
    obtain ⟨a, rfl⟩ := Int.eq_ofNat_of_zero_le q1
    obtain ⟨b, rfl⟩ := Int.eq_ofNat_of_zero_le q3
    exact ((ofL_iff _ _ _ _).1 (pairsL_mem.1 hx).2.2).2.2
  · intro hx
    have hi : inI L.length a b := of_decide_eq_true (List.all_eq_true.1 h2 _ hx)
    obtain ⟨q1, q2, q3, q4⟩ := hi
    obtain ⟨a, rfl⟩ := Int.eq_ofNat_of_zero_le q1
    obtain ⟨b, rfl⟩ := Int.eq_ofNat_of_zero_le q3
    exact pairsL_mem.2 ⟨by omega, by omega, (ofL_iff _ _ _ _).2 ⟨by omega, by omega, hx⟩⟩

theorem joins_same (n : Nat) (f : List Int) : joinsL n f f = List.range n := by
  unfold joinsL
  have : ∀ k, joinsK (List.range n) f f k = List.range n := by
    intro k
    induction k with
    | zero => rfl
    | succ k ih =>
      rw [joinsK, ih]
      unfold joinZ
      split
      · exact joinL_same rfl
      · rfl
  exact this _
theorem leadL_range (n : Nat) : leadL (List.range n) = List.range n := by
  unfold leadL
  rw [List.length_range, List.filter_eq_self]
  intro e he
  simpa using nx_range (List.mem_range.1 he)
theorem cntR_range {n m : Nat} (h : m ≤ n) : cntR (List.range n) m = m := by
  unfold cntR
  rw [List.filter_eq_self.2, List.length_range]
  intro e he
  have := List.mem_range.1 he
  simpa using nx_range (n := n) (e := e) (by omega)
theorem atZ_range (n : Nat) : atZ (List.range n) = idL n := by
  unfold atZ placesL idL
  rw [List.length_range, List.map_map]
  apply List.map_congr_left
  intro e he
  have he := List.mem_range.1 he
  show ((plc6 (List.range n) e : Nat) : Int) = e
  unfold plc6
  rw [nx_range he, cntR_range (by omega)]
theorem labG_range (L : List ByteArray) : labG L (List.range L.length) = L := by
  unfold labG
  rw [leadL_range]
  apply List.ext_getElem
  · simp
  · intro i h1 h2
    simp [List.getElem?_eq_getElem h2]
theorem idL_at {n e : Nat} (h : e < n) : (idL n)[e]?.getD 0 = (e : Int) := by
  unfold idL
  rw [List.getElem?_map, List.getElem?_range h]
  rfl
theorem mapP_id {n : Nat} {P : List (Int × Int)} (h : allIn n P = true) : mapP (idL n) P = P := by
  unfold mapP
  refine (List.map_congr_left fun x hx => ?_).trans (List.map_id P)
  obtain ⟨q1, q2, q3, q4⟩ := of_decide_eq_true (List.all_eq_true.1 h x hx)
  show ((idL n)[x.1.toNat]?.getD 0, (idL n)[x.2.toNat]?.getD 0) = id x
  rw [idL_at (by omega), idL_at (by omega), Int.toNat_of_nonneg q1, Int.toNat_of_nonneg q3]
  rfl
theorem gluP_range {L : List ByteArray} {P : List (Int × Int)} (h : chk L P = 0) : gluP (List.range L.length) P = P := by
  unfold gluP gluR
  rw [List.length_range, cntR_range (Nat.le_refl _), atZ_range, mapP_id (chk_in h).2.2.1]
  exact obj_pairs h

end Go.Proofs.YtihkjgiaajgkpaaDoor
