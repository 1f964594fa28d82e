/- The contract of the iterator behind Pairs of package rel: it hands over the pairs, rising. -/
import Derived.Test.YtkipldmkdnjkaaaPairs
namespace Go.Proofs.Ytkipldmkdnjkaaa
open Go.RowKit Go.Shelf
attribute [local go_sem] Oper.semAt_some

/-- Rows of ints lie as they lay. -/
def KeepI (W W' : World) : Prop := ∀ (g : Nat) (cur : Array Value), W.heap[g]? = some (.cells cur 3 (0, 0)) → W'.heap[g]? = some (.cells cur 3 (0, 0))

theorem KeepI.calm {W W' : World} (h : W.grownBy W' none) : KeepI W W' := fun g cur hg => (h.block g (Array.getElem?_eq_some_iff.1 hg).1 (by simp)).trans hg
theorem KeepI.refl (W : World) : KeepI W W := fun _ _ h => h
theorem KeepI.trans {A B C : World} (h : KeepI A B) (k : KeepI B C) : KeepI A C := fun g cur hg => k g cur (h g cur hg)

/-- What a body keeps of what the iterator leans on. -/
def KeepP (n₀ : Nat) (W W' : World) : Prop := Below n₀ W W' ∧ KeepI W W'

/-- A slice that All made, written out. -/
theorem allPost_row {l : List Nat} {w w' : World} {e : Ending} (h : AllPost (ints l) w e w') :
    ∃ g cap cur, e = .returned (.slice (some ⟨g, 0, none⟩) l.length cap) ∧ w.heap.size ≤ g ∧ w'.heap[g]? = some (.cells cur 3 (0, 0)) ∧ (∀ k, k < l.length → cur[k]? = some (.int .i64 (l[k]?.getD 0 : Nat))) ∧ w.grownBy w' none := by
  have hlen : (ints l).length = l.length := by simp [ints]
  obtain ⟨v, rfl, hrow, hnil, hg⟩ := h
  rw [hlen] at hrow
  rcases hrow.2 with ⟨rfl, _⟩ | ⟨g, cap, cur, rfl, hb, hh, h1, h2, h3, h4⟩
  · exact absurd rfl hnil
  · refine ⟨g, cap, cur, rfl, hb, hh, fun k hk => ?_, hg⟩
    have e : ((ints l).map (Value.int .i64))[k]? = some (.int .i64 (l[k]?.getD 0 : Nat)) := by
      unfold ints
      rw [List.getElem?_map, List.getElem?_map, List.getElem?_eq_getElem hk]; rfl
    rw [← h4, List.getElem?_take_of_lt (by omega), Array.getElem?_toList] at e
    exact e

theorem pairsL_split {n : Nat} {R : Nat → Nat → Bool} {m k j : Nat} (hk : k < m) (hj : j < (onL (R k) n).length) :
    ∃ rest, pairsL n R m = (pairsL n R k ++ ((onL (R k) n).take j).map fun b : Nat => ((k : Int), (b : Int))) ++ ([((k : Int), (((onL (R k) n)[j]?.getD 0 : Nat) : Int))] ++ rest) := by
  have h1 : ∃ r1, pairsL n R m = pairsL n R (k + 1) ++ r1 := by
    unfold pairsL
    refine ⟨((List.range (m - (k + 1))).map fun x => (k + 1) + x).flatMap fun a => (onL (R a) n).map fun b : Nat => ((a : Int), (b : Int)), ?_⟩
    rw [← List.flatMap_append, ← List.range_add]
    congr 2
    omega
  obtain ⟨r1, h1⟩ := h1
  refine ⟨((onL (R k) n).drop (j + 1)).map (fun b : Nat => ((k : Int), (b : Int))) ++ r1, ?_⟩
  rw [h1, pairsL_succ]
  have e : (onL (R k) n) = (onL (R k) n).take j ++ ([(onL (R k) n)[j]?.getD 0] ++ (onL (R k) n).drop (j + 1)) := by
    rw [List.getElem?_eq_getElem hj]
    simp
  generalize (onL (R k) n)[j]?.getD 0 = y at *
  generalize (onL (R k) n).drop (j + 1) = d at *
  generalize (onL (R k) n).take j = t at *
  rw [e]
  simp

/-- A pair as a value. -/
def pairV (x : Int × Int) : Array Value := #[.agg #[.int .i64 x.1, .int .i64 x.2]]

end Go.Proofs.Ytkipldmkdnjkaaa
