/- Arguments that are slices of strings, of ints, objects: how they lie in memory when the call begins (a seat without tables). -/
import Derived.SliceStrings
import Derived.ChangeSlices
import Derived.Test.YtgmdkghggomloaaArgsP
import Derived.Test.YtgmdkghggomloaaArra
namespace Go.Proofs.Ytgmdkghggomloaa
open Go.ChangeShapes Go.WideShapes Go.ChangeAt Go.WideMaps Go.WideElems Go.RowKit Go.Deep

theorem cStr : Try.prog.cellsOf 9 = 1 := by kernel_rfl
theorem cStrs : Try.prog.cellsOf 22 = 1 := by kernel_rfl
/-- A slice of strings that came in. -/
structure SArg (w : World) (p : Option Addr) (n c : Nat) (l : List ByteArray) : Prop where
  at' : StrsAt w 0 w.heap.size p n l
  len : n ≤ maxLen
  none' : p = none → c = 0
  cap : n ≤ c
/-- An object that came in. -/
structure OArg (w : World) (p : Option Addr) (n c : Nat) (q : Option Addr) (m d : Nat) (L : List ByteArray) (P : List (Int × Int)) : Prop where
  at' : ObjAt w 0 w.heap.size p n q m L P
  len : n ≤ maxLen
  none' : p = none → c = 0
  none2 : q = none → d = 0

theorem strsTrod {H : Type} {enc : TypeId × Value → H} {W : World} {fuel : Nat} {v : Value} {x : DataW H × List MemPlace} (hf : DataW.trod enc Try.prog W 0 (fun _ => true) true fuel 22 [v] = some x) : ∃ p L c l, v = .slice p L c ∧ SArg W p L c l := by
  rcases open_strings Try.underlying22 Try.underlying9 cStr hf with ⟨hcs, _⟩ | ⟨a, len, cap, ss, hcs, _, hl, hm, hsl, _, hcell, _⟩
  · simp only [List.cons.injEq, and_true] at hcs
    subst hcs
    exact ⟨none, 0, 0, [], rfl, strsAt_nil _ _ _, Nat.zero_le _, fun _ => rfl, Nat.le_refl _⟩
  · simp only [List.cons.injEq, and_true] at hcs
    subst hcs
    simp only [if_true] at hsl
    refine ⟨some a, len, cap, ss.take len, rfl, ⟨by rw [List.length_take]; omega, fun hn => ?_⟩, Nat.le_trans hl hm, (fun h => by cases h), hl⟩
    have hc0 := hcell 0 (by omega)
    rw [add_zero'] at hc0
    obtain ⟨b, off, rfl⟩ := cell_plain hc0
    refine ⟨b, off, rfl, Nat.zero_le _, cell_lt hc0, Nat.le_refl _, fun i hil => ?_⟩
    have hi := hcell i (by omega)
    rw [add_plain] at hi
    rw [hi, List.getD_eq_getElem?_getD, List.getElem?_take_of_lt hil]

set_option maxRecDepth 20000 in
theorem strsAt_of {H : Type} {enc : TypeId × Value → H} {W : World} {base : Nat} {v : Value} {d : DataW H} {ps : List MemPlace} (hok : Value.okWide Try.prog W .any base 22 v)
    (h : DataW.Trod enc Try.prog W 0 (fun _ => true) true 22 v d ps) : ∃ p L c l, v = .slice p L c ∧ SArg W p L c l := by
  obtain ⟨a0, len, cap, rfl⟩ := okWide_slice Try.underlying22 hok
  obtain ⟨fuel, hf⟩ := h
  exact strsTrod hf

end Go.Proofs.Ytgmdkghggomloaa
