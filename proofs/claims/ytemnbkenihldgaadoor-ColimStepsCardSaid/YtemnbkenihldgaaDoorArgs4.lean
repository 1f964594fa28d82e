/- Arguments that are slices of strings, of ints, objects: how they lie in memory when the call begins. -/
import Derived.SliceStrings
import Derived.ChangeSlices
import Derived.Test.YtemnbkenihldgaaDoorArgs
import Derived.Test.YtemnbkenihldgaaDoorArra
namespace Go.Proofs.YtemnbkenihldgaaDoor
open Go.ChangeShapes Go.WideShapes Go.ChangeAt Go.WideMaps Go.WideElems Go.RowKit Go.Deep

theorem cStr : Tryd.prog.cellsOf 9 = 1 := by kernel_rfl
theorem cStrs : Tryd.prog.cellsOf 22 = 1 := by kernel_rfl
theorem cPairs : Tryd.prog.cellsOf 23 = 1 := by kernel_rfl
theorem cObj : Tryd.prog.cellsOf 25 = 2 := by kernel_rfl

/-- A slice of strings that came in. -/
structure SArg (w : World) (p : Option Addr) (n c : Nat) (l : List ByteArray) : Prop where
  at' : StrsAt w 0 w.heap.size p n l
  len : n ≤ maxLen
  none' : p = none → c = 0
/-- An object that came in. -/
structure OArg (w : World) (p : Option Addr) (n c : Nat) (q : Option Addr) (m d : Nat) (L : List ByteArray) (P : List (Int × Int)) : Prop where
  at' : ObjAt w 0 w.heap.size p n q m L P
  len : n ≤ maxLen
  none' : p = none → c = 0
  none2 : q = none → d = 0

theorem strsTrod {H : Type} {enc : TypeId × Value → H} {W : World} {fuel : Nat} {v : Value} {x : DataW H × List MemPlace} (hf : DataW.trod enc Tryd.prog W 0 (fun _ => true) true fuel 22 [v] = some x) : ∃ p L c l, v = .slice p L c ∧ SArg W p L c l := by
  rcases open_strings Tryd.underlying22 Tryd.underlying9 cStr hf with ⟨hcs, _⟩ | ⟨a, len, cap, ss, hcs, _, hl, hm, hsl, _, hcell, _⟩
  · simp only [List.cons.injEq, and_true] at hcs
    subst hcs
    exact ⟨none, 0, 0, [], rfl, strsAt_nil _ _ _, Nat.zero_le _, fun _ => rfl⟩
  · simp only [List.cons.injEq, and_true] at hcs
    subst hcs
    simp only [if_true] at hsl
    refine ⟨some a, len, cap, ss.take len, rfl, ⟨by rw [List.length_take]; omega, fun hn => ?_⟩, Nat.le_trans hl hm, fun h => by cases h⟩
    have hc0 := hcell 0 (by omega)
    rw [add_zero'] at hc0
    obtain ⟨b, off, rfl⟩ := cell_plain hc0
    refine ⟨b, off, rfl, Nat.zero_le _, cell_lt hc0, Nat.le_refl _, fun i hil => ?_⟩
    have hi := hcell i (by omega)
    rw [add_plain] at hi
    rw [hi, List.getD_eq_getElem?_getD, List.getElem?_take_of_lt hil]

set_option maxRecDepth 20000 in
theorem pairsTrod {H : Type} {enc : TypeId × Value → H} {W : World} {fuel : Nat} {v : Value} {x : DataW H × List MemPlace} (hf : DataW.trod enc Tryd.prog W 0 (fun _ => true) true fuel 23 [v] = some x) : ∃ p L c l, v = .slice p L c ∧ PairsAt W 0 W.heap.size p L l ∧ (p = none → c = 0) := by
  rcases open_slice Tryd.underlying23 hf with ⟨hcs, _⟩ | ⟨a, len, cap, m, n, D, Pl, hcs, _, hl, hm, hmm, _, hi⟩
  · simp only [List.cons.injEq, and_true] at hcs
    subst hcs
    exact ⟨none, 0, 0, [], rfl, ⟨rfl, fun h => absurd h (by omega)⟩, fun _ => rfl⟩
  · simp only [List.cons.injEq, and_true] at hcs
    subst hcs
    simp only [if_true] at hmm
    have key : ∀ i, i < len → ∃ x : Int × Int, W.cell? (a.add (i * 2)) = some (.int .i64 x.1) ∧ W.cell? ((a.add (i * 2)).add 1) = some (.int .i64 x.2) := by
      intro i hil
      obtain ⟨cs', hc, ht⟩ := hi i (by omega)
      rw [cPair] at hc
      obtain ⟨_, hcl, hat⟩ := World.cells?_some hc
      obtain ⟨ys, n', _, _, hlen, hyl, hfd⟩ := DataW.trod_struct Tryd.underlying74 ht
      rw [cPair] at hlen
      match cs', hlen with
      | [v0, v1], _ =>
        have hys : ys.length = 2 := hyl
        match ys, hys with
        | [y0, y1], _ =>
          have f0 : DataW.trod enc Tryd.prog W 0 (fun _ => true) true n' 3 (List.take (Tryd.prog.cellsOf 3) (List.drop 0 [v0, v1])) = some y0 := hfd 0 _ rfl
          have f1 : DataW.trod enc Tryd.prog W 0 (fun _ => true) true n' 3 (List.take (Tryd.prog.cellsOf 3) (List.drop 1 [v0, v1])) = some y1 := hfd 1 _ rfl
          rw [cInt] at f0 f1
          have g0 : DataW.trod enc Tryd.prog W 0 (fun _ => true) true n' 3 [v0] = some y0 := f0
          have g1 : DataW.trod enc Tryd.prog W 0 (fun _ => true) true n' 3 [v1] = some y1 := f1
          obtain ⟨x0, e0, _⟩ := DataW.trod_int Tryd.underlying3 g0
          obtain ⟨x1, e1, _⟩ := DataW.trod_int Tryd.underlying3 g1
          simp only [List.cons.injEq, and_true] at e0 e1
          have c0 := hat 0 (by omega)
          have c1 := hat 1 (by omega)
          rw [add_zero'] at c0
          rw [e0] at c0
          rw [e1] at c1
          exact ⟨(x0, x1), c0, c1⟩
    refine ⟨some a, len, cap, (List.range len).map fun i => if hil : i < len then Classical.choose (key i hil) else (0, 0), rfl, ⟨by simp, fun hn => ?_⟩, fun h => by cases h⟩
    obtain ⟨s0, hc0, _⟩ := key 0 hn
    rw [Nat.zero_mul, add_zero'] at hc0
    obtain ⟨b, off, rfl⟩ := cell_plain hc0
    refine ⟨b, off, rfl, Nat.zero_le _, cell_lt hc0, Nat.le_refl _, fun i hil => ?_⟩
    have hs := Classical.choose_spec (key i hil)
    have e : (((List.range len).map fun i => if hil : i < len then Classical.choose (key i hil) else (0, 0))[i]?.getD (0, 0)) = Classical.choose (key i hil) := by
      rw [List.getElem?_map, List.getElem?_range hil]
      simp only [Option.map_some, Option.getD_some, dif_pos hil]
    rw [e]
    simpa only [add_plain] using hs

set_option maxRecDepth 20000 in
theorem strsAt_of {H : Type} {enc : TypeId × Value → H} {W : World} {base : Nat} {v : Value} {d : DataW H} {ps : List MemPlace} (hok : Value.okWide Tryd.prog W .any base 22 v)
    (h : DataW.Trod enc Tryd.prog W 0 (fun _ => true) true 22 v d ps) : ∃ p L c l, v = .slice p L c ∧ SArg W p L c l := by
  obtain ⟨a0, len, cap, rfl⟩ := okWide_slice Tryd.underlying22 hok
  obtain ⟨fuel, hf⟩ := h
  exact strsTrod hf

set_option maxRecDepth 20000 in
theorem objAt_of {H : Type} {enc : TypeId × Value → H} {W : World} {base : Nat} {v : Value} {d : DataW H} {ps : List MemPlace} (hok : Value.okWide Tryd.prog W .any base 25 v)
    (h : DataW.Trod enc Tryd.prog W 0 (fun _ => true) true 25 v d ps) : ∃ p n c q m dd L P, v = .agg #[.slice p n c, .slice q m dd] ∧ OArg W p n c q m dd L P := by
  obtain ⟨cs, rfl, hsz⟩ := okWide_struct Tryd.underlying25 hok
  obtain ⟨fuel, hf⟩ := h
  obtain ⟨ys, n', _, _, hlen, hyl, hfd⟩ := DataW.trod_struct Tryd.underlying25 hf
  rw [cObj] at hlen hsz
  obtain ⟨cl⟩ := cs
  match cl, hsz with
  | [v0, v1], _ =>
    have hys : ys.length = 2 := hyl
    match ys, hys with
    | [y0, y1], _ =>
      have f0 : DataW.trod enc Tryd.prog W 0 (fun _ => true) true n' 22 (List.take (Tryd.prog.cellsOf 22) (List.drop 0 [v0, v1])) = some y0 := hfd 0 _ rfl
      have f1 : DataW.trod enc Tryd.prog W 0 (fun _ => true) true n' 23 (List.take (Tryd.prog.cellsOf 23) (List.drop 1 [v0, v1])) = some y1 := hfd 1 _ rfl
      rw [cStrs] at f0
      rw [cPairs] at f1
      obtain ⟨p, n, c, L, rfl, hp⟩ := strsTrod (v := v0) f0
      obtain ⟨q, m, dd, P, rfl, hq, hq0⟩ := pairsTrod (v := v1) f1
      exact ⟨p, n, c, q, m, dd, L, P, rfl, ⟨hp.at', hq⟩, hp.len, hp.none', hq0⟩

set_option maxRecDepth 20000 in
/-- A slice of ints that came in. -/
theorem zsAt_of {H : Type} {enc : TypeId × Value → H} {W : World} {base : Nat} {v : Value} {d : DataW H} {ps : List MemPlace} (hok : Value.okWide Tryd.prog W .any base 28 v)
    (h : DataW.Trod enc Tryd.prog W 0 (fun _ => true) true 28 v d ps) : ∃ p L c l, v = .slice p L c ∧ ZsAt W 0 W.heap.size p L l := by
  obtain ⟨a0, len0, cap0, rfl⟩ := okWide_slice Tryd.underlying28 hok
  obtain ⟨fuel, hf⟩ := h
  rcases open_ints Tryd.underlying28 Tryd.underlying3 cInt hf with ⟨hcs, _⟩ | ⟨a, len, cap, zs, hcs, _, hl, hm, hsl, _, hcell, _⟩
  · simp [Value.cells] at hcs
    obtain ⟨rfl, rfl, rfl⟩ := hcs
    exact ⟨none, 0, 0, [], rfl, zsAt_nil _ _ _⟩
  · simp [Value.cells] at hcs
    obtain ⟨rfl, rfl, rfl⟩ := hcs
    simp only [if_true] at hsl
    refine ⟨some a, len0, cap0, zs.take len0, rfl, ⟨by rw [List.length_take]; omega, fun hn => ?_⟩⟩
    have hc0 := hcell 0 (by omega)
    rw [add_zero'] at hc0
    obtain ⟨b, off, rfl⟩ := cell_plain hc0
    refine ⟨b, off, rfl, Nat.zero_le _, cell_lt hc0, Nat.le_refl _, fun i hil => ?_⟩
    have hi := hcell i (by omega)
    rw [add_plain] at hi
    rw [hi, List.getD_eq_getElem?_getD, List.getElem?_take_of_lt hil]

end Go.Proofs.YtemnbkenihldgaaDoor
