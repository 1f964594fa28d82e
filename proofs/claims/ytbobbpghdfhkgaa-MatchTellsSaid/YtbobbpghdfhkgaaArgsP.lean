/- Arguments that are slices of pairs, of bools, of ints: how they lie in memory when the call begins. -/
import Derived.Deep.Slices
import Derived.Deep.Fields
import Derived.ChangeSame
import Derived.Test.YtbobbpghdfhkgaaLawP
import Derived.Test.YtbobbpghdfhkgaaRelb
namespace Go.Proofs.Ytbobbpghdfhkgaa
open Go.ChangeShapes Go.WideShapes Go.ChangeAt Go.WideMaps Go.WideElems Go.RowKit Go.Deep

theorem laidOut : laidOutB Try.prog = true := by kernel_rfl
theorem cInt : Try.prog.cellsOf 3 = 1 := by kernel_rfl
theorem cPair : Try.prog.cellsOf 33 = 2 := by kernel_rfl

theorem add_zero' (a : Addr) : a.add 0 = a := by unfold Addr.add; simp
theorem cell_plain {w : World} {a : Addr} {v : Value} (h : w.cell? a = some v) : ∃ b off, a = ⟨b, off, none⟩ := by
  have := World.cell?_spot h
  obtain ⟨b, off, sp⟩ := a
  simp only at this
  exact ⟨b, off, by rw [this]⟩

set_option maxRecDepth 20000 in
/-- A slice of pairs that came in. -/
theorem pairsAt_of {H : Type} {enc : TypeId × Value → H} {W : World} {base : Nat} {v : Value} {d : DataW H} {ps : List MemPlace} (hok : Value.okWide Try.prog W .any base 23 v)
    (h : DataW.Trod enc Try.prog W 0 (fun _ => true) true 23 v d ps) : ∃ p L c l, v = .slice p L c ∧ PairsAt W 0 W.heap.size p L l := by
  obtain ⟨a0, len, cap, rfl⟩ := okWide_slice Try.underlying23 hok
  obtain ⟨fuel, hf⟩ := h
  rcases open_slice Try.underlying23 hf with ⟨hcs, _⟩ | ⟨a, len', cap', m, n, D, Pl, hcs, _, hl, hm, hmm, _, hi⟩
  · simp [Value.cells] at hcs
    obtain ⟨rfl, rfl, rfl⟩ := hcs
    exact ⟨none, 0, 0, [], rfl, rfl, fun h => absurd h (by omega)⟩
  · simp [Value.cells] at hcs
    obtain ⟨rfl, rfl, rfl⟩ := hcs
    simp only [if_true] at hmm
    have key : ∀ i, i < len → ∃ x : Int × Int, W.cell? (a.add (i * 2)) = some (.int .i64 x.1) ∧ W.cell? ((a.add (i * 2)).add 1) = some (.int .i64 x.2) := by
      intro i hil
      obtain ⟨cs', hc, ht⟩ := hi i (by omega)
      rw [cPair] at hc
      obtain ⟨_, hcl, hat⟩ := World.cells?_some hc
      obtain ⟨ys, n', _, _, hlen, hyl, hfd⟩ := DataW.trod_struct Try.underlying33 ht
      rw [cPair] at hlen
      match cs', hlen with
      | [v0, v1], _ =>
        have hys : ys.length = 2 := hyl
        match ys, hys with
        | [y0, y1], _ =>
          have f0 : DataW.trod enc Try.prog W 0 (fun _ => true) true n' 3 (List.take (Try.prog.cellsOf 3) (List.drop 0 [v0, v1])) = some y0 := hfd 0 _ rfl
          have f1 : DataW.trod enc Try.prog W 0 (fun _ => true) true n' 3 (List.take (Try.prog.cellsOf 3) (List.drop 1 [v0, v1])) = some y1 := hfd 1 _ rfl
          rw [cInt] at f0 f1
          have g0 : DataW.trod enc Try.prog W 0 (fun _ => true) true n' 3 [v0] = some y0 := f0
          have g1 : DataW.trod enc Try.prog W 0 (fun _ => true) true n' 3 [v1] = some y1 := f1
          obtain ⟨x0, e0, _⟩ := DataW.trod_int Try.underlying3 g0
          obtain ⟨x1, e1, _⟩ := DataW.trod_int Try.underlying3 g1
          simp only [List.cons.injEq, and_true] at e0 e1
          have c0 := hat 0 (by omega)
          have c1 := hat 1 (by omega)
          rw [add_zero'] at c0
          rw [e0] at c0
          rw [e1] at c1
          exact ⟨(x0, x1), c0, c1⟩
    refine ⟨some a, len, cap, (List.range len).map fun i => if hil : i < len then Classical.choose (key i hil) else (0, 0), rfl, by simp, fun hn => ?_⟩
    obtain ⟨s0, hc0, _⟩ := key 0 hn
    rw [Nat.zero_mul, add_zero'] at hc0
    obtain ⟨b, off, rfl⟩ := cell_plain hc0
    refine ⟨b, off, rfl, Nat.zero_le _, cell_lt hc0, Nat.le_refl _, fun i hil => ?_⟩
    have hs := Classical.choose_spec (key i hil)
    have e : (((List.range len).map fun i => if hil : i < len then Classical.choose (key i hil) else (0, 0))[i]?.getD (0, 0)) = Classical.choose (key i hil) := by
      rw [List.getElem?_map, List.getElem?_range hil]
      simp only [Option.map_some, Option.getD_some, dif_pos hil]
    rw [e]
    simpa only [add_plain] using hs

end Go.Proofs.Ytbobbpghdfhkgaa
