/- Arguments that are slices of bytes: how they lie in memory when the call begins (seats with tables or without: for the latter XArgsU imports ArgsP). -/
import Derived.ChangeSlices
import Derived.Deep.Slices
import Derived.Deep.Fields
import Derived.ChangeSame
import Derived.Test.YtbobbpghdfhkgaaArgsP
namespace Go.Proofs.Ytbobbpghdfhkgaa
open Go.ChangeShapes Go.WideShapes Go.ChangeAt Go.WideMaps Go.WideElems Go.RowKit Go.Deep

theorem cByte : Try.prog.cellsOf 5 = 1 := by kernel_rfl

/-- A slice of bytes. -/
structure UsAt (w : World) (lo hi : Nat) (p : Option Addr) (n : Nat) (l : List Nat) : Prop where
  len : l.length = n
  byte : ∀ x ∈ l, x < 256
  cell : 0 < n → ∃ b off, p = some ⟨b, off, none⟩ ∧ lo ≤ b ∧ b < hi ∧ hi ≤ w.heap.size ∧ ∀ k, k < n → w.cell? ⟨b, off + k, none⟩ = some (.int .u8 ((l[k]?.getD 0 : Nat) : Int))
theorem UsAt.calm {w w' : World} {lo hi : Nat} {p : Option Addr} {n : Nat} {l : List Nat} (h : UsAt w lo hi p n l) (hg : w.grownBy w' none) : UsAt w' lo hi p n l := by
  refine ⟨h.len, h.byte, fun hn => ?_⟩
  obtain ⟨b, off, hp, h1, h2, h3, hc⟩ := h.cell hn
  have hb : w'.heap[b]? = w.heap[b]? := hg.block b (by omega) (by simp)
  exact ⟨b, off, hp, h1, h2, Nat.le_trans h3 hg.size, fun k hk => (World.cell?_of_block (a := ⟨b, off + k, none⟩) hb).trans (hc k hk)⟩
theorem UsAt.lt {w : World} {lo hi : Nat} {p : Option Addr} {n k : Nat} {l : List Nat} (h : UsAt w lo hi p n l) (hk : k < n) : l[k]?.getD 0 < 256 := by
  have hl := h.len
  rw [List.getElem?_eq_getElem (by omega)]
  exact h.byte _ (List.getElem_mem ..)

set_option maxRecDepth 20000 in
/-- A slice of bytes that came in. -/
theorem usAt_of {H : Type} {enc : TypeId × Value → H} {W : World} {base : Nat} {v : Value} {d : DataW H} {ps : List MemPlace} (hok : Value.okWide Try.prog W .any base 22 v)
    (h : DataW.Trod enc Try.prog W 0 (fun _ => true) true 22 v d ps) : ∃ p L c l, v = .slice p L c ∧ UsAt W 0 W.heap.size p L l := by
  obtain ⟨a0, len0, cap0, rfl⟩ := okWide_slice Try.underlying22 hok
  obtain ⟨fuel, hf⟩ := h
  rcases open_ints Try.underlying22 Try.underlying5 cByte hf with ⟨hcs, _⟩ | ⟨a, len, cap, zs, hcs, _, hl, hm, hsl, _, hcell, hwf⟩
  · simp [Value.cells] at hcs
    obtain ⟨rfl, rfl, rfl⟩ := hcs
    exact ⟨none, 0, 0, [], rfl, ⟨rfl, (fun x hx => by cases hx), fun h => absurd h (by omega)⟩⟩
  · simp [Value.cells] at hcs
    obtain ⟨rfl, rfl, rfl⟩ := hcs
    simp only [if_true] at hsl
    refine ⟨some a, len0, cap0, (zs.take len0).map Int.toNat, rfl, ⟨by rw [List.length_map, List.length_take]; omega, fun x hx => ?_, fun hn => ?_⟩⟩
    · obtain ⟨z, hz, rfl⟩ := List.mem_map.1 hx
      obtain ⟨y, rfl, hy⟩ := byte_of (hwf z (List.mem_of_mem_take hz))
      rw [Int.toNat_natCast]
      exact hy
    have hc0 := hcell 0 (by omega)
    rw [add_zero'] at hc0
    obtain ⟨b, off, rfl⟩ := cell_plain hc0
    refine ⟨b, off, rfl, Nat.zero_le _, cell_lt hc0, Nat.le_refl _, fun i hil => ?_⟩
    have hi := hcell i (by omega)
    rw [add_plain] at hi
    have hiz : i < zs.length := by omega
    obtain ⟨y, hy, _⟩ := byte_of (hwf zs[i] (List.getElem_mem hiz))
    rw [hi, List.getD_eq_getElem?_getD, List.getElem?_map, List.getElem?_take_of_lt hil, List.getElem?_eq_getElem hiz]
    simp only [Option.map_some, Option.getD_some]
    rw [hy, Int.toNat_natCast]

end Go.Proofs.Ytbobbpghdfhkgaa
