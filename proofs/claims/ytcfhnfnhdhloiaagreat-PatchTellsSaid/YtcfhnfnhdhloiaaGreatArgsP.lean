/- Arguments that are slices of pairs, of bools, of ints: how they lie in memory when the call begins. -/
import Derived.Deep.Slices
import Derived.Deep.Fields
import Derived.ChangeSame
import Derived.Test.YtcfhnfnhdhloiaaGreatLawP
import Derived.Test.YtcfhnfnhdhloiaaGreatRelb
namespace Go.Proofs.YtcfhnfnhdhloiaaGreat
open Go.ChangeShapes Go.WideShapes Go.ChangeAt Go.WideMaps Go.WideElems Go.RowKit Go.Deep

theorem laidOut : laidOutB Tryz.prog = true := by kernel_rfl
theorem cInt : Tryz.prog.cellsOf 3 = 1 := by kernel_rfl
theorem add_zero' (a : Addr) : a.add 0 = a := by unfold Addr.add; simp
theorem cell_plain {w : World} {a : Addr} {v : Value} (h : w.cell? a = some v) : ∃ b off, a = ⟨b, off, none⟩ := by
  have := World.cell?_spot h
  obtain ⟨b, off, sp⟩ := a
  simp only at this
  exact ⟨b, off, by rw [this]⟩

end Go.Proofs.YtcfhnfnhdhloiaaGreat
