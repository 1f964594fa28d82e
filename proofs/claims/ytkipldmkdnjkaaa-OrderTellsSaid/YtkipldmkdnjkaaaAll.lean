/- The contract of All of package bits: a new slice of the places that are on, rising; nothing that lay has turned. -/
import Derived.Test.YtkipldmkdnjkaaaEach
namespace Go.Proofs.Ytkipldmkdnjkaaa
open Go.RowKit Go.Shelf
attribute [local go_sem] Oper.semAt_some

theorem Try.info3 : (Try.prog.info? 3).map (fun i => (i.zero, i.size, i.bytes)) = some (some (.int .i64 0), 1, 8) := by kernel_rfl

/-- What All leaves. -/
def AllPost (xs : List Int) (w : World) (e : Ending) (w' : World) : Prop :=
  ∃ v, e = .returned v ∧ w'.ownsRow w.heap.size 3 1 v xs.length (xs.map (Value.int .i64)) ∧ v ≠ .slice none 0 0 ∧ w.grownBy w' none

end Go.Proofs.Ytkipldmkdnjkaaa
