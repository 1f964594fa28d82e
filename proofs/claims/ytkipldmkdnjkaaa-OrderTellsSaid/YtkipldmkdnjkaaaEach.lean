/- The contract of the iterator behind All: it hands over the places that are on, rising, to every loop body that keeps what lay before. -/
import Derived.RangeFuncBox
import Derived.RangeFuncNested
import Derived.RangeFuncBound
import Derived.RangeFuncCalls
import Derived.RangeFuncLeaves
import Derived.Shelf.Abstract
import Derived.Shelf.RegionOpen
import Derived.OwnWalkIn
import Derived.TacticsInMore
import Derived.LoopNIn
import Derived.LoopIn
import Derived.Maps.AppendAt
import Derived.Test.YtkipldmkdnjkaaaTz
namespace Go.Proofs.Ytkipldmkdnjkaaa
open Go.RowKit Go.Shelf
attribute [local go_sem] Oper.semAt_some

/-- The places as ints. -/
def ints (l : List Nat) : List Int := l.map fun i : Nat => (i : Int)

theorem ints_snoc (l : List Nat) (i : Nat) : ints (l ++ [i]) = ints l ++ [(i : Int)] := by simp [ints]
theorem onL_zero (S : Nat → Bool) : ints (onL S 0) = [] := rfl

theorem lsf_zero (n : Nat) : ∀ off, Bw.lsf n off 0 = [] := by
  induction n with
  | zero => intro off; rfl
  | succ n ih => intro off; rw [Bw.lsf, if_neg (by omega)]; exact ih _

end Go.Proofs.Ytkipldmkdnjkaaa
