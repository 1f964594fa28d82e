/- Package cone: out, Cocone; the reference's Cocone. -/
import Derived.Test.YtemnbkenihldgaaDoorConP
namespace Go.Proofs.YtemnbkenihldgaaDoor
open Go.RowKit

/-- The row of out, its first k places led. -/
def outK (U : List Int) (k : Nat) : List Int := U.take k ++ List.replicate (U.length - k) 0
theorem outK_len {U : List Int} {k : Nat} (h : k ≤ U.length) : (outK U k).length = U.length := by simp [outK]; omega
theorem outK_zero (U : List Int) : outK U 0 = List.replicate U.length 0 := by simp [outK]
theorem outK_end (U : List Int) : outK U U.length = U := by simp [outK]
theorem outK_succ {U : List Int} {k : Nat} (h : k < U.length) : (outK U k).set k (U[k]?.getD 0) = outK U (k + 1) := by
  unfold outK
  rw [List.set_append_right _ _ (by rw [List.length_take]; omega), List.length_take, Nat.min_eq_left (by omega), Nat.sub_self, List.take_add_one, List.getElem?_eq_getElem h, show U.length - k = (U.length - (k + 1)) + 1 by omega, List.replicate_succ, List.set_cons_zero, Option.toList_some, List.append_assoc]
  rfl

end Go.Proofs.YtemnbkenihldgaaDoor
