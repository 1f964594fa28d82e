/- Patches in another order; a row of patches that the call owns. -/
import Derived.Test.YtnknejokneddbaaGreatDoorStaJ
import Derived.Test.YtnknejokneddbaaGreatDoorStaE
import Derived.Test.YtnknejokneddbaaGreatDoorLaw13
import Derived.Test.YtnknejokneddbaaGreatDoorArgS
import Derived.Test.YtnknejokneddbaaGreatDoorArgs
namespace Go.Proofs.YtnknejokneddbaaGreatDoor
open Go.RowKit
section
variable {w : World} {lo hi n : Nat} {p : Option Addr}
end
theorem pairsL_few (n : Nat) (R : Nat -> Nat -> Bool) (k : Nat) : (pairsL n R k).length <= k * n := by
 induction k with
 | zero => simp [pairsL]
 | succ k ih =>
  rw [pairsL_succ, Zq, Yn, Nat.succ_mul]
  have : (onL (R k) n).length <= n := by
   unfold onL
   exact Zn (List.length_filter_le _ _) (by simp)
  omega
theorem filesL_few {l : List Pt} : (filesL l).length <= 6 /\ ∀ f ∈ filesL l, (fLines f).length <= 1000000 /\ (fPairs f).length <= 1000000 := by
 by_cases e : errL l = 0
 ·obtain ⟨_, _, _, h6, h40⟩ := errL_zero e
  rw [filesL_ok e]
  refine ⟨by rw [Yn]; exact h6, fun f hf => ?_⟩
  have hc := mem_cnt hf
  rw [cntS_map] at hc
  obtain ⟨s, _, rfl⟩ := Yi.1 hf
  refine ⟨by omega, ?_⟩
  have hl : (fLines (fileL l s)).length = (linesOfL l s).length := fileOf_len _ _ _
  have hp : (fPairs (fileL l s)).length <= (linesOfL l s).length * (linesOfL l s).length := pairsL_few _ _ _
  have hm : (linesOfL l s).length * (linesOfL l s).length <= 40 * 40 := Nat.mul_le_mul (by omega) (by omega)
  omega
 ·rw [filesL_err e]
  exact ⟨Ze _, fun f hf => by cases hf⟩
end Go.Proofs.YtnknejokneddbaaGreatDoor
