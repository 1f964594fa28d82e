/- The contract of math/bits.TrailingZeros64 where the table that it reads holds what the program's text lays there. -/
import Derived.Test.YtkipldmkdnjkaaaJoin
namespace Go.Proofs.Ytkipldmkdnjkaaa
open Go.RowKit

theorem tz_index (x k m : Nat) (h : x < 18446744073709551616) (hx : x = 2 ^ k * (2 * m + 1)) :
    IntKind.u64.wrap (bits .and .u64 (x : Int) (IntKind.u64.wrap (-(x : Int))) * 285870213051353865) / 288230376151711744 = ((2 ^ k * 285870213051353865 % 18446744073709551616 / 288230376151711744 : Nat) : Int) := by
  have hpos : 0 < x := by rw [hx]; exact Nat.mul_pos (Nat.two_pow_pos k) (by omega)
  have e1 : IntKind.u64.wrap (-(x : Int)) = ((18446744073709551616 - x : Nat) : Int) := by rw [IntKind.wrap_u64]; omega
  have e2 := Bw.low_bit hx (by simpa using h)
  rw [show (2 : Nat) ^ 64 = 18446744073709551616 from by decide] at e2
  rw [e1, u64_and_nat _ _ h (by omega), e2, IntKind.wrap_u64]
  clear e1 e2
  generalize 2 ^ k = q
  omega

theorem tab_at (k j : Nat) (hk : k < 64) (hj : j = 2 ^ k * 285870213051353865 % 18446744073709551616 / 288230376151711744) : Bw.tab[j]?.getD 0 = k ∧ j < 64 := by
  subst hj
  exact Bw.tab_low ⟨k, hk⟩

end Go.Proofs.Ytkipldmkdnjkaaa
