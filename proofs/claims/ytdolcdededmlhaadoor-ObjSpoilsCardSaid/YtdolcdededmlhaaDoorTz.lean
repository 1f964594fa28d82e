/- The contract of math/bits.TrailingZeros64 where the table that it reads holds what the program's text lays there. -/
import Derived.Test.YtdolcdededmlhaaDoorJoin
namespace Go.Proofs.YtdolcdededmlhaaDoor
open Go.RowKit

/-- The table is in memory. -/
def Tab (w : World) : Prop := 0 < w.heap.size ∧ ∀ j, j < 64 → w.cell? ⟨0, j, none⟩ = some (.int .u8 (Bw.tab[j]?.getD 0 : Nat))

theorem Tab.grown {w w' : World} {row : Option Nat} (h : Tab w) (hg : w.grownBy w' row) (hr : some 0 ≠ row) : Tab w' :=
  ⟨Nat.lt_of_lt_of_le h.1 hg.size, fun j hj => (World.cell?_of_block (a := ⟨0, j, none⟩) (hg.block _ h.1 hr)).trans (h.2 j hj)⟩

theorem tz_index (x k m : Nat) (h : x < 18446744073709551616) (hx : x = 2 ^ k * (2 * m + 1)) :
    IntKind.u64.wrap (bits .and .u64 (x : Int) (IntKind.u64.wrap (-(x : Int))) * 285870213051353865) / 288230376151711744 = ((2 ^ k * 285870213051353865 % 18446744073709551616 / 288230376151711744 : Nat) : Int) := by
  have hpos : 0 < x := by rw [hx]; exact Nat.mul_pos (Nat.two_pow_pos k) (by omega)
  have e1 : IntKind.u64.wrap (-(x : Int)) = ((18446744073709551616 - x : Nat) : Int) := by rw [IntKind.wrap_u64]; omega
  have e2 := Bw.low_bit hx (by simpa using h)
  rw [show (2 : Nat) ^ 64 = 18446744073709551616 from by decide] at e2
  rw [e1, u64_and_nat _ _ h (by omega), e2, IntKind.wrap_u64]
  clear e1 e2
  generalize 2 ^ k = q
  omega

set_option maxHeartbeats 400000 in
theorem tz_w (x j k : Nat) (w : World) (h0 : ((x : Int) == 0) = false)
    (hI : IntKind.u64.wrap (bits .and .u64 (x : Int) (IntKind.u64.wrap (-(x : Int))) * 285870213051353865) / 288230376151711744 = (j : Int)) (hj : j < 64) (hk : k < 64)
    (hc : w.cell? ⟨0, j, none⟩ = some (.int .u8 (k : Nat))) : Calls Tryd.prog 67 #[.int .u64 x] w fun e w' => e = .returned (.int .i64 k) ∧ w' = w := by
  go_enter Tryd.func67, Tryd.ntmps67
  go_wp2
  go_ret
  exact ⟨rfl, rfl⟩

theorem tab_at (k j : Nat) (hk : k < 64) (hj : j = 2 ^ k * 285870213051353865 % 18446744073709551616 / 288230376151711744) : Bw.tab[j]?.getD 0 = k ∧ j < 64 := by
  subst hj
  exact Bw.tab_low ⟨k, hk⟩

theorem tz_c (x k m : Nat) (w : World) (h : x < 18446744073709551616) (hx : x = 2 ^ k * (2 * m + 1)) (ht : Tab w) : Calls Tryd.prog 67 #[.int .u64 x] w fun e w' => e = .returned (.int .i64 k) ∧ w' = w := by
  have hk : k < 64 := Bw.lt_of_part (m := m) (by rw [← hx]; simpa using h)
  have hpos : 0 < x := by rw [hx]; exact Nat.mul_pos (Nat.two_pow_pos k) (by omega)
  have hI := tz_index x k m h hx
  generalize hJ : (2 ^ k * 285870213051353865 % 18446744073709551616 / 288230376151711744) = j at hI
  obtain ⟨t1, t2⟩ := tab_at k j hk hJ.symm
  have hc := ht.2 _ t2
  rw [t1] at hc
  exact tz_w x j k w (by simp; omega) hI t2 hk hc

end Go.Proofs.YtdolcdededmlhaaDoor
