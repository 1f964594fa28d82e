/- PatchIDs: who and which one are told apart by numbers. -/
import Derived.Test.YtcfhnfnhdhloiaaKnow12
namespace Go.Proofs.Ytcfhnfnhdhloiaa
open Go.RowKit

theorem idV_nat {a b : Nat} (ha : a < 65536) (hb : b < 65536) : idV (a : Int) (b : Int) = ((a * 65536 + b : Nat) : Int) := by
  unfold idV
  omega
theorem and16u {a b : Nat} (ha : a < 65536) (hb : b < 65536) : bits .and .u32 ((a * 65536 + b : Nat) : Int) 65535 = (b : Int) := by
  have h := u32_and_nat (a * 65536 + b) 65535 (by omega) (by omega)
  have e : (a * 65536 + b) &&& 65535 = b := by
    rw [show (65535 : Nat) = 2 ^ 16 - 1 by decide, Nat.and_two_pow_sub_one_eq_mod]
    omega
  rw [e] at h
  exact h

set_option maxRecDepth 8000 in
set_option maxHeartbeats 16000000 in
theorem ids_c (a b c d : Nat) (ha : a < 65536) (hb : b < 65536) (hc : c < 65536) (hd : d < 65536) (w : World) :
    Calls Try.prog 5 #[.int .u16 (a : Int), .int .u16 (b : Int), .int .u16 (c : Int), .int .u16 (d : Int)] w fun e w' => e = .returned (.bool true) ∧ w.grownBy w' none := by
  have wa : IntKind.i64.wrap (a : Int) = a := IntWalk.i64_in _ (by omega)
  have wb : IntKind.i64.wrap (b : Int) = b := IntWalk.i64_in _ (by omega)
  have wc : IntKind.i64.wrap (c : Int) = c := IntWalk.i64_in _ (by omega)
  have wd : IntKind.i64.wrap (d : Int) = d := IntWalk.i64_in _ (by omega)
  have HX := Lib.hid (idV_nat ha hb)
  have HY := Lib.hid (idV_nat hc hd)
  have HA := Lib.hid (and16u ha hb)
  go_enter Try.func5, Try.ntmps5
  go_wp2_with fail
  refine (known12_c w).mono ?_
  rintro e w1 ⟨rfl, hg⟩
  have HG := Lib.hid hg
  clear hg
  go_wp2_with fail
  refine (patID_c _ _ w1).mono ?_
  rintro e w5 ⟨rfl, h5⟩
  subst w5
  go_wp2_with fail
  refine (patID_c _ _ w1).mono ?_
  rintro e w5 ⟨rfl, h5⟩
  subst w5
  rw [HX.out, HY.out]
  obtain ⟨X, hX⟩ : ∃ X, a * 65536 + b = X := ⟨_, rfl⟩
  obtain ⟨Y, hY⟩ : ∃ Y, c * 65536 + d = Y := ⟨_, rfl⟩
  rw [hX] at HA ⊢
  rw [hY]
  have sx : (X : Int) / 65536 = (a : Int) := by omega
  have ua : IntKind.u32.wrap (a : Int) = a := by rw [IntKind.wrap_u32']; omega
  have ub : IntKind.u32.wrap (b : Int) = b := by rw [IntKind.wrap_u32']; omega
  have sb := HA.out
  clear HA HX HY wa wb wc wd
  rcases Nat.lt_trichotomy a c with h1 | h1 | h1 <;> rcases Nat.lt_trichotomy b d with h2 | h2 | h2
  all_goals
    first
      | (have e1 : ((X : Int) == (Y : Int)) = false := by (simp; omega))
      | (have e1 : ((X : Int) == (Y : Int)) = true := by (simp; omega))
    first
      | (have e2 : ((b : Int) == (d : Int)) = false := by (simp; omega))
      | (have e2 : ((b : Int) == (d : Int)) = true := by (simp; omega))
    go_wp2
    all_goals
      go_ret
      refine ⟨?_, HG.out⟩
      first | rfl | (simp; done) | (simp; omega) | (exfalso; omega)

end Go.Proofs.Ytcfhnfnhdhloiaa
