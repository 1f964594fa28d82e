/- Package bits: rows of bits in memory, the contracts of all its functions. -/
import Derived.WalkKit
import Derived.Deep.Draws
import Derived.WalkSpells
import Derived.WalkLawsBesides
import Derived.Deep.QuietTactic
import Derived.BigQuiet
import Derived.Lib.Hide
import Derived.Test.YtnknejokneddbaaGreatDoorRows
import Derived.Deep.RegionWith
import Derived.StillTailTactics
import Derived.Deep.OwnRows
import Derived.Deep.LoopGhost
import Derived.Deep.DeepCutAuto
import Derived.Deep.RegionHeld3
import Derived.RangeFuncBox
import Derived.RangeFuncNested
import Derived.RangeFuncBound
import Derived.RangeFuncCalls
import Derived.RangeFuncLeaves
import Derived.Shelf.Abstract
import Derived.Shelf.RegionOpen
import Derived.OwnWalkIn
import Derived.TacticsInMore
import Derived.LoopNIn
import Derived.LoopIn
import Derived.Maps.AppendAt
/-! Plain facts on numbers: a word's bits as a list and as a count; the count by masks; the lowest bit. No condition but that words are below 2^64. -/
namespace Go.Proofs.YtnknejokneddbaaGreatDoor
namespace Bw

/-- The bits of the low n places of x, rising, each behind off. -/
def lsf : Nat → Nat → Nat → List Nat
 | 0, _, _ => []
 | n + 1, off, x => if x % 2 = 1 then off :: lsf n (off + 1) (x / 2) else lsf n (off + 1) (x / 2)

/-- How many of the low n places of x are on. -/
def pcn : Nat → Nat → Nat
 | 0, _ => 0
 | n + 1, x => x % 2 + pcn n (x / 2)

theorem pcn_succ (n x : Nat) : pcn (n + 1) x = x % 2 + pcn n (x / 2) := rfl

theorem lsf_length (n : Nat) : ∀ off x, (lsf n off x).length = pcn n x := by
 induction n with
 | zero => intro off x; rfl
 | succ n ih =>
  intro off x
  unfold lsf pcn
  split
  ·rename_i h; simp [ih, h]; omega
  ·rename_i h; rw [ih]; omega

theorem testBit_half (x i : Nat) : x.testBit (i + 1) = (x / 2).testBit i := by
 rw [Nat.testBit_succ]

theorem lsf_filter (n : Nat) : ∀ off x, lsf n off x = ((List.range n).filter (fun i => x.testBit i)).map (fun i => off + i) := by
 induction n with
 | zero => intro off x; rfl
 | succ n ih =>
  intro off x
  unfold lsf
  rw [List.range_succ_eq_map, List.filter_cons, List.filter_map]
  have e : (fun i => x.testBit i) ∘ Nat.succ = fun i => (x / 2).testBit i := by
   funext i; exact testBit_half x i
  rw [e, ih]
  have hz : x.testBit 0 = decide (x % 2 = 1) := Nat.testBit_zero x
  by_cases h : x % 2 = 1
  ·rw [if_pos h, if_pos (by rw [hz]; simpa using h)]
   simp only [List.map_cons, List.map_map, Nat.add_zero]
   congr 1
   apply List.map_congr_left
   intro i _
   simp only [Function.comp]
   omega
  ·rw [if_neg h, if_neg (by rw [hz]; simpa using h)]
   simp only [List.map_map]
   apply List.map_congr_left
   intro i _
   simp only [Function.comp]
   omega

theorem pcn_le (n : Nat) : ∀ x, pcn n x ≤ n := by
 induction n with
 | zero => intro x; exact Nat.le_refl _
 | succ n ih => intro x; unfold pcn; have := ih (x / 2); omega

theorem pcn_add (a : Nat) : ∀ b x, pcn (a + b) x = pcn a x + pcn b (x / 2 ^ a) := by
 induction a with
 | zero => intro b x; simp [pcn]
 | succ a ih =>
  intro b x
  rw [show a + 1 + b = (a + b) + 1 from by omega, pcn_succ, pcn_succ, ih, Nat.div_div_eq_div_mul, Nat.pow_succ, Nat.mul_comm 2 (2 ^ a), Nat.add_assoc]

theorem pcn_mod (a : Nat) : ∀ x, pcn a (x % 2 ^ a) = pcn a x := by
 induction a with
 | zero => intro x; rfl
 | succ a ih =>
  intro x
  unfold pcn
  have e1 : x % 2 ^ (a + 1) % 2 = x % 2 := by
   rw [Nat.pow_succ, Nat.mul_comm]
   exact Nat.mod_mul_right_mod x 2 (2 ^ a)
  have e2 : x % 2 ^ (a + 1) / 2 = x / 2 % 2 ^ a := by
   rw [Nat.pow_succ, Nat.mul_comm]
   exact Nat.mod_mul_right_div_self x 2 (2 ^ a)
  rw [e1, e2, ih]

/-! ### Lanes -/

theorem and_lane (k lo hi mlo mhi : Nat) (h1 : lo < 2 ^ k) (h2 : mlo < 2 ^ k) :
  (2 ^ k * hi + lo) &&& (2 ^ k * mhi + mlo) = 2 ^ k * (hi &&& mhi) + (lo &&& mlo) := by
 apply Nat.eq_of_testBit_eq
 intro i
 have h3 : lo &&& mlo < 2 ^ k := Nat.and_lt_two_pow _ h2
 rw [Nat.testBit_and, Nat.testBit_two_pow_mul_add _ h1, Nat.testBit_two_pow_mul_add _ h2, Nat.testBit_two_pow_mul_add _ h3]
 split
 ·rw [Nat.testBit_and]
 ·rw [Nat.testBit_and]

/-- and by a mask, a byte at a time. -/
theorem and_byte (x m mlo mhi : Nat) (hm : m = 256 * mhi + mlo) (h : mlo < 256) : x &&& m = 256 * (x / 256 &&& mhi) + (x % 256 &&& mlo) := by
 have := and_lane 8 (x % 256) (x / 256) mlo mhi (by omega) (by omega)
 rw [show 2 ^ 8 * (x / 256) + x % 256 = x from by omega] at this
 rw [hm]
 exact this

def f1 (y : Nat) : Nat := (y / 2 &&& 85) + (y &&& 85)
def f2 (y : Nat) : Nat := (y / 4 &&& 51) + (y &&& 51)
def f3 (y : Nat) : Nat := (y / 16 + y) &&& 15

theorem m85 : ∀ l : Fin 128, (l.val + 128) &&& 85 = l.val &&& 85 := by decide +kernel
theorem m51 : ∀ c : Fin 4, ∀ l : Fin 64, (l.val + 64 * c.val) &&& 51 = l.val &&& 51 := by decide +kernel
theorem f1_lt : ∀ l : Fin 256, f1 l.val ≤ 170 := by decide +kernel
theorem f21 : ∀ l : Fin 256, f2 (f1 l.val) ≤ 68 ∧ f2 (f1 l.val) % 16 ≤ 4 := by decide +kernel
theorem f321 : ∀ l : Fin 256, f3 (f2 (f1 l.val)) = pcn 8 l.val := by decide +kernel

/-- The masks of n bytes. -/
def rep (b : Nat) : Nat → Nat
 | 0 => 0
 | n + 1 => 256 * rep b n + b

/-- A function, byte by byte. -/
def lanes (f : Nat → Nat) : Nat → Nat → Nat
 | 0, _ => 0
 | n + 1, x => 256 * lanes f n (x / 256) + f (x % 256)

theorem step1 (n : Nat) : ∀ x, (x / 2 &&& rep 85 n) + (x &&& rep 85 n) = lanes f1 n x := by
 induction n with
 | zero => intro x; simp [rep, lanes]
 | succ n ih =>
  intro x
  have hr : rep 85 (n + 1) = 256 * rep 85 n + 85 := rfl
  rw [and_byte (x / 2) (rep 85 (n + 1)) 85 (rep 85 n) hr (by omega), and_byte x (rep 85 (n + 1)) 85 (rep 85 n) hr (by omega)]
  unfold lanes
  rw [← ih (x / 256)]
  have e1 : x / 2 / 256 = x / 256 / 2 := by omega
  have e2 : x / 2 % 256 &&& 85 = x % 256 / 2 &&& 85 := by
   by_cases h : x / 256 % 2 = 1
   ·have := m85 ⟨x % 256 / 2, by omega⟩
    simp only at this
    rw [← this]
    congr 1
    omega
   ·congr 1
    omega
  rw [e1, e2]
  unfold f1
  omega

theorem step2 (n : Nat) : ∀ x, (x / 4 &&& rep 51 n) + (x &&& rep 51 n) = lanes f2 n x := by
 induction n with
 | zero => intro x; simp [rep, lanes]
 | succ n ih =>
  intro x
  have hr : rep 51 (n + 1) = 256 * rep 51 n + 51 := rfl
  rw [and_byte (x / 4) (rep 51 (n + 1)) 51 (rep 51 n) hr (by omega), and_byte x (rep 51 (n + 1)) 51 (rep 51 n) hr (by omega)]
  unfold lanes
  rw [← ih (x / 256)]
  have e1 : x / 4 / 256 = x / 256 / 4 := by omega
  have e2 : x / 4 % 256 &&& 51 = x % 256 / 4 &&& 51 := by
   have := m51 ⟨x / 256 % 4, by omega⟩ ⟨x % 256 / 4, by omega⟩
   simp only at this
   rw [← this]
   congr 1
   omega
  rw [e1, e2]
  unfold f2
  omega

theorem lanes_succ (f : Nat → Nat) (n x : Nat) : lanes f (n + 1) x = 256 * lanes f n (x / 256) + f (x % 256) := rfl
theorem lanes_mod {f : Nat → Nat} {n x : Nat} (h : f (x % 256) < 256) : lanes f (n + 1) x % 256 = f (x % 256) := by rw [lanes_succ]; omega
theorem lanes_div {f : Nat → Nat} {n x : Nat} (h : f (x % 256) < 256) : lanes f (n + 1) x / 256 = lanes f n (x / 256) := by rw [lanes_succ]; omega

theorem lanes21 (n : Nat) : ∀ x, lanes f2 n (lanes f1 n x) = lanes (fun y => f2 (f1 y)) n x := by
 induction n with
 | zero => intro x; rfl
 | succ n ih =>
  intro x
  have h1 : f1 (x % 256) < 256 := by have := f1_lt ⟨x % 256, by omega⟩; simp only at this; omega
  have e : lanes f2 (n + 1) (lanes f1 (n + 1) x) = 256 * lanes f2 n (lanes f1 (n + 1) x / 256) + f2 (lanes f1 (n + 1) x % 256) := rfl
  rw [e, lanes_mod h1, lanes_div h1, ih]
  rfl

/-- What every byte of z is: both halves small. -/
def Small : Nat → Nat → Prop
 | 0, z => z = 0
 | n + 1, z => z % 256 ≤ 68 ∧ z % 16 ≤ 4 ∧ Small n (z / 256)

theorem small_low {n z : Nat} (h : Small n z) : z % 16 ≤ 4 := by
 cases n with
 | zero => unfold Small at h; omega
 | succ n => unfold Small at h; exact h.2.1

theorem small21 (n : Nat) : ∀ x, Small n (lanes (fun y => f2 (f1 y)) n x) := by
 induction n with
 | zero => intro x; rfl
 | succ n ih =>
  intro x
  have h := f21 ⟨x % 256, by omega⟩
  simp only at h
  unfold Small
  have hm : lanes (fun y => f2 (f1 y)) (n + 1) x % 256 = f2 (f1 (x % 256)) := lanes_mod (by omega)
  have hd : lanes (fun y => f2 (f1 y)) (n + 1) x / 256 = lanes (fun y => f2 (f1 y)) n (x / 256) := lanes_div (by omega)
  refine ⟨by omega, by omega, ?_⟩
  rw [hd]
  exact ih _

theorem and15 (x : Nat) : x &&& 15 = x % 16 := Nat.and_two_pow_sub_one_eq_mod x 4

theorem step3 (n : Nat) : ∀ z, Small n z → (z / 16 + z) &&& rep 15 n = lanes f3 n z := by
 induction n with
 | zero => intro z _; simp [rep, lanes]
 | succ n ih =>
  intro z hz
  have hr : rep 15 (n + 1) = 256 * rep 15 n + 15 := rfl
  unfold Small at hz
  obtain ⟨h1, h2, h3⟩ := hz
  have h4 := small_low h3
  rw [and_byte (z / 16 + z) (rep 15 (n + 1)) 15 (rep 15 n) hr (by omega)]
  have e1 : (z / 16 + z) / 256 = z / 256 / 16 + z / 256 := by omega
  unfold lanes
  rw [e1, ih _ h3]
  have e2 : (z / 16 + z) % 256 &&& 15 = f3 (z % 256) := by
   unfold f3
   rw [and15, and15]
   omega
  rw [e2]

theorem lanes3 (n : Nat) : ∀ x, lanes f3 n (lanes (fun y => f2 (f1 y)) n x) = lanes (pcn 8) n x := by
 induction n with
 | zero => intro x; rfl
 | succ n ih =>
  intro x
  have h := f21 ⟨x % 256, by omega⟩
  have g := f321 ⟨x % 256, by omega⟩
  simp only at h g
  have e : lanes f3 (n + 1) (lanes (fun y => f2 (f1 y)) (n + 1) x) = 256 * lanes f3 n (lanes (fun y => f2 (f1 y)) (n + 1) x / 256) + f3 (lanes (fun y => f2 (f1 y)) (n + 1) x % 256) := rfl
  rw [e, lanes_mod (f := fun y => f2 (f1 y)) (by omega), lanes_div (f := fun y => f2 (f1 y)) (by omega), ih]
  show _ + f3 (f2 (f1 (x % 256))) = _
  rw [g]
  rfl

/-- The count by masks, ahead of the sums of the bytes. -/
def swar3 (x : Nat) : Nat :=
 let a := (x / 2 &&& 6148914691236517205) + (x &&& 6148914691236517205)
 let b := (a / 4 &&& 3689348814741910323) + (a &&& 3689348814741910323)
 (b / 16 + b) &&& 1085102592571150095

theorem swar3_eq (x : Nat) : swar3 x = lanes (pcn 8) 8 x := by
 have r1 : rep 85 8 = 6148914691236517205 := by decide +kernel
 have r2 : rep 51 8 = 3689348814741910323 := by decide +kernel
 have r3 : rep 15 8 = 1085102592571150095 := by decide +kernel
 unfold swar3
 simp only
 rw [← r1, ← r2, ← r3, step1, step2, lanes21, step3 8 _ (small21 8 x), lanes3]

theorem div_up (k A r : Nat) (h : r < k) : (k * A + r) / k = A := by
 rw [Nat.mul_add_div (by omega), Nat.div_eq_of_lt h, Nat.add_zero]

theorem fold_bound (x : Nat) (h : x ≤ 1152921504606846976) : x + x / 256 < 18446744073709551616 ∧ (x + x / 256) + (x + x / 256) / 65536 < 18446744073709551616 ∧ ((x + x / 256) + (x + x / 256) / 65536) + ((x + x / 256) + (x + x / 256) / 65536) / 4294967296 < 18446744073709551616 := by
 generalize hy : x + x / 256 = y
 have h1 : y ≤ 2305843009213693952 := by omega
 clear hy
 generalize hz : y + y / 65536 = z
 have h2 : z ≤ 4611686018427387904 := by omega
 omega

theorem fold_sums (p0 p1 p2 p3 p4 p5 p6 p7 : Nat) (h0 : p0 ≤ 8) (h1 : p1 ≤ 8) (h2 : p2 ≤ 8) (h3 : p3 ≤ 8) (h4 : p4 ≤ 8) (h5 : p5 ≤ 8) (h6 : p6 ≤ 8) (h7 : p7 ≤ 8) (x : Nat)
  (hx : x = 256 * (256 * (256 * (256 * (256 * (256 * (256 * p7 + p6) + p5) + p4) + p3) + p2) + p1) + p0) :
  (((x + x / 256) + (x + x / 256) / 65536) + ((x + x / 256) + (x + x / 256) / 65536) / 4294967296) % 128 = p0 + p1 + p2 + p3 + p4 + p5 + p6 + p7 ∧ x ≤ 1152921504606846976 := by
 refine ⟨?_, by omega⟩
 have e1 : x / 256 = 256 * (256 * (256 * (256 * (256 * (256 * p7 + p6) + p5) + p4) + p3) + p2) + p1 := by
  rw [hx]; exact div_up 256 _ _ (by omega)
 have hy2 : x + x / 256 = 65536 * (256 * (256 * (256 * (256 * (256 * p7 + (p6 + p7)) + (p5 + p6)) + (p4 + p5)) + (p3 + p4)) + (p2 + p3)) + (256 * (p1 + p2) + (p0 + p1)) := by
  rw [e1, hx]; clear e1 hx; omega
 generalize x + x / 256 = y at hy2 ⊢
 clear e1 hx
 have e2 : y / 65536 = 256 * (256 * (256 * (256 * (256 * p7 + (p6 + p7)) + (p5 + p6)) + (p4 + p5)) + (p3 + p4)) + (p2 + p3) := by
  rw [hy2]; exact div_up 65536 _ _ (by omega)
 have hz2 : y + y / 65536 = 4294967296 * (256 * (256 * (256 * p7 + (p6 + p7)) + (p5 + p6 + p7)) + (p4 + p5 + p6 + p7)) + (256 * (256 * (256 * (p3 + p4 + p5 + p6) + (p2 + p3 + p4 + p5)) + (p1 + p2 + p3 + p4)) + (p0 + p1 + p2 + p3)) := by
  rw [e2, hy2]; clear e2 hy2; omega
 generalize y + y / 65536 = z at hz2 ⊢
 clear e2 hy2
 have e3 : z / 4294967296 = 256 * (256 * (256 * p7 + (p6 + p7)) + (p5 + p6 + p7)) + (p4 + p5 + p6 + p7) := by
  rw [hz2]; exact div_up 4294967296 _ _ (by omega)
 have hu2 : z + z / 4294967296 = 128 * (2 * (16777216 * (256 * (256 * (256 * p7 + (p6 + p7)) + (p5 + p6 + p7)) + (p4 + p5 + p6 + p7)) + (256 * (256 * (p3 + p4 + p5 + p6) + (p2 + p3 + p4 + p5)) + (p1 + p2 + p3 + p4)) + (256 * (256 * p7 + (p6 + p7)) + (p5 + p6 + p7)))) + (p0 + p1 + p2 + p3 + p4 + p5 + p6 + p7) := by
  rw [e3, hz2]; clear e3 hz2; omega
 rw [hu2, Nat.mul_add_mod, Nat.mod_eq_of_lt (by omega)]

/-- The whole count by masks. -/
def swar (x : Nat) : Nat :=
 (((swar3 x + swar3 x / 256) + (swar3 x + swar3 x / 256) / 65536) + ((swar3 x + swar3 x / 256) + (swar3 x + swar3 x / 256) / 65536) / 4294967296) % 128

theorem pcn64 (x : Nat) : pcn 64 x = pcn 8 (x % 256) + pcn 8 (x / 256 % 256) + pcn 8 (x / 256 / 256 % 256) + pcn 8 (x / 256 / 256 / 256 % 256) + pcn 8 (x / 256 / 256 / 256 / 256 % 256) + pcn 8 (x / 256 / 256 / 256 / 256 / 256 % 256) + pcn 8 (x / 256 / 256 / 256 / 256 / 256 / 256 % 256) + pcn 8 (x / 256 / 256 / 256 / 256 / 256 / 256 / 256 % 256) := by
 have h : ∀ b x, pcn (8 + b) x = pcn 8 (x % 256) + pcn b (x / 256) := by
  intro b x
  have := pcn_add 8 b x
  have m := pcn_mod 8 x
  simp only [Nat.reducePow] at this m
  rw [this, m]
 have h8 : ∀ x, pcn 8 x = pcn 8 (x % 256) := by
  intro x
  have m := pcn_mod 8 x
  simp only [Nat.reducePow] at m
  exact m.symm
 rw [h 56, h 48, h 40, h 32, h 24, h 16, h 8, h8 (x / 256 / 256 / 256 / 256 / 256 / 256 / 256)]
 omega

theorem swar_eq (x : Nat) : swar x = pcn 64 x ∧ swar3 x + swar3 x / 256 < 18446744073709551616 ∧ (swar3 x + swar3 x / 256) + (swar3 x + swar3 x / 256) / 65536 < 18446744073709551616 ∧ ((swar3 x + swar3 x / 256) + (swar3 x + swar3 x / 256) / 65536) + ((swar3 x + swar3 x / 256) + (swar3 x + swar3 x / 256) / 65536) / 4294967296 < 18446744073709551616 := by
 have e : swar3 x = 256 * (256 * (256 * (256 * (256 * (256 * (256 * pcn 8 (x / 256 / 256 / 256 / 256 / 256 / 256 / 256 % 256) + pcn 8 (x / 256 / 256 / 256 / 256 / 256 / 256 % 256)) + pcn 8 (x / 256 / 256 / 256 / 256 / 256 % 256)) + pcn 8 (x / 256 / 256 / 256 / 256 % 256)) + pcn 8 (x / 256 / 256 / 256 % 256)) + pcn 8 (x / 256 / 256 % 256)) + pcn 8 (x / 256 % 256)) + pcn 8 (x % 256) := by
  rw [swar3_eq]
  simp only [lanes]
  omega
 have := fold_sums _ _ _ _ _ _ _ _ (pcn_le 8 _) (pcn_le 8 _) (pcn_le 8 _) (pcn_le 8 _) (pcn_le 8 _) (pcn_le 8 _) (pcn_le 8 _) (pcn_le 8 _) (swar3 x) e
 unfold swar
 rw [pcn64, this.1]
 refine ⟨?_, fold_bound _ this.2⟩
 omega

/-! ### The lowest bit -/

theorem odd_part (x : Nat) (h : 0 < x) : ∃ k m, x = 2 ^ k * (2 * m + 1) := by
 induction x using Nat.strongRecOn with
 | _ x ih =>
  by_cases e : x % 2 = 1
  ·exact ⟨0, x / 2, by simp; omega⟩
  ·obtain ⟨k, m, hk⟩ := ih (x / 2) (by omega) (by omega)
   refine ⟨k + 1, m, ?_⟩
   rw [Nat.pow_succ, Nat.mul_assoc, Nat.mul_left_comm, ← hk]
   omega

theorem lsf_even (n off y : Nat) : lsf (n + 1) off (2 * y) = lsf n (off + 1) y := by
 have h : ¬ (2 * y) % 2 = 1 := by omega
 have d : 2 * y / 2 = y := by omega
 rw [lsf, if_neg h, d]

theorem lsf_odd (n off m : Nat) : lsf (n + 1) off (2 * m + 1) = off :: lsf n (off + 1) m := by
 have h : (2 * m + 1) % 2 = 1 := by omega
 have d : (2 * m + 1) / 2 = m := by omega
 rw [lsf, if_pos h, d]

theorem lsf_shift (k : Nat) : ∀ n off y, lsf (k + n) off (2 ^ k * y) = lsf n (off + k) y := by
 induction k with
 | zero => intro n off y; simp
 | succ k ih =>
  intro n off y
  rw [show k + 1 + n = (k + n) + 1 from by omega, Nat.pow_succ, Nat.mul_comm (2 ^ k) 2, Nat.mul_assoc, lsf_even, ih]
  congr 1
  omega

theorem lt_of_part {k m : Nat} (h : 2 ^ k * (2 * m + 1) < 2 ^ 64) : k < 64 := by
 have h1 : 2 ^ k ≤ 2 ^ k * (2 * m + 1) := Nat.le_mul_of_pos_right _ (by omega)
 exact (Nat.pow_lt_pow_iff_right (by omega : 1 < 2)).1 (Nat.lt_of_le_of_lt h1 h)

/-- What the loop over a word does: the lowest place first, then the word without it. -/
theorem lsf_low {x k m : Nat} (hx : x = 2 ^ k * (2 * m + 1)) (hk : k < 64) (off : Nat) : lsf 64 off x = (off + k) :: lsf 64 off (2 ^ k * (2 * m)) := by
 rw [hx, show (64 : Nat) = k + ((63 - k) + 1) from by omega, lsf_shift, lsf_odd, lsf_shift, lsf_even]

theorem low_clear {x k m : Nat} (hx : x = 2 ^ k * (2 * m + 1)) : x &&& (x - 1) = 2 ^ k * (2 * m) := by
 have hp : 0 < 2 ^ k := Nat.two_pow_pos k
 have e1 : x = 2 ^ k * (2 * m + 1) + 0 := by omega
 have e2 : x - 1 = 2 ^ k * (2 * m) + (2 ^ k - 1) := by
  rw [hx, Nat.mul_add]; omega
 rw [e2]
 have a := and_lane k 0 (2 * m + 1) (2 ^ k - 1) (2 * m) hp (by omega)
 rw [← e1] at a
 rw [a]
 have b := and_lane 1 1 m 0 m (by omega) (by omega)
 simp only [Nat.pow_one, Nat.add_zero, Nat.and_self, Nat.and_zero] at b
 rw [b]
 simp

theorem low_bit {x k m : Nat} (hx : x = 2 ^ k * (2 * m + 1)) (h : x < 2 ^ 64) : x &&& (2 ^ 64 - x) = 2 ^ k := by
 have hp : 0 < 2 ^ k := Nat.two_pow_pos k
 have hk : k < 64 := lt_of_part (m := m) (by rw [← hx]; exact h)
 have hs : 2 ^ 64 = 2 ^ k * (2 * 2 ^ (63 - k)) := by
  rw [← Nat.pow_succ', ← Nat.pow_add]; congr 1; omega
 have hm : m < 2 ^ (63 - k) := by
  have : 2 ^ k * (2 * m + 1) < 2 ^ k * (2 * 2 ^ (63 - k)) := by rw [← hs, ← hx]; exact h
  have := Nat.lt_of_mul_lt_mul_left this
  omega
 have e2 : 2 ^ 64 - x = 2 ^ k * (2 * (2 ^ (63 - k) - (m + 1)) + 1) := by
  rw [hs, hx, ← Nat.mul_sub]
  congr 1
  omega
 have e1 : x = 2 ^ k * (2 * m + 1) + 0 := by omega
 have a := and_lane k 0 (2 * m + 1) 0 (2 * (2 ^ (63 - k) - (m + 1)) + 1) hp hp
 simp only [Nat.add_zero] at a
 rw [← e2, ← hx] at a
 rw [a]
 have b := and_lane 1 1 m 1 (2 ^ (63 - k) - (m + 1)) (by omega) (by omega)
 simp only [Nat.pow_one] at b
 rw [b]
 have c : m &&& (2 ^ (63 - k) - (m + 1)) = 0 := by
  apply Nat.eq_of_testBit_eq
  intro i
  rw [Nat.testBit_and, Nat.testBit_two_pow_sub_succ hm, Nat.zero_testBit]
  cases m.testBit i <;> simp
 rw [c]
 simp

/-- The table of the lowest places. -/
def tab : List Nat := [0, 1, 56, 2, 57, 49, 28, 3, 61, 58, 42, 50, 38, 29, 17, 4, 62, 47, 59, 36, 45, 43, 51, 22, 53, 39, 33, 30, 24, 18, 12, 5, 63, 55, 48, 27, 60, 41, 37, 16, 46, 35, 44, 21, 52, 32, 23, 11, 54, 26, 40, 15, 34, 20, 31, 10, 25, 14, 19, 9, 13, 8, 7, 6]

theorem tab_low : ∀ k : Fin 64, tab[(2 ^ k.val * 285870213051353865 % 18446744073709551616) / 288230376151711744]?.getD 0 = k.val ∧ (2 ^ k.val * 285870213051353865 % 18446744073709551616) / 288230376151711744 < 64 := by decide +kernel

end Bw
end Go.Proofs.YtnknejokneddbaaGreatDoor
/-! A row of bits in memory, and the plain facts on its words: which places are on, how many, in which order; what putting, joining and cutting words do to them. -/
namespace Go.Proofs.YtnknejokneddbaaGreatDoor
open Go.RowKit

/-- Whether place i is on in the words ws. -/
def onB (ws : List Nat) (i : Nat) : Bool := (ws[i / 64]?.getD 0).testBit (i % 64)

/-- The words ws of a row of n places: as many as are needed, each below 2^64, off beyond n. -/
structure Words (n : Nat) (ws : List Nat) : Prop where
 len : ws.length = (n + 63) / 64
 lt : ∀ k : Nat, ws[k]?.getD 0 < 18446744073709551616
 top : ∀ i, n ≤ i → onB ws i = false

/-- The cells of block wb hold the words ws. -/
structure Holds64 (w : World) (wb : Nat) (ws : List Nat) : Prop where
 cell : ∀ k, k < ws.length → w.cell? ⟨wb, k, none⟩ = some (.int .u64 (ws[k]?.getD 0 : Nat))
 free : ∀ k, k < ws.length → w.frozen? ⟨wb, k, none⟩ = false

/-- A row at block b, its words in block wb. -/
structure RowW (w : World) (b wb n : Nat) (ws : List Nat) : Prop where
 hb : b < w.heap.size
 hw : wb < w.heap.size
 ne : b ≠ wb
 c0 : w.cell? ⟨b, 0, none⟩ = some (.int .i64 n)
 c1 : ∃ cap, w.cell? ⟨b, 1, none⟩ = some (.slice (some ⟨wb, 0, none⟩) ws.length cap)
 mem : Holds64 w wb ws
 words : Words n ws
 small : n ≤ 1000

/-- A row at block b that has just the places of S on. -/
def IsSet (w : World) (b wb n : Nat) (S : Nat → Bool) : Prop := ∃ ws, RowW w b wb n ws ∧ ∀ i, onB ws i = S i

theorem Holds64.kept {w w' : World} {wb : Nat} {ws : List Nat} (h : Holds64 w wb ws) (e : w'.heap[wb]? = w.heap[wb]?) : Holds64 w' wb ws :=
 ⟨fun k hk => (World.cell?_of_block (a := ⟨wb, k, none⟩) e).trans (h.cell k hk), fun k hk => (World.frozen?_of_block (a := ⟨wb, k, none⟩) e).trans (h.free k hk)⟩

theorem RowW.kept {w w' : World} {b wb n : Nat} {ws : List Nat} (h : RowW w b wb n ws) (hs : w.heap.size ≤ w'.heap.size) (e1 : w'.heap[b]? = w.heap[b]?) (e2 : w'.heap[wb]? = w.heap[wb]?) : RowW w' b wb n ws := by
 obtain ⟨cap, hc⟩ := h.c1
 exact ⟨by have := h.hb; omega, by have := h.hw; omega, h.ne, (World.cell?_of_block (a := ⟨b, 0, none⟩) e1).trans h.c0, ⟨cap, (World.cell?_of_block (a := ⟨b, 1, none⟩) e1).trans hc⟩, h.mem.kept e2, h.words, h.small⟩

theorem RowW.grown {w w' : World} {b wb n : Nat} {ws : List Nat} {row : Option Nat} (h : RowW w b wb n ws) (hg : w.grownBy w' row) (h1 : some b ≠ row) (h2 : some wb ≠ row) : RowW w' b wb n ws :=
 h.kept hg.size (hg.block b h.hb h1) (hg.block wb h.hw h2)

theorem IsSet.grown {w w' : World} {b wb n : Nat} {S : Nat → Bool} {row : Option Nat} (h : IsSet w b wb n S) (hg : w.grownBy w' row) (h1 : some b ≠ row) (h2 : some wb ≠ row) : IsSet w' b wb n S := by
 obtain ⟨ws, hr, ho⟩ := h
 exact ⟨ws, hr.grown hg h1 h2, ho⟩

theorem IsSet.drewN {w : World} {b wb n : Nat} {S : Nat → Bool} (h : IsSet w b wb n S) (m : Nat) : IsSet (w.drewN m) b wb n S := by
 obtain ⟨ws, hr, ho⟩ := h
 exact ⟨ws, hr.kept (Nat.le_refl _) rfl rfl, ho⟩

theorem IsSet.congr {w : World} {b wb n : Nat} {S T : Nat → Bool} (h : IsSet w b wb n S) (e : ∀ i, S i = T i) : IsSet w b wb n T := by
 obtain ⟨ws, hr, ho⟩ := h
 exact ⟨ws, hr, fun i => (ho i).trans (e i)⟩

theorem grownBy_refl (w : World) (row : Option Nat) : w.grownBy w row := ⟨rfl, rfl, rfl, Nat.le_refl _, fun _ _ _ => rfl⟩
theorem grownBy_drewN (w : World) (m : Nat) (row : Option Nat) : w.grownBy (w.drewN m) row := ⟨rfl, rfl, rfl, Nat.le_refl _, fun _ _ _ => rfl⟩
theorem grownBy_trans {a b c : World} {row : Option Nat} (h : a.grownBy b row) (k : b.grownBy c row) : a.grownBy c row :=
 ⟨k.os.trans h.os, k.tape.trans h.tape, k.output.trans h.output, Nat.le_trans h.size k.size, fun i hi hr => (k.block i (Nat.lt_of_lt_of_le hi h.size) hr).trans (h.block i hi hr)⟩
theorem grownBy_setCell (w : World) (p : Addr) (v : Value) : w.grownBy (w.setCell p v) (some p.block) :=
 ⟨rfl, rfl, rfl, by simp [World.setCell], fun k _ hk => Below.heap_setCell _ _ _ _ (fun e => hk (by rw [e]))⟩
/-- What was written lay beyond the world where we began. -/
theorem grownBy_new {a b c : World} {row : Nat} (h : a.grownBy b none) (k : b.grownBy c (some row)) (hr : a.heap.size ≤ row) : a.grownBy c none :=
 ⟨k.os.trans h.os, k.tape.trans h.tape, k.output.trans h.output, Nat.le_trans h.size k.size, fun i hi _ => (k.block i (Nat.lt_of_lt_of_le hi h.size) (fun e => by cases e; omega)).trans (h.block i hi (by simp))⟩
theorem grownBy_below {a b : World} (h : a.grownBy b none) : Below a.heap.size a b := ⟨h.os, h.tape, h.output, h.size, fun k hk => h.block k hk (by simp)⟩
theorem below_grownBy {a b : World} (h : Below a.heap.size a b) : a.grownBy b none := ⟨h.os, h.tape, h.output, h.size, fun k hk _ => h.block k hk⟩

/-- A word is stored. -/
theorem Holds64.set {w : World} {wb : Nat} {ws : List Nat} (h : Holds64 w wb ws) {k : Nat} (hk : k < ws.length) (x : Nat) : Holds64 (w.setCell ⟨wb, k, none⟩ (.int .u64 (x : Nat))) wb (ws.set k x) := by
 constructor
 ·intro j hj
  rw [List.length_set] at hj
  by_cases e : j = k
  ·subst e
   rw [List.getElem?_set_self hj]
   exact World.cell?_setCell_same' _ _ _ (by rw [h.cell j hj]; rfl)
  ·rw [List.getElem?_set_ne (fun e' => e e'.symm), ← h.cell j hj]
   (apply World.cell?_setCell_other; intro e'; cases e'; exact e rfl)
 ·intro j hj
  rw [List.length_set] at hj
  rw [World.frozen?_setCell]
  exact h.free j hj

theorem RowW.set {w : World} {b wb n : Nat} {ws : List Nat} (h : RowW w b wb n ws) {k : Nat} (hk : k < ws.length) (x : Nat) (hws : Words n (ws.set k x)) :
  RowW (w.setCell ⟨wb, k, none⟩ (.int .u64 (x : Nat))) b wb n (ws.set k x) := by
 have hg := grownBy_setCell w ⟨wb, k, none⟩ (.int .u64 (x : Nat))
 have eb : (w.setCell ⟨wb, k, none⟩ (.int .u64 (x : Nat))).heap[b]? = w.heap[b]? := hg.block b h.hb (fun e => by simp only [Option.some.injEq] at e; exact h.ne e)
 have hsz := hg.size
 obtain ⟨cap, hc⟩ := h.c1
 exact ⟨Nat.lt_of_lt_of_le h.hb hsz, Nat.lt_of_lt_of_le h.hw hsz, h.ne, (World.cell?_of_block (a := ⟨b, 0, none⟩) eb).trans h.c0, ⟨cap, by rw [List.length_set]; exact (World.cell?_of_block (a := ⟨b, 1, none⟩) eb).trans hc⟩, h.mem.set hk x, hws, h.small⟩

/-! ### Words -/

theorem onB_set (ws : List Nat) (k x i : Nat) (hk : k < ws.length) : onB (ws.set k x) i = if i / 64 = k then x.testBit (i % 64) else onB ws i := by
 unfold onB
 by_cases e : i / 64 = k
 ·rw [if_pos e, e, List.getElem?_set_self hk]; rfl
 ·rw [if_neg e, List.getElem?_set_ne (fun e' => e e'.symm)]

theorem lt_set {ws : List Nat} (h : ∀ k : Nat, ws[k]?.getD 0 < 18446744073709551616) (k x : Nat) (hx : x < 18446744073709551616) : ∀ j : Nat, (ws.set k x)[j]?.getD 0 < 18446744073709551616 := by
 intro j
 by_cases e : k = j
 ·subst e
  by_cases hk : k < ws.length
  ·rw [List.getElem?_set_self hk]; exact hx
  ·rw [List.getElem?_eq_none (by rw [List.length_set]; omega)]; show 0 < _; omega
 ·rw [List.getElem?_set_ne e]; exact h j

theorem testBit_high {x j : Nat} (h : x < 18446744073709551616) (hj : 64 ≤ j) : x.testBit j = false :=
 Nat.testBit_lt_two_pow (Nat.lt_of_lt_of_le h (Nat.pow_le_pow_right (by omega : 2 > 0) hj : 2 ^ 64 ≤ 2 ^ j))

/-- The places on, rising. -/
def onL (S : Nat → Bool) (n : Nat) : List Nat := (List.range n).filter S

theorem onL_off (S : Nat → Bool) (n m : Nat) (h : n ≤ m) (top : ∀ i, n ≤ i → S i = false) : onL S m = onL S n := by
 unfold onL
 rw [show m = n + (m - n) from by omega, List.range_add, List.filter_append]
 have : ((List.range (m - n)).map (fun x => n + x)).filter S = [] := by
  rw [List.filter_eq_nil_iff]
  intro a ha
  obtain ⟨x, _, rfl⟩ := List.mem_map.1 ha
  rw [top _ (by omega)]
  simp
 rw [this, List.append_nil]

/-- What the words ahead of k come to. -/
theorem onL_word (ws : List Nat) (k : Nat) : onL (onB ws) (64 * (k + 1)) = onL (onB ws) (64 * k) ++ Bw.lsf 64 (64 * k) (ws[k]?.getD 0) := by
 unfold onL
 rw [show 64 * (k + 1) = 64 * k + 64 from by omega, List.range_add, List.filter_append, Bw.lsf_filter, List.filter_map]
 congr 2
 apply List.filter_congr
 intro i hi
 have : i < 64 := by simpa using hi
 simp only [Function.comp, onB]
 rw [show (64 * k + i) / 64 = k from by omega, show (64 * k + i) % 64 = i from by omega]

theorem onL_congr {S T : Nat → Bool} {n : Nat} (h : ∀ i, i < n → S i = T i) : onL S n = onL T n := by
 unfold onL
 apply List.filter_congr
 intro i hi
 exact h i (by simpa using hi)

theorem onL_le (S : Nat → Bool) (n : Nat) : (onL S n).length ≤ n := by
 unfold onL
 have := List.length_filter_le S (List.range n)
 simpa using this

theorem words_onL {n : Nat} {ws : List Nat} (h : Words n ws) : onL (onB ws) (64 * ws.length) = onL (onB ws) n :=
 onL_off _ _ _ (by rw [h.len]; omega) h.top

/-- The bits of word k that are places of a row of n. -/
def plc (n k : Nat) : Nat := if 64 ≤ n - 64 * k then 18446744073709551615 else 2 ^ (n - 64 * k) - 1

theorem plc_lt (n k : Nat) : plc n k < 18446744073709551616 := by
 unfold plc
 split
 ·omega
 ·have : 2 ^ (n - 64 * k) ≤ 2 ^ 64 := Nat.pow_le_pow_right (by omega) (by omega)
  have p : 0 < 2 ^ (n - 64 * k) := Nat.two_pow_pos _
  omega

theorem plc_bit (n k j : Nat) (hj : j < 64) : (plc n k).testBit j = decide (64 * k + j < n) := by
 unfold plc
 split
 ·rename_i h
  rw [show (18446744073709551615 : Nat) = 2 ^ 64 - 1 from by decide, Nat.testBit_two_pow_sub_one]
  have a : 64 * k + j < n := by omega
  simp [hj, a]
 ·rename_i h
  rw [Nat.testBit_two_pow_sub_one]
  by_cases hk : 64 * k + j < n
  ·simp [hk]; omega
  ·simp [hk]; omega

theorem pow_lt64 (i : Nat) : 2 ^ (i % 64) < 18446744073709551616 := by
 have : 2 ^ (i % 64) < 2 ^ 64 := Nat.pow_lt_pow_right (by omega) (by omega)
 simpa using this

theorem or64 {a b : Nat} (ha : a < 18446744073709551616) (hb : b < 18446744073709551616) : a ||| b < 18446744073709551616 := by
 have := Nat.or_lt_two_pow (n := 64) (x := a) (y := b) (by simpa using ha) (by simpa using hb)
 simpa using this
theorem and64 {a : Nat} (b : Nat) (ha : a < 18446744073709551616) : a &&& b < 18446744073709551616 := Nat.lt_of_le_of_lt Nat.and_le_left ha
/-- One place put on in a word. -/
theorem bit_on (x i j : Nat) : (x ||| 2 ^ (i % 64)).testBit j = (x.testBit j || decide (i % 64 = j)) := by
 rw [Nat.testBit_or, Nat.testBit_two_pow]

theorem bit_off (x i j : Nat) (hx : x < 18446744073709551616) : (x &&& (18446744073709551615 - 2 ^ (i % 64))).testBit j = (x.testBit j && !decide (i % 64 = j)) := by
 rw [Nat.testBit_and]
 by_cases hj : j < 64
 ·have hp := pow_lt64 i
  have := Nat.testBit_two_pow_sub_succ (n := 64) (x := 2 ^ (i % 64)) (by simpa using hp) j
  rw [show 2 ^ 64 - (2 ^ (i % 64) + 1) = 18446744073709551615 - 2 ^ (i % 64) from by omega] at this
  rw [this, Nat.testBit_two_pow]
  simp [hj]
 ·rw [testBit_high hx (by omega)]
  simp

/-- A place put on, or off. -/
def putW (ws : List Nat) (i : Nat) (on : Bool) : List Nat := ws.set (i / 64) (if on then ws[i / 64]?.getD 0 ||| 2 ^ (i % 64) else ws[i / 64]?.getD 0 &&& (18446744073709551615 - 2 ^ (i % 64)))

theorem putW_on {n : Nat} {ws : List Nat} (h : Words n ws) (i : Nat) (hi : i < n) (on : Bool) (j : Nat) : onB (putW ws i on) j = if j = i then on else onB ws j := by
 have hk : i / 64 < ws.length := by rw [h.len]; omega
 unfold putW
 rw [onB_set _ _ _ _ hk]
 by_cases e : j / 64 = i / 64
 ·rw [if_pos e]
  have ho : onB ws j = (ws[i / 64]?.getD 0).testBit (j % 64) := by unfold onB; rw [e]
  by_cases e2 : j = i
  ·subst e2
   cases on
   ·rw [if_neg (by simp), bit_off _ _ _ (h.lt _)]; simp
   ·rw [if_pos rfl, bit_on]; simp
  ·have e3 : ¬ i % 64 = j % 64 := by omega
   rw [if_neg e2, ho]
   cases on
   ·rw [if_neg (by simp), bit_off _ _ _ (h.lt _)]; simp [e3]
   ·rw [if_pos rfl, bit_on]; simp [e3]
 ·rw [if_neg e, if_neg (fun e' => e (by rw [e']))]

theorem putW_words {n : Nat} {ws : List Nat} (h : Words n ws) (i : Nat) (hi : i < n) (on : Bool) : Words n (putW ws i on) := by
 refine ⟨by unfold putW; rw [List.length_set]; exact h.len, ?_, ?_⟩
 ·unfold putW
  apply lt_set h.lt
  cases on
  ·rw [if_neg (by simp)]; exact and64 _ (h.lt _)
  ·rw [if_pos rfl]; exact or64 (h.lt _) (pow_lt64 i)
 ·intro j hj
  rw [putW_on h i hi, if_neg (by omega)]
  exact h.top j hj

theorem zeros_words (n : Nat) : Words n (List.replicate ((n + 63) / 64) 0) := by
 have e : ∀ k : Nat, (List.replicate ((n + 63) / 64) 0)[k]?.getD 0 = 0 := by
  intro k
  by_cases hk : k < (n + 63) / 64
  ·rw [List.getElem?_replicate_of_lt hk]; rfl
  ·rw [List.getElem?_eq_none (by simp; omega)]; rfl
 refine ⟨by simp, fun k => by rw [e]; omega, fun i _ => by unfold onB; rw [e]; simp⟩

theorem zeros_on (n i : Nat) : onB (List.replicate ((n + 63) / 64) 0) i = false := by
 have e : ∀ k : Nat, (List.replicate ((n + 63) / 64) 0)[k]?.getD 0 = 0 := by
  intro k
  by_cases hk : k < (n + 63) / 64
  ·rw [List.getElem?_replicate_of_lt hk]; rfl
  ·rw [List.getElem?_eq_none (by simp; omega)]; rfl
 unfold onB; rw [e]; simp

/-- The words ahead of k taken from f, the others left. -/
def updW (f : Nat → Nat) (ws : List Nat) : Nat → List Nat
 | 0 => ws
 | k + 1 => (updW f ws k).set k (f k)

theorem updW_length (f : Nat → Nat) (ws : List Nat) (k : Nat) : (updW f ws k).length = ws.length := by
 induction k with
 | zero => rfl
 | succ k ih => unfold updW; rw [List.length_set, ih]

theorem updW_get (f : Nat → Nat) (ws : List Nat) (k j : Nat) : (updW f ws k)[j]?.getD 0 = if j < k ∧ j < ws.length then f j else ws[j]?.getD 0 := by
 induction k with
 | zero => rw [if_neg (by omega)]; rfl
 | succ k ih =>
  unfold updW
  by_cases e : k = j
  ·subst e
   by_cases hk : k < ws.length
   ·rw [List.getElem?_set_self (by rw [updW_length]; exact hk), if_pos ⟨by omega, hk⟩]; rfl
   ·rw [if_neg (by omega), List.getElem?_eq_none (by rw [List.length_set, updW_length]; omega), List.getElem?_eq_none (by omega)]
  ·rw [List.getElem?_set_ne e, ih]
   by_cases h : j < k ∧ j < ws.length
   ·rw [if_pos h, if_pos (by omega)]
   ·rw [if_neg h, if_neg (by omega)]

/-- What joining does to word k. -/
def orF (n : Nat) (ws vs : List Nat) (k : Nat) : Nat := ws[k]?.getD 0 ||| (vs[k]?.getD 0 &&& plc n k)
theorem upd_on {n : Nat} {ws : List Nat} (h : Words n ws) (f : Nat → Nat) (i : Nat) : onB (updW f ws ws.length) i = if i / 64 < ws.length then (f (i / 64)).testBit (i % 64) else false := by
 unfold onB
 rw [updW_get]
 by_cases hk : i / 64 < ws.length
 ·rw [if_pos ⟨hk, hk⟩, if_pos hk]
 ·rw [if_neg (by omega), if_neg hk]
  exact h.top i (by rw [h.len] at hk; omega)

theorem orW_on {n m : Nat} {ws vs : List Nat} (h : Words n ws) (_h2 : Words m vs) (i : Nat) : onB (updW (orF n ws vs) ws ws.length) i = (onB ws i || (onB vs i && decide (i < n))) := by
 rw [upd_on h]
 by_cases hk : i / 64 < ws.length
 ·rw [if_pos hk]
  unfold orF onB
  rw [Nat.testBit_or, Nat.testBit_and, plc_bit _ _ _ (by omega), show 64 * (i / 64) + i % 64 = i from by omega]
 ·have hn : n ≤ i := by rw [h.len] at hk; omega
  rw [if_neg hk, h.top i hn]
  simp; omega

theorem orF_lt {n m : Nat} {ws vs : List Nat} (h : Words n ws) (h2 : Words m vs) (k : Nat) : orF n ws vs k < 18446744073709551616 := or64 (h.lt k) (and64 _ (h2.lt k))
theorem upd_lt {n : Nat} {ws : List Nat} (h : Words n ws) (f : Nat → Nat) (hf : ∀ k, f k < 18446744073709551616) (k j : Nat) : (updW f ws k)[j]?.getD 0 < 18446744073709551616 := by
 rw [updW_get]
 split
 ·exact hf j
 ·exact h.lt j

theorem orW_words {n m : Nat} {ws vs : List Nat} (h : Words n ws) (h2 : Words m vs) : Words n (updW (orF n ws vs) ws ws.length) :=
 ⟨by rw [updW_length]; exact h.len, upd_lt h _ (orF_lt h h2) _, fun i hi => by rw [orW_on h h2, h.top i hi]; simp; omega⟩
end Go.Proofs.YtnknejokneddbaaGreatDoor
/-! Contracts of the small functions of package bits, and of math/bits.OnesCount64: what each returns, the world left as it was (or draws alone made). -/
namespace Go.Proofs.YtnknejokneddbaaGreatDoor
open Go.RowKit

/-- The bit of place i in its word: a name that the walk does not open. -/
def pw (i : Nat) : Nat := 2 ^ (i % 64)

theorem ret_int {k : IntKind} {a b : Int} (h : a = b) : Ending.returned (.int k a) = .returned (.int k b) := by rw [h]
theorem wrap64_pow (i : Nat) : IntKind.u64.wrap (2 ^ (i % 64)) = (pw i : Int) := by
 unfold pw
 have h := pow_lt64 i
 have hq : ((2 : Int) ^ (i % 64)) = ((2 ^ (i % 64) : Nat) : Int) := by norm_cast
 rw [hq, IntKind.wrap_u64]
 generalize 2 ^ (i % 64) = q at *
 omega

theorem bit_c (i : Nat) (w : World) : Calls Tryz.prog 146 #[.int .i64 i] w fun e w' => e = .returned (.int .u64 (pw i : Int)) ∧ w' = w := by
 have H := Lib.hid (wrap64_pow i)
 go_enter Tryz.func146, Tryz.ntmps146
 go_wp2
 go_ret
 rw [H.out]
 exact ⟨rfl, rfl⟩

theorem isPlace_yes (b : Nat) (n i : Int) (w : World) (hc : w.cell? ⟨b, 0, none⟩ = some (.int .i64 n)) (h0 : 0 ≤ i) (h1 : i < n) : Calls Tryz.prog 145 #[.pointer (some ⟨b, 0, none⟩), .int .i64 i] w fun e w' => e = .returned (.bool true) ∧ w' = w := by
 go_enter Tryz.func145, Tryz.ntmps145
 go_wp2
 go_ret
 exact ⟨rfl, rfl⟩

theorem isPlace_no (b : Nat) (n i : Int) (w : World) (hc : w.cell? ⟨b, 0, none⟩ = some (.int .i64 n)) (h : i < 0 ∨ n ≤ i) : Calls Tryz.prog 145 #[.pointer (some ⟨b, 0, none⟩), .int .i64 i] w fun e w' => e = .returned (.bool false) ∧ w' = w := by
 by_cases h0 : i < 0
 ·clear h
  go_enter Tryz.func145, Tryz.ntmps145
  go_wp2
  go_ret
  exact ⟨rfl, rfl⟩
 ·have h1 : 0 ≤ i := by omega
  have h2 : decide (i < n) = false := by simp; omega
  clear h
  go_enter Tryz.func145, Tryz.ntmps145
  go_wp2
  go_ret
  exact ⟨rfl, rfl⟩

theorem word_nil (k : Nat) (w : World) : Calls Tryz.prog 173 #[.pointer none, .int .i64 k] w fun e w' => e = .returned (.int .u64 0) ∧ w' = w := by
 go_enter Tryz.func173, Tryz.ntmps173
 go_wp2
 go_ret
 exact ⟨rfl, rfl⟩

theorem word_c (b wb n k : Nat) (ws : List Nat) (w : World) (h : RowW w b wb n ws) : Calls Tryz.prog 173 #[.pointer (some ⟨b, 0, none⟩), .int .i64 k] w fun e w' => e = .returned (.int .u64 (ws[k]?.getD 0 : Nat)) ∧ w' = w := by
 obtain ⟨cap, hc⟩ := h.c1
 have hl := h.words.len
 have hs := h.small
 by_cases hk : k < ws.length
 ·have hcw := h.mem.cell k hk
  generalize hx : ws[k]?.getD 0 = x at *
  have hb : (decide (ws.length ≤ k)) = false := by simp; omega
  generalize ws.length = len at *
  clear hx hl h
  go_enter Tryz.func173, Tryz.ntmps173
  go_wp2
  go_ret
  exact ⟨rfl, rfl⟩
 ·have hz : ws[k]?.getD 0 = 0 := by rw [List.getElem?_eq_none (by omega)]; rfl
  rw [hz]
  have hb : (decide (ws.length ≤ k)) = true := by simp; omega
  generalize ws.length = len at *
  clear hl h hz
  go_enter Tryz.func173, Tryz.ntmps173
  go_wp2
  go_ret
  exact ⟨rfl, rfl⟩

theorem places_c (b n k : Nat) (w : World) (hc : w.cell? ⟨b, 0, none⟩ = some (.int .i64 n)) (hn : n ≤ 1000) (hk : 64 * k ≤ n) : Calls Tryz.prog 174 #[.pointer (some ⟨b, 0, none⟩), .int .i64 k] w fun e w' => e = .returned (.int .u64 (plc n k : Nat)) ∧ w' = w := by
 by_cases h : 64 ≤ n - 64 * k
 ·have hp : plc n k = 18446744073709551615 := by unfold plc; rw [if_pos h]
  have hd : decide ((64 : Int) ≤ (n : Int) - (k : Int) * 64) = true := by simp; omega
  have HP := Lib.hid hp
  clear hp
  go_enter Tryz.func174, Tryz.ntmps174
  go_wp2
  go_ret
  rw [HP.out]
  exact ⟨rfl, rfl⟩
 ·have hp : plc n k = 2 ^ (n - 64 * k) - 1 := by unfold plc; rw [if_neg h]
  have hd : decide ((64 : Int) ≤ (n : Int) - (k : Int) * 64) = false := by simp; omega
  have h64 : 2 ^ (n - 64 * k) < 2 ^ 64 := Nat.pow_lt_pow_right (by omega) (by omega)
  have hpos := Nat.two_pow_pos (n - 64 * k)
  have h0 : (0 : Int) ≤ (n : Int) - (k : Int) * 64 := by omega
  have HP := Lib.hid hp
  have H64 := Lib.hid h64
  have HPOS := Lib.hid hpos
  clear hp h64 hpos
  go_enter Tryz.func174, Tryz.ntmps174
  go_wp2
  go_ret
  refine ⟨ret_int ?_, rfl⟩
  rw [HP.out]
  have h64 := H64.out
  have hpos := HPOS.out
  rw [Nat.mul_comm k 64, show ((2 : Int) ^ (n - 64 * k)) = ((2 ^ (n - 64 * k) : Nat) : Int) from by norm_cast]
  clear HP H64 HPOS
  generalize 2 ^ (n - 64 * k) = q at *
  rw [IntKind.wrap_u64, IntKind.wrap_u64]
  omega

theorem and_u (A M : Int) (a m : Nat) (hA : A = a) (hM : M = m) (ha : a < 18446744073709551616) (hm : m < 18446744073709551616) : bits .and .u64 A M = ((a &&& m : Nat) : Int) := by
 rw [hA, hM]; exact u64_and_nat a m ha hm
theorem wrap_add (a b c : Nat) (h : a + b = c) (hc : c < 18446744073709551616) : IntKind.u64.wrap ((a : Int) + (b : Int)) = (c : Int) := by
 rw [IntKind.wrap_u64]; omega

def o1 (x : Int) : Int := IntKind.u64.wrap (bits .and .u64 (x / 2) 6148914691236517205 + bits .and .u64 x 6148914691236517205)
def o2 (x : Int) : Int := IntKind.u64.wrap (bits .and .u64 (x / 4) 3689348814741910323 + bits .and .u64 x 3689348814741910323)
def o3 (x : Int) : Int := bits .and .u64 (IntKind.u64.wrap (x / 16 + x)) 1085102592571150095
def o4 (d x : Int) : Int := IntKind.u64.wrap (x + x / d)

theorem o1_eq (x : Nat) (h : x < 18446744073709551616) : o1 x = (((x / 2 &&& 6148914691236517205) + (x &&& 6148914691236517205) : Nat) : Int) := by
 have b1 : x / 2 &&& 6148914691236517205 ≤ 6148914691236517205 := Nat.and_le_right
 have b2 : x &&& 6148914691236517205 ≤ 6148914691236517205 := Nat.and_le_right
 unfold o1
 rw [and_u ((x : Int) / 2) 6148914691236517205 (x / 2) 6148914691236517205 (by omega) rfl (by omega) (by omega), and_u (x : Int) 6148914691236517205 x 6148914691236517205 rfl rfl h (by omega)]
 exact wrap_add _ _ _ rfl (by omega)
theorem o2_eq (x : Nat) (h : x < 18446744073709551616) : o2 x = (((x / 4 &&& 3689348814741910323) + (x &&& 3689348814741910323) : Nat) : Int) := by
 have b1 : x / 4 &&& 3689348814741910323 ≤ 3689348814741910323 := Nat.and_le_right
 have b2 : x &&& 3689348814741910323 ≤ 3689348814741910323 := Nat.and_le_right
 unfold o2
 rw [and_u ((x : Int) / 4) 3689348814741910323 (x / 4) 3689348814741910323 (by omega) rfl (by omega) (by omega), and_u (x : Int) 3689348814741910323 x 3689348814741910323 rfl rfl h (by omega)]
 exact wrap_add _ _ _ rfl (by omega)
theorem o3_eq (x : Nat) (h : x ≤ 7378697629483820646) : o3 x = (((x / 16 + x) &&& 1085102592571150095 : Nat) : Int) := by
 unfold o3
 exact and_u _ 1085102592571150095 (x / 16 + x) 1085102592571150095 (by rw [IntKind.wrap_u64]; omega) rfl (by omega) (by omega)
theorem o4_eq (d x : Nat) (h : x + x / d < 18446744073709551616) : o4 d x = ((x + x / d : Nat) : Int) := by
 unfold o4
 rw [← Int.natCast_ediv]
 exact wrap_add _ _ _ rfl h

theorem wrap_mod (u : Nat) : wrap64 (u : Int) % 128 = ((u % 128 : Nat) : Int) := by
 unfold wrap64
 omega

theorem ones_eq (x : Nat) (h : x < 18446744073709551616) : bits .and .i64 (wrap64 (o4 4294967296 (o4 65536 (o4 256 (o3 (o2 (o1 x))))))) 127 = (Bw.pcn 64 x : Int) := by
 obtain ⟨s0, s1, s2, s3⟩ := Bw.swar_eq x
 have b1 : x / 2 &&& 6148914691236517205 ≤ 6148914691236517205 := Nat.and_le_right
 have b2 : x &&& 6148914691236517205 ≤ 6148914691236517205 := Nat.and_le_right
 have e3 : o3 (o2 (o1 x)) = (Bw.swar3 x : Int) := by
  rw [o1_eq x h]
  generalize ha : (x / 2 &&& 6148914691236517205) + (x &&& 6148914691236517205) = a
  have la : a < 18446744073709551616 := by omega
  rw [o2_eq a la]
  have c1 : a / 4 &&& 3689348814741910323 ≤ 3689348814741910323 := Nat.and_le_right
  have c2 : a &&& 3689348814741910323 ≤ 3689348814741910323 := Nat.and_le_right
  rw [o3_eq _ (by omega)]
  unfold Bw.swar3
  rw [ha]
 rw [e3]
 unfold Bw.swar at s0
 generalize Bw.swar3 x = y at *
 have d1 := o4_eq 256 y s1
 have d2 := o4_eq 65536 (y + y / 256) s2
 have d3 := o4_eq 4294967296 _ s3
 rw [show ((256 : Nat) : Int) = 256 from rfl] at d1
 rw [show ((65536 : Nat) : Int) = 65536 from rfl] at d2
 rw [show ((4294967296 : Nat) : Int) = 4294967296 from rfl] at d3
 rw [d1, d2, d3, i64_and127, ← s0]
 clear d1 d2 d3 s0 s1 s2 e3 b1 b2 h
 generalize y + y / 256 + (y + y / 256) / 65536 + (y + y / 256 + (y + y / 256) / 65536) / 4294967296 = u at *
 exact wrap_mod u

theorem ones_c (x : Nat) (w : World) (h : x < 18446744073709551616) : Calls Tryz.prog 149 #[.int .u64 x] w fun e w' => e = .returned (.int .i64 (Bw.pcn 64 x : Nat)) ∧ w' = w := by
 go_enter Tryz.func149, Tryz.ntmps149
 go_wp2
 go_ret
 exact ⟨ret_int (ones_eq x h), rfl⟩

set_option maxHeartbeats 400000 in
theorem has_no (b : Nat) (n i : Int) (w : World) (hc : w.cell? ⟨b, 0, none⟩ = some (.int .i64 n)) (h : i < 0 ∨ n ≤ i) : Calls Tryz.prog 144 #[.pointer (some ⟨b, 0, none⟩), .int .i64 i] w fun e w' => e = .returned (.bool false) ∧ ∃ m, w' = w.drewN m := by
 have H := Lib.hid h
 clear h
 go_enter Tryz.func144, Tryz.ntmps144
 go_wp2
 go_quiet ((go_at_call 145; exact Calls.quiet_of_same (isPlace_no _ _ _ _ (by exact hc) H.out)))
 go_wp2
 go_ret
 exact ⟨rfl, _, rfl⟩

theorem has_bit (x i : Nat) (hx : x < 18446744073709551616) : (bits .and .u64 (x : Int) (pw i : Int) != 0) = x.testBit (i % 64) := by
 unfold pw
 rw [u64_and_nat _ _ hx (pow_lt64 i)]
 have e : x &&& 2 ^ (i % 64) = if x.testBit (i % 64) then 2 ^ (i % 64) else 0 := by
  apply Nat.eq_of_testBit_eq
  intro j
  rw [Nat.testBit_and, Nat.testBit_two_pow]
  by_cases h : i % 64 = j
  ·subst h
   cases x.testBit (i % 64)
   ·simp
   ·simp
  ·simp only [h, decide_false, Bool.and_false]
   split
   ·rw [Nat.testBit_two_pow]; simp [h]
   ·simp
 rw [e]
 have := Nat.two_pow_pos (i % 64)
 clear e
 generalize 2 ^ (i % 64) = q at *
 cases x.testBit (i % 64)
 ·simp
 ·simp
  omega

set_option maxHeartbeats 400000 in
theorem has_yes (b wb n i : Nat) (ws : List Nat) (w : World) (h : RowW w b wb n ws) (hi : i < n) : Calls Tryz.prog 144 #[.pointer (some ⟨b, 0, none⟩), .int .i64 i] w fun e w' => e = .returned (.bool (onB ws i)) ∧ ∃ m, w' = w.drewN m := by
 obtain ⟨cap, hc1⟩ := h.c1
 have hc := h.c0
 have hk : i / 64 < ws.length := by rw [h.words.len]; omega
 have hw := h.mem.cell _ hk
 have hs := h.small
 have HX := Lib.hid (has_bit (ws[i / 64]?.getD 0) i (h.words.lt _))
 have ho : onB ws i = (ws[i / 64]?.getD 0).testBit (i % 64) := rfl
 rw [ho]
 clear ho
 generalize ws[i / 64]?.getD 0 = x at *
 generalize ws.length = len at *
 clear h
 have hq : IntKind.i64.wrap ((i : Int) / 64) = ((i / 64 : Nat) : Int) := by rw [IntWalk.i64_in _ (by omega)]; omega
 generalize i / 64 = q at *
 go_enter Tryz.func144, Tryz.ntmps144
 go_wp2
 go_quiet ((first | (go_at_call 145; exact Calls.quiet_of_same (isPlace_yes _ _ _ _ (by exact hc) (by omega) (by omega))) | (go_at_call 146; exact Calls.quiet_of_same (bit_c _ _))))
 go_wp2
 go_ret
 rw [HX.out]
 exact ⟨rfl, _, rfl⟩

end Go.Proofs.YtnknejokneddbaaGreatDoor
/-! Contracts of New, Put, Copy, Same and Count of package bits: rows of bits made, changed, copied, compared, counted. -/
namespace Go.Proofs.YtnknejokneddbaaGreatDoor
open Go.RowKit

theorem Tryz.info181 : (Tryz.prog.info? 181).map (fun i => (i.zero, i.size, i.bytes)) = some (some (.int .u64 0), 1, 8) := by kernel_rfl

/-- What New leaves: a row with nothing on, in blocks of its own. -/
def NewPost (n : Nat) (w : World) (e : Ending) (w' : World) : Prop :=
 ∃ b wb, e = .returned (.pointer (some ⟨b, 0, none⟩)) ∧ w.heap.size ≤ b ∧ w.heap.size ≤ wb ∧ IsSet w' b wb n (fun _ => false) ∧ w.grownBy w' none

theorem made_get (z : Value) (L k : Nat) (hk : k < L) : (madeCells #[z] L)[k]? = some z := by
 have h := congrArg (fun l : List Value => l[k]?) (toList_madeCells_one z L)
 simp only [Array.getElem?_toList, List.getElem?_replicate_of_lt hk] at h
 exact h

theorem new_row (w : World) (n L : Nat) (hL : (n + 63) / 64 = L) (hn : n ≤ 1000) :
  IsSet ((w.alloc (.cells (madeCells #[.int .u64 0] L) 181)).alloc (.cells #[.int .i64 n, .slice (some ⟨w.heap.size, 0, none⟩) L L] 184)) (w.heap.size + 1) w.heap.size n (fun _ => false) := by
 subst hL
 have hz : ∀ k : Nat, k < (n + 63) / 64 → (List.replicate ((n + 63) / 64) 0)[k]?.getD 0 = 0 := by
  intro k hk
  rw [List.getElem?_replicate_of_lt hk]; rfl
 refine ⟨List.replicate ((n + 63) / 64) 0, ?_, zeros_on n⟩
 refine ⟨by simp, by simp; omega, by omega, ?_, ⟨(n + 63) / 64, ?_⟩, ⟨?_, ?_⟩, zeros_words n, hn⟩
 ·simp
 ·simp
 ·intro k hk
  rw [List.length_replicate] at hk
  rw [hz k hk, World.cell?_alloc2_first, made_get _ _ _ hk]
  rfl
 ·intro k _
  rw [World.frozen?_alloc2_first]

set_option maxHeartbeats 400000 in
theorem new_mid (n : Nat) (w : World) (hn : n ≤ 1000) : Calls Tryz.prog 97 #[.int .i64 n] w (NewPost n w) := by
 have hmk := run_make_row' (P := Tryz.prog) 182 181 (.int .u64 0) 8 Tryz.underlying182 Tryz.info181 rfl .i64 .i64 ((n + 63) / 64) (by omega) (by omega)
 have ec : (((n + 63) / 64 : Nat) : Int) = ((n : Int) + 64 - 1) / 64 := by omega
 rw [ec] at hmk
 clear ec
 generalize hL : (n + 63) / 64 = L at *
 have HL := Lib.hid hL
 clear hL
 have h0 : (0 : Int) ≤ n := by omega
 have h1 : (n : Int) ≤ 1000 := by omega
 go_enter Tryz.func97, Tryz.ntmps97
 go_wp2
 go_ret
 exact ⟨_, _, rfl, by omega, by omega, new_row w n L HL.out hn, grownBy_trans (World.grownBy_alloc w _ none) (World.grownBy_alloc _ _ none)⟩

set_option maxHeartbeats 400000 in
theorem put_no (b : Nat) (n i : Int) (on : Bool) (w : World) (hc : w.cell? ⟨b, 0, none⟩ = some (.int .i64 n)) (h : i < 0 ∨ n ≤ i) : Calls Tryz.prog 100 #[.pointer (some ⟨b, 0, none⟩), .int .i64 i, .bool on] w fun e w' => (∃ v, e = .returned v) ∧ w' = w := by
 have H := Lib.hid h
 clear h
 go_enter Tryz.func100, Tryz.ntmps100
 go_wp2_with (go_at_call 145; refine (isPlace_no _ _ _ _ (by exact hc) H.out).mono ?_; rintro e w' ⟨rfl, h9⟩; subst w')
 refine bodyPost_ret (results_none rfl _ _ _) rfl ?_
 exact ⟨⟨_, rfl⟩, rfl⟩

set_option maxHeartbeats 400000 in
set_option maxRecDepth 20000 in
theorem put_on (b wb n i : Nat) (ws : List Nat) (w : World) (h : RowW w b wb n ws) (hi : i < n) : Calls Tryz.prog 100 #[.pointer (some ⟨b, 0, none⟩), .int .i64 i, .bool true] w fun e w' => (∃ v, e = .returned v) ∧ RowW w' b wb n (putW ws i true) ∧ w.grownBy w' (some wb) := by
 obtain ⟨cap, hc1⟩ := h.c1
 have hc := h.c0
 have hk : i / 64 < ws.length := by rw [h.words.len]; omega
 have hw := h.mem.cell _ hk
 have hf := h.mem.free _ hk
 have hs := h.small
 have hq : IntKind.i64.wrap ((i : Int) / 64) = ((i / 64 : Nat) : Int) := by rw [IntWalk.i64_in _ (by omega)]; omega
 have HB := Lib.hid (u64_or_nat (ws[i / 64]?.getD 0) (pw i) (h.words.lt _) (pow_lt64 i))
 have hfin := (h.kept (w' := w.drew) (Nat.le_refl _) rfl rfl).set hk (ws[i / 64]?.getD 0 ||| pw i) (putW_words h.words i hi true)
 have HF := Lib.hid hfin
 clear h hfin
 generalize hQ : i / 64 = q at *
 have HQ := Lib.hid hQ
 clear hQ
 generalize hX : ws[q]?.getD 0 = x at *
 have HX := Lib.hid hX
 clear hX
 generalize hN : ws.length = len at *
 have HN := Lib.hid hN
 clear hN
 go_enter Tryz.func100, Tryz.ntmps100
 go_wp2_with (go_at_call 145; refine (isPlace_yes _ _ _ _ (by exact hc) (by omega) (by omega)).mono ?_; rintro e w' ⟨rfl, h9⟩; subst w')
 refine wp_region_still_tail 12 (by kernel_rfl) (by kernel_rfl) ?_
 simp only [List.take_succ_cons, List.take_zero, List.drop_succ_cons, List.drop_zero]
 repeat still_step
 still_call (bit_c _ _)
 repeat still_step
 refine wpStill_nil ?_
 change wpList _ _ _ _ _ w.drew
 go_wp2
 go_end0
 rw [HB.out]
 refine ⟨⟨_, rfl⟩, ?_, ?_⟩
 ·unfold putW
  rw [HQ.out, HX.out]
  exact HF.out
 ·exact grownBy_trans (grownBy_drewN w 1 _) (grownBy_setCell w.drew ⟨wb, q, none⟩ _)

set_option maxHeartbeats 400000 in
set_option maxRecDepth 20000 in
theorem put_off (b wb n i : Nat) (ws : List Nat) (w : World) (h : RowW w b wb n ws) (hi : i < n) : Calls Tryz.prog 100 #[.pointer (some ⟨b, 0, none⟩), .int .i64 i, .bool false] w fun e w' => (∃ v, e = .returned v) ∧ RowW w' b wb n (putW ws i false) ∧ w.grownBy w' (some wb) := by
 obtain ⟨cap, hc1⟩ := h.c1
 have hc := h.c0
 have hk : i / 64 < ws.length := by rw [h.words.len]; omega
 have hw := h.mem.cell _ hk
 have hf := h.mem.free _ hk
 have hs := h.small
 have hq : IntKind.i64.wrap ((i : Int) / 64) = ((i / 64 : Nat) : Int) := by rw [IntWalk.i64_in _ (by omega)]; omega
 have HB := Lib.hid (u64_andNot_nat (ws[i / 64]?.getD 0) (pw i) (h.words.lt _) (pow_lt64 i))
 have hfin := (h.kept (w' := w.drew) (Nat.le_refl _) rfl rfl).set hk (ws[i / 64]?.getD 0 &&& (18446744073709551615 - pw i)) (putW_words h.words i hi false)
 have HF := Lib.hid hfin
 clear h hfin
 generalize hQ : i / 64 = q at *
 have HQ := Lib.hid hQ
 clear hQ
 generalize hX : ws[q]?.getD 0 = x at *
 have HX := Lib.hid hX
 clear hX
 generalize hN : ws.length = len at *
 clear hN
 go_enter Tryz.func100, Tryz.ntmps100
 go_wp2_with (go_at_call 145; refine (isPlace_yes _ _ _ _ (by exact hc) (by omega) (by omega)).mono ?_; rintro e w' ⟨rfl, h9⟩; subst w')
 refine wp_region_still_tail 12 (by kernel_rfl) (by kernel_rfl) ?_
 simp only [List.take_succ_cons, List.take_zero, List.drop_succ_cons, List.drop_zero]
 repeat still_step
 still_call (bit_c _ _)
 repeat still_step
 refine wpStill_nil ?_
 change wpList _ _ _ _ _ w.drew
 go_wp2
 go_end0
 rw [HB.out]
 refine ⟨⟨_, rfl⟩, ?_, ?_⟩
 ·unfold putW
  rw [HQ.out, HX.out]
  exact HF.out
 ·exact grownBy_trans (grownBy_drewN w 1 _) (grownBy_setCell w.drew ⟨wb, q, none⟩ _)

/-- S with place i put. -/
def putS (S : Nat → Bool) (n : Nat) (i : Int) (on : Bool) (j : Nat) : Bool := if (j : Int) = i ∧ j < n then on else S j

/-- What Put leaves. -/
def PutPost (b wb n : Nat) (T : Nat → Bool) (w : World) (e : Ending) (w' : World) : Prop :=
 (∃ v, e = .returned v) ∧ IsSet w' b wb n T ∧ w.grownBy w' (some wb)

/-- Put, at every number. -/
theorem put_c (b wb n : Nat) (i : Int) (on : Bool) (S : Nat → Bool) (w : World) (h : IsSet w b wb n S) : Calls Tryz.prog 100 #[.pointer (some ⟨b, 0, none⟩), .int .i64 i, .bool on] w (PutPost b wb n (putS S n i on) w) := by
 obtain ⟨ws, hr, ho⟩ := h
 by_cases hp : 0 ≤ i ∧ i < n
 ·obtain ⟨k, rfl⟩ := Int.eq_ofNat_of_zero_le hp.1
  have hk : k < n := by omega
  have key : ∀ j, onB (putW ws k on) j = putS S n k on j := by
   intro j
   rw [putW_on hr.words k hk]
   unfold putS
   by_cases e : j = k
   ·subst e; rw [if_pos rfl, if_pos ⟨rfl, hk⟩]
   ·rw [if_neg e, if_neg (fun h => e (by omega)), ho]
  cases on
  ·exact (put_off b wb n k ws w hr hk).mono fun e w' ⟨h1, h2, h3⟩ => ⟨h1, ⟨_, h2, key⟩, h3⟩
  ·exact (put_on b wb n k ws w hr hk).mono fun e w' ⟨h1, h2, h3⟩ => ⟨h1, ⟨_, h2, key⟩, h3⟩
 ·refine (put_no b n i on w hr.c0 (by omega)).mono ?_
  rintro e w' ⟨h1, rfl⟩
  refine ⟨h1, ⟨ws, hr, fun j => ?_⟩, grownBy_refl _ _⟩
  unfold putS
  rw [if_neg (by omega), ho]

/-- Has, at every number. -/
def hasS (S : Nat → Bool) (n : Nat) (i : Int) : Bool := decide (0 ≤ i) && decide (i < n) && S i.toNat
theorem has_c (b wb n : Nat) (i : Int) (S : Nat → Bool) (w : World) (h : IsSet w b wb n S) : Calls Tryz.prog 144 #[.pointer (some ⟨b, 0, none⟩), .int .i64 i] w fun e w' => e = .returned (.bool (hasS S n i)) ∧ ∃ m, w' = w.drewN m := by
 obtain ⟨ws, hr, ho⟩ := h
 by_cases hp : 0 ≤ i ∧ i < n
 ·obtain ⟨k, rfl⟩ := Int.eq_ofNat_of_zero_le hp.1
  have hk : k < n := by omega
  have e : hasS S n k = onB ws k := by unfold hasS; rw [ho]; simp [hk]
  rw [e]
  exact has_yes b wb n k ws w hr hk
 ·have e : hasS S n i = false := by
   unfold hasS
   by_cases h0 : 0 ≤ i
   ·have : ¬ i < n := by omega
    simp [this]
   ·simp [h0]
  rw [e]
  exact has_no b n i w hr.c0 (by omega)

end Go.Proofs.YtnknejokneddbaaGreatDoor
/-! Contracts of Count, Same, Copy, Or, And of package bits, and of slices.Equal and slices.Clone at []uint64. -/
namespace Go.Proofs.YtnknejokneddbaaGreatDoor
open Go.RowKit

/-- How many places are on in the words ahead of k. -/
def cntW (ws : List Nat) (k : Nat) : Nat := (onL (onB ws) (64 * k)).length
theorem cntW_succ (ws : List Nat) (k : Nat) : cntW ws (k + 1) = cntW ws k + Bw.pcn 64 (ws[k]?.getD 0) := by
 unfold cntW; rw [onL_word, List.length_append, Bw.lsf_length]
theorem cntW_le (ws : List Nat) (k : Nat) : cntW ws k ≤ 64 * k := onL_le _ _

set_option maxHeartbeats 400000 in
theorem countW_c (b wb n : Nat) (ws : List Nat) (w : World) (h : RowW w b wb n ws) : Calls Tryz.prog 103 #[.pointer (some ⟨b, 0, none⟩)] w fun e w' => e = .returned (.int .i64 (cntW ws ws.length : Nat)) ∧ w' = w := by
 obtain ⟨cap, hc1⟩ := h.c1
 have hl : ws.length ≤ 16 := by have := h.words.len; have := h.small; omega
 have hmem := Lib.hid h.mem.cell
 have hlt := Lib.hid h.words.lt
 have hz : cntW ws 0 = 0 := rfl
 have HZ := Lib.hid hz
 clear h hz
 generalize hN : ws.length = len at *
 clear hN
 go_enter Tryz.func103, Tryz.ntmps103
 go_wp2
 go_loop [3, 11] (fun c i => ∃ k : Nat, k ≤ len ∧ i = .int .i64 k ∧ c = .int .i64 (cntW ws k : Nat)) (fun _ i => len - (intOf i).toNat)
 case atStart => exact ⟨0, Nat.zero_le _, rfl, by rw [HZ.out]; rfl⟩
 case round =>
  obtain ⟨k, hk, rfl, rfl⟩ := hrel
  have hb := cntW_le ws k
  by_cases hkl : k < len
  ·have hcell := hmem.out k hkl
   have hx := hlt.out k
   have hs := Lib.hid (cntW_succ ws k)
   generalize ws[k]?.getD 0 = x at *
   have hp := Bw.pcn_le 64 x
   generalize hP : Bw.pcn 64 x = p at *
   have HP := Lib.hid hP
   clear hP
   go_wp2_with (go_at_call 149; refine (ones_c _ _ (by exact hx)).mono ?_; rintro e w' ⟨rfl, h9⟩; subst w'; rw [HP.out])
   go_round
   case rel => exact ⟨k + 1, by omega, by go_num, by rw [hs.out]; go_num⟩
   case measure => simp [intOf]; omega
  ·obtain rfl : k = len := by omega
   go_wp2
   go_ret
   exact ⟨rfl, rfl⟩

theorem cnt_set {w : World} {b wb n : Nat} {S : Nat → Bool} {ws : List Nat} (hr : RowW w b wb n ws) (ho : ∀ i, onB ws i = S i) : cntW ws ws.length = (onL S n).length := by
 unfold cntW
 rw [words_onL hr.words, onL_congr (fun i _ => ho i)]

theorem count_c (b wb n : Nat) (S : Nat → Bool) (w : World) (h : IsSet w b wb n S) : Calls Tryz.prog 103 #[.pointer (some ⟨b, 0, none⟩)] w fun e w' => e = .returned (.int .i64 ((onL S n).length : Nat)) ∧ w' = w := by
 obtain ⟨ws, hr, ho⟩ := h
 rw [← cnt_set hr ho]
 exact countW_c b wb n ws w hr

theorem heap_new (w : World) (o : Obj) : (w.alloc o).heap[w.heap.size]? = some o := by
 show (w.heap.push o)[w.heap.size]? = some o
 simp

/-- A block's cells, the first of which are the words xs. -/
theorem holds_of_block {w : World} {g : Nat} {cur : Array Value} {t : TypeId} {xs : List Nat} (h : w.heap[g]? = some (.cells cur t (0, 0))) (hc : cur.toList.take xs.length = xs.map fun x : Nat => Value.int .u64 (x : Int)) : Holds64 w g xs := by
 constructor
 ·intro k hk
  have h1 : (cur.toList.take xs.length)[k]? = some (.int .u64 (xs[k]?.getD 0 : Nat)) := by
   rw [hc, List.getElem?_map, List.getElem?_eq_getElem hk]; rfl
  rw [List.getElem?_take_of_lt hk, Array.getElem?_toList] at h1
  simp only [World.cell?, h]
  exact h1
 ·intro k _
  simp [World.frozen?, h]

set_option maxHeartbeats 400000 in
theorem clone_c (wb len cap : Nat) (xs : List Nat) (w : World) (h : Holds64 w wb xs) (hwb : wb < w.heap.size) (hl : xs.length = len) (hs : len ≤ 16) :
  Calls Tryz.prog 172 #[.slice (some ⟨wb, 0, none⟩) len cap] w fun e w' => ∃ v c, e = .returned (.slice (some ⟨v, 0, none⟩) len c) ∧ w.heap.size ≤ v ∧ v < w'.heap.size ∧ Holds64 w' v xs ∧ w.grownBy w' none := by
 have hnil := fun w => Lib.run_eql_slice_nil (P := Tryz.prog) w 182 181 (some ⟨wb, 0, none⟩) len cap 0 0 Tryz.underlying182
 obtain ⟨i0, hi, hz0, hz1, hz2⟩ := info_parts Tryz.info181
 have hown : (w.alloc (.cells #[] 181)).ownsRow w.heap.size 181 1 (.slice (some ⟨w.heap.size, 0, none⟩) 0 0) 0 [] :=
  ⟨rfl, .inr ⟨w.heap.size, 0, #[], rfl, Nat.le_refl _, heap_new w _, Nat.le_refl _, Nat.zero_le _, rfl, rfl⟩⟩
 have hnews : ∀ j u, (xs.map fun x : Nat => Value.int .u64 (x : Int))[j]? = some u → (w.alloc (.cells #[] 181)).cell? ((⟨wb, 0, none⟩ : Addr).add j) = some u := by
  intro j u hj
  rw [List.getElem?_map] at hj
  obtain ⟨x, hx, rfl⟩ := Option.map_eq_some_iff.1 hj
  have hjl : j < xs.length := (List.getElem?_eq_some_iff.1 hx).1
  have hc := h.cell j hjl
  rw [hx] at hc
  have ha : (⟨wb, 0, none⟩ : Addr).add j = ⟨wb, j, none⟩ := by unfold Addr.add; split <;> simp_all
  rw [ha, World.cell?_alloc_past _ _ _ hwb]
  exact hc
 have HO := Lib.hid hown
 have HW := Lib.hid hnews
 clear hown hnews
 go_enter Tryz.func172, Tryz.ntmps172
 go_wp2_with (at_builtin; refine wpList_append_own _ rfl _ _ 182 rfl w.heap.size 181 i0 (.int .u64 0) 1 8 Tryz.underlying182 hi hz0 hz1 hz2 rfl (by decide) _ 0 [] rfl HO.out ⟨wb, 0, none⟩ len cap (xs.map fun x : Nat => Value.int .u64 (x : Int)) rfl (by simp [hl]) HW.out (by simp [Value.oneCell']) (by unfold maxLen; omega) (by omega) (by simp) ?_; intro v' w1 hown' hgrow hnn)
 obtain ⟨hlen, hv | ⟨g, c, cur, rfl, hg1, hg2, hg3, hg4, hg5, hg6⟩⟩ := hown'
 ·exact absurd (hnn.1 hv.1).1 (by intro e; cases e)
 ·have hgs : g < w1.heap.size := (Array.getElem?_eq_some_iff.1 hg2).1
  have hh : Holds64 w1 g xs := holds_of_block hg2 (by rw [hl]; simpa using hg6)
  have hgr : w.grownBy w1 none := grownBy_new (World.grownBy_alloc w _ none) hgrow (Nat.le_refl _)
  clear hlen hnn hgrow hg2 hg5 hg6
  rw [Nat.zero_add]
  go_wp2
  go_ret
  exact ⟨g, c, rfl, hg1, hgs, hh, hgr⟩

/-- What Copy leaves: another row of the same places, in blocks of its own. -/
def CopyPost (n : Nat) (S : Nat → Bool) (w : World) (e : Ending) (w' : World) : Prop :=
 ∃ b wb, e = .returned (.pointer (some ⟨b, 0, none⟩)) ∧ w.heap.size ≤ b ∧ w.heap.size ≤ wb ∧ IsSet w' b wb n S ∧ w.grownBy w' none

/-- What Clone leaves, beside two cells that stay. -/
def ClonePost (len b : Nat) (xs : List Nat) (v0 v1 : Value) (w : World) (e : Ending) (w' : World) : Prop :=
 ∃ v c, e = .returned (.slice (some ⟨v, 0, none⟩) len c) ∧ w.heap.size ≤ v ∧ v < w'.heap.size ∧ Holds64 w' v xs ∧ w.grownBy w' none ∧ w'.cell? ⟨b, 0, none⟩ = some v0 ∧ w'.cell? ⟨b, 1, none⟩ = some v1

theorem clone_k (wb len cap b : Nat) (xs : List Nat) (v0 v1 : Value) (w : World) (h : Holds64 w wb xs) (hwb : wb < w.heap.size) (hl : xs.length = len) (hs : len ≤ 16) (hb : b < w.heap.size) (h0 : w.cell? ⟨b, 0, none⟩ = some v0) (h1 : w.cell? ⟨b, 1, none⟩ = some v1) :
  Calls Tryz.prog 172 #[.slice (some ⟨wb, 0, none⟩) len cap] w (ClonePost len b xs v0 v1 w) :=
 (clone_c wb len cap xs w h hwb hl hs).mono fun _ w' ⟨v, c, he, k1, k2, k3, k4⟩ =>
  ⟨v, c, he, k1, k2, k3, k4, (World.cell?_of_block (w' := w') (a := ⟨b, 0, none⟩) (k4.block b hb (by simp))).trans h0, (World.cell?_of_block (w' := w') (a := ⟨b, 1, none⟩) (k4.block b hb (by simp))).trans h1⟩

theorem copy_row {w1 : World} {n len g c : Nat} {ws : List Nat} (hn : n ≤ 1000) (hw : Words n ws) (hl : ws.length = len) (hg : g < w1.heap.size) (hh : Holds64 w1 g ws) :
  RowW (w1.alloc (.cells #[.int .i64 n, .slice (some ⟨g, 0, none⟩) len c] 184)) w1.heap.size g n ws := by
 refine ⟨by simp, by simp; omega, by omega, ?_, ⟨c, ?_⟩, hh.kept (Below.heap_alloc _ _ _ hg), hw, hn⟩
 ·simp
 ·rw [hl]; simp

set_option maxHeartbeats 1000000 in
theorem copy_c (b wb n : Nat) (S : Nat → Bool) (w : World) (h : IsSet w b wb n S) : Calls Tryz.prog 147 #[.pointer (some ⟨b, 0, none⟩)] w (CopyPost n S w) := by
 obtain ⟨ws, hr, ho⟩ := h
 obtain ⟨cap, hc1⟩ := hr.c1
 have hc := hr.c0
 have hl : ws.length ≤ 16 := by have := hr.words.len; have := hr.small; omega
 have hb := hr.hb
 have hw := hr.hw
 have hmem := Lib.hid hr.mem
 have hwords := Lib.hid hr.words
 have hn := hr.small
 have HO := Lib.hid ho
 clear hr ho
 generalize hN : ws.length = len at *
 have HN := Lib.hid hN
 clear hN
 go_enter Tryz.func147, Tryz.ntmps147
 go_wp2
 go_region_held3 (fun w' => w'.cell? ⟨b, 0, none⟩ = some (.int .i64 n) ∧ w'.cell? ⟨b, 1, none⟩ = some (.slice (some ⟨wb, 0, none⟩) len cap)) (first | exact ⟨hk0, hk1⟩ | go_keep)
  (first | (go_at_call 172; refine (clone_k _ _ _ b ws (.int .i64 n) (.slice (some ⟨wb, 0, none⟩) len cap) _ (by exact hmem.out.kept rfl) (by exact hw) HN.out hl (by exact hb) (by simpa using hc) (by simpa using hc1)).mono ?_; rintro e w1 ⟨g, c, rfl, hg1, hg2, hg3, hg4, hk0, hk1⟩))
 all_goals go_wp2
 go_ret
 refine ⟨_, g, rfl, hg4.size, hg1, ⟨ws, copy_row hn hwords.out HN.out hg2 hg3, HO.out⟩, ?_⟩
 exact grownBy_trans (grownBy_trans (grownBy_drewN w 1 none) hg4) (World.grownBy_alloc _ _ none)

/-- The other row of Same, Or, And: nil, or a row that shares nothing with block wb. -/
def Other (w : World) (p : Option Addr) (wb m : Nat) (vs : List Nat) : Prop :=
 (p = none ∧ vs = [] ∧ m = 0) ∨ ∃ b2 wb2, p = some ⟨b2, 0, none⟩ ∧ b2 ≠ wb ∧ wb2 ≠ wb ∧ RowW w b2 wb2 m vs

theorem Other.words {w : World} {p : Option Addr} {wb m : Nat} {vs : List Nat} (h : Other w p wb m vs) : Words m vs := by
 rcases h with ⟨_, rfl, rfl⟩ | ⟨b2, wb2, _, _, _, hr⟩
 ·exact ⟨rfl, fun k => by simp, fun i _ => by simp [onB]⟩
 ·exact hr.words

theorem Other.grown {w w' : World} {p : Option Addr} {wb m : Nat} {vs : List Nat} (h : Other w p wb m vs) (hg : w.grownBy w' (some wb)) : Other w' p wb m vs := by
 rcases h with h | ⟨b2, wb2, hp, h1, h2, hr⟩
 ·exact .inl h
 ·exact .inr ⟨b2, wb2, hp, h1, h2, hr.grown hg (fun e => h1 (by simpa using e)) (fun e => h2 (by simpa using e))⟩

theorem word_o (p : Option Addr) (wb m k : Nat) (vs : List Nat) (w : World) (h : Other w p wb m vs) : Calls Tryz.prog 173 #[.pointer p, .int .i64 k] w fun e w' => e = .returned (.int .u64 (vs[k]?.getD 0 : Nat)) ∧ w' = w := by
 rcases h with ⟨rfl, rfl, _⟩ | ⟨b2, wb2, rfl, _, _, hr⟩
 ·exact word_nil k w
 ·exact word_c b2 wb2 m k vs w hr

/-- The other row as a set. -/
def OtherS (w : World) (p : Option Addr) (wb m : Nat) (T : Nat → Bool) : Prop :=
 (p = none ∧ (∀ i, T i = false) ∧ m = 0) ∨ ∃ b2 wb2, p = some ⟨b2, 0, none⟩ ∧ b2 ≠ wb ∧ wb2 ≠ wb ∧ IsSet w b2 wb2 m T

theorem OtherS.other {w : World} {p : Option Addr} {wb m : Nat} {T : Nat → Bool} (h : OtherS w p wb m T) : ∃ vs, Other w p wb m vs ∧ ∀ i, onB vs i = T i := by
 rcases h with ⟨hp, ht, hm⟩ | ⟨b2, wb2, hp, h1, h2, vs, hr, ho⟩
 ·exact ⟨[], .inl ⟨hp, rfl, hm⟩, fun i => by rw [ht]; simp [onB]⟩
 ·exact ⟨vs, .inr ⟨b2, wb2, hp, h1, h2, hr⟩, ho⟩

end Go.Proofs.YtnknejokneddbaaGreatDoor
/-! Contracts of Or and And of package bits: a row joined, cut with another one, or with nil. -/
namespace Go.Proofs.YtnknejokneddbaaGreatDoor
open Go.RowKit

/-- Whether one of the words ahead of k is another one behind f. -/
def grewB (f : Nat → Nat) (ws : List Nat) (k : Nat) : Bool := (List.range k).any fun j => f j != ws[j]?.getD 0
theorem grewB_succ (f : Nat → Nat) (ws : List Nat) (k : Nat) : grewB f ws (k + 1) = (grewB f ws k || (f k != ws[k]?.getD 0)) := by
 unfold grewB; rw [List.range_succ, List.any_append]; simp

/-- What the loops of Or and And hold at word k. -/
structure Mid (w0 w : World) (b wb n : Nat) (ws cur : List Nat) (p : Option Addr) (m : Nat) (vs : List Nat) : Prop where
 c0 : w.cell? ⟨b, 0, none⟩ = some (.int .i64 n)
 c1 : ∃ cap, w.cell? ⟨b, 1, none⟩ = some (.slice (some ⟨wb, 0, none⟩) ws.length cap)
 mem : Holds64 w wb cur
 oth : Other w p wb m vs
 grown : w0.grownBy w (some wb)

theorem Mid.start {w : World} {b wb n : Nat} {ws : List Nat} {p : Option Addr} {m : Nat} {vs : List Nat} (h : RowW w b wb n ws) (ho : Other w p wb m vs) : Mid w w b wb n ws ws p m vs :=
 ⟨h.c0, h.c1, h.mem, ho, grownBy_refl _ _⟩

theorem Mid.drewN {w0 w : World} {b wb n : Nat} {ws cur : List Nat} {p : Option Addr} {m : Nat} {vs : List Nat} (h : Mid w0 w b wb n ws cur p m vs) (q : Nat) : Mid w0 (w.drewN q) b wb n ws cur p m vs :=
 ⟨h.c0, h.c1, h.mem.kept rfl, h.oth.grown (grownBy_drewN w q _), grownBy_trans h.grown (grownBy_drewN w q _)⟩

theorem Mid.set {w0 w : World} {b wb n : Nat} {ws cur : List Nat} {p : Option Addr} {m : Nat} {vs : List Nat} (h : Mid w0 w b wb n ws cur p m vs) (hne : b ≠ wb) {k : Nat} (hk : k < cur.length) (x : Nat) :
  Mid w0 (w.setCell ⟨wb, k, none⟩ (.int .u64 (x : Nat))) b wb n ws (cur.set k x) p m vs := by
 have hg := grownBy_setCell w ⟨wb, k, none⟩ (.int .u64 (x : Nat))
 have eb : (w.setCell ⟨wb, k, none⟩ (.int .u64 (x : Nat))).heap[b]? = w.heap[b]? := Below.heap_setCell _ _ _ _ hne
 obtain ⟨cap, hc⟩ := h.c1
 exact ⟨(World.cell?_of_block (a := ⟨b, 0, none⟩) eb).trans h.c0, ⟨cap, (World.cell?_of_block (a := ⟨b, 1, none⟩) eb).trans hc⟩, h.mem.set hk x, h.oth.grown hg, grownBy_trans h.grown hg⟩

theorem Mid.row {w0 w : World} {b wb n : Nat} {ws cur : List Nat} {p : Option Addr} {m : Nat} {vs : List Nat} (h : Mid w0 w b wb n ws cur p m vs) (h0 : RowW w0 b wb n ws) (hl : cur.length = ws.length) (hw : Words n cur) : RowW w b wb n cur := by
 refine ⟨Nat.lt_of_lt_of_le h0.hb h.grown.size, Nat.lt_of_lt_of_le h0.hw h.grown.size, h0.ne, h.c0, ?_, h.mem, hw, h0.small⟩
 rw [hl]; exact h.c1

set_option maxHeartbeats 2000000 in
set_option maxRecDepth 20000 in
theorem or_w (b wb n m : Nat) (p : Option Addr) (ws vs : List Nat) (w : World) (h : RowW w b wb n ws) (ho : Other w p wb m vs) :
  Calls Tryz.prog 148 #[.pointer (some ⟨b, 0, none⟩), .pointer p] w fun e w' => e = .returned (.bool (grewB (orF n ws vs) ws ws.length)) ∧ RowW w' b wb n (updW (orF n ws vs) ws ws.length) ∧ w.grownBy w' (some wb) := by
 have H := Lib.hid h
 have hne := Lib.hid h.ne
 have HM := Lib.hid (Mid.start h ho)
 have HWa := Lib.hid (orW_words h.words ho.words)
 have hlt := Lib.hid h.words.lt
 have hlt2 := Lib.hid ho.words.lt
 have hl : ws.length ≤ 16 := by have := h.words.len; have := h.small; omega
 have hlen := h.words.len
 have hn := h.small
 obtain ⟨cap, hc1⟩ := h.c1
 clear h ho
 generalize hN : ws.length = len at *
 have HN := Lib.hid hN
 have HL := Lib.hid hlen
 clear hN hlen
 go_enter Tryz.func148, Tryz.ntmps148
 go_wp2
 go_loopw [5, 13] (fun g i wr => ∃ k : Nat, k ≤ len ∧ i = .int .i64 k ∧ g = .bool (grewB (orF n ws vs) ws k) ∧ Mid w wr b wb n ws (updW (orF n ws vs) ws k) p m vs) (fun _ i _ => len - (intOf i).toNat)
 case atStart => exact ⟨0, Nat.zero_le _, rfl, rfl, HM.out⟩
 case round =>
  obtain ⟨k, hk, rfl, rfl, hmid⟩ := hrel
  by_cases hkl : k < len
  ·obtain ⟨cap', hc1'⟩ := hmid.c1
   rw [HN.out] at hc1'
   have hc0' := hmid.c0
   have hcl : k < (updW (orF n ws vs) ws k).length := by rw [updW_length, HN.out]; exact hkl
   have hcell := hmid.mem.cell k hcl
   have hfree := hmid.mem.free k hcl
   rw [updW_get, if_neg (by omega)] at hcell
   have hoth := Lib.hid hmid.oth
   have hB := Lib.hid (u64_and_nat (vs[k]?.getD 0) (plc n k) (hlt2.out k) (plc_lt n k))
   have hB2 := Lib.hid (u64_or_nat (ws[k]?.getD 0) (vs[k]?.getD 0 &&& plc n k) (hlt.out k) (and64 _ (hlt2.out k)))
   have hset := Lib.hid ((hmid.drewN 1).set hne.out hcl (orF n ws vs k))
   have hF : orF n ws vs k = ws[k]?.getD 0 ||| (vs[k]?.getD 0 &&& plc n k) := rfl
   rw [hF] at hset
   have HF := Lib.hid hF
   have HG := Lib.hid (grewB_succ (orF n ws vs) ws k)
   have hpl := Lib.hid (show 64 * k ≤ n by have := HL.out; omega)
   clear hmid hcl hF
   generalize ws[k]?.getD 0 = x at *
   generalize hY : vs[k]?.getD 0 = y at *
   have HY := Lib.hid hY
   clear hY
   generalize hZ : plc n k = z at *
   have HZ := Lib.hid hZ
   clear hZ
   generalize hG : grewB (orF n ws vs) ws k = g0 at *
   clear hG
   go_wp2
   refine wp_region_still_tail 15 (by kernel_rfl) (by kernel_rfl) ?_
   simp only [List.take_succ_cons, List.take_zero, List.drop_succ_cons, List.drop_zero]
   repeat still_step
   still_call (word_o _ wb m _ vs _ (by exact hoth.out.grown (grownBy_drewN wr 1 _)))
   rw [HY.out]
   repeat still_step
   still_call (places_c _ n _ _ (by exact hc0') hn hpl.out)
   rw [HZ.out]
   repeat still_step
   refine wpStill_nil ?_
   change wpList _ _ _ _ _ wr.drew
   rw [hB.out, hB2.out]
   clear hB hB2
   generalize (x ||| y &&& z) = v at *
   obtain ⟨cap3, hc3⟩ := hset.out.c1
   rw [HN.out] at hc3
   have hc3' : (wr.setCell ⟨wb, k, none⟩ (.int .u64 (v : Nat))).cell? ⟨b, 1, none⟩ = some (.slice (some ⟨wb, 0, none⟩) len cap3) := hc3
   have hc4 := hset.out.mem.cell k (by rw [List.length_set, updW_length, HN.out]; exact hkl)
   rw [List.getElem?_set_self (by rw [updW_length, HN.out]; exact hkl)] at hc4
   have hc4' : (wr.setCell ⟨wb, k, none⟩ (.int .u64 (v : Nat))).cell? ⟨wb, k, none⟩ = some (.int .u64 (v : Nat)) := hc4
   clear hc3 hc4
   have hend : ∀ g1 : Bool, g1 = (g0 || (v != x)) → ∃ k' : Nat, k' ≤ len ∧ Value.int .i64 ((k : Int) + 1) = .int .i64 k' ∧ Value.bool g1 = .bool (grewB (orF n ws vs) ws k') ∧ Mid w (wr.setCell ⟨wb, k, none⟩ (.int .u64 (v : Nat))).drew b wb n ws (updW (orF n ws vs) ws k') p m vs := by
    intro g1 hg1
    refine ⟨k + 1, by omega, by go_num, by rw [HG.out, HF.out, hg1], ?_⟩
    show Mid _ _ _ _ _ _ ((updW (orF n ws vs) ws k).set k (orF n ws vs k)) _ _ _
    rw [HF.out]
    exact hset.out
   have HE := Lib.hid hend
   clear hend hset HG HF
   by_cases hvx : v = x
   ·have hb1 : (((v : Nat) : Int) != ((x : Nat) : Int)) = false := by simp [hvx]
    have hb2 : (v != x) = false := by simp [hvx]
    have HB2 := Lib.hid hb2
    clear hvx hb2
    cases g0
    ·go_wp2
     exact ⟨HE.out _ (by rw [HB2.out]; rfl), by simp [intOf]; omega⟩
    ·go_wp2
     exact ⟨HE.out _ (by rw [HB2.out]; rfl), by simp [intOf]; omega⟩
   ·have hb1 : (((v : Nat) : Int) != ((x : Nat) : Int)) = true := by simp; omega
    have hb2 : (v != x) = true := by simp [hvx]
    have HB2 := Lib.hid hb2
    clear hvx hb2
    cases g0
    ·go_wp2
     exact ⟨HE.out _ (by rw [HB2.out]; rfl), by simp [intOf]; omega⟩
    ·go_wp2
     exact ⟨HE.out _ (by rw [HB2.out]; rfl), by simp [intOf]; omega⟩
  ·obtain rfl : k = len := by omega
   have hfin := hmid.row H.out (updW_length _ _ _) HWa.out
   have hgr := hmid.grown
   clear hmid
   go_wp2
   go_ret
   exact ⟨rfl, hfin, hgr⟩

/-- Whether T has a place of the row that S hasn't. -/
def grewS (n : Nat) (S T : Nat → Bool) : Bool := (List.range n).any fun i => T i && !S i

theorem grewB_of {n m : Nat} {ws vs : List Nat} (h : Words n ws) (h2 : Words m vs) : grewB (orF n ws vs) ws ws.length = grewS n (onB ws) (onB vs) := by
 rw [Bool.eq_iff_iff]
 unfold grewB grewS
 rw [List.any_eq_true, List.any_eq_true]
 constructor
 ·rintro ⟨k, hk, hne⟩
  have hk' : k < ws.length := by simpa using hk
  have hne' : orF n ws vs k ≠ ws[k]?.getD 0 := by simpa using hne
  have : ∃ j, (orF n ws vs k).testBit j ≠ (ws[k]?.getD 0).testBit j := Classical.byContradiction fun hc => hne' (Nat.eq_of_testBit_eq fun j => Classical.byContradiction fun e => hc ⟨j, e⟩)
  obtain ⟨j, hj⟩ := this
  have hj64 : j < 64 := by
   by_cases e : j < 64
   ·exact e
   ·exact absurd (by rw [testBit_high (orF_lt h h2 k) (by omega), testBit_high (h.lt k) (by omega)]) hj
  unfold orF at hj
  rw [Nat.testBit_or, Nat.testBit_and, plc_bit _ _ _ hj64] at hj
  have a1 : (ws[k]?.getD 0).testBit j = false := by
   cases e : (ws[k]?.getD 0).testBit j
   ·rfl
   ·rw [e] at hj; simp at hj
  rw [a1] at hj
  have a2 : (vs[k]?.getD 0).testBit j = true ∧ 64 * k + j < n := by simpa using hj
  refine ⟨64 * k + j, by simpa using a2.2, ?_⟩
  unfold onB
  rw [show (64 * k + j) / 64 = k from by omega, show (64 * k + j) % 64 = j from by omega, a1, a2.1]
  rfl
 ·rintro ⟨i, hi, hT⟩
  have hi' : i < n := by simpa using hi
  have b1 : onB vs i = true ∧ onB ws i = false := by simpa using hT
  refine ⟨i / 64, by rw [List.mem_range, h.len]; omega, ?_⟩
  rw [bne_iff_ne]
  intro e
  have e' := congrArg (fun x => x.testBit (i % 64)) e
  unfold orF at e'
  simp only [Nat.testBit_or, Nat.testBit_and] at e'
  rw [plc_bit _ _ _ (by omega), show 64 * (i / 64) + i % 64 = i from by omega] at e'
  have c1 : (vs[i / 64]?.getD 0).testBit (i % 64) = true := b1.1
  have c2 : (ws[i / 64]?.getD 0).testBit (i % 64) = false := b1.2
  rw [c1, c2] at e'
  simp [hi'] at e'

/-- What Or leaves. -/
def OrPost (b wb n : Nat) (g : Bool) (T : Nat → Bool) (w : World) (e : Ending) (w' : World) : Prop :=
 e = .returned (.bool g) ∧ IsSet w' b wb n T ∧ w.grownBy w' (some wb)

theorem or_c (b wb n m : Nat) (p : Option Addr) (S T : Nat → Bool) (w : World) (h : IsSet w b wb n S) (ho : OtherS w p wb m T) :
  Calls Tryz.prog 148 #[.pointer (some ⟨b, 0, none⟩), .pointer p] w (OrPost b wb n (grewS n S T) (fun i => S i || (T i && decide (i < n))) w) := by
 obtain ⟨ws, hr, h1⟩ := h
 obtain ⟨vs, hv, h2⟩ := ho.other
 have e : grewS n S T = grewS n (onB ws) (onB vs) := by
  have a : S = onB ws := funext fun i => (h1 i).symm
  have b : T = onB vs := funext fun i => (h2 i).symm
  rw [a, b]
 rw [e, ← grewB_of hr.words hv.words]
 exact (or_w b wb n m p ws vs w hr hv).mono fun e w' ⟨a1, a2, a3⟩ => ⟨a1, ⟨_, a2, fun i => by rw [orW_on hr.words hv.words, h1, h2]⟩, a3⟩

end Go.Proofs.YtnknejokneddbaaGreatDoor
/-! The contract of math/bits.TrailingZeros64 where the table that it reads holds what the program's text lays there. -/
namespace Go.Proofs.YtnknejokneddbaaGreatDoor
open Go.RowKit

/-- The table is in memory. -/
def Tab (w : World) : Prop := 0 < w.heap.size ∧ ∀ j, j < 64 → w.cell? ⟨0, j, none⟩ = some (.int .u8 (Bw.tab[j]?.getD 0 : Nat))

theorem Tab.grown {w w' : World} {row : Option Nat} (h : Tab w) (hg : w.grownBy w' row) (hr : some 0 ≠ row) : Tab w' :=
 ⟨Nat.lt_of_lt_of_le h.1 hg.size, fun j hj => (World.cell?_of_block (a := ⟨0, j, none⟩) (hg.block _ h.1 hr)).trans (h.2 j hj)⟩

theorem tz_index (x k m : Nat) (h : x < 18446744073709551616) (hx : x = 2 ^ k * (2 * m + 1)) :
  IntKind.u64.wrap (bits .and .u64 (x : Int) (IntKind.u64.wrap (-(x : Int))) * 285870213051353865) / 288230376151711744 = ((2 ^ k * 285870213051353865 % 18446744073709551616 / 288230376151711744 : Nat) : Int) := by
 have hpos : 0 < x := by rw [hx]; exact Nat.mul_pos (Nat.two_pow_pos k) (by omega)
 have e1 : IntKind.u64.wrap (-(x : Int)) = ((18446744073709551616 - x : Nat) : Int) := by rw [IntKind.wrap_u64]; omega
 have e2 := Bw.low_bit hx (by simpa using h)
 rw [show (2 : Nat) ^ 64 = 18446744073709551616 from by decide] at e2
 rw [e1, u64_and_nat _ _ h (by omega), e2, IntKind.wrap_u64]
 clear e1 e2
 generalize 2 ^ k = q
 omega

set_option maxHeartbeats 400000 in
theorem tz_w (x j k : Nat) (w : World) (h0 : ((x : Int) == 0) = false)
  (hI : IntKind.u64.wrap (bits .and .u64 (x : Int) (IntKind.u64.wrap (-(x : Int))) * 285870213051353865) / 288230376151711744 = (j : Int)) (hj : j < 64) (hk : k < 64)
  (hc : w.cell? ⟨0, j, none⟩ = some (.int .u8 (k : Nat))) : Calls Tryz.prog 197 #[.int .u64 x] w fun e w' => e = .returned (.int .i64 k) ∧ w' = w := by
 go_enter Tryz.func197, Tryz.ntmps197
 go_wp2
 go_ret
 exact ⟨rfl, rfl⟩

theorem tab_at (k j : Nat) (hk : k < 64) (hj : j = 2 ^ k * 285870213051353865 % 18446744073709551616 / 288230376151711744) : Bw.tab[j]?.getD 0 = k ∧ j < 64 := by
 subst hj
 exact Bw.tab_low ⟨k, hk⟩

theorem tz_c (x k m : Nat) (w : World) (h : x < 18446744073709551616) (hx : x = 2 ^ k * (2 * m + 1)) (ht : Tab w) : Calls Tryz.prog 197 #[.int .u64 x] w fun e w' => e = .returned (.int .i64 k) ∧ w' = w := by
 have hk : k < 64 := Bw.lt_of_part (m := m) (by rw [← hx]; simpa using h)
 have hpos : 0 < x := by rw [hx]; exact Nat.mul_pos (Nat.two_pow_pos k) (by omega)
 have hI := tz_index x k m h hx
 generalize hJ : (2 ^ k * 285870213051353865 % 18446744073709551616 / 288230376151711744) = j at hI
 obtain ⟨t1, t2⟩ := tab_at k j hk hJ.symm
 have hc := ht.2 _ t2
 rw [t1] at hc
 exact tz_w x j k w (by simp; omega) hI t2 hk hc

end Go.Proofs.YtnknejokneddbaaGreatDoor
/-! The contract of the iterator behind All: it hands over the places that are on, rising, to every loop body that keeps what lay before. -/
namespace Go.Proofs.YtnknejokneddbaaGreatDoor
open Go.RowKit Go.Shelf
attribute [local go_sem] Oper.semAt_some

/-- The places as ints. -/
def ints (l : List Nat) : List Int := l.map fun i : Nat => (i : Int)

theorem ints_snoc (l : List Nat) (i : Nat) : ints (l ++ [i]) = ints l ++ [(i : Int)] := by simp [ints]
theorem onL_zero (S : Nat → Bool) : ints (onL S 0) = [] := rfl

theorem Tab.below {n₀ : Nat} {w w' : World} (h : Tab w) (hb : Below n₀ w w') (hg : 0 < n₀) : Tab w' :=
 ⟨Nat.lt_of_lt_of_le h.1 hb.size, fun j hj => (hb.cell (p := ⟨0, j, none⟩) hg).trans (h.2 j hj)⟩

theorem lsf_zero (n : Nat) : ∀ off, Bw.lsf n off 0 = [] := by
 induction n with
 | zero => intro off; rfl
 | succ n ih => intro off; rw [Bw.lsf, if_neg (by omega)]; exact ih _

set_option maxRecDepth 100000 in
set_option maxHeartbeats 2000000 in
theorem each1_in (n : Nat) (hn : 1 ≤ n) (l Bn n₀ b wb len cap : Nat) (ws : List Nat) (hl : ws.length = len) (hl16 : len ≤ 16) (hlt : ∀ k : Nat, ws[k]?.getD 0 < 18446744073709551616) (hwb : wb < n₀) (hg : 0 < n₀)
  (J Jx : List Int → World → Prop)
  (hY : ∀ pre x W, J pre W → pre.length < (onL (onB ws) (64 * len)).length → YieldAt Fence.wide (n - 1) Tryz.prog l #[.int .i64 x] W fun e W' =>
   (e = .returned (.bool true) ∧ J (pre ++ [x]) W' ∧ Below n₀ W W') ∨ (e = .returned (.bool false) ∧ Jx (pre ++ [x]) W'))
  (W : World) (ht : Tab W) (hBn : W.cell? ⟨Bn, 0, none⟩ = some (.pointer (some ⟨b, 0, none⟩)))
  (hc1 : W.cell? ⟨b, 1, none⟩ = some (.slice (some ⟨wb, 0, none⟩) len cap)) (hc : ∀ k, k < len → W.cell? ⟨wb, k, none⟩ = some (.int .u64 (ws[k]?.getD 0 : Nat))) (h0 : J [] W) :
  CallsIn Fence.wide n Tryz.prog 196 #[.func (.yield l) #[] #[], .pointer (some ⟨Bn, 0, none⟩)] W fun e W' => (∃ v, e = .returned v) ∧
   ((∃ ys, ys = ints (onL (onB ws) (64 * len)) ∧ J ys W') ∨ (∃ pre, pre <+: ints (onL (onB ws) (64 * len)) ∧ Jx pre W')) := by
 have HY := Lib.hid hY
 have HC := Lib.hid hc
 have HLT := Lib.hid hlt
 have HT := Lib.hid ht
 clear hY hc hlt ht
 refine callsIn_of_wp Tryz.func196 rfl trivial ?_ rfl
 simp only [Tryz.ntmps196, List.size_toArray, List.length_cons, List.length_nil, Nat.reduceAdd, Nat.reduceSub, Array.replicate_succ, Array.replicate_zero, List.push_toArray, List.append_toArray, List.nil_append, List.cons_append]
 gi_wp2
 gi_loopw [10] (fun i wr => ∃ k : Nat, k ≤ len ∧ i = .int .i64 k ∧ J (ints (onL (onB ws) (64 * k))) wr ∧ Below n₀ W wr)
  (fun i _ => len - (intOf i).toNat)
 case atStart => exact ⟨0, Nat.zero_le _, rfl, by rw [Nat.mul_zero, onL_zero]; exact h0, Below.refl _ _⟩
 case round =>
  obtain ⟨k, hk, rfl, hJ, hnx⟩ := hrel
  by_cases hkl : k < len
  ·have hcell := (hnx.cell (p := ⟨wb, k, none⟩) hwb).trans (HC.out k hkl)
   have hx := HLT.out k
   have hword := Lib.hid (onL_word ws k)
   generalize ws[k]?.getD 0 = x at *
   gi_wp2
   gi_loopw [4] (fun v wi => ∃ (y : Nat) (done : List Nat), v = .int .u64 (y : Nat) ∧ y < 18446744073709551616 ∧ Hid (Bw.lsf 64 (64 * k) x = done ++ Bw.lsf 64 (64 * k) y) ∧ J (ints (onL (onB ws) (64 * k) ++ done)) wi ∧ Below n₀ W wi)
    (fun v _ => (intOf v).toNat)
   case atStart => exact ⟨x, [], rfl, hx, rfl, by rw [List.append_nil]; exact hJ, hnx⟩
   case round =>
    obtain ⟨y, done, rfl, hy, hsplit, hJi, hni⟩ := hrel
    by_cases hy0 : y = 0
    ·have hz : ((y : Int) != 0) = false := by simp [hy0]
     have hend : onL (onB ws) (64 * (k + 1)) = onL (onB ws) (64 * k) ++ done := by
      rw [hword.out, hsplit.out, hy0, lsf_zero, List.append_nil]
     have HE := Lib.hid hend
     clear hend hy0
     gi_wp2
     refine ⟨⟨k + 1, by omega, by go_num, by rw [HE.out]; exact hJi, hni⟩, by simp [intOf]; omega⟩
    ·obtain ⟨t, m, hym⟩ := Bw.odd_part y (by omega)
     have hz : ((y : Int) != 0) = true := by simp; omega
     have ht : t < 64 := Bw.lt_of_part (m := m) (by rw [← hym]; simpa using hy)
     have hlow := Bw.lsf_low hym ht (64 * k)
     have hclr := Bw.low_clear hym
     have hlty : 2 ^ t * (2 * m) < y := by
      have hp := Nat.two_pow_pos t
      rw [hym, Nat.mul_add]; omega
     have hB2 := u64_and_nat y (y - 1) hy (by omega)
     rw [hclr, show ((y - 1 : Nat) : Int) = (y : Int) - 1 from by omega] at hB2
     have htz := Lib.hid (fun w1 (h1 : Tab w1) => tz_c y t m w1 hy hym h1)
     have htab := Lib.hid (HT.out.below hni hg)
     have hs2 : Bw.lsf 64 (64 * k) x = (done ++ [64 * k + t]) ++ Bw.lsf 64 (64 * k) (2 ^ t * (2 * m)) := by
      rw [hsplit.out, hlow]; simp
     have HS2 := Lib.hid hs2
     have hpre : onL (onB ws) (64 * (k + 1)) = onL (onB ws) (64 * k) ++ done ++ (64 * k + t) :: Bw.lsf 64 (64 * k) (2 ^ t * (2 * m)) := by
      rw [hword.out, hs2]; simp
     have hall : onL (onB ws) (64 * len) = onL (onB ws) (64 * k) ++ done ++ ([64 * k + t] ++ (Bw.lsf 64 (64 * k) (2 ^ t * (2 * m)) ++ (((List.range (64 * len - 64 * (k + 1))).map fun i => 64 * (k + 1) + i).filter (onB ws)))) := by
      have : onL (onB ws) (64 * len) = onL (onB ws) (64 * (k + 1)) ++ (((List.range (64 * len - 64 * (k + 1))).map fun i => 64 * (k + 1) + i).filter (onB ws)) := by
       unfold onL
       rw [← List.filter_append, ← List.range_add]
       congr 2
       omega
      rw [this, hpre]; simp
     have hlen : (ints (onL (onB ws) (64 * k) ++ done)).length < (onL (onB ws) (64 * len)).length := by
      rw [hall]; unfold ints; rw [List.length_map]; simp
     have hprefix : ints (onL (onB ws) (64 * k) ++ done) ++ [(k : Int) * 64 + (t : Int)] <+: ints (onL (onB ws) (64 * len)) := by
      rw [hall, show (k : Int) * 64 + (t : Int) = ((64 * k + t : Nat) : Int) from by omega, ← ints_snoc]
      unfold ints
      rw [← List.append_assoc, List.map_append (l₁ := onL (onB ws) (64 * k) ++ done ++ [64 * k + t])]
      exact List.prefix_append _ _
     have HPX := Lib.hid hprefix
     have hsn : ints (onL (onB ws) (64 * k) ++ (done ++ [64 * k + t])) = ints (onL (onB ws) (64 * k) ++ done) ++ [(k : Int) * 64 + (t : Int)] := by
      rw [show (k : Int) * 64 + (t : Int) = ((64 * k + t : Nat) : Int) from by omega, ← ints_snoc, List.append_assoc]
     have HSN := Lib.hid hsn
     obtain ⟨fn, tmps, assign, body, hyy, hR⟩ := HY.out (ints (onL (onB ws) (64 * k) ++ done)) ((k : Int) * 64 + (t : Int)) wr hJi hlen
     have HB2 := Lib.hid hB2
     generalize hQ : 2 ^ t * (2 * m) = y2 at *
     clear hQ hym hlow hclr hB2 hs2 hpre hall hlen hprefix hsn hy0
     gi_wp2_with (refine ⟨trivial, ?_⟩; gi_at_call 197; refine (callsIn_wide.2 (htz.out _ (by exact htab.out))).mono ?_; rintro e w9 ⟨rfl, h9⟩; subst w9)
     refine hR.mono ?_
     rintro e W3 (⟨rfl, hJ3, hk3⟩ | ⟨rfl, hJx3⟩)
     ·gi_wp2
      rw [HB2.out]
      exact ⟨⟨y2, done ++ [64 * k + t], rfl, by omega, HS2.out, by rw [HSN.out]; exact hJ3, hni.trans hk3⟩, by simp [intOf]; omega⟩
     ·gi_wp2
      refine bodyPost_ret (results_none rfl _ _ _) rfl ?_
      exact ⟨⟨_, rfl⟩, .inr ⟨_, HPX.out, hJx3⟩⟩
  ·obtain rfl : k = len := by omega
   gi_wp2
   go_end0
   exact ⟨⟨_, rfl⟩, .inl ⟨_, rfl, hJ⟩⟩

set_option maxHeartbeats 1000000 in
theorem each_in (n : Nat) (p : Option Addr) (w : World) :
  CallsIn Fence.wide n Tryz.prog 175 #[.pointer p] w fun e w' => e = .returned (.func (.func 196) #[] #[.pointer (some ⟨w.heap.size, 0, none⟩)]) ∧ w' = w.alloc (.cells #[.pointer p] 143) := by
 refine callsIn_of_wp Tryz.func175 rfl trivial ?_ rfl
 simp only [Tryz.ntmps175, List.size_toArray, List.length_cons, List.length_nil, Nat.reduceAdd, Nat.reduceSub, Array.replicate_succ, Array.replicate_zero, List.push_toArray, List.append_toArray, List.nil_append, List.cons_append]
 gi_wp2
 go_ret
 exact ⟨rfl, rfl⟩

/-- The iterator hands over all places that are on, rising, or the first of them. -/
theorem each_stops (n : Nat) (hn : 1 ≤ n) (Bn n₀ b wb m : Nat) (ws : List Nat) (w : World) (hr : RowW w b wb m ws) (ht : Tab w) (hb : b < n₀) (hwb : wb < n₀) (hg : 0 < n₀) (hBn : Bn < w.heap.size) (hn₀ : n₀ ≤ w.heap.size)
  (hc : w.cell? ⟨Bn, 0, none⟩ = some (.pointer (some ⟨b, 0, none⟩))) :
  SeqStopsK Fence.wide n Tryz.prog 196 #[.pointer (some ⟨Bn, 0, none⟩)] (fun x : Int => #[Value.int .i64 x]) (Below n₀) (fun ys => ys = ints (onL (onB ws) (64 * ws.length))) (fun pre => pre <+: ints (onL (onB ws) (64 * ws.length))) (onL (onB ws) (64 * ws.length)).length w := fun l J Jx W hW _ _ hY h0 => by
 obtain ⟨cap, hc1⟩ := hr.c1
 have hW' := hW.mono hn₀
 exact each1_in n hn l Bn n₀ b wb ws.length cap ws rfl (by have := hr.words.len; have := hr.small; omega) hr.words.lt hwb hg J Jx hY W (ht.below hW' hg) ((hW.cell (p := ⟨Bn, 0, none⟩) hBn).trans hc)
  ((hW'.cell (p := ⟨b, 1, none⟩) hb).trans hc1) (fun k hk => (hW'.cell (p := ⟨wb, k, none⟩) hwb).trans (hr.mem.cell k hk)) h0

end Go.Proofs.YtnknejokneddbaaGreatDoor
/-! The contract of All of package bits: a new slice of the places that are on, rising; nothing that lay has turned. -/
namespace Go.Proofs.YtnknejokneddbaaGreatDoor
open Go.RowKit Go.Shelf
attribute [local go_sem] Oper.semAt_some

theorem Tryz.info3 : (Tryz.prog.info? 3).map (fun i => (i.zero, i.size, i.bytes)) = some (some (.int .i64 0), 1, 8) := by kernel_rfl

/-- What All leaves. -/
def AllPost (xs : List Int) (w : World) (e : Ending) (w' : World) : Prop :=
 ∃ v, e = .returned v ∧ w'.ownsRow w.heap.size 3 1 v xs.length (xs.map (Value.int .i64)) ∧ v ≠ .slice none 0 0 ∧ w.grownBy w' none

set_option maxRecDepth 100000 in
set_option maxHeartbeats 2000000 in
theorem all_in (n : Nat) (hn : 3 ≤ n) (b wb m : Nat) (ws : List Nat) (w : World) (hr : RowW w b wb m ws) (ht : Tab w) :
  CallsIn Fence.wide n Tryz.prog 151 #[.pointer (some ⟨b, 0, none⟩)] w (AllPost (ints (onL (onB ws) (64 * ws.length))) w) := by
 have h1 : 1 ≤ n := by omega
 have hro : Fence.wide.round = none := rfl
 obtain ⟨i0, hi, hz0, hz1, hz2⟩ := info_parts Tryz.info3
 have hcnt := Lib.hid (countW_c b wb m ws w hr)
 have hcl : cntW ws ws.length ≤ 1024 := by have := cntW_le ws ws.length; have := hr.words.len; have := hr.small; omega
 have hcd : cntW ws ws.length = (onL (onB ws) (64 * ws.length)).length := rfl
 have HCD := Lib.hid hcd
 clear hcd
 generalize hC : cntW ws ws.length = c at *
 have HC := Lib.hid hC
 clear hC
 have hmk := fun (w1 : World) => run_make (P := Tryz.prog) w1 42 3 i0 (.int .i64 0) Tryz.underlying42 hi hz0 .i64 .i64 0 (c : Int) (by omega) (by omega) (by rw [hz2]; omega) (by omega)
 simp only [hz1, Int.toNat_zero, Int.toNat_natCast, Nat.mul_one] at hmk
 have HR := Lib.hid hr
 have HT := Lib.hid ht
 clear hr ht
 refine callsIn_of_wp_marks Tryz.func151 rfl trivial ?_ hro
 simp only [Tryz.ntmps151, List.size_toArray, List.length_cons, List.length_nil, Nat.reduceAdd, Nat.reduceSub, Array.replicate_succ, Array.replicate_zero, List.push_toArray, List.append_toArray, List.nil_append, List.cons_append]
 gi_wp2_with (first | (refine ⟨trivial, ?_⟩; gi_at_call 103; refine (callsIn_wide.2 hcnt.out).mono ?_; rintro e w9 ⟨rfl, h9⟩; subst w9) | (refine ⟨trivial, ?_⟩; gi_at_call 175; refine (each_in (n - 1) _ _).mono ?_; rintro e w9 ⟨rfl, rfl⟩))
 have bO := Boxed.new (w.alloc (.cells (madeCells #[.int .i64 0] c) 3)) 42 (.slice (some ⟨w.heap.size, 0, none⟩) 0 c)
 rw [World.size_alloc] at bO
 have bN := Boxed.new ((w.alloc (.cells (madeCells #[.int .i64 0] c) 3)).alloc (.cells #[.slice (some ⟨w.heap.size, 0, none⟩) 0 c] 42)) 143 (.pointer (some ⟨b, 0, none⟩))
 rw [World.size_alloc, World.size_alloc] at bN
 have hown0 : (w.alloc (.cells (madeCells #[.int .i64 0] c) 3)).ownsRow w.heap.size 3 1 (.slice (some ⟨w.heap.size, 0, none⟩) 0 c) 0 [] :=
  World.ownsRow_made w _ c (Nat.le_refl _) (by unfold maxLen; omega) (by rw [size_madeCells, Nat.mul_one])
 have hB0 : Below w.heap.size w (((w.alloc (.cells (madeCells #[.int .i64 0] c) 3)).alloc (.cells #[.slice (some ⟨w.heap.size, 0, none⟩) 0 c] 42)).alloc (.cells #[.pointer (some ⟨b, 0, none⟩)] 143)) :=
  (((Below.refl _ w).alloc (Nat.le_refl _) _).alloc (by simp) _).alloc (by simp; omega) _
 have hr3 := HR.out.grown (below_grownBy hB0) (by simp) (by simp)
 have ht3 := HT.out.grown (below_grownBy hB0) (by simp)
 have hcL : (onL (onB ws) (64 * ws.length)).length ≤ 1024 := by rw [← HCD.out]; exact hcl
 refine wpIn_rangeFunc_ownG hro h1 (gf := 196) (lb := #[.pointer (some ⟨w.heap.size + 1 + 1, 0, none⟩)]) rfl trivial (enters_of Tryz.func196 (by kernel_rfl) rfl)
  (each_stops (n - 1) (by omega) (w.heap.size + 1 + 1) w.heap.size b wb m ws _ hr3 ht3 HR.out.hb HR.out.hw HT.out.1 (by simp) (by simp; omega) bN.cell) belowK_t (belowK_b (by simp; omega)) (Below.refl _ _) (fun _ => rfl)
  (fun pre W => (∃ v, Boxed W (w.heap.size + 1) 42 v ∧ W.ownsRow w.heap.size 3 1 v pre.length (pre.map (Value.int .i64)) ∧ v ≠ .slice none 0 0) ∧ Below w.heap.size w W)
  (fun _ _ _ => False)
  (OwnFrom.and (Own.from (holdsRow_own w.heap.size (w.heap.size + 1) 42 3 1 (fun pre : List Int => pre.length) (fun pre => pre.map (Value.int .i64)) (fun _ v => v ≠ .slice none 0 0)) _) (ownFrom_below (Nat.le_refl _) (by simp; omega)))
  (fun _ _ _ _ _ hs _ _ => hs)
  ⟨⟨_, bO.alloc _, (hown0.alloc _).alloc _, by intro e; cases e⟩, hB0⟩
  (fun x => { tmps := #[.pointer (some ⟨b, 0, none⟩), undef, .slice none 0 0, .pointer (some ⟨w.heap.size + 1, 0, none⟩), .int .i64 x, .pointer (some ⟨b, 0, none⟩), .int .i64 c, .slice (some ⟨w.heap.size, 0, none⟩) 0 c, .pointer (some ⟨b, 0, none⟩), .func (.func 196) #[] #[.pointer (some ⟨w.heap.size + 1 + 1, 0, none⟩)], .int .i64 x, undef, undef, undef, undef, undef], defers := [] }) ?assign ?body ?done ?stop
 case assign =>
  intro l x W K hK
  gi_wp2
  exact hK
 case body =>
  rintro l pre x W ⟨⟨v, hv, hrow, hnil⟩, hB⟩ hlt
  have hc := hv.cell
  have hpl : pre.length < 1024 := by omega
  gi_wp2_with (gi_at_builtin; refine wpListIn_append_own _ rfl _ _ 42 rfl w.heap.size 3 i0 (.int .i64 0) 1 8 Tryz.underlying42 hi hz0 hz1 hz2 rfl (by decide) _ _ _ rfl (hrow.alloc _) ⟨W.heap.size, 0, none⟩ 1 1 [.int .i64 x] rfl rfl (cell_one_new _ _ _) (by simp [Value.oneCell']) (by unfold maxLen; omega) (by omega) (by have := hB.size; simp; omega) ?_; intro v' w1 hown' hgrow _; obtain ⟨g', cap', rfl⟩ := ownsRow_succ hown'; obtain ⟨hv1, hv2, hr2, hk2, hb2⟩ := hv.appended (by decide) hrow hB.size (by omega) hown' hgrow; have hc1 := hv1.cell; have hf1 := hv1.frozen)
  exact ⟨hk2.from _, hb2, ⟨_, hv2, by simpa using hr2, by intro e; cases e⟩, hB.trans hb2⟩
 case done =>
  rintro D ys W hD rfl ⟨⟨v, hv, hrow, hnil⟩, hB⟩ hK
  have hc := hv.cell
  gi_wp2
  refine ⟨by simp, .inl ⟨_, _, rfl, run_takeDeferred hK, ?_⟩⟩
  exact ⟨_, results_tmp rfl _ _ _, v, rfl, ownsRow_putObj hrow _ hK rfl, hnil, below_grownBy (hB.trans (belowK_b (w := w) (Nat.le_refl _) W D _ _ (by simp at hD; omega) hK rfl rfl))⟩
 case stop =>
  rintro D c pre W _ _ h _
  exact h.elim

end Go.Proofs.YtnknejokneddbaaGreatDoor
/-! The contract of Or of package bits, of a row with itself: nothing becomes on. -/
namespace Go.Proofs.YtnknejokneddbaaGreatDoor
open Go.RowKit

theorem orF_self (n : Nat) (ws : List Nat) (k : Nat) : ws[k]?.getD 0 ||| (ws[k]?.getD 0 &&& plc n k) = ws[k]?.getD 0 := by
 apply Nat.eq_of_testBit_eq
 intro j
 rw [Nat.testBit_or, Nat.testBit_and]
 cases (ws[k]?.getD 0).testBit j <;> simp

theorem set_self (ws : List Nat) (k : Nat) : ws.set k (ws[k]?.getD 0) = ws := by
 by_cases h : k < ws.length
 ·rw [List.getElem?_eq_getElem h]; simp
 ·exact List.set_eq_of_length_le (by omega)

set_option maxHeartbeats 2000000 in
set_option maxRecDepth 20000 in
theorem or_self_w (b wb n : Nat) (ws : List Nat) (w : World) (h : RowW w b wb n ws) :
  Calls Tryz.prog 148 #[.pointer (some ⟨b, 0, none⟩), .pointer (some ⟨b, 0, none⟩)] w fun e w' => e = .returned (.bool false) ∧ RowW w' b wb n ws ∧ w.grownBy w' (some wb) := by
 have H := Lib.hid h
 have hne := Lib.hid h.ne
 have HW := Lib.hid h.words
 have hl : ws.length ≤ 16 := by have := h.words.len; have := h.small; omega
 have hlen := h.words.len
 have hn := h.small
 obtain ⟨cap, hc1⟩ := h.c1
 clear h
 generalize hN : ws.length = len at *
 have HN := Lib.hid hN
 have HL := Lib.hid hlen
 clear hN hlen
 go_enter Tryz.func148, Tryz.ntmps148
 go_wp2
 go_loopw [5, 13] (fun g i wr => ∃ k : Nat, k ≤ len ∧ i = .int .i64 k ∧ g = .bool false ∧ RowW wr b wb n ws ∧ w.grownBy wr (some wb)) (fun _ i _ => len - (intOf i).toNat)
 case atStart => exact ⟨0, Nat.zero_le _, rfl, rfl, H.out, grownBy_refl _ _⟩
 case round =>
  obtain ⟨k, hk, rfl, rfl, hrow, hgr⟩ := hrel
  by_cases hkl : k < len
  ·obtain ⟨cap', hc1'⟩ := hrow.c1
   rw [HN.out] at hc1'
   have hc0' := hrow.c0
   have hcl : k < ws.length := by rw [HN.out]; exact hkl
   have hcell := hrow.mem.cell k hcl
   have hfree := hrow.mem.free k hcl
   have hw := Lib.hid hrow
   have hB := Lib.hid (u64_and_nat (ws[k]?.getD 0) (plc n k) (HW.out.lt k) (plc_lt n k))
   have hB2 := Lib.hid (u64_or_nat (ws[k]?.getD 0) (ws[k]?.getD 0 &&& plc n k) (HW.out.lt k) (and64 _ (HW.out.lt k)))
   have hF := Lib.hid (orF_self n ws k)
   have hset := (hrow.kept (w' := wr.drewN 1) (Nat.le_refl _) rfl rfl).set hcl (ws[k]?.getD 0) (by rw [set_self]; exact HW.out)
   rw [set_self] at hset
   have hgs := Lib.hid (grownBy_trans (grownBy_trans hgr (grownBy_drewN wr 1 _)) (grownBy_setCell (wr.drewN 1) ⟨wb, k, none⟩ (.int .u64 (ws[k]?.getD 0 : Nat))))
   have HS := Lib.hid hset
   obtain ⟨cap3, hc3⟩ := hset.c1
   rw [HN.out] at hc3
   have hc4 := hset.mem.cell k hcl
   have hpl := Lib.hid (show 64 * k ≤ n by have := HL.out; omega)
   have hY : ws[k]?.getD 0 = ws[k]?.getD 0 := rfl
   clear hrow hcl hset
   generalize hX : ws[k]?.getD 0 = x at *
   have HX := Lib.hid hX
   clear hX hY
   generalize hZ : plc n k = z at *
   have HZ := Lib.hid hZ
   clear hZ
   have hc3' : (wr.setCell ⟨wb, k, none⟩ (.int .u64 (x : Nat))).cell? ⟨b, 1, none⟩ = some (.slice (some ⟨wb, 0, none⟩) len cap3) := hc3
   have hc4' : (wr.setCell ⟨wb, k, none⟩ (.int .u64 (x : Nat))).cell? ⟨wb, k, none⟩ = some (.int .u64 (x : Nat)) := hc4
   clear hc3 hc4
   go_wp2
   refine wp_region_still_tail 15 (by kernel_rfl) (by kernel_rfl) ?_
   simp only [List.take_succ_cons, List.take_zero, List.drop_succ_cons, List.drop_zero]
   repeat still_step
   still_call (word_c b wb n _ ws _ (by exact hw.out.kept (Nat.le_refl _) rfl rfl))
   rw [HX.out]
   repeat still_step
   still_call (places_c _ n _ _ (by exact hc0') hn hpl.out)
   rw [HZ.out]
   repeat still_step
   refine wpStill_nil ?_
   change wpList _ _ _ _ _ wr.drew
   rw [hB.out, hB2.out, hF.out]
   clear hB hB2 hF
   have hb1 : (((x : Nat) : Int) != ((x : Nat) : Int)) = false := by simp
   go_wp2
   exact ⟨⟨k + 1, by omega, by go_num, rfl, HS.out, hgs.out⟩, by simp [intOf]; omega⟩
  ·obtain rfl : k = len := by omega
   go_wp2
   go_ret
   exact ⟨rfl, hrow, hgr⟩

theorem or_self_c (b wb n : Nat) (S : Nat → Bool) (w : World) (h : IsSet w b wb n S) :
  Calls Tryz.prog 148 #[.pointer (some ⟨b, 0, none⟩), .pointer (some ⟨b, 0, none⟩)] w (OrPost b wb n false S w) := by
 obtain ⟨ws, hr, h1⟩ := h
 exact (or_self_w b wb n ws w hr).mono fun e w' ⟨a1, a2, a3⟩ => ⟨a1, ⟨ws, a2, h1⟩, a3⟩

end Go.Proofs.YtnknejokneddbaaGreatDoor
