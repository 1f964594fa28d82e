/- Plain facts on numbers: a word's bits as a list and as a count; the count by masks; the lowest bit. No condition but that words are below 2^64. -/
namespace Go.Proofs.YtdolcdededmlhaaDoor
namespace Bw

/-- The bits of the low n places of x, rising, each behind off. -/
def lsf : Nat → Nat → Nat → List Nat
  | 0, _, _ => []
  | n + 1, off, x => if x % 2 = 1 then off :: lsf n (off + 1) (x / 2) else lsf n (off + 1) (x / 2)

/-- How many of the low n places of x are on. -/
def pcn : Nat → Nat → Nat
  | 0, _ => 0
  | n + 1, x => x % 2 + pcn n (x / 2)

theorem pcn_succ (n x : Nat) : pcn (n + 1) x = x % 2 + pcn n (x / 2) := rfl

theorem lsf_length (n : Nat) : ∀ off x, (lsf n off x).length = pcn n x := by
  induction n with
  | zero => intro off x; rfl
  | succ n ih =>
    intro off x
    unfold lsf pcn
    split
    · rename_i h; simp [ih, h]; omega
    · rename_i h; rw [ih]; omega

theorem testBit_half (x i : Nat) : x.testBit (i + 1) = (x / 2).testBit i := by
  rw [Nat.testBit_succ]

theorem lsf_filter (n : Nat) : ∀ off x, lsf n off x = ((List.range n).filter (fun i => x.testBit i)).map (fun i => off + i) := by
  induction n with
  | zero => intro off x; rfl
  | succ n ih =>
    intro off x
    unfold lsf
    rw [List.range_succ_eq_map, List.filter_cons, List.filter_map]
    have e : (fun i => x.testBit i) ∘ Nat.succ = fun i => (x / 2).testBit i := by
      funext i; exact testBit_half x i
    rw [e, ih]
    have hz : x.testBit 0 = decide (x % 2 = 1) := Nat.testBit_zero x
    by_cases h : x % 2 = 1
    · rw [if_pos h, if_pos (by rw [hz]; simpa using h)]
      simp only [List.map_cons, List.map_map, Nat.add_zero]
      congr 1
      apply List.map_congr_left
      intro i _
      simp only [Function.comp]
      omega
    · rw [if_neg h, if_neg (by rw [hz]; simpa using h)]
      simp only [List.map_map]
      apply List.map_congr_left
      intro i _
      simp only [Function.comp]
      omega

theorem pcn_filter (n x : Nat) : pcn n x = ((List.range n).filter (fun i => x.testBit i)).length := by
  rw [← lsf_length n 0 x, lsf_filter]; simp

theorem pcn_le (n : Nat) : ∀ x, pcn n x ≤ n := by
  induction n with
  | zero => intro x; exact Nat.le_refl _
  | succ n ih => intro x; unfold pcn; have := ih (x / 2); omega

theorem pcn_zero (n : Nat) : pcn n 0 = 0 := by
  induction n with
  | zero => rfl
  | succ n ih => unfold pcn; simp [ih]

theorem pcn_add (a : Nat) : ∀ b x, pcn (a + b) x = pcn a x + pcn b (x / 2 ^ a) := by
  induction a with
  | zero => intro b x; simp [pcn]
  | succ a ih =>
    intro b x
    rw [show a + 1 + b = (a + b) + 1 from by omega, pcn_succ, pcn_succ, ih, Nat.div_div_eq_div_mul, Nat.pow_succ, Nat.mul_comm 2 (2 ^ a), Nat.add_assoc]

theorem pcn_mod (a : Nat) : ∀ x, pcn a (x % 2 ^ a) = pcn a x := by
  induction a with
  | zero => intro x; rfl
  | succ a ih =>
    intro x
    unfold pcn
    have e1 : x % 2 ^ (a + 1) % 2 = x % 2 := by
      rw [Nat.pow_succ, Nat.mul_comm]
      exact Nat.mod_mul_right_mod x 2 (2 ^ a)
    have e2 : x % 2 ^ (a + 1) / 2 = x / 2 % 2 ^ a := by
      rw [Nat.pow_succ, Nat.mul_comm]
      exact Nat.mod_mul_right_div_self x 2 (2 ^ a)
    rw [e1, e2, ih]

/-! ### Lanes -/

theorem and_lane (k lo hi mlo mhi : Nat) (h1 : lo < 2 ^ k) (h2 : mlo < 2 ^ k) :
    (2 ^ k * hi + lo) &&& (2 ^ k * mhi + mlo) = 2 ^ k * (hi &&& mhi) + (lo &&& mlo) := by
  apply Nat.eq_of_testBit_eq
  intro i
  have h3 : lo &&& mlo < 2 ^ k := Nat.and_lt_two_pow _ h2
  rw [Nat.testBit_and, Nat.testBit_two_pow_mul_add _ h1, Nat.testBit_two_pow_mul_add _ h2, Nat.testBit_two_pow_mul_add _ h3]
  split
  · rw [Nat.testBit_and]
  · rw [Nat.testBit_and]

theorem or_lane (k lo hi mlo mhi : Nat) (h1 : lo < 2 ^ k) (h2 : mlo < 2 ^ k) :
    (2 ^ k * hi + lo) ||| (2 ^ k * mhi + mlo) = 2 ^ k * (hi ||| mhi) + (lo ||| mlo) := by
  apply Nat.eq_of_testBit_eq
  intro i
  have h3 : lo ||| mlo < 2 ^ k := Nat.or_lt_two_pow h1 h2
  rw [Nat.testBit_or, Nat.testBit_two_pow_mul_add _ h1, Nat.testBit_two_pow_mul_add _ h2, Nat.testBit_two_pow_mul_add _ h3]
  split
  · rw [Nat.testBit_or]
  · rw [Nat.testBit_or]

/-- and by a mask, a byte at a time. -/
theorem and_byte (x m mlo mhi : Nat) (hm : m = 256 * mhi + mlo) (h : mlo < 256) : x &&& m = 256 * (x / 256 &&& mhi) + (x % 256 &&& mlo) := by
  have := and_lane 8 (x % 256) (x / 256) mlo mhi (by omega) (by omega)
  rw [show 2 ^ 8 * (x / 256) + x % 256 = x from by omega] at this
  rw [hm]
  exact this

def f1 (y : Nat) : Nat := (y / 2 &&& 85) + (y &&& 85)
def f2 (y : Nat) : Nat := (y / 4 &&& 51) + (y &&& 51)
def f3 (y : Nat) : Nat := (y / 16 + y) &&& 15

theorem m85 : ∀ l : Fin 128, (l.val + 128) &&& 85 = l.val &&& 85 := by decide +kernel
theorem m51 : ∀ c : Fin 4, ∀ l : Fin 64, (l.val + 64 * c.val) &&& 51 = l.val &&& 51 := by decide +kernel
theorem f1_lt : ∀ l : Fin 256, f1 l.val ≤ 170 := by decide +kernel
theorem f2_lt : ∀ l : Fin 171, f2 l.val ≤ 255 := by decide +kernel
theorem f21 : ∀ l : Fin 256, f2 (f1 l.val) ≤ 68 ∧ f2 (f1 l.val) % 16 ≤ 4 := by decide +kernel
theorem f321 : ∀ l : Fin 256, f3 (f2 (f1 l.val)) = pcn 8 l.val := by decide +kernel

/-- The masks of n bytes. -/
def rep (b : Nat) : Nat → Nat
  | 0 => 0
  | n + 1 => 256 * rep b n + b

/-- A function, byte by byte. -/
def lanes (f : Nat → Nat) : Nat → Nat → Nat
  | 0, _ => 0
  | n + 1, x => 256 * lanes f n (x / 256) + f (x % 256)

theorem step1 (n : Nat) : ∀ x, (x / 2 &&& rep 85 n) + (x &&& rep 85 n) = lanes f1 n x := by
  induction n with
  | zero => intro x; simp [rep, lanes]
  | succ n ih =>
    intro x
    have hr : rep 85 (n + 1) = 256 * rep 85 n + 85 := rfl
    rw [and_byte (x / 2) (rep 85 (n + 1)) 85 (rep 85 n) hr (by omega), and_byte x (rep 85 (n + 1)) 85 (rep 85 n) hr (by omega)]
    unfold lanes
    rw [← ih (x / 256)]
    have e1 : x / 2 / 256 = x / 256 / 2 := by omega
    have e2 : x / 2 % 256 &&& 85 = x % 256 / 2 &&& 85 := by
      by_cases h : x / 256 % 2 = 1
      · have := m85 ⟨x % 256 / 2, by omega⟩
        simp only at this
        rw [← this]
        congr 1
        omega
      · congr 1
        omega
    rw [e1, e2]
    unfold f1
    omega

theorem step2 (n : Nat) : ∀ x, (x / 4 &&& rep 51 n) + (x &&& rep 51 n) = lanes f2 n x := by
  induction n with
  | zero => intro x; simp [rep, lanes]
  | succ n ih =>
    intro x
    have hr : rep 51 (n + 1) = 256 * rep 51 n + 51 := rfl
    rw [and_byte (x / 4) (rep 51 (n + 1)) 51 (rep 51 n) hr (by omega), and_byte x (rep 51 (n + 1)) 51 (rep 51 n) hr (by omega)]
    unfold lanes
    rw [← ih (x / 256)]
    have e1 : x / 4 / 256 = x / 256 / 4 := by omega
    have e2 : x / 4 % 256 &&& 51 = x % 256 / 4 &&& 51 := by
      have := m51 ⟨x / 256 % 4, by omega⟩ ⟨x % 256 / 4, by omega⟩
      simp only at this
      rw [← this]
      congr 1
      omega
    rw [e1, e2]
    unfold f2
    omega

theorem lanes_succ (f : Nat → Nat) (n x : Nat) : lanes f (n + 1) x = 256 * lanes f n (x / 256) + f (x % 256) := rfl
theorem lanes_mod {f : Nat → Nat} {n x : Nat} (h : f (x % 256) < 256) : lanes f (n + 1) x % 256 = f (x % 256) := by rw [lanes_succ]; omega
theorem lanes_div {f : Nat → Nat} {n x : Nat} (h : f (x % 256) < 256) : lanes f (n + 1) x / 256 = lanes f n (x / 256) := by rw [lanes_succ]; omega

theorem lanes21 (n : Nat) : ∀ x, lanes f2 n (lanes f1 n x) = lanes (fun y => f2 (f1 y)) n x := by
  induction n with
  | zero => intro x; rfl
  | succ n ih =>
    intro x
    have h1 : f1 (x % 256) < 256 := by have := f1_lt ⟨x % 256, by omega⟩; simp only at this; omega
    have e : lanes f2 (n + 1) (lanes f1 (n + 1) x) = 256 * lanes f2 n (lanes f1 (n + 1) x / 256) + f2 (lanes f1 (n + 1) x % 256) := rfl
    rw [e, lanes_mod h1, lanes_div h1, ih]
    rfl

/-- What every byte of z is: both halves small. -/
def Small : Nat → Nat → Prop
  | 0, z => z = 0
  | n + 1, z => z % 256 ≤ 68 ∧ z % 16 ≤ 4 ∧ Small n (z / 256)

theorem small_low {n z : Nat} (h : Small n z) : z % 16 ≤ 4 := by
  cases n with
  | zero => unfold Small at h; omega
  | succ n => unfold Small at h; exact h.2.1

theorem small21 (n : Nat) : ∀ x, Small n (lanes (fun y => f2 (f1 y)) n x) := by
  induction n with
  | zero => intro x; rfl
  | succ n ih =>
    intro x
    have h := f21 ⟨x % 256, by omega⟩
    simp only at h
    unfold Small
    have hm : lanes (fun y => f2 (f1 y)) (n + 1) x % 256 = f2 (f1 (x % 256)) := lanes_mod (by omega)
    have hd : lanes (fun y => f2 (f1 y)) (n + 1) x / 256 = lanes (fun y => f2 (f1 y)) n (x / 256) := lanes_div (by omega)
    refine ⟨by omega, by omega, ?_⟩
    rw [hd]
    exact ih _

theorem and15 (x : Nat) : x &&& 15 = x % 16 := Nat.and_two_pow_sub_one_eq_mod x 4

theorem step3 (n : Nat) : ∀ z, Small n z → (z / 16 + z) &&& rep 15 n = lanes f3 n z := by
  induction n with
  | zero => intro z _; simp [rep, lanes]
  | succ n ih =>
    intro z hz
    have hr : rep 15 (n + 1) = 256 * rep 15 n + 15 := rfl
    unfold Small at hz
    obtain ⟨h1, h2, h3⟩ := hz
    have h4 := small_low h3
    rw [and_byte (z / 16 + z) (rep 15 (n + 1)) 15 (rep 15 n) hr (by omega)]
    have e1 : (z / 16 + z) / 256 = z / 256 / 16 + z / 256 := by omega
    unfold lanes
    rw [e1, ih _ h3]
    have e2 : (z / 16 + z) % 256 &&& 15 = f3 (z % 256) := by
      unfold f3
      rw [and15, and15]
      omega
    rw [e2]

theorem lanes3 (n : Nat) : ∀ x, lanes f3 n (lanes (fun y => f2 (f1 y)) n x) = lanes (pcn 8) n x := by
  induction n with
  | zero => intro x; rfl
  | succ n ih =>
    intro x
    have h := f21 ⟨x % 256, by omega⟩
    have g := f321 ⟨x % 256, by omega⟩
    simp only at h g
    have e : lanes f3 (n + 1) (lanes (fun y => f2 (f1 y)) (n + 1) x) = 256 * lanes f3 n (lanes (fun y => f2 (f1 y)) (n + 1) x / 256) + f3 (lanes (fun y => f2 (f1 y)) (n + 1) x % 256) := rfl
    rw [e, lanes_mod (f := fun y => f2 (f1 y)) (by omega), lanes_div (f := fun y => f2 (f1 y)) (by omega), ih]
    show _ + f3 (f2 (f1 (x % 256))) = _
    rw [g]
    rfl

/-- The count by masks, ahead of the sums of the bytes. -/
def swar3 (x : Nat) : Nat :=
  let a := (x / 2 &&& 6148914691236517205) + (x &&& 6148914691236517205)
  let b := (a / 4 &&& 3689348814741910323) + (a &&& 3689348814741910323)
  (b / 16 + b) &&& 1085102592571150095

theorem swar3_eq (x : Nat) : swar3 x = lanes (pcn 8) 8 x := by
  have r1 : rep 85 8 = 6148914691236517205 := by decide +kernel
  have r2 : rep 51 8 = 3689348814741910323 := by decide +kernel
  have r3 : rep 15 8 = 1085102592571150095 := by decide +kernel
  unfold swar3
  simp only
  rw [← r1, ← r2, ← r3, step1, step2, lanes21, step3 8 _ (small21 8 x), lanes3]

theorem div_up (k A r : Nat) (h : r < k) : (k * A + r) / k = A := by
  rw [Nat.mul_add_div (by omega), Nat.div_eq_of_lt h, Nat.add_zero]

theorem fold_bound (x : Nat) (h : x ≤ 1152921504606846976) : x + x / 256 < 18446744073709551616 ∧ (x + x / 256) + (x + x / 256) / 65536 < 18446744073709551616 ∧ ((x + x / 256) + (x + x / 256) / 65536) + ((x + x / 256) + (x + x / 256) / 65536) / 4294967296 < 18446744073709551616 := by
  generalize hy : x + x / 256 = y
  have h1 : y ≤ 2305843009213693952 := by omega
  clear hy
  generalize hz : y + y / 65536 = z
  have h2 : z ≤ 4611686018427387904 := by omega
  omega

theorem fold_sums (p0 p1 p2 p3 p4 p5 p6 p7 : Nat) (h0 : p0 ≤ 8) (h1 : p1 ≤ 8) (h2 : p2 ≤ 8) (h3 : p3 ≤ 8) (h4 : p4 ≤ 8) (h5 : p5 ≤ 8) (h6 : p6 ≤ 8) (h7 : p7 ≤ 8) (x : Nat)
    (hx : x = 256 * (256 * (256 * (256 * (256 * (256 * (256 * p7 + p6) + p5) + p4) + p3) + p2) + p1) + p0) :
    (((x + x / 256) + (x + x / 256) / 65536) + ((x + x / 256) + (x + x / 256) / 65536) / 4294967296) % 128 = p0 + p1 + p2 + p3 + p4 + p5 + p6 + p7 ∧ x ≤ 1152921504606846976 := by
  refine ⟨?_, by omega⟩
  have e1 : x / 256 = 256 * (256 * (256 * (256 * (256 * (256 * p7 + p6) + p5) + p4) + p3) + p2) + p1 := by
    rw [hx]; exact div_up 256 _ _ (by omega)
  have hy2 : x + x / 256 = 65536 * (256 * (256 * (256 * (256 * (256 * p7 + (p6 + p7)) + (p5 + p6)) + (p4 + p5)) + (p3 + p4)) + (p2 + p3)) + (256 * (p1 + p2) + (p0 + p1)) := by
    rw [e1, hx]; clear e1 hx; omega
  generalize x + x / 256 = y at hy2 ⊢
  clear e1 hx
  have e2 : y / 65536 = 256 * (256 * (256 * (256 * (256 * p7 + (p6 + p7)) + (p5 + p6)) + (p4 + p5)) + (p3 + p4)) + (p2 + p3) := by
    rw [hy2]; exact div_up 65536 _ _ (by omega)
  have hz2 : y + y / 65536 = 4294967296 * (256 * (256 * (256 * p7 + (p6 + p7)) + (p5 + p6 + p7)) + (p4 + p5 + p6 + p7)) + (256 * (256 * (256 * (p3 + p4 + p5 + p6) + (p2 + p3 + p4 + p5)) + (p1 + p2 + p3 + p4)) + (p0 + p1 + p2 + p3)) := by
    rw [e2, hy2]; clear e2 hy2; omega
  generalize y + y / 65536 = z at hz2 ⊢
  clear e2 hy2
  have e3 : z / 4294967296 = 256 * (256 * (256 * p7 + (p6 + p7)) + (p5 + p6 + p7)) + (p4 + p5 + p6 + p7) := by
    rw [hz2]; exact div_up 4294967296 _ _ (by omega)
  have hu2 : z + z / 4294967296 = 128 * (2 * (16777216 * (256 * (256 * (256 * p7 + (p6 + p7)) + (p5 + p6 + p7)) + (p4 + p5 + p6 + p7)) + (256 * (256 * (p3 + p4 + p5 + p6) + (p2 + p3 + p4 + p5)) + (p1 + p2 + p3 + p4)) + (256 * (256 * p7 + (p6 + p7)) + (p5 + p6 + p7)))) + (p0 + p1 + p2 + p3 + p4 + p5 + p6 + p7) := by
    rw [e3, hz2]; clear e3 hz2; omega
  rw [hu2, Nat.mul_add_mod, Nat.mod_eq_of_lt (by omega)]

/-- The whole count by masks. -/
def swar (x : Nat) : Nat :=
  (((swar3 x + swar3 x / 256) + (swar3 x + swar3 x / 256) / 65536) + ((swar3 x + swar3 x / 256) + (swar3 x + swar3 x / 256) / 65536) / 4294967296) % 128

theorem pcn64 (x : Nat) : pcn 64 x = pcn 8 (x % 256) + pcn 8 (x / 256 % 256) + pcn 8 (x / 256 / 256 % 256) + pcn 8 (x / 256 / 256 / 256 % 256) + pcn 8 (x / 256 / 256 / 256 / 256 % 256) + pcn 8 (x / 256 / 256 / 256 / 256 / 256 % 256) + pcn 8 (x / 256 / 256 / 256 / 256 / 256 / 256 % 256) + pcn 8 (x / 256 / 256 / 256 / 256 / 256 / 256 / 256 % 256) := by
  have h : ∀ b x, pcn (8 + b) x = pcn 8 (x % 256) + pcn b (x / 256) := by
    intro b x
    have := pcn_add 8 b x
    have m := pcn_mod 8 x
    simp only [Nat.reducePow] at this m
    rw [this, m]
  have h8 : ∀ x, pcn 8 x = pcn 8 (x % 256) := by
    intro x
    have m := pcn_mod 8 x
    simp only [Nat.reducePow] at m
    exact m.symm
  rw [h 56, h 48, h 40, h 32, h 24, h 16, h 8, h8 (x / 256 / 256 / 256 / 256 / 256 / 256 / 256)]
  omega

theorem swar_eq (x : Nat) : swar x = pcn 64 x ∧ swar3 x + swar3 x / 256 < 18446744073709551616 ∧ (swar3 x + swar3 x / 256) + (swar3 x + swar3 x / 256) / 65536 < 18446744073709551616 ∧ ((swar3 x + swar3 x / 256) + (swar3 x + swar3 x / 256) / 65536) + ((swar3 x + swar3 x / 256) + (swar3 x + swar3 x / 256) / 65536) / 4294967296 < 18446744073709551616 := by
  have e : swar3 x = 256 * (256 * (256 * (256 * (256 * (256 * (256 * pcn 8 (x / 256 / 256 / 256 / 256 / 256 / 256 / 256 % 256) + pcn 8 (x / 256 / 256 / 256 / 256 / 256 / 256 % 256)) + pcn 8 (x / 256 / 256 / 256 / 256 / 256 % 256)) + pcn 8 (x / 256 / 256 / 256 / 256 % 256)) + pcn 8 (x / 256 / 256 / 256 % 256)) + pcn 8 (x / 256 / 256 % 256)) + pcn 8 (x / 256 % 256)) + pcn 8 (x % 256) := by
    rw [swar3_eq]
    simp only [lanes]
    omega
  have := fold_sums _ _ _ _ _ _ _ _ (pcn_le 8 _) (pcn_le 8 _) (pcn_le 8 _) (pcn_le 8 _) (pcn_le 8 _) (pcn_le 8 _) (pcn_le 8 _) (pcn_le 8 _) (swar3 x) e
  unfold swar
  rw [pcn64, this.1]
  refine ⟨?_, fold_bound _ this.2⟩
  omega

/-! ### The lowest bit -/

theorem odd_part (x : Nat) (h : 0 < x) : ∃ k m, x = 2 ^ k * (2 * m + 1) := by
  induction x using Nat.strongRecOn with
  | _ x ih =>
    by_cases e : x % 2 = 1
    · exact ⟨0, x / 2, by simp; omega⟩
    · obtain ⟨k, m, hk⟩ := ih (x / 2) (by omega) (by omega)
      refine ⟨k + 1, m, ?_⟩
      rw [Nat.pow_succ, Nat.mul_assoc, Nat.mul_left_comm, ← hk]
      omega

theorem lsf_even (n off y : Nat) : lsf (n + 1) off (2 * y) = lsf n (off + 1) y := by
  have h : ¬ (2 * y) % 2 = 1 := by omega
  have d : 2 * y / 2 = y := by omega
  rw [lsf, if_neg h, d]

theorem lsf_odd (n off m : Nat) : lsf (n + 1) off (2 * m + 1) = off :: lsf n (off + 1) m := by
  have h : (2 * m + 1) % 2 = 1 := by omega
  have d : (2 * m + 1) / 2 = m := by omega
  rw [lsf, if_pos h, d]

theorem lsf_shift (k : Nat) : ∀ n off y, lsf (k + n) off (2 ^ k * y) = lsf n (off + k) y := by
  induction k with
  | zero => intro n off y; simp
  | succ k ih =>
    intro n off y
    rw [show k + 1 + n = (k + n) + 1 from by omega, Nat.pow_succ, Nat.mul_comm (2 ^ k) 2, Nat.mul_assoc, lsf_even, ih]
    congr 1
    omega

theorem lt_of_part {k m : Nat} (h : 2 ^ k * (2 * m + 1) < 2 ^ 64) : k < 64 := by
  have h1 : 2 ^ k ≤ 2 ^ k * (2 * m + 1) := Nat.le_mul_of_pos_right _ (by omega)
  exact (Nat.pow_lt_pow_iff_right (by omega : 1 < 2)).1 (Nat.lt_of_le_of_lt h1 h)

/-- What the loop over a word does: the lowest place first, then the word without it. -/
theorem lsf_low {x k m : Nat} (hx : x = 2 ^ k * (2 * m + 1)) (hk : k < 64) (off : Nat) : lsf 64 off x = (off + k) :: lsf 64 off (2 ^ k * (2 * m)) := by
  rw [hx, show (64 : Nat) = k + ((63 - k) + 1) from by omega, lsf_shift, lsf_odd, lsf_shift, lsf_even]

theorem low_clear {x k m : Nat} (hx : x = 2 ^ k * (2 * m + 1)) : x &&& (x - 1) = 2 ^ k * (2 * m) := by
  have hp : 0 < 2 ^ k := Nat.two_pow_pos k
  have e1 : x = 2 ^ k * (2 * m + 1) + 0 := by omega
  have e2 : x - 1 = 2 ^ k * (2 * m) + (2 ^ k - 1) := by
    rw [hx, Nat.mul_add]; omega
  rw [e2]
  have a := and_lane k 0 (2 * m + 1) (2 ^ k - 1) (2 * m) hp (by omega)
  rw [← e1] at a
  rw [a]
  have b := and_lane 1 1 m 0 m (by omega) (by omega)
  simp only [Nat.pow_one, Nat.add_zero, Nat.and_self, Nat.and_zero] at b
  rw [b]
  simp

theorem low_bit {x k m : Nat} (hx : x = 2 ^ k * (2 * m + 1)) (h : x < 2 ^ 64) : x &&& (2 ^ 64 - x) = 2 ^ k := by
  have hp : 0 < 2 ^ k := Nat.two_pow_pos k
  have hk : k < 64 := lt_of_part (m := m) (by rw [← hx]; exact h)
  have hs : 2 ^ 64 = 2 ^ k * (2 * 2 ^ (63 - k)) := by
    rw [← Nat.pow_succ', ← Nat.pow_add]; congr 1; omega
  have hm : m < 2 ^ (63 - k) := by
    have : 2 ^ k * (2 * m + 1) < 2 ^ k * (2 * 2 ^ (63 - k)) := by rw [← hs, ← hx]; exact h
    have := Nat.lt_of_mul_lt_mul_left this
    omega
  have e2 : 2 ^ 64 - x = 2 ^ k * (2 * (2 ^ (63 - k) - (m + 1)) + 1) := by
    rw [hs, hx, ← Nat.mul_sub]
    congr 1
    omega
  have e1 : x = 2 ^ k * (2 * m + 1) + 0 := by omega
  have a := and_lane k 0 (2 * m + 1) 0 (2 * (2 ^ (63 - k) - (m + 1)) + 1) hp hp
  simp only [Nat.add_zero] at a
  rw [← e2, ← hx] at a
  rw [a]
  have b := and_lane 1 1 m 1 (2 ^ (63 - k) - (m + 1)) (by omega) (by omega)
  simp only [Nat.pow_one] at b
  rw [b]
  have c : m &&& (2 ^ (63 - k) - (m + 1)) = 0 := by
    apply Nat.eq_of_testBit_eq
    intro i
    rw [Nat.testBit_and, Nat.testBit_two_pow_sub_succ hm, Nat.zero_testBit]
    cases m.testBit i <;> simp
  rw [c]
  simp

/-- The table of the lowest places. -/
def tab : List Nat := [0, 1, 56, 2, 57, 49, 28, 3, 61, 58, 42, 50, 38, 29, 17, 4, 62, 47, 59, 36, 45, 43, 51, 22, 53, 39, 33, 30, 24, 18, 12, 5, 63, 55, 48, 27, 60, 41, 37, 16, 46, 35, 44, 21, 52, 32, 23, 11, 54, 26, 40, 15, 34, 20, 31, 10, 25, 14, 19, 9, 13, 8, 7, 6]

theorem tab_low : ∀ k : Fin 64, tab[(2 ^ k.val * 285870213051353865 % 18446744073709551616) / 288230376151711744]?.getD 0 = k.val ∧ (2 ^ k.val * 285870213051353865 % 18446744073709551616) / 288230376151711744 < 64 := by decide +kernel

end Bw
end Go.Proofs.YtdolcdededmlhaaDoor
