/- Contracts of the small functions of package bits, and of math/bits.OnesCount64: what each returns, the world left as it was (or draws alone made). -/
import Derived.WalkKit
import Derived.WalkSpells
import Derived.WalkLawsBesides
import Derived.Deep.QuietTactic
import Derived.BigQuiet
import Derived.Lib.Hide
import Derived.Test.YtdolcdededmlhaaDoorRows
import Derived.Test.YtdolcdededmlhaaDoorRow
namespace Go.Proofs.YtdolcdededmlhaaDoor
open Go.RowKit

/-- The bit of place i in its word: a name that the walk does not open. -/
def pw (i : Nat) : Nat := 2 ^ (i % 64)

theorem ret_int {k : IntKind} {a b : Int} (h : a = b) : Ending.returned (.int k a) = .returned (.int k b) := by rw [h]
theorem ret_bool {a b : Bool} (h : a = b) : Ending.returned (.bool a) = .returned (.bool b) := by rw [h]

theorem wrap64_pow (i : Nat) : IntKind.u64.wrap (2 ^ (i % 64)) = (pw i : Int) := by
  unfold pw
  have h := pow_lt64 i
  have hq : ((2 : Int) ^ (i % 64)) = ((2 ^ (i % 64) : Nat) : Int) := by norm_cast
  rw [hq, IntKind.wrap_u64]
  generalize 2 ^ (i % 64) = q at *
  omega

theorem bit_c (i : Nat) (w : World) : Calls Tryd.prog 60 #[.int .i64 i] w fun e w' => e = .returned (.int .u64 (pw i : Int)) ∧ w' = w := by
  have H := Lib.hid (wrap64_pow i)
  go_enter Tryd.func60, Tryd.ntmps60
  go_wp2
  go_ret
  rw [H.out]
  exact ⟨rfl, rfl⟩

theorem isPlace_yes (b : Nat) (n i : Int) (w : World) (hc : w.cell? ⟨b, 0, none⟩ = some (.int .i64 n)) (h0 : 0 ≤ i) (h1 : i < n) : Calls Tryd.prog 59 #[.pointer (some ⟨b, 0, none⟩), .int .i64 i] w fun e w' => e = .returned (.bool true) ∧ w' = w := by
  go_enter Tryd.func59, Tryd.ntmps59
  go_wp2
  go_ret
  exact ⟨rfl, rfl⟩

theorem isPlace_no (b : Nat) (n i : Int) (w : World) (hc : w.cell? ⟨b, 0, none⟩ = some (.int .i64 n)) (h : i < 0 ∨ n ≤ i) : Calls Tryd.prog 59 #[.pointer (some ⟨b, 0, none⟩), .int .i64 i] w fun e w' => e = .returned (.bool false) ∧ w' = w := by
  by_cases h0 : i < 0
  · clear h
    go_enter Tryd.func59, Tryd.ntmps59
    go_wp2
    go_ret
    exact ⟨rfl, rfl⟩
  · have h1 : 0 ≤ i := by omega
    have h2 : decide (i < n) = false := by simp; omega
    clear h
    go_enter Tryd.func59, Tryd.ntmps59
    go_wp2
    go_ret
    exact ⟨rfl, rfl⟩

theorem word_nil (k : Nat) (w : World) : Calls Tryd.prog 69 #[.pointer none, .int .i64 k] w fun e w' => e = .returned (.int .u64 0) ∧ w' = w := by
  go_enter Tryd.func69, Tryd.ntmps69
  go_wp2
  go_ret
  exact ⟨rfl, rfl⟩

theorem word_c (b wb n k : Nat) (ws : List Nat) (w : World) (h : RowW w b wb n ws) : Calls Tryd.prog 69 #[.pointer (some ⟨b, 0, none⟩), .int .i64 k] w fun e w' => e = .returned (.int .u64 (ws[k]?.getD 0 : Nat)) ∧ w' = w := by
  obtain ⟨cap, hc⟩ := h.c1
  have hl := h.words.len
  have hs := h.small
  by_cases hk : k < ws.length
  · have hcw := h.mem.cell k hk
    generalize hx : ws[k]?.getD 0 = x at *
    have hb : (decide (ws.length ≤ k)) = false := by simp; omega
    generalize ws.length = len at *
    clear hx hl h
    go_enter Tryd.func69, Tryd.ntmps69
    go_wp2
    go_ret
    exact ⟨rfl, rfl⟩
  · have hz : ws[k]?.getD 0 = 0 := by rw [List.getElem?_eq_none (by omega)]; rfl
    rw [hz]
    have hb : (decide (ws.length ≤ k)) = true := by simp; omega
    generalize ws.length = len at *
    clear hl h hz
    go_enter Tryd.func69, Tryd.ntmps69
    go_wp2
    go_ret
    exact ⟨rfl, rfl⟩

theorem places_c (b n k : Nat) (w : World) (hc : w.cell? ⟨b, 0, none⟩ = some (.int .i64 n)) (hn : n ≤ 1000) (hk : 64 * k ≤ n) : Calls Tryd.prog 70 #[.pointer (some ⟨b, 0, none⟩), .int .i64 k] w fun e w' => e = .returned (.int .u64 (plc n k : Nat)) ∧ w' = w := by
  by_cases h : 64 ≤ n - 64 * k
  · have hp : plc n k = 18446744073709551615 := by unfold plc; rw [if_pos h]
    have hd : decide ((64 : Int) ≤ (n : Int) - (k : Int) * 64) = true := by simp; omega
    have HP := Lib.hid hp
    clear hp
    go_enter Tryd.func70, Tryd.ntmps70
    go_wp2
    go_ret
    rw [HP.out]
    exact ⟨rfl, rfl⟩
  · have hp : plc n k = 2 ^ (n - 64 * k) - 1 := by unfold plc; rw [if_neg h]
    have hd : decide ((64 : Int) ≤ (n : Int) - (k : Int) * 64) = false := by simp; omega
    have h64 : 2 ^ (n - 64 * k) < 2 ^ 64 := Nat.pow_lt_pow_right (by omega) (by omega)
    have hpos := Nat.two_pow_pos (n - 64 * k)
    have h0 : (0 : Int) ≤ (n : Int) - (k : Int) * 64 := by omega
    have HP := Lib.hid hp
    have H64 := Lib.hid h64
    have HPOS := Lib.hid hpos
    clear hp h64 hpos
    go_enter Tryd.func70, Tryd.ntmps70
    go_wp2
    go_ret
    refine ⟨ret_int ?_, rfl⟩
    rw [HP.out]
    have h64 := H64.out
    have hpos := HPOS.out
    rw [Nat.mul_comm k 64, show ((2 : Int) ^ (n - 64 * k)) = ((2 ^ (n - 64 * k) : Nat) : Int) from by norm_cast]
    clear HP H64 HPOS
    generalize 2 ^ (n - 64 * k) = q at *
    rw [IntKind.wrap_u64, IntKind.wrap_u64]
    omega

theorem and_u (A M : Int) (a m : Nat) (hA : A = a) (hM : M = m) (ha : a < 18446744073709551616) (hm : m < 18446744073709551616) : bits .and .u64 A M = ((a &&& m : Nat) : Int) := by
  rw [hA, hM]; exact u64_and_nat a m ha hm
theorem wrap_add (a b c : Nat) (h : a + b = c) (hc : c < 18446744073709551616) : IntKind.u64.wrap ((a : Int) + (b : Int)) = (c : Int) := by
  rw [IntKind.wrap_u64]; omega

def o1 (x : Int) : Int := IntKind.u64.wrap (bits .and .u64 (x / 2) 6148914691236517205 + bits .and .u64 x 6148914691236517205)
def o2 (x : Int) : Int := IntKind.u64.wrap (bits .and .u64 (x / 4) 3689348814741910323 + bits .and .u64 x 3689348814741910323)
def o3 (x : Int) : Int := bits .and .u64 (IntKind.u64.wrap (x / 16 + x)) 1085102592571150095
def o4 (d x : Int) : Int := IntKind.u64.wrap (x + x / d)

theorem o1_eq (x : Nat) (h : x < 18446744073709551616) : o1 x = (((x / 2 &&& 6148914691236517205) + (x &&& 6148914691236517205) : Nat) : Int) := by
  have b1 : x / 2 &&& 6148914691236517205 ≤ 6148914691236517205 := Nat.and_le_right
  have b2 : x &&& 6148914691236517205 ≤ 6148914691236517205 := Nat.and_le_right
  unfold o1
  rw [and_u ((x : Int) / 2) 6148914691236517205 (x / 2) 6148914691236517205 (by omega) rfl (by omega) (by omega), and_u (x : Int) 6148914691236517205 x 6148914691236517205 rfl rfl h (by omega)]
  exact wrap_add _ _ _ rfl (by omega)
theorem o2_eq (x : Nat) (h : x < 18446744073709551616) : o2 x = (((x / 4 &&& 3689348814741910323) + (x &&& 3689348814741910323) : Nat) : Int) := by
  have b1 : x / 4 &&& 3689348814741910323 ≤ 3689348814741910323 := Nat.and_le_right
  have b2 : x &&& 3689348814741910323 ≤ 3689348814741910323 := Nat.and_le_right
  unfold o2
  rw [and_u ((x : Int) / 4) 3689348814741910323 (x / 4) 3689348814741910323 (by omega) rfl (by omega) (by omega), and_u (x : Int) 3689348814741910323 x 3689348814741910323 rfl rfl h (by omega)]
  exact wrap_add _ _ _ rfl (by omega)
theorem o3_eq (x : Nat) (h : x ≤ 7378697629483820646) : o3 x = (((x / 16 + x) &&& 1085102592571150095 : Nat) : Int) := by
  unfold o3
  exact and_u _ 1085102592571150095 (x / 16 + x) 1085102592571150095 (by rw [IntKind.wrap_u64]; omega) rfl (by omega) (by omega)
theorem o4_eq (d x : Nat) (h : x + x / d < 18446744073709551616) : o4 d x = ((x + x / d : Nat) : Int) := by
  unfold o4
  rw [← Int.natCast_ediv]
  exact wrap_add _ _ _ rfl h

theorem wrap_mod (u : Nat) : wrap64 (u : Int) % 128 = ((u % 128 : Nat) : Int) := by
  unfold wrap64
  omega

theorem ones_eq (x : Nat) (h : x < 18446744073709551616) : bits .and .i64 (wrap64 (o4 4294967296 (o4 65536 (o4 256 (o3 (o2 (o1 x))))))) 127 = (Bw.pcn 64 x : Int) := by
  obtain ⟨s0, s1, s2, s3⟩ := Bw.swar_eq x
  have b1 : x / 2 &&& 6148914691236517205 ≤ 6148914691236517205 := Nat.and_le_right
  have b2 : x &&& 6148914691236517205 ≤ 6148914691236517205 := Nat.and_le_right
  have e3 : o3 (o2 (o1 x)) = (Bw.swar3 x : Int) := by
    rw [o1_eq x h]
    generalize ha : (x / 2 &&& 6148914691236517205) + (x &&& 6148914691236517205) = a
    have la : a < 18446744073709551616 := by omega
    rw [o2_eq a la]
    have c1 : a / 4 &&& 3689348814741910323 ≤ 3689348814741910323 := Nat.and_le_right
    have c2 : a &&& 3689348814741910323 ≤ 3689348814741910323 := Nat.and_le_right
    rw [o3_eq _ (by omega)]
    unfold Bw.swar3
    rw [ha]
  rw [e3]
  unfold Bw.swar at s0
  generalize Bw.swar3 x = y at *
  have d1 := o4_eq 256 y s1
  have d2 := o4_eq 65536 (y + y / 256) s2
  have d3 := o4_eq 4294967296 _ s3
  rw [show ((256 : Nat) : Int) = 256 from rfl] at d1
  rw [show ((65536 : Nat) : Int) = 65536 from rfl] at d2
  rw [show ((4294967296 : Nat) : Int) = 4294967296 from rfl] at d3
  rw [d1, d2, d3, i64_and127, ← s0]
  clear d1 d2 d3 s0 s1 s2 e3 b1 b2 h
  generalize y + y / 256 + (y + y / 256) / 65536 + (y + y / 256 + (y + y / 256) / 65536) / 4294967296 = u at *
  exact wrap_mod u

theorem ones_c (x : Nat) (w : World) (h : x < 18446744073709551616) : Calls Tryd.prog 52 #[.int .u64 x] w fun e w' => e = .returned (.int .i64 (Bw.pcn 64 x : Nat)) ∧ w' = w := by
  go_enter Tryd.func52, Tryd.ntmps52
  go_wp2
  go_ret
  exact ⟨ret_int (ones_eq x h), rfl⟩

set_option maxHeartbeats 400000 in
theorem has_no (b : Nat) (n i : Int) (w : World) (hc : w.cell? ⟨b, 0, none⟩ = some (.int .i64 n)) (h : i < 0 ∨ n ≤ i) : Calls Tryd.prog 49 #[.pointer (some ⟨b, 0, none⟩), .int .i64 i] w fun e w' => e = .returned (.bool false) ∧ ∃ m, w' = w.drewN m := by
  have H := Lib.hid h
  clear h
  go_enter Tryd.func49, Tryd.ntmps49
  go_wp2
  go_quiet ((go_at_call 59; exact Calls.quiet_of_same (isPlace_no _ _ _ _ (by exact hc) H.out)))
  go_wp2
  go_ret
  exact ⟨rfl, _, rfl⟩

theorem has_bit (x i : Nat) (hx : x < 18446744073709551616) : (bits .and .u64 (x : Int) (pw i : Int) != 0) = x.testBit (i % 64) := by
  unfold pw
  rw [u64_and_nat _ _ hx (pow_lt64 i)]
  have e : x &&& 2 ^ (i % 64) = if x.testBit (i % 64) then 2 ^ (i % 64) else 0 := by
    apply Nat.eq_of_testBit_eq
    intro j
    rw [Nat.testBit_and, Nat.testBit_two_pow]
    by_cases h : i % 64 = j
    · subst h
      cases x.testBit (i % 64)
      · simp
      · simp
    · simp only [h, decide_false, Bool.and_false]
      split
      · rw [Nat.testBit_two_pow]; simp [h]
      · simp
  rw [e]
  have := Nat.two_pow_pos (i % 64)
  clear e
  generalize 2 ^ (i % 64) = q at *
  cases x.testBit (i % 64)
  · simp
  · simp
    omega

set_option maxHeartbeats 400000 in
theorem has_yes (b wb n i : Nat) (ws : List Nat) (w : World) (h : RowW w b wb n ws) (hi : i < n) : Calls Tryd.prog 49 #[.pointer (some ⟨b, 0, none⟩), .int .i64 i] w fun e w' => e = .returned (.bool (onB ws i)) ∧ ∃ m, w' = w.drewN m := by
  obtain ⟨cap, hc1⟩ := h.c1
  have hc := h.c0
  have hk : i / 64 < ws.length := by rw [h.words.len]; omega
  have hw := h.mem.cell _ hk
  have hs := h.small
  have HX := Lib.hid (has_bit (ws[i / 64]?.getD 0) i (h.words.lt _))
  have ho : onB ws i = (ws[i / 64]?.getD 0).testBit (i % 64) := rfl
  rw [ho]
  clear ho
  generalize ws[i / 64]?.getD 0 = x at *
  generalize ws.length = len at *
  clear h
  have hq : IntKind.i64.wrap ((i : Int) / 64) = ((i / 64 : Nat) : Int) := by rw [IntWalk.i64_in _ (by omega)]; omega
  generalize i / 64 = q at *
  go_enter Tryd.func49, Tryd.ntmps49
  go_wp2
  go_quiet ((first | (go_at_call 59; exact Calls.quiet_of_same (isPlace_yes _ _ _ _ (by exact hc) (by omega) (by omega))) | (go_at_call 60; exact Calls.quiet_of_same (bit_c _ _))))
  go_wp2
  go_ret
  rw [HX.out]
  exact ⟨rfl, _, rfl⟩

end Go.Proofs.YtdolcdededmlhaaDoor
