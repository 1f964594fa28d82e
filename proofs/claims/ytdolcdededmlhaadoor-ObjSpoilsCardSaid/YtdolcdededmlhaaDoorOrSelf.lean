/- The contract of Or of package bits, of a row with itself: nothing becomes on. -/
import Derived.Test.YtdolcdededmlhaaDoorJoin
namespace Go.Proofs.YtdolcdededmlhaaDoor
open Go.RowKit

theorem orF_self (n : Nat) (ws : List Nat) (k : Nat) : ws[k]?.getD 0 ||| (ws[k]?.getD 0 &&& plc n k) = ws[k]?.getD 0 := by
  apply Nat.eq_of_testBit_eq
  intro j
  rw [Nat.testBit_or, Nat.testBit_and]
  cases (ws[k]?.getD 0).testBit j <;> simp

theorem set_self (ws : List Nat) (k : Nat) : ws.set k (ws[k]?.getD 0) = ws := by
  by_cases h : k < ws.length
  · rw [List.getElem?_eq_getElem h]; simp
  · exact List.set_eq_of_length_le (by omega)

set_option maxHeartbeats 2000000 in
set_option maxRecDepth 20000 in
theorem or_self_w (b wb n : Nat) (ws : List Nat) (w : World) (h : RowW w b wb n ws) :
    Calls Tryd.prog 64 #[.pointer (some ⟨b, 0, none⟩), .pointer (some ⟨b, 0, none⟩)] w fun e w' => e = .returned (.bool false) ∧ RowW w' b wb n ws ∧ w.grownBy w' (some wb) := by
  have H := Lib.hid h
  have hne := Lib.hid h.ne
  have HW := Lib.hid h.words
  have hl : ws.length ≤ 16 := by have := h.words.len; have := h.small; omega
  have hlen := h.words.len
  have hn := h.small
  obtain ⟨cap, hc1⟩ := h.c1
  clear h
  generalize hN : ws.length = len at *
  have HN := Lib.hid hN
  have HL := Lib.hid hlen
  clear hN hlen
  go_enter Tryd.func64, Tryd.ntmps64
  go_wp2
  go_loopw [5, 13] (fun g i wr => ∃ k : Nat, k ≤ len ∧ i = .int .i64 k ∧ g = .bool false ∧ RowW wr b wb n ws ∧ w.grownBy wr (some wb)) (fun _ i _ => len - (intOf i).toNat)
  case atStart => exact ⟨0, Nat.zero_le _, rfl, rfl, H.out, grownBy_refl _ _⟩
  case round =>
    obtain ⟨k, hk, rfl, rfl, hrow, hgr⟩ := hrel
    by_cases hkl : k < len
    · obtain ⟨cap', hc1'⟩ := hrow.c1
      rw [HN.out] at hc1'
      have hc0' := hrow.c0
      have hcl : k < ws.length := by rw [HN.out]; exact hkl
      have hcell := hrow.mem.cell k hcl
      have hfree := hrow.mem.free k hcl
      have hw := Lib.hid hrow
      have hB := Lib.hid (u64_and_nat (ws[k]?.getD 0) (plc n k) (HW.out.lt k) (plc_lt n k))
      have hB2 := Lib.hid (u64_or_nat (ws[k]?.getD 0) (ws[k]?.getD 0 &&& plc n k) (HW.out.lt k) (and64 _ (HW.out.lt k)))
      have hF := Lib.hid (orF_self n ws k)
      have hset := (hrow.kept (w' := wr.drewN 1) (Nat.le_refl _) rfl rfl).set hcl (ws[k]?.getD 0) (by rw [set_self]; exact HW.out)
      rw [set_self] at hset
      have hgs := Lib.hid (grownBy_trans (grownBy_trans hgr (grownBy_drewN wr 1 _)) (grownBy_setCell (wr.drewN 1) ⟨wb, k, none⟩ (.int .u64 (ws[k]?.getD 0 : Nat))))
      have HS := Lib.hid hset
      obtain ⟨cap3, hc3⟩ := hset.c1
      rw [HN.out] at hc3
      have hc4 := hset.mem.cell k hcl
      have hpl := Lib.hid (show 64 * k ≤ n by have := HL.out; omega)
      have hY : ws[k]?.getD 0 = ws[k]?.getD 0 := rfl
      clear hrow hcl hset
      generalize hX : ws[k]?.getD 0 = x at *
      have HX := Lib.hid hX
      clear hX hY
      generalize hZ : plc n k = z at *
      have HZ := Lib.hid hZ
      clear hZ
      have hc3' : (wr.setCell ⟨wb, k, none⟩ (.int .u64 (x : Nat))).cell? ⟨b, 1, none⟩ = some (.slice (some ⟨wb, 0, none⟩) len cap3) := hc3
      have hc4' : (wr.setCell ⟨wb, k, none⟩ (.int .u64 (x : Nat))).cell? ⟨wb, k, none⟩ = some (.int .u64 (x : Nat)) := hc4
      clear hc3 hc4
      go_wp2
      refine wp_region_still_tail 15 (by kernel_rfl) (by kernel_rfl) ?_
      simp only [List.take_succ_cons, List.take_zero, List.drop_succ_cons, List.drop_zero]
      repeat still_step
      still_call (word_c b wb n _ ws _ (by exact hw.out.kept (Nat.le_refl _) rfl rfl))
      rw [HX.out]
      repeat still_step
      still_call (places_c _ n _ _ (by exact hc0') hn hpl.out)
      rw [HZ.out]
      repeat still_step
      refine wpStill_nil ?_
      change wpList _ _ _ _ _ wr.drew
      rw [hB.out, hB2.out, hF.out]
      clear hB hB2 hF
      have hb1 : (((x : Nat) : Int) != ((x : Nat) : Int)) = false := by simp
      go_wp2
      exact ⟨⟨k + 1, by omega, by go_num, rfl, HS.out, hgs.out⟩, by simp [intOf]; omega⟩
    · obtain rfl : k = len := by omega
      go_wp2
      go_ret
      exact ⟨rfl, hrow, hgr⟩

theorem or_self_c (b wb n : Nat) (S : Nat → Bool) (w : World) (h : IsSet w b wb n S) :
    Calls Tryd.prog 64 #[.pointer (some ⟨b, 0, none⟩), .pointer (some ⟨b, 0, none⟩)] w (OrPost b wb n false S w) := by
  obtain ⟨ws, hr, h1⟩ := h
  exact (or_self_w b wb n ws w hr).mono fun e w' ⟨a1, a2, a3⟩ => ⟨a1, ⟨ws, a2, h1⟩, a3⟩

end Go.Proofs.YtdolcdededmlhaaDoor
