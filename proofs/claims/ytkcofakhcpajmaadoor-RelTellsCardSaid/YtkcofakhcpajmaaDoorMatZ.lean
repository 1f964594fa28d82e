/- The contract of Only of package centoref2. -/
import Derived.Test.YtkcofakhcpajmaaDoorMatY
namespace Go.Proofs.YtkcofakhcpajmaaDoor
open Go.RowKit

theorem wpStill_skip {P : Program} {ops : Array Oper} {w : World} {Q : Act → Prop} {a : Act} {o : Oper} {rest : List Oper} (hw : Region.wanted o (yielded ops a.tmps) = false) (h : wpStill P ops w Q rest (a.put o.dst undef)) : wpStill P ops w Q (o :: rest) a :=
  wpStill_step (fun K hK => by rw [if_neg (by rw [hw]; simp)]; exact hK _ h)
theorem wpStill_want {P : Program} {ops : Array Oper} {w : World} {Q : Act → Prop} {a : Act} {o : Oper} {rest : List Oper} (hw : Region.wanted o (yielded ops a.tmps) = true) (h : ∀ K : Act → Prop, (∀ a, wpStill P ops w Q rest a → K a) → o.still P a w K) : wpStill P ops w Q (o :: rest) a :=
  wpStill_step (fun K hK => by rw [if_pos hw]; exact h K hK)

set_option maxRecDepth 100000 in
set_option maxHeartbeats 4000000 in
theorem matOnly_c (lo hi p n : Nat) (R : Nat → Nat → Bool) (kp : Option Addr) (K c klo khi : Nat) (keep : List Bool) (w : World) (h : IsMat w lo hi p n R) (hk : BoolsAt w klo khi kp K keep) (hK : K ≤ 1000000) : Calls Tryd.prog 20 #[.pointer (some ⟨p, 0, none⟩), .slice kp K c] w (MatPost n (onlyR keep R) w) := by
  have hn := h.small
  have hc0 := h.c0
  have H := Lib.hid h
  have HK := Lib.hid hk
  have HKLEN := Lib.hid hk.len
  have HSU := Lib.hid (onlyR_supp h.supp keep)
  clear h hk
  go_enter Tryd.func20, Tryd.ntmps20
  go_wp2_with fail
  refine (matNew_c n _ hn).mono ?_
  rintro e w1 ⟨q, rfl, hr1, hg1⟩
  have HR1 := Lib.hid hr1
  have HG1 := Lib.hid hg1
  clear hr1 hg1
  go_wp2_with fail
  go_loopw [6] (fun i wr => ∃ a : Nat, a ≤ n ∧ i = .int .i64 a ∧ IsMat wr w.heap.size w1.heap.size q n (firstR (onlyR keep R) a) ∧ w.grownBy wr none) (fun i _ => n - (intOf i).toNat)
  case atStart => exact ⟨0, Nat.zero_le _, rfl, by rw [firstR_zero]; exact HR1.out, HG1.out⟩
  case round =>
    obtain ⟨a, ha, rfl, hma, hga⟩ := hrel
    have hc0a := (H.out.calm hga).c0
    by_cases han : a < n
    · have HMA := Lib.hid hma
      have HGA := Lib.hid hga
      clear hma hga
      go_wp2_with fail
      go_loopw [7] (fun i wr => ∃ b : Nat, b ≤ n ∧ i = .int .i64 b ∧ IsMat wr w.heap.size w1.heap.size q n (partR (onlyR keep R) a b) ∧ w.grownBy wr none) (fun i _ => n - (intOf i).toNat)
      case atStart => exact ⟨0, Nat.zero_le _, rfl, by rw [partR_start]; exact HMA.out, HGA.out⟩
      case round =>
        obtain ⟨b, hb, rfl, hmb, hgb⟩ := hrel
        have hc0b := (H.out.calm hgb).c0
        by_cases hbn : b < n
        · obtain ⟨mb0, rb0, cap0, g1, g2, g3⟩ := (H.out.calm hgb).get han hbn
          obtain ⟨pm, mb, rb, cap, rfl, hc1, hcm, hcr, hfr, hput⟩ := hmb.put (T := partR (onlyR keep R) a (b + 1)) han hbn (onlyR keep R a b) (partR_put (onlyR keep R) a b) (partR_supp HSU.out a (b + 1))
          have HPUT := Lib.hid (hput (wr.drewN 1) rfl rfl rfl rfl)
          have HGB := Lib.hid hgb
          have KB := Lib.hid (HK.out.calm hgb)
          have a0 : (0 : Int) ≤ a := by omega
          have b0 : (0 : Int) ≤ b := by omega
          have a1 : (a : Int) < n := by omega
          have b1 : (b : Int) < n := by omega
          have HV : Hid (onlyR keep R a b = (R a b && (keptB keep a && keptB keep b))) := Lib.hid rfl
          clear hput hmb hgb
          generalize hOV : onlyR keep R a b = ov at *
          clear hOV
          go_wp2
          refine wp_region_still_tail 43 (by kernel_rfl) (by kernel_rfl) ?_
          simp only [List.take_succ_cons, List.take_zero, List.drop_succ_cons, List.drop_zero]
          iterate 19 still_step
          cases hrab : R a b
          · rw [hrab] at g3
            obtain rfl : ov = false := by rw [HV.out, hrab]; rfl
            clear hrab HV
            iterate 4 (refine wpStill_skip (by kernel_rfl) ?_; simp only [Act.put, List.setIfInBounds_toArray, List.set_cons_zero, List.set_cons_succ])
            iterate 2 (refine wpStill_want (by kernel_rfl) (fun K hK => ?_); go_simp; refine hK _ ?_; clear hK K)
            iterate 4 (refine wpStill_skip (by kernel_rfl) ?_; simp only [Act.put, List.setIfInBounds_toArray, List.set_cons_zero, List.set_cons_succ])
            iterate 2 (refine wpStill_want (by kernel_rfl) (fun K hK => ?_); go_simp; refine hK _ ?_; clear hK K)
            iterate 4 (refine wpStill_skip (by kernel_rfl) ?_; simp only [Act.put, List.setIfInBounds_toArray, List.set_cons_zero, List.set_cons_succ])
            iterate 2 (refine wpStill_want (by kernel_rfl) (fun K hK => ?_); go_simp; refine hK _ ?_; clear hK K)
            iterate 4 (refine wpStill_skip (by kernel_rfl) ?_; simp only [Act.put, List.setIfInBounds_toArray, List.set_cons_zero, List.set_cons_succ])
            iterate 2 (refine wpStill_want (by kernel_rfl) (fun K hK => ?_); go_simp; refine hK _ ?_; clear hK K)
            refine wpStill_nil ?_
            change wpList _ _ _ _ _ wr.drew
            go_wp2
            exact ⟨⟨b + 1, by omega, by go_num, HPUT.out.1, Kept.new HGB.out HPUT.out.2 (Nat.le_refl _)⟩, by simp [intOf]; omega⟩
          · rw [hrab] at g3
            by_cases haK : a < K
            · by_cases hbK : b < K
              · obtain ⟨kb, koff, rfl, kq1, kq2, kq3, hcs⟩ := KB.out.cell (by omega)
                have hca := hcs a haK
                have hcb := hcs b hbK
                clear hcs
                cases hka : keep[a]?.getD false
                · obtain rfl : ov = false := by rw [HV.out]; unfold keptB; rw [hka]; simp
                  rw [hka] at hca
                  clear hka hrab HV
                  iterate 18 (refine wpStill_want (by kernel_rfl) (fun K hK => ?_); go_simp; refine hK _ ?_; clear hK K)
                  iterate 4 (refine wpStill_skip (by kernel_rfl) ?_; simp only [Act.put, List.setIfInBounds_toArray, List.set_cons_zero, List.set_cons_succ])
                  iterate 2 (refine wpStill_want (by kernel_rfl) (fun K hK => ?_); go_simp; refine hK _ ?_; clear hK K)
                  refine wpStill_nil ?_
                  change wpList _ _ _ _ _ wr.drew
                  go_wp2
                  exact ⟨⟨b + 1, by omega, by go_num, HPUT.out.1, Kept.new HGB.out HPUT.out.2 (Nat.le_refl _)⟩, by simp [intOf]; omega⟩
                · cases hkb : keep[b]?.getD false
                  · obtain rfl : ov = false := by rw [HV.out]; unfold keptB; rw [hkb]; simp
                    rw [hka] at hca
                    rw [hkb] at hcb
                    clear hka hkb hrab HV
                    iterate 24 (refine wpStill_want (by kernel_rfl) (fun K hK => ?_); go_simp; refine hK _ ?_; clear hK K)
                    refine wpStill_nil ?_
                    change wpList _ _ _ _ _ wr.drew
                    go_wp2
                    exact ⟨⟨b + 1, by omega, by go_num, HPUT.out.1, Kept.new HGB.out HPUT.out.2 (Nat.le_refl _)⟩, by simp [intOf]; omega⟩
                  · obtain rfl : ov = true := by rw [HV.out]; unfold keptB; rw [hka, hkb, hrab]; rfl
                    rw [hka] at hca
                    rw [hkb] at hcb
                    clear hka hkb hrab HV
                    iterate 24 (refine wpStill_want (by kernel_rfl) (fun K hK => ?_); go_simp; refine hK _ ?_; clear hK K)
                    refine wpStill_nil ?_
                    change wpList _ _ _ _ _ wr.drew
                    go_wp2
                    exact ⟨⟨b + 1, by omega, by go_num, HPUT.out.1, Kept.new HGB.out HPUT.out.2 (Nat.le_refl _)⟩, by simp [intOf]; omega⟩
              · obtain rfl : ov = false := by rw [HV.out]; unfold keptB; rw [List.getElem?_eq_none (l := keep) (i := b) (by rw [HKLEN.out]; omega)]; simp
                have hbK' : decide (b < K) = false := by simp; omega
                clear hrab HV
                iterate 12 (refine wpStill_want (by kernel_rfl) (fun K hK => ?_); go_simp; refine hK _ ?_; clear hK K)
                iterate 4 (refine wpStill_skip (by kernel_rfl) ?_; simp only [Act.put, List.setIfInBounds_toArray, List.set_cons_zero, List.set_cons_succ])
                iterate 2 (refine wpStill_want (by kernel_rfl) (fun K hK => ?_); go_simp; refine hK _ ?_; clear hK K)
                iterate 4 (refine wpStill_skip (by kernel_rfl) ?_; simp only [Act.put, List.setIfInBounds_toArray, List.set_cons_zero, List.set_cons_succ])
                iterate 2 (refine wpStill_want (by kernel_rfl) (fun K hK => ?_); go_simp; refine hK _ ?_; clear hK K)
                refine wpStill_nil ?_
                change wpList _ _ _ _ _ wr.drew
                go_wp2
                exact ⟨⟨b + 1, by omega, by go_num, HPUT.out.1, Kept.new HGB.out HPUT.out.2 (Nat.le_refl _)⟩, by simp [intOf]; omega⟩
            · obtain rfl : ov = false := by rw [HV.out]; unfold keptB; rw [List.getElem?_eq_none (l := keep) (i := a) (by rw [HKLEN.out]; omega)]; simp
              have haK' : decide (a < K) = false := by simp; omega
              clear hrab HV
              iterate 6 (refine wpStill_want (by kernel_rfl) (fun K hK => ?_); go_simp; refine hK _ ?_; clear hK K)
              iterate 4 (refine wpStill_skip (by kernel_rfl) ?_; simp only [Act.put, List.setIfInBounds_toArray, List.set_cons_zero, List.set_cons_succ])
              iterate 2 (refine wpStill_want (by kernel_rfl) (fun K hK => ?_); go_simp; refine hK _ ?_; clear hK K)
              iterate 4 (refine wpStill_skip (by kernel_rfl) ?_; simp only [Act.put, List.setIfInBounds_toArray, List.set_cons_zero, List.set_cons_succ])
              iterate 2 (refine wpStill_want (by kernel_rfl) (fun K hK => ?_); go_simp; refine hK _ ?_; clear hK K)
              iterate 4 (refine wpStill_skip (by kernel_rfl) ?_; simp only [Act.put, List.setIfInBounds_toArray, List.set_cons_zero, List.set_cons_succ])
              iterate 2 (refine wpStill_want (by kernel_rfl) (fun K hK => ?_); go_simp; refine hK _ ?_; clear hK K)
              refine wpStill_nil ?_
              change wpList _ _ _ _ _ wr.drew
              go_wp2
              exact ⟨⟨b + 1, by omega, by go_num, HPUT.out.1, Kept.new HGB.out HPUT.out.2 (Nat.le_refl _)⟩, by simp [intOf]; omega⟩
        · obtain rfl : b = n := by omega
          rw [partR_end HSU.out] at hmb
          go_wp2
          exact ⟨⟨a + 1, by omega, by go_num, hmb, hgb⟩, by simp [intOf]; omega⟩
    · obtain rfl : a = n := by omega
      rw [firstR_all HSU.out] at hma
      have HE := Lib.hid (show MatPost a (onlyR keep R) w (.returned (.pointer (some ⟨q, 0, none⟩))) wr from ⟨q, rfl, hma.outer (Nat.le_refl _) hma.top, hga⟩)
      clear hma hga
      go_wp2
      go_ret
      exact HE.out

end Go.Proofs.YtkcofakhcpajmaaDoor
