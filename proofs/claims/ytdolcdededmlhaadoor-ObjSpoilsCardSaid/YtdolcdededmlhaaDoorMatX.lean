/- The contracts of Closure, Same, Pairs, Only of package centoref2. -/
import Derived.Test.YtdolcdededmlhaaDoorMatW
namespace Go.Proofs.YtdolcdededmlhaaDoor
open Go.RowKit

/-- Rows ahead of a behind the steps over v; of row a the first b marks. -/
def innV (W : Nat → Nat → Bool) (v a b x y : Nat) : Bool := if x < a ∨ (x = a ∧ y < b) then wvia W v x y else W x y
theorem innV_start (W : Nat → Nat → Bool) (v a : Nat) : innV W v a 0 = midV W v a := by
  funext x y
  unfold innV midV
  by_cases h : x < a
  · rw [if_pos (.inl h), if_pos h]
  · rw [if_neg (by omega), if_neg h]
theorem innV_end {n : Nat} {W : Nat → Nat → Bool} (h : Supp n W) (v a : Nat) : innV W v a n = midV W v (a + 1) := by
  funext x y
  unfold innV midV
  by_cases hx : x < a + 1
  · rw [if_pos hx]
    by_cases hc : x < a ∨ (x = a ∧ y < n)
    · rw [if_pos hc]
    · rw [if_neg hc]
      cases hw : wvia W v x y
      · cases hr : W x y
        · rfl
        · have := (h x y hr).2; omega
      · have := (wvia_supp h v x y hw).2; omega
  · rw [if_neg (by omega), if_neg hx]
theorem innV_supp {n : Nat} {W : Nat → Nat → Bool} (h : Supp n W) (v a b : Nat) : Supp n (innV W v a b) := fun x y e => by
  unfold innV at e
  split at e
  · exact wvia_supp h v x y e
  · exact h x y e
theorem innV_yes {W : Nat → Nat → Bool} {v a b : Nat} (h1 : W a v = true) (h2 : W v b = true) (x y : Nat) : innV W v a (b + 1) x y = if x = a ∧ y = b then true else innV W v a b x y := by
  unfold innV
  by_cases h : x = a ∧ y = b
  · rw [if_pos h, if_pos (by omega), h.1, h.2]
    exact (wvia_iff _ _ _ _).2 (.inr ⟨h1, h2⟩)
  · rw [if_neg h]
    by_cases h2 : x < a ∨ (x = a ∧ y < b)
    · rw [if_pos (by omega), if_pos h2]
    · rw [if_neg (by omega), if_neg h2]
theorem innV_no {W : Nat → Nat → Bool} {v a b : Nat} (h2 : W v b = false) : innV W v a (b + 1) = innV W v a b := by
  funext x y
  unfold innV
  by_cases h : x = a ∧ y = b
  · rw [if_pos (by omega), if_neg (by omega), h.1, h.2]
    unfold wvia
    rw [h2]
    simp
  · by_cases h2 : x < a ∨ (x = a ∧ y < b)
    · rw [if_pos (by omega), if_pos h2]
    · rw [if_neg (by omega), if_neg h2]
theorem innV_row (W : Nat → Nat → Bool) (v a b : Nat) : innV W v a b v b = W v b := by
  unfold innV
  split
  · exact wvia_row W v b
  · rfl
theorem midV_at (W : Nat → Nat → Bool) (v a y : Nat) : midV W v a a y = W a y := by simp [midV]
theorem midV_skip {W : Nat → Nat → Bool} {v a : Nat} (h : W a v = false) : midV W v (a + 1) = midV W v a := by
  funext x y
  rw [midV_succ]
  split
  · rename_i e
    subst e
    simp [midV, wvia, h]
  · rfl

set_option maxHeartbeats 4000000 in
theorem matClosure_c (lo hi p n : Nat) (R : Nat → Nat → Bool) (w : World) (h : IsMat w lo hi p n R) : Calls Tryd.prog 44 #[.pointer (some ⟨p, 0, none⟩)] w (MatPost n (clo n R) w) := by
  have hn := h.small
  have H := Lib.hid h
  have HSU := Lib.hid h.supp
  clear h
  go_enter Tryd.func44, Tryd.ntmps44
  go_wp2_with fail
  refine (matCopy_c lo hi p n R _ H.out).mono ?_
  rintro e w1 ⟨q, rfl, hr1, hg1⟩
  have HR1 := Lib.hid hr1
  have HG1 := Lib.hid hg1
  clear hr1 hg1
  go_wp2_with fail
  go_loopw [4] (fun i wr => ∃ v : Nat, v ≤ n ∧ i = .int .i64 v ∧ IsMat wr w.heap.size w1.heap.size q n (warsh R v) ∧ w.grownBy wr none) (fun i _ => n - (intOf i).toNat)
  case atStart => exact ⟨0, Nat.zero_le _, rfl, HR1.out, HG1.out⟩
  case round =>
    obtain ⟨v, hv, rfl, hmv, hgv⟩ := hrel
    have hc0v := hmv.c0
    by_cases hvn : v < n
    · have HSW := Lib.hid hmv.supp
      have HWS : Hid (warsh R (v + 1) = wvia (warsh R v) v) := Lib.hid rfl
      generalize hW : warsh R v = W at *
      clear hW
      have HMV := Lib.hid hmv
      have HGV := Lib.hid hgv
      clear hmv hgv
      go_wp2_with fail
      go_loopw [5] (fun i wr => ∃ a : Nat, a ≤ n ∧ i = .int .i64 a ∧ IsMat wr w.heap.size w1.heap.size q n (midV W v a) ∧ w.grownBy wr none) (fun i _ => n - (intOf i).toNat)
      case atStart => exact ⟨0, Nat.zero_le _, rfl, by rw [midV_zero]; exact HMV.out, HGV.out⟩
      case round =>
        obtain ⟨a, ha, rfl, hma, hga⟩ := hrel
        have hc0a := hma.c0
        by_cases han : a < n
        · obtain ⟨mb0, rb0, cap0, g1, g2, g3⟩ := hma.get han hvn
          rw [midV_at] at g3
          have HMA := Lib.hid hma
          have HGA := Lib.hid hga
          have a0 : (0 : Int) ≤ a := by omega
          have v0 : (0 : Int) ≤ v := by omega
          have a1 : (a : Int) < n := by omega
          have v1 : (v : Int) < n := by omega
          clear hma hga
          cases hav : W a v
          · rw [hav] at g3
            have HSK := Lib.hid (midV_skip hav)
            clear hav
            go_wp2
            exact ⟨⟨a + 1, by omega, by go_num, by rw [HSK.out]; exact HMA.out, HGA.out⟩, by simp [intOf]; omega⟩
          · rw [hav] at g3
            have HAV := Lib.hid hav
            clear hav
            go_wp2_with fail
            go_loopw [6] (fun i wr => ∃ b : Nat, b ≤ n ∧ i = .int .i64 b ∧ IsMat wr w.heap.size w1.heap.size q n (innV W v a b) ∧ w.grownBy wr none) (fun i _ => n - (intOf i).toNat)
            case atStart => exact ⟨0, Nat.zero_le _, rfl, by rw [innV_start]; exact HMA.out, HGA.out⟩
            case round =>
              obtain ⟨b, hb, rfl, hmb, hgb⟩ := hrel
              have hc0b := hmb.c0
              by_cases hbn : b < n
              · obtain ⟨mb1, rb1, cap1, e1, e2, e3⟩ := hmb.get hvn hbn
                rw [innV_row] at e3
                have b0 : (0 : Int) ≤ b := by omega
                have b1 : (b : Int) < n := by omega
                cases hvb : W v b
                · rw [hvb] at e3
                  have HSK := Lib.hid (innV_no (a := a) hvb)
                  have HMB := Lib.hid hmb
                  have HGB := Lib.hid hgb
                  clear hvb hmb hgb
                  go_wp2
                  exact ⟨⟨b + 1, by omega, by go_num, by rw [HSK.out]; exact HMB.out, HGB.out⟩, by simp [intOf]; omega⟩
                · rw [hvb] at e3
                  obtain ⟨pm, mb, rb, cap, rfl, hc1, hcm, hcr, hfr, hput⟩ := hmb.put (T := innV W v a (b + 1)) han hbn true (innV_yes HAV.out hvb) (innV_supp HSW.out v a (b + 1))
                  have HPUT := Lib.hid (hput wr rfl rfl rfl rfl)
                  have HGB := Lib.hid hgb
                  have he : (Value.slice (some ⟨mb, 0, none⟩) n cap) = .slice (some ⟨mb1, 0, none⟩) n cap1 := by
                    rw [hc1] at e1; exact Option.some.inj e1
                  simp only [Value.slice.injEq, Option.some.injEq, Addr.mk.injEq, and_true, true_and] at he
                  obtain ⟨rfl, rfl⟩ := he
                  clear hput hvb hmb hgb hc1
                  go_wp2
                  exact ⟨⟨b + 1, by omega, by go_num, HPUT.out.1, Kept.new HGB.out HPUT.out.2 (Nat.le_refl _)⟩, by simp [intOf]; omega⟩
              · obtain rfl : b = n := by omega
                rw [innV_end HSW.out] at hmb
                go_wp2
                exact ⟨⟨a + 1, by omega, by go_num, hmb, hgb⟩, by simp [intOf]; omega⟩
        · obtain rfl : a = n := by omega
          rw [midV_all HSW.out] at hma
          go_wp2
          exact ⟨⟨v + 1, by omega, by go_num, by rw [HWS.out]; exact hma, hga⟩, by simp [intOf]; omega⟩
    · obtain rfl : v = n := by omega
      have HE := Lib.hid (show MatPost v (clo v R) w (.returned (.pointer (some ⟨q, 0, none⟩))) wr from ⟨q, rfl, hmv.outer (Nat.le_refl _) hmv.top, hgv⟩)
      clear hmv hgv
      go_wp2
      go_ret
      exact HE.out

/-- Whether two relations of n elements are the same. -/
def sameR (n : Nat) (R T : Nat → Nat → Bool) : Bool := (List.range n).all fun a => (List.range n).all fun b => R a b == T a b
theorem sameR_iff {n : Nat} {R T : Nat → Nat → Bool} (h1 : Supp n R) (h2 : Supp n T) : sameR n R T = true ↔ R = T := by
  unfold sameR
  simp only [List.all_eq_true, List.mem_range, beq_iff_eq]
  constructor
  · intro h
    funext a b
    by_cases hab : a < n ∧ b < n
    · exact h a hab.1 b hab.2
    · cases hr : R a b
      · cases ht : T a b
        · rfl
        · exact absurd (h2 a b ht) hab
      · exact absurd (h1 a b hr) hab
  · rintro rfl a _ b _
    rfl

set_option maxHeartbeats 4000000 in
theorem matSame_r (lo hi p lo2 hi2 p2 n : Nat) (R T : Nat → Nat → Bool) (r : Bool) (w : World) (h : IsMat w lo hi p n R) (h2 : IsMat w lo2 hi2 p2 n T) (hr : sameR n R T = r) : Calls Tryd.prog 55 #[.pointer (some ⟨p, 0, none⟩), .pointer (some ⟨p2, 0, none⟩)] w fun e w' => e = .returned (.bool r) ∧ w.grownBy w' none := by
  have hn := h.small
  have hc0 := h.c0
  have hd0 := h2.c0
  have H := Lib.hid h
  have H2 := Lib.hid h2
  have HR := Lib.hid hr
  have hnn : ((n : Int) != (n : Int)) = false := by simp
  clear h h2 hr
  go_enter Tryd.func55, Tryd.ntmps55
  go_wp2
  go_quiet (fail)
  go_wp2
  go_loopw [5] (fun i wr => ∃ a : Nat, a ≤ n ∧ i = .int .i64 a ∧ Hid (∀ x, x < a → ∀ y, y < n → R x y = T x y) ∧ w.grownBy wr none) (fun i _ => n - (intOf i).toNat)
  case atStart => exact ⟨0, Nat.zero_le _, rfl, Lib.hid (fun x hx => by omega), grownBy_drewN _ _ _⟩
  case round =>
    obtain ⟨a, ha, rfl, HX, hga⟩ := hrel
    have hc0a := (H.out.calm hga).c0
    by_cases han : a < n
    · have HGA := Lib.hid hga
      clear hga
      go_wp2_with fail
      go_loopw [6] (fun i wr => ∃ b : Nat, b ≤ n ∧ i = .int .i64 b ∧ Hid (∀ y, y < b → R a y = T a y) ∧ w.grownBy wr none) (fun i _ => n - (intOf i).toNat)
      case atStart => exact ⟨0, Nat.zero_le _, rfl, Lib.hid (fun x hx => by omega), HGA.out⟩
      case round =>
        obtain ⟨b, hb, rfl, HY, hgb⟩ := hrel
        have hc0b := (H.out.calm hgb).c0
        by_cases hbn : b < n
        · obtain ⟨mb0, rb0, cap0, g1, g2, g3⟩ := (H.out.calm hgb).get han hbn
          obtain ⟨mb1, rb1, cap1, e1, e2, e3⟩ := (H2.out.calm hgb).get han hbn
          have HGB := Lib.hid hgb
          have a0 : (0 : Int) ≤ a := by omega
          have b0 : (0 : Int) ≤ b := by omega
          have a1 : (a : Int) < n := by omega
          have b1 : (b : Int) < n := by omega
          clear hgb
          by_cases heq : R a b = T a b
          · have HY2 : Hid (∀ y, y < b + 1 → R a y = T a y) := Lib.hid (fun y hy => by
              by_cases e : y = b
              · subst e; exact heq
              · exact HY.out y (by omega))
            rw [heq] at g3
            clear heq
            generalize T a b = v at *
            cases v
            all_goals
              go_wp2
              go_quiet (fail)
              go_wp2
              exact ⟨⟨b + 1, by omega, by go_num, HY2, grownBy_trans HGB.out (grownBy_drewN _ _ none)⟩, by simp [intOf]; omega⟩
          · have hrf : r = false := by
              rw [← HR.out]
              unfold sameR
              rw [List.all_eq_false]
              refine ⟨a, by simpa using han, ?_⟩
              rw [Bool.not_eq_true, List.all_eq_false]
              exact ⟨b, by simpa using hbn, by simpa using heq⟩
            subst hrf
            cases hu : R a b
            · cases hv : T a b
              · exact absurd (hu.trans hv.symm) heq
              · rw [hu] at g3
                rw [hv] at e3
                clear heq hu hv
                go_wp2
                go_quiet (fail)
                go_wp2
                go_ret
                exact ⟨rfl, grownBy_trans HGB.out (grownBy_drewN _ _ none)⟩
            · cases hv : T a b
              · rw [hu] at g3
                rw [hv] at e3
                clear heq hu hv
                go_wp2
                go_quiet (fail)
                go_wp2
                go_ret
                exact ⟨rfl, grownBy_trans HGB.out (grownBy_drewN _ _ none)⟩
              · exact absurd (hu.trans hv.symm) heq
        · obtain rfl : b = n := by omega
          have HX2 : Hid (∀ x, x < a + 1 → ∀ y, y < b → R x y = T x y) := Lib.hid (fun x hx => by
            by_cases e : x = a
            · subst e; exact HY.out
            · exact HX.out x (by omega))
          go_wp2
          exact ⟨⟨a + 1, by omega, by go_num, HX2, hgb⟩, by simp [intOf]; omega⟩
    · obtain rfl : a = n := by omega
      have hrt : r = true := by
        rw [← HR.out]
        unfold sameR
        simp only [List.all_eq_true, List.mem_range, beq_iff_eq]
        exact HX.out
      subst hrt
      go_wp2
      go_ret
      exact ⟨rfl, hga⟩

end Go.Proofs.YtdolcdededmlhaaDoor
