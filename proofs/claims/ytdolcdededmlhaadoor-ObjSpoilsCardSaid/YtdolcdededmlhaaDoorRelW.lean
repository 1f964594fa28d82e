/- The contracts of Add and complete of package rel: a pair more; the closure in place. -/
import Derived.Test.YtdolcdededmlhaaDoorRel
namespace Go.Proofs.YtdolcdededmlhaaDoor
open Go.RowKit

/-- What a call that turns a relation leaves. -/
def TurnPost (lo hi p n : Nat) (g : Bool) (T : Nat → Nat → Bool) (w : World) (e : Ending) (w' : World) : Prop :=
  e = .returned (.bool g) ∧ IsRel w' lo hi p n T ∧ Kept lo hi w w'

/-- Both are elements. -/
def inI (n : Nat) (a b : Int) : Prop := 0 ≤ a ∧ a < n ∧ 0 ≤ b ∧ b < n
instance (n : Nat) (a b : Int) : Decidable (inI n a b) := by unfold inI; infer_instance

theorem addI_yes {n : Nat} {R : Nat → Nat → Bool} {a b : Int} (h : inI n a b) : addI n R (a, b) = addR R a.toNat b.toNat := by unfold addI; rw [if_pos (by simpa [inI] using h)]
theorem addI_no {n : Nat} {R : Nat → Nat → Bool} {a b : Int} (h : ¬ inI n a b) : addI n R (a, b) = R := by unfold addI; rw [if_neg (by simpa [inI] using h)]

theorem putS_add (R : Nat → Nat → Bool) (n i j : Nat) (hj : j < n) (y : Nat) : putS (R i) n (j : Int) true y = addR R i j i y := by
  unfold putS addR
  by_cases e : y = j
  · subst e; simp [hj]
  · have : ¬ ((y : Int) = (j : Int)) := by omega
    simp [e, this]

set_option maxHeartbeats 1000000 in
theorem add_new (lo hi p n i j : Nat) (R : Nat → Nat → Bool) (w : World) (h : IsRel w lo hi p n R) (hi' : i < n) (hj : j < n) (hr : R i j = false) :
    Calls Tryd.prog 26 #[.pointer (some ⟨p, 0, none⟩), .int .i64 i, .int .i64 j] w (TurnPost lo hi p n true (addR R i j) w) := by
  have hh : hasI n R i j = false := by unfold hasI; simp [hr]
  have H := Lib.hid h
  obtain ⟨hn, hsu, pb, bs, ws, h3⟩ := h
  obtain ⟨cap, hc⟩ := h3.c0
  have hcp := h3.cp i hi'
  have H3 := Lib.hid h3
  have HH := Lib.hid hh
  clear h3 hh hr
  have a0 : (0 : Int) ≤ i := by omega
  have a1 : (i : Int) < n := by omega
  have b0 : (0 : Int) ≤ j := by omega
  have b1 : (j : Int) < n := by omega
  go_enter Tryd.func26, Tryd.ntmps26
  go_wp2_with fail
  refine (isEl_yes p pb n cap _ _ hc a0 a1).mono ?_
  rintro e w' ⟨rfl, h9⟩
  subst w'
  go_wp2_with fail
  refine (isEl_yes p pb n cap _ _ hc b0 b1).mono ?_
  rintro e w' ⟨rfl, h9⟩
  subst w'
  go_wp2_with fail
  refine (relHas_c lo hi p n _ _ R _ H.out).mono ?_
  rintro e w' ⟨he, m, rfl⟩
  rw [HH.out] at he
  subst he
  go_wp2_with fail
  refine (put_c (bs i) (ws i) n j true (R i) _ ((H3.out.row i hi').drewN m)).mono ?_
  rintro e w' ⟨⟨v, rfl⟩, hs, hg⟩
  have hs' := Lib.hid hs
  have hg' := Lib.hid (grownBy_trans (grownBy_drewN w m _) hg)
  clear hs hg
  go_wp2
  go_ret
  refine ⟨rfl, ⟨hn, addR_supp hsu hi' hj, pb, bs, ws, H3.out.put hi' hg'.out (hs'.out.congr (putS_add R n i j hj)) ?_⟩, Kept.row hg'.out (H3.out.inb i hi').2.2.1 (H3.out.inb i hi').2.2.2⟩
  intro x hx
  funext y
  unfold addR
  simp [hx]

set_option maxHeartbeats 1000000 in
theorem add_not (lo hi p n : Nat) (a b : Int) (R : Nat → Nat → Bool) (w : World) (h : IsRel w lo hi p n R) (hno : ¬ inI n a b ∨ hasI n R a b = true) :
    Calls Tryd.prog 26 #[.pointer (some ⟨p, 0, none⟩), .int .i64 a, .int .i64 b] w (TurnPost lo hi p n false R w) := by
  have H := Lib.hid h
  obtain ⟨hn, hsu, pb, bs, ws, h3⟩ := h
  obtain ⟨cap, hc⟩ := h3.c0
  clear h3
  by_cases ha : 0 ≤ a ∧ a < n
  · obtain ⟨a0, a1⟩ := ha
    by_cases hb : 0 ≤ b ∧ b < n
    · obtain ⟨b0, b1⟩ := hb
      have HH := Lib.hid (show hasI n R a b = true from by
        rcases hno with h | h
        · exact absurd ⟨a0, a1, b0, b1⟩ h
        · exact h)
      clear hno
      go_enter Tryd.func26, Tryd.ntmps26
      go_wp2_with fail
      refine (isEl_yes p pb n cap _ _ hc a0 a1).mono ?_
      rintro e w' ⟨rfl, h9⟩
      subst w'
      go_wp2_with fail
      refine (isEl_yes p pb n cap _ _ hc b0 b1).mono ?_
      rintro e w' ⟨rfl, h9⟩
      subst w'
      go_wp2_with fail
      refine (relHas_c lo hi p n _ _ R _ H.out).mono ?_
      rintro e w' ⟨he, m, rfl⟩
      rw [HH.out] at he
      subst he
      go_wp2
      go_ret
      exact ⟨rfl, H.out.calm (grownBy_drewN w m none), Kept.calm (grownBy_drewN w m none)⟩
    · have hb' := Lib.hid (show b < 0 ∨ (n : Int) ≤ b by omega)
      clear hno hb
      go_enter Tryd.func26, Tryd.ntmps26
      go_wp2_with fail
      refine (isEl_yes p pb n cap _ _ hc a0 a1).mono ?_
      rintro e w' ⟨rfl, h9⟩
      subst w'
      go_wp2_with fail
      refine (isEl_no p pb n cap _ _ hc hb'.out).mono ?_
      rintro e w' ⟨rfl, h9⟩
      subst w'
      go_wp2
      go_ret
      exact ⟨rfl, H.out, Kept.refl _ _ w⟩
  · have ha' := Lib.hid (show a < 0 ∨ (n : Int) ≤ a by omega)
    clear hno ha
    go_enter Tryd.func26, Tryd.ntmps26
    go_wp2_with fail
    refine (isEl_no p pb n cap _ _ hc ha'.out).mono ?_
    rintro e w' ⟨rfl, h9⟩
    subst w'
    go_wp2
    go_ret
    exact ⟨rfl, H.out, Kept.refl _ _ w⟩

/-- Whether a pair becomes so. -/
def newI (n : Nat) (R : Nat → Nat → Bool) (a b : Int) : Bool := decide (inI n a b) && !hasI n R a b

theorem hasI_in {n : Nat} {R : Nat → Nat → Bool} {a b : Int} (h : inI n a b) : hasI n R a b = R a.toNat b.toNat := by
  obtain ⟨h1, h2, h3, h4⟩ := h
  unfold hasI
  simp [h1, h2, h3, h4]

theorem add_c (lo hi p n : Nat) (a b : Int) (R : Nat → Nat → Bool) (w : World) (h : IsRel w lo hi p n R) :
    Calls Tryd.prog 26 #[.pointer (some ⟨p, 0, none⟩), .int .i64 a, .int .i64 b] w (TurnPost lo hi p n (newI n R a b) (addI n R (a, b)) w) := by
  by_cases hin : inI n a b
  · cases hr : hasI n R a b
    · have e1 : newI n R a b = true := by unfold newI; simp [hin, hr]
      rw [e1, addI_yes hin]
      obtain ⟨h1, h2, h3, h4⟩ := id hin
      obtain ⟨i, rfl⟩ := Int.eq_ofNat_of_zero_le h1
      obtain ⟨j, rfl⟩ := Int.eq_ofNat_of_zero_le h3
      rw [hasI_in hin] at hr
      exact add_new lo hi p n i j R w h (by omega) (by omega) hr
    · have e1 : newI n R a b = false := by unfold newI; simp [hr]
      have e2 : addI n R (a, b) = R := by
        rw [addI_yes hin]
        rw [hasI_in hin] at hr
        exact addR_self hr
      rw [e1, e2]
      exact add_not lo hi p n a b R w h (.inr hr)
  · have e1 : newI n R a b = false := by unfold newI; simp [hin]
    rw [e1, addI_no hin]
    exact add_not lo hi p n a b R w h (.inl hin)

theorem hasS_row {n : Nat} {S : Nat → Bool} {v : Nat} (hv : v < n) : hasS S n (v : Int) = S v := by
  unfold hasS
  simp [hv]

set_option maxHeartbeats 2000000 in
theorem complete_c (lo hi p n : Nat) (R : Nat → Nat → Bool) (w : World) (h : IsRel w lo hi p n R) :
    Calls Tryd.prog 57 #[.pointer (some ⟨p, 0, none⟩)] w (TurnPost lo hi p n (grewC n R n) (clo n R) w) := by
  obtain ⟨hn, hsu, pb, bs, ws, h3⟩ := h
  obtain ⟨cap, hc⟩ := h3.c0
  have H3 := Lib.hid h3
  have HSU := Lib.hid hsu
  clear h3 hsu
  go_enter Tryd.func57, Tryd.ntmps57
  go_wp2
  go_loopw [3, 13] (fun g i wr => ∃ v : Nat, v ≤ n ∧ i = .int .i64 v ∧ g = .bool (grewC n R v) ∧ Rows' wr lo hi p pb n n bs ws (warsh R v) ∧ Kept lo hi w wr) (fun _ i _ => n - (intOf i).toNat)
  case atStart => exact ⟨0, Nat.zero_le _, rfl, rfl, H3.out, Kept.refl _ _ _⟩
  case round =>
    obtain ⟨v, hv, rfl, rfl, hrows, hkept⟩ := hrel
    by_cases hvn : v < n
    · have hcpv := hrows.cp v hvn
      obtain ⟨cap2, hc2⟩ := hrows.c0
      have HR := Lib.hid hrows
      have HSW := Lib.hid (warsh_supp HSU.out v)
      have HGC := Lib.hid (grewC_succ n R v)
      have HWS : Hid (warsh R (v + 1) = wvia (warsh R v) v) := Lib.hid rfl
      clear hrows
      generalize hW : warsh R v = W at *
      clear hW
      generalize grewC n R v = g0 at *
      go_wp2
      go_loopw [3, 23] (fun g i wi => ∃ k : Nat, k ≤ n ∧ i = .int .i64 k ∧ g = .bool (g0 || grewV n W v k) ∧ Rows' wi lo hi p pb n n bs ws (midV W v k) ∧ Kept lo hi w wi) (fun _ i _ => n - (intOf i).toNat)
      case atStart =>
        refine ⟨0, Nat.zero_le _, rfl, ?_, by rw [midV_zero]; exact HR.out, hkept⟩
        simp [grewV]
      case round =>
        obtain ⟨k, hk, rfl, rfl, hrk, hkk⟩ := hrel
        by_cases hkn : k < n
        · have hcpk := hrk.cp k hkn
          have HRK := Lib.hid hrk
          have HMS := Lib.hid (midV_succ W v k)
          have hrowk := hrk.row k hkn
          rw [show midV W v k k = W k from by funext b; simp [midV]] at hrowk
          have HROW := Lib.hid hrowk
          have hrowv := hrk.row v hvn
          rw [show midV W v k v = W v from by funext b; exact midV_row W v k b] at hrowv
          have HROWV := Lib.hid hrowv
          have HG1 := Lib.hid (grewV_succ n W v k)
          have HAP := Lib.hid (hrk.ap2 k hkn)
          have HIN := Lib.hid (hrk.inb k hkn)
          have hne : ¬ k = v → ¬ v = k := fun h e => h e.symm
          clear hrk hrowk hrowv hne
          generalize hG : grewV n W v k = g1 at *
          clear hG
          go_wp2_with fail
          refine (has_c (bs k) (ws k) n v (W k) _ HROW.out).mono ?_
          rintro e w' ⟨he, m, rfl⟩
          rw [hasS_row hvn] at he
          cases hkv : W k v
          · rw [hkv] at he
            subst he
            have hend : Hid (Rows' (wr.drewN m) lo hi p pb n n bs ws (midV W v (k + 1)) ∧ Kept lo hi w (wr.drewN m) ∧ (g0 || grewV n W v (k + 1)) = (g0 || g1)) := by
              refine Lib.hid ⟨?_, hkk.trans (Kept.calm (grownBy_drewN _ m none)), by rw [HG1.out, hkv]; simp⟩
              have e1 : midV W v (k + 1) = midV W v k := by
                funext a b
                rw [HMS.out]
                split
                · rename_i ha
                  subst ha
                  simp [midV, wvia, hkv]
                · rfl
              rw [e1]
              exact HRK.out.kept (Nat.le_refl _) (fun _ _ _ => rfl)
            clear hkv HG1
            go_wp2
            exact ⟨⟨k + 1, by omega, by go_num, by rw [hend.out.2.2], hend.out.1, hend.out.2.1⟩, by simp [intOf]; omega⟩
          · rw [hkv] at he
            subst he
            -- joined with the row of v
            have hor : Calls Tryd.prog 64 #[.pointer (some ⟨bs k, 0, none⟩), .pointer (some ⟨bs v, 0, none⟩)] (wr.drewN m) (OrPost (bs k) (ws k) n (grewS n (W k) (W v)) (wvia W v k) (wr.drewN m)) := by
              by_cases ekv : k = v
              · subst ekv
                have e1 : grewS n (W k) (W k) = false := by unfold grewS; simp
                have e2 : wvia W k k = W k := by funext b; exact wvia_row W k b
                rw [e1, e2]
                exact or_self_c (bs k) (ws k) n (W k) _ (HROW.out.drewN m)
              · refine (or_c (bs k) (ws k) n n (some ⟨bs v, 0, none⟩) (W k) (W v) _ (HROW.out.drewN m) (.inr ⟨bs v, ws v, rfl, fun e => (HAP.out v hvn).1 e.symm, fun e => (HAP.out v hvn).2 ekv e.symm, HROWV.out.drewN m⟩)).mono ?_
                rintro e w' ⟨h1, h2, h3⟩
                refine ⟨h1, h2.congr fun b => ?_, h3⟩
                unfold wvia
                rw [hkv]
                cases hvb : W v b
                · simp
                · simp [(HSW.out v b hvb).2]
            have HOR := Lib.hid hor
            have HG2 : Hid (grewV n W v (k + 1) = (g1 || grewS n (W k) (W v))) := Lib.hid (by rw [HG1.out, hkv]; rfl)
            clear hor hkv HG1
            generalize hgs : grewS n (W k) (W v) = gs at *
            clear hgs
            go_wp2_with fail
            refine HOR.out.mono ?_
            rintro e w' ⟨rfl, h2, h3⟩
            have hend : Hid (Rows' w' lo hi p pb n n bs ws (midV W v (k + 1)) ∧ Kept lo hi w w') := by
              have hg := grownBy_trans (grownBy_drewN wr m _) h3
              refine Lib.hid ⟨HRK.out.put hkn hg ?_ ?_, hkk.trans (Kept.row hg HIN.out.2.2.1 HIN.out.2.2.2)⟩
              · refine h2.congr fun b => ?_
                rw [HMS.out, if_pos rfl]
              · intro x hx
                funext b
                rw [HMS.out, if_neg hx]
            clear h2 h3
            cases gs
            · go_wp2
              exact ⟨⟨k + 1, by omega, by go_num, by rw [HG2.out]; simp, hend.out.1, hend.out.2⟩, by simp [intOf]; omega⟩
            · go_wp2
              exact ⟨⟨k + 1, by omega, by go_num, by rw [HG2.out]; simp, hend.out.1, hend.out.2⟩, by simp [intOf]; omega⟩
        · obtain rfl : k = n := by omega
          rw [midV_all HSW.out] at hrk
          go_wp2
          exact ⟨⟨v + 1, by omega, by go_num, by rw [HGC.out], by rw [HWS.out]; exact hrk, hkk⟩, by simp [intOf]; omega⟩
    · obtain rfl : v = n := by omega
      go_wp2
      go_ret
      exact ⟨rfl, ⟨hn, clo_supp HSU.out, pb, bs, ws, hrows⟩, hkept⟩

end Go.Proofs.YtdolcdededmlhaaDoor
