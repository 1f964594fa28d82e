/- Go's own slices.Sort over numbers: pdqsort. -/
import Derived.Test.YtnknejokneddbaaGreatDoorSrtH
import Derived.Test.YtnknejokneddbaaGreatDoorPur
/-! SrtI -/
namespace Go.Proofs.YtnknejokneddbaaGreatDoor
open Go.RowKit Go.Sort

theorem paU_c (blk n c a b pv : Nat) (d : Array Int) (w0 w : World) (h : RowU w0 w blk n d) (hap : a ≤ pv) (hpb : pv < b) (hb : b ≤ n) (hn : n ≤ 1000000) :
  Calls Tryz.prog 194 #[.slice (some ⟨blk, 0, none⟩) n c, .int .i64 a, .int .i64 b, .int .i64 pv] w fun e w' =>
   ∃ (mid : Nat) (ap : Bool), e = .returned (.tuple #[.int .i64 mid, .bool ap]) ∧ (partition ltInt d a b pv).1 = mid ∧ RowU w0 w' blk n (partition ltInt d a b pv).2.2 := by
 rcases Nat.lt_or_ge a pv with h1 | h1
 ·exact paU_d blk n c a b pv d w0 w h h1 hpb hb hn
 ·obtain rfl : pv = a := by omega
  exact paU_s blk n c pv b d w0 w h hpb hb hn
theorem peU_c (blk n c a b pv : Nat) (d : Array Int) (w0 w : World) (h : RowU w0 w blk n d) (hap : a ≤ pv) (hpb : pv < b) (hb : b ≤ n) (hn : n ≤ 1000000) :
  Calls Tryz.prog 193 #[.slice (some ⟨blk, 0, none⟩) n c, .int .i64 a, .int .i64 b, .int .i64 pv] w fun e w' =>
   ∃ mid : Nat, e = .returned (.int .i64 mid) ∧ (partitionEqual ltInt d a b pv).1 = mid ∧ RowU w0 w' blk n (partitionEqual ltInt d a b pv).2 := by
 rcases Nat.lt_or_ge a pv with h1 | h1
 ·exact peU_d blk n c a b pv d w0 w h h1 hpb hb hn
 ·obtain rfl : pv = a := by omega
  exact peU_s blk n c pv b d w0 w h hpb hb hn

/-- What is still to be shown of a part that is about to be sorted. -/
def GoalU (a b : Nat) (d : Array Int) (A B : Nat) (D : Array Int) : Prop := ∀ R, PermIn A B D R → SortedIn ltInt A B R → PermIn a b d R ∧ SortedIn ltInt a b R
theorem GoalU.perm {a b A B : Nat} {d D E : Array Int} (h : GoalU a b d A B D) (hp : PermIn A B D E) : GoalU a b d A B E := fun R h1 h2 => h R (permIn_trans _ _ _ _ _ hp h1) h2
def PdqPost (w0 : World) (blk n a b : Nat) (d : Array Int) (e : Ending) (w' : World) : Prop :=
 e = .returned (.tuple #[]) ∧ ∃ R, PermIn a b d R ∧ SortedIn ltInt a b R ∧ RowU w0 w' blk n R
theorem PdqPost.mk' {w0 w' : World} {blk n a b A B : Nat} {d D R : Array Int} (h : GoalU a b d A B D) (hp : PermIn A B D R ∧ SortedIn ltInt A B R) (hr : RowU w0 w' blk n R) : PdqPost w0 blk n a b d (.returned (.tuple #[])) w' :=
 ⟨rfl, R, (h R hp.1 hp.2).1, (h R hp.1 hp.2).2, hr⟩

set_option maxRecDepth 8000 in
set_option maxHeartbeats 64000000 in
theorem pdqU_c (blk n c : Nat) (hn : n ≤ 1000000) : ∀ (N a b lim : Nat) (d : Array Int) (w0 w : World), b - a = N → a ≤ b → b ≤ n → lim ≤ 100 → RowU w0 w blk n d → Below ltInt a b d →
  Calls Tryz.prog 166 #[.slice (some ⟨blk, 0, none⟩) n c, .int .i64 a, .int .i64 b, .int .i64 lim] w (PdqPost w0 blk n a b d) := by
 intro N
 induction N using Nat.strongRecOn with
 | ind N IH =>
 intro a b lim d w0 w hN hab hbn hlim h hbe
 have H := Lib.hid h
 have HB0 := Lib.hid hbe
 have HR0 : Hid (GoalU a b d a b d) := Lib.hid (fun R h1 h2 => ⟨h1, h2⟩)
 clear h hbe
 subst hN
 go_enter Tryz.func166, Tryz.ntmps166
 go_wp2
 go_loopw [1, 2, 3, 8, 9, 10, 11, 12, 13, 14, 15, 16, 17, 18] (fun v1 v2 v3 v8 v9 _ _ _ _ _ _ _ _ _ wr => ∃ (A B L : Nat) (x y : Bool) (D : Array Int), v1 = .int .i64 A ∧ v2 = .int .i64 B ∧ v3 = .int .i64 L ∧ v8 = .bool x ∧ v9 = .bool y ∧ A ≤ B ∧ B ≤ n ∧ B - A ≤ b - a ∧ L ≤ 100 ∧ Hid (RowU w0 wr blk n D) ∧ Hid (Below ltInt A B D) ∧ Hid (GoalU a b d A B D)) (fun v1 v2 _ _ _ _ _ _ _ _ _ _ _ _ _ => (intOf v2).toNat - (intOf v1).toNat)
 case atStart => exact ⟨a, b, lim, true, true, d, rfl, rfl, rfl, rfl, rfl, hab, hbn, Nat.le_refl _, hlim, H, HB0, HR0⟩
 case round =>
  clear H HB0 HR0
  obtain ⟨A, B, L, x, y, D, rfl, rfl, rfl, rfl, rfl, hAB, hBn, hBA, hL, HK, HB, HR⟩ := hrel
  obtain ⟨l, hl⟩ : ∃ l, B - A = l := ⟨_, rfl⟩
  have el : (B : Int) - (A : Int) = (l : Int) := by omega
  have wl : IntKind.i64.wrap (l : Int) = l := IntWalk.i64_in _ (by omega)
  by_cases h12 : l ≤ 12
  ·have k12 : (l : Int) ≤ 12 := by omega
   have HPI := Lib.hid (insertionSort_holds swo_ltInt D A B hAB (by rw [HK.out.size]; exact hBn))
   clear hl
   go_wp2_with fail
   refine (insU_c blk n c A B D w0 wr HK.out hAB hBn hn).mono ?_
   rintro e w5 ⟨rfl, h5⟩
   have H5 := Lib.hid h5
   clear h5
   go_wp2
   try simp only [Exit.inBlock, Exit.then]
   refine bodyPost_ret (results_none rfl _ _ _) rfl ?_
   exact PdqPost.mk' HR.out HPI.out H5.out
  ·have k12 : ¬ (l : Int) ≤ 12 := by omega
   by_cases hL0 : L = 0
   ·subst hL0
    have HPI := Lib.hid (heapSort_holds swo_ltInt D A B hAB (by rw [HK.out.size]; exact hBn))
    go_wp2_with fail
    refine (heapU_c blk n c A B D w0 wr HK.out (by omega) hBn hn).mono ?_
    rintro e w5 ⟨rfl, h5⟩
    have H5 := Lib.hid h5
    clear h5
    go_wp2
    try simp only [Exit.inBlock, Exit.then]
    refine bodyPost_ret (results_none rfl _ _ _) rfl ?_
    exact PdqPost.mk' HR.out HPI.out H5.out
   ·have kL0 : ¬ (L : Int) = 0 := by omega
    cases x with
    | true =>
     generalize hwd : wr = wd at *
     clear hwd
     go_wp2_with fail
     refine (pivU_c blk n c A B D w0 wd HK.out (by omega) hBn hn).mono ?_
     rintro e w4 ⟨pv, hint, rfl, hpv0, hpv1, hh, g4⟩
     have HKn := Lib.hid (HK.out.calm g4)
     clear g4 HK
     have HK := HKn
     clear HKn
     obtain rfl | rfl | rfl : hint = 0 ∨ hint = 1 ∨ hint = 2 := by omega
     ·cases y
      all_goals
       as_aux_lemma =>
        have cp := HK.out.cell (i := pv) (by omega) rfl
        have HD := Lib.hid (fun q => HK.out.drewN q)
        have pv_0 : (0 : Int) ≤ pv := by omega
        have pv_1 : (pv : Int) < n := by omega
        by_cases hA0 : 0 < A
        ·obtain ⟨A1, hA1⟩ : ∃ A1, A - 1 = A1 := ⟨_, rfl⟩
         have kA : (0 : Int) < (A : Int) := by omega
         have kA2 : decide ((0 : Int) < (A : Int)) = true := decide_eq_true kA
         have kA3 : decide (0 < A) = true := decide_eq_true hA0
         have eA : (A : Int) - 1 = (A1 : Int) := by omega
         have wA : IntKind.i64.wrap (A1 : Int) = A1 := IntWalk.i64_in _ (by omega)
         have A1_0 : (0 : Int) ≤ A1 := by omega
         have A1_1 : (A1 : Int) < n := by omega
         have ca := HK.out.cell (i := A1) (by omega) rfl
         have HLC := Lib.hid (fun r h W => lessU_c D[A1]! D[pv]! r W h)
         have HAA := Lib.hid hA1
         clear hA1
         cases hl : ltInt D[A1]! D[pv]! with
         | true =>
          have HLT := fun W => HLC.out true hl W
          clear hl HLC
          obtain ⟨u, hue⟩ : ∃ u, D[pv]! = u := ⟨_, rfl⟩
          obtain ⟨v, hve⟩ : ∃ v, D[A1]! = v := ⟨_, rfl⟩
          rw [hue] at cp HLT
          rw [hve] at ca HLT
          clear hue hve
          go_upto_region 17 with fail
          go_quiet (first | (go_at_call 79; refine Calls.quiet_of_same (HLT _)))
          clear HK
          have HK := Lib.hid (HD.out nq)
          clear HLT cp ca HD eA wA A1_0 A1_1 kA kA2 kA3 HAA
          generalize World.drewN _ nq = wk at *
          clear nq
          go_wp2_with fail
          refine (paU_c blk n c A B pv D w0 wk HK.out (by omega) (by omega) hBn hn).mono ?_
          rintro e w6 ⟨mid, ap, rfl, hm, h6⟩
          have hsz : B ≤ D.size := by rw [HK.out.size]; exact hBn
          rcases hp : partition ltInt D A B pv with ⟨m2, ap2, d4⟩
          rw [hp] at hm h6
          obtain rfl : mid = m2 := hm.symm
          obtain ⟨hA4, hB4, hs4, hbl, hbr, hlf, hrf⟩ := round_part swo_ltInt (partition_holds _) (by omega) (by omega) hsz HB.out hp
          have HK4 := Lib.hid h6
          have HBL := Lib.hid hbl
          have HBR := Lib.hid hbr
          have HLF := Lib.hid hlf
          have HRF := Lib.hid hrf
          clear hp h6 hbl hbr hlf hrf hs4 hsz HK HB
          obtain ⟨lf, hlf⟩ : ∃ lf, mid - A = lf := ⟨_, rfl⟩
          obtain ⟨rt, hrt⟩ : ∃ rt, B - mid = rt := ⟨_, rfl⟩
          obtain ⟨q8, hq8⟩ : ∃ q8, l / 8 = q8 := ⟨_, rfl⟩
          have elf : (mid : Int) - (A : Int) = (lf : Int) := by omega
          have ert : (B : Int) - (mid : Int) = (rt : Int) := by omega
          have eq8 : Int.tdiv (l : Int) 8 = (q8 : Int) := by
           rw [Int.tdiv_eq_ediv_of_nonneg (by omega)]
           omega
          have wlf : IntKind.i64.wrap (lf : Int) = lf := IntWalk.i64_in _ (by omega)
          have wrt : IntKind.i64.wrap (rt : Int) = rt := IntWalk.i64_in _ (by omega)
          have wq8 : IntKind.i64.wrap (q8 : Int) = q8 := IntWalk.i64_in _ (by omega)
          have HQ := Lib.hid (⟨hlf, hrt, hq8⟩ : mid - A = lf ∧ B - mid = rt ∧ l / 8 = q8)
          clear hlf hrt hq8
          by_cases hlr : lf < rt
          ·have kc : (lf : Int) < (rt : Int) := by omega
           go_wp2_with fail
           refine (IH (mid - A) (by omega) A mid L d4 w0 w6 rfl (by omega) (by omega) (by omega) HK4.out HBL.out).mono ?_
           rintro e w7 ⟨rfl, R1, hp1, hs1, h7⟩
           have HK7 := Lib.hid h7
           have HB7 := Lib.hid (HLF.out R1 hp1 hs1).1
           have HR7 : Hid (GoalU a b d (mid + 1) B R1) := Lib.hid (fun R h1 h2 => by
            have h3 := (HLF.out R1 hp1 hs1).2 R h1 h2
            exact HR.out R h3.1 h3.2)
           clear h7 hp1 hs1
           go_wp2
           exact ⟨⟨mid + 1, B, L, _, _, R1, by go_num, rfl, rfl, rfl, rfl, by omega, by omega, by omega, by omega, HK7, HB7, HR7⟩, by simp [intOf]; omega⟩
          ·have kc : ¬ (lf : Int) < (rt : Int) := by omega
           have em1 : (mid : Int) + 1 = ((mid + 1 : Nat) : Int) := by omega
           obtain ⟨mm, hmm⟩ : ∃ mm, mid + 1 = mm := ⟨_, rfl⟩
           have emm : (mid : Int) + 1 = (mm : Int) := by omega
           have wmm : IntKind.i64.wrap (mm : Int) = mm := IntWalk.i64_in _ (by omega)
           have HMM := Lib.hid hmm
           clear hmm em1
           go_wp2_with fail
           rw [← HMM.out]
           have wmm2 := HMM.out
           refine (IH (B - (mid + 1)) (by omega) (mid + 1) B L d4 w0 w6 rfl (by omega) (by omega) (by omega) HK4.out HBR.out).mono ?_
           rintro e w7 ⟨rfl, R1, hp1, hs1, h7⟩
           have HK7 := Lib.hid h7
           have HB7 := Lib.hid (HRF.out R1 hp1 hs1).1
           have HR7 : Hid (GoalU a b d A mid R1) := Lib.hid (fun R h1 h2 => by
            have h3 := (HRF.out R1 hp1 hs1).2 R h1 h2
            exact HR.out R h3.1 h3.2)
           clear h7 hp1 hs1
           go_wp2
           exact ⟨⟨A, mid, L, _, _, R1, rfl, rfl, rfl, rfl, rfl, by omega, by omega, by omega, by omega, HK7, HB7, HR7⟩, by simp [intOf]; omega⟩
         | false =>
          have HLT := fun W => HLC.out false hl W
          have HNL : Hid (ltInt D[A - 1]! D[pv]! = false) := Lib.hid (by rw [HAA.out]; exact hl)
          clear hl HLC
          obtain ⟨u, hue⟩ : ∃ u, D[pv]! = u := ⟨_, rfl⟩
          obtain ⟨v, hve⟩ : ∃ v, D[A1]! = v := ⟨_, rfl⟩
          rw [hue] at cp HLT
          rw [hve] at ca HLT
          clear hue hve
          go_upto_region 17 with fail
          go_quiet (first | (go_at_call 79; refine Calls.quiet_of_same (HLT _)))
          clear HK
          have HK := Lib.hid (HD.out nq)
          clear HLT cp ca HD eA wA A1_0 A1_1 kA kA2 kA3
          generalize World.drewN _ nq = wk at *
          clear nq
          go_wp2_with fail
          refine (peU_c blk n c A B pv D w0 wk HK.out (by omega) (by omega) hBn hn).mono ?_
          rintro e w6 ⟨mid, rfl, hm, h6⟩
          have hsz : B ≤ D.size := by rw [HK.out.size]; exact hBn
          rcases hp : partitionEqual ltInt D A B pv with ⟨m2, d4⟩
          rw [hp] at hm h6
          obtain rfl : mid = m2 := hm.symm
          obtain ⟨hA4, hB4, hs4, hbl, hgo⟩ := round_eq swo_ltInt (partitionEqual_holds _) hA0 (by omega) (by omega) hsz HB.out HNL.out hp
          have HK4 := Lib.hid h6
          have HB4 := Lib.hid hbl
          have HR4 : Hid (GoalU a b d mid B d4) := Lib.hid (fun R h1 h2 => HR.out R (hgo R h1 h2).1 (hgo R h1 h2).2)
          clear hp h6 hbl hgo hs4 hsz HK HB HR
          go_wp2
          exact ⟨⟨mid, B, L, _, _, d4, rfl, rfl, rfl, rfl, rfl, by omega, by omega, by omega, by omega, HK4, HB4, HR4⟩, by simp [intOf]; omega⟩
        ·have kA : ¬ (0 : Int) < (A : Int) := by omega
         have kA2 : decide ((0 : Int) < (A : Int)) = false := decide_eq_false kA
         have kA3 : decide (0 < A) = false := decide_eq_false hA0
         go_upto_region 17 with fail
         go_quiet (fail)
         clear HK
         have HK := Lib.hid (HD.out nq)
         clear cp HD kA kA2 kA3
         generalize World.drewN _ nq = wk at *
         clear nq
         go_wp2_with fail
         refine (paU_c blk n c A B pv D w0 wk HK.out (by omega) (by omega) hBn hn).mono ?_
         rintro e w6 ⟨mid, ap, rfl, hm, h6⟩
         have hsz : B ≤ D.size := by rw [HK.out.size]; exact hBn
         rcases hp : partition ltInt D A B pv with ⟨m2, ap2, d4⟩
         rw [hp] at hm h6
         obtain rfl : mid = m2 := hm.symm
         obtain ⟨hA4, hB4, hs4, hbl, hbr, hlf, hrf⟩ := round_part swo_ltInt (partition_holds _) (by omega) (by omega) hsz HB.out hp
         have HK4 := Lib.hid h6
         have HBL := Lib.hid hbl
         have HBR := Lib.hid hbr
         have HLF := Lib.hid hlf
         have HRF := Lib.hid hrf
         clear hp h6 hbl hbr hlf hrf hs4 hsz HK HB
         obtain ⟨lf, hlf⟩ : ∃ lf, mid - A = lf := ⟨_, rfl⟩
         obtain ⟨rt, hrt⟩ : ∃ rt, B - mid = rt := ⟨_, rfl⟩
         obtain ⟨q8, hq8⟩ : ∃ q8, l / 8 = q8 := ⟨_, rfl⟩
         have elf : (mid : Int) - (A : Int) = (lf : Int) := by omega
         have ert : (B : Int) - (mid : Int) = (rt : Int) := by omega
         have eq8 : Int.tdiv (l : Int) 8 = (q8 : Int) := by
          rw [Int.tdiv_eq_ediv_of_nonneg (by omega)]
          omega
         have wlf : IntKind.i64.wrap (lf : Int) = lf := IntWalk.i64_in _ (by omega)
         have wrt : IntKind.i64.wrap (rt : Int) = rt := IntWalk.i64_in _ (by omega)
         have wq8 : IntKind.i64.wrap (q8 : Int) = q8 := IntWalk.i64_in _ (by omega)
         have HQ := Lib.hid (⟨hlf, hrt, hq8⟩ : mid - A = lf ∧ B - mid = rt ∧ l / 8 = q8)
         clear hlf hrt hq8
         by_cases hlr : lf < rt
         ·have kc : (lf : Int) < (rt : Int) := by omega
          go_wp2_with fail
          refine (IH (mid - A) (by omega) A mid L d4 w0 w6 rfl (by omega) (by omega) (by omega) HK4.out HBL.out).mono ?_
          rintro e w7 ⟨rfl, R1, hp1, hs1, h7⟩
          have HK7 := Lib.hid h7
          have HB7 := Lib.hid (HLF.out R1 hp1 hs1).1
          have HR7 : Hid (GoalU a b d (mid + 1) B R1) := Lib.hid (fun R h1 h2 => by
           have h3 := (HLF.out R1 hp1 hs1).2 R h1 h2
           exact HR.out R h3.1 h3.2)
          clear h7 hp1 hs1
          go_wp2
          exact ⟨⟨mid + 1, B, L, _, _, R1, by go_num, rfl, rfl, rfl, rfl, by omega, by omega, by omega, by omega, HK7, HB7, HR7⟩, by simp [intOf]; omega⟩
         ·have kc : ¬ (lf : Int) < (rt : Int) := by omega
          have em1 : (mid : Int) + 1 = ((mid + 1 : Nat) : Int) := by omega
          obtain ⟨mm, hmm⟩ : ∃ mm, mid + 1 = mm := ⟨_, rfl⟩
          have emm : (mid : Int) + 1 = (mm : Int) := by omega
          have wmm : IntKind.i64.wrap (mm : Int) = mm := IntWalk.i64_in _ (by omega)
          have HMM := Lib.hid hmm
          clear hmm em1
          go_wp2_with fail
          rw [← HMM.out]
          have wmm2 := HMM.out
          refine (IH (B - (mid + 1)) (by omega) (mid + 1) B L d4 w0 w6 rfl (by omega) (by omega) (by omega) HK4.out HBR.out).mono ?_
          rintro e w7 ⟨rfl, R1, hp1, hs1, h7⟩
          have HK7 := Lib.hid h7
          have HB7 := Lib.hid (HRF.out R1 hp1 hs1).1
          have HR7 : Hid (GoalU a b d A mid R1) := Lib.hid (fun R h1 h2 => by
           have h3 := (HRF.out R1 hp1 hs1).2 R h1 h2
           exact HR.out R h3.1 h3.2)
          clear h7 hp1 hs1
          go_wp2
          exact ⟨⟨A, mid, L, _, _, R1, rfl, rfl, rfl, rfl, rfl, by omega, by omega, by omega, by omega, HK7, HB7, HR7⟩, by simp [intOf]; omega⟩
     ·cases y with
      | false =>
       as_aux_lemma =>
        have cp := HK.out.cell (i := pv) (by omega) rfl
        have HD := Lib.hid (fun q => HK.out.drewN q)
        have pv_0 : (0 : Int) ≤ pv := by omega
        have pv_1 : (pv : Int) < n := by omega
        by_cases hA0 : 0 < A
        ·obtain ⟨A1, hA1⟩ : ∃ A1, A - 1 = A1 := ⟨_, rfl⟩
         have kA : (0 : Int) < (A : Int) := by omega
         have kA2 : decide ((0 : Int) < (A : Int)) = true := decide_eq_true kA
         have kA3 : decide (0 < A) = true := decide_eq_true hA0
         have eA : (A : Int) - 1 = (A1 : Int) := by omega
         have wA : IntKind.i64.wrap (A1 : Int) = A1 := IntWalk.i64_in _ (by omega)
         have A1_0 : (0 : Int) ≤ A1 := by omega
         have A1_1 : (A1 : Int) < n := by omega
         have ca := HK.out.cell (i := A1) (by omega) rfl
         have HLC := Lib.hid (fun r h W => lessU_c D[A1]! D[pv]! r W h)
         have HAA := Lib.hid hA1
         clear hA1
         cases hl : ltInt D[A1]! D[pv]! with
         | true =>
          have HLT := fun W => HLC.out true hl W
          clear hl HLC
          obtain ⟨u, hue⟩ : ∃ u, D[pv]! = u := ⟨_, rfl⟩
          obtain ⟨v, hve⟩ : ∃ v, D[A1]! = v := ⟨_, rfl⟩
          rw [hue] at cp HLT
          rw [hve] at ca HLT
          clear hue hve
          go_upto_region 17 with fail
          go_quiet (first | (go_at_call 79; refine Calls.quiet_of_same (HLT _)))
          clear HK
          have HK := Lib.hid (HD.out nq)
          clear HLT cp ca HD eA wA A1_0 A1_1 kA kA2 kA3 HAA
          generalize World.drewN _ nq = wk at *
          clear nq
          go_wp2_with fail
          refine (paU_c blk n c A B pv D w0 wk HK.out (by omega) (by omega) hBn hn).mono ?_
          rintro e w6 ⟨mid, ap, rfl, hm, h6⟩
          have hsz : B ≤ D.size := by rw [HK.out.size]; exact hBn
          rcases hp : partition ltInt D A B pv with ⟨m2, ap2, d4⟩
          rw [hp] at hm h6
          obtain rfl : mid = m2 := hm.symm
          obtain ⟨hA4, hB4, hs4, hbl, hbr, hlf, hrf⟩ := round_part swo_ltInt (partition_holds _) (by omega) (by omega) hsz HB.out hp
          have HK4 := Lib.hid h6
          have HBL := Lib.hid hbl
          have HBR := Lib.hid hbr
          have HLF := Lib.hid hlf
          have HRF := Lib.hid hrf
          clear hp h6 hbl hbr hlf hrf hs4 hsz HK HB
          obtain ⟨lf, hlf⟩ : ∃ lf, mid - A = lf := ⟨_, rfl⟩
          obtain ⟨rt, hrt⟩ : ∃ rt, B - mid = rt := ⟨_, rfl⟩
          obtain ⟨q8, hq8⟩ : ∃ q8, l / 8 = q8 := ⟨_, rfl⟩
          have elf : (mid : Int) - (A : Int) = (lf : Int) := by omega
          have ert : (B : Int) - (mid : Int) = (rt : Int) := by omega
          have eq8 : Int.tdiv (l : Int) 8 = (q8 : Int) := by
           rw [Int.tdiv_eq_ediv_of_nonneg (by omega)]
           omega
          have wlf : IntKind.i64.wrap (lf : Int) = lf := IntWalk.i64_in _ (by omega)
          have wrt : IntKind.i64.wrap (rt : Int) = rt := IntWalk.i64_in _ (by omega)
          have wq8 : IntKind.i64.wrap (q8 : Int) = q8 := IntWalk.i64_in _ (by omega)
          have HQ := Lib.hid (⟨hlf, hrt, hq8⟩ : mid - A = lf ∧ B - mid = rt ∧ l / 8 = q8)
          clear hlf hrt hq8
          by_cases hlr : lf < rt
          ·have kc : (lf : Int) < (rt : Int) := by omega
           go_wp2_with fail
           refine (IH (mid - A) (by omega) A mid L d4 w0 w6 rfl (by omega) (by omega) (by omega) HK4.out HBL.out).mono ?_
           rintro e w7 ⟨rfl, R1, hp1, hs1, h7⟩
           have HK7 := Lib.hid h7
           have HB7 := Lib.hid (HLF.out R1 hp1 hs1).1
           have HR7 : Hid (GoalU a b d (mid + 1) B R1) := Lib.hid (fun R h1 h2 => by
            have h3 := (HLF.out R1 hp1 hs1).2 R h1 h2
            exact HR.out R h3.1 h3.2)
           clear h7 hp1 hs1
           go_wp2
           exact ⟨⟨mid + 1, B, L, _, _, R1, by go_num, rfl, rfl, rfl, rfl, by omega, by omega, by omega, by omega, HK7, HB7, HR7⟩, by simp [intOf]; omega⟩
          ·have kc : ¬ (lf : Int) < (rt : Int) := by omega
           have em1 : (mid : Int) + 1 = ((mid + 1 : Nat) : Int) := by omega
           obtain ⟨mm, hmm⟩ : ∃ mm, mid + 1 = mm := ⟨_, rfl⟩
           have emm : (mid : Int) + 1 = (mm : Int) := by omega
           have wmm : IntKind.i64.wrap (mm : Int) = mm := IntWalk.i64_in _ (by omega)
           have HMM := Lib.hid hmm
           clear hmm em1
           go_wp2_with fail
           rw [← HMM.out]
           have wmm2 := HMM.out
           refine (IH (B - (mid + 1)) (by omega) (mid + 1) B L d4 w0 w6 rfl (by omega) (by omega) (by omega) HK4.out HBR.out).mono ?_
           rintro e w7 ⟨rfl, R1, hp1, hs1, h7⟩
           have HK7 := Lib.hid h7
           have HB7 := Lib.hid (HRF.out R1 hp1 hs1).1
           have HR7 : Hid (GoalU a b d A mid R1) := Lib.hid (fun R h1 h2 => by
            have h3 := (HRF.out R1 hp1 hs1).2 R h1 h2
            exact HR.out R h3.1 h3.2)
           clear h7 hp1 hs1
           go_wp2
           exact ⟨⟨A, mid, L, _, _, R1, rfl, rfl, rfl, rfl, rfl, by omega, by omega, by omega, by omega, HK7, HB7, HR7⟩, by simp [intOf]; omega⟩
         | false =>
          have HLT := fun W => HLC.out false hl W
          have HNL : Hid (ltInt D[A - 1]! D[pv]! = false) := Lib.hid (by rw [HAA.out]; exact hl)
          clear hl HLC
          obtain ⟨u, hue⟩ : ∃ u, D[pv]! = u := ⟨_, rfl⟩
          obtain ⟨v, hve⟩ : ∃ v, D[A1]! = v := ⟨_, rfl⟩
          rw [hue] at cp HLT
          rw [hve] at ca HLT
          clear hue hve
          go_upto_region 17 with fail
          go_quiet (first | (go_at_call 79; refine Calls.quiet_of_same (HLT _)))
          clear HK
          have HK := Lib.hid (HD.out nq)
          clear HLT cp ca HD eA wA A1_0 A1_1 kA kA2 kA3
          generalize World.drewN _ nq = wk at *
          clear nq
          go_wp2_with fail
          refine (peU_c blk n c A B pv D w0 wk HK.out (by omega) (by omega) hBn hn).mono ?_
          rintro e w6 ⟨mid, rfl, hm, h6⟩
          have hsz : B ≤ D.size := by rw [HK.out.size]; exact hBn
          rcases hp : partitionEqual ltInt D A B pv with ⟨m2, d4⟩
          rw [hp] at hm h6
          obtain rfl : mid = m2 := hm.symm
          obtain ⟨hA4, hB4, hs4, hbl, hgo⟩ := round_eq swo_ltInt (partitionEqual_holds _) hA0 (by omega) (by omega) hsz HB.out HNL.out hp
          have HK4 := Lib.hid h6
          have HB4 := Lib.hid hbl
          have HR4 : Hid (GoalU a b d mid B d4) := Lib.hid (fun R h1 h2 => HR.out R (hgo R h1 h2).1 (hgo R h1 h2).2)
          clear hp h6 hbl hgo hs4 hsz HK HB HR
          go_wp2
          exact ⟨⟨mid, B, L, _, _, d4, rfl, rfl, rfl, rfl, rfl, by omega, by omega, by omega, by omega, HK4, HB4, HR4⟩, by simp [intOf]; omega⟩
        ·have kA : ¬ (0 : Int) < (A : Int) := by omega
         have kA2 : decide ((0 : Int) < (A : Int)) = false := decide_eq_false kA
         have kA3 : decide (0 < A) = false := decide_eq_false hA0
         go_upto_region 17 with fail
         go_quiet (fail)
         clear HK
         have HK := Lib.hid (HD.out nq)
         clear cp HD kA kA2 kA3
         generalize World.drewN _ nq = wk at *
         clear nq
         go_wp2_with fail
         refine (paU_c blk n c A B pv D w0 wk HK.out (by omega) (by omega) hBn hn).mono ?_
         rintro e w6 ⟨mid, ap, rfl, hm, h6⟩
         have hsz : B ≤ D.size := by rw [HK.out.size]; exact hBn
         rcases hp : partition ltInt D A B pv with ⟨m2, ap2, d4⟩
         rw [hp] at hm h6
         obtain rfl : mid = m2 := hm.symm
         obtain ⟨hA4, hB4, hs4, hbl, hbr, hlf, hrf⟩ := round_part swo_ltInt (partition_holds _) (by omega) (by omega) hsz HB.out hp
         have HK4 := Lib.hid h6
         have HBL := Lib.hid hbl
         have HBR := Lib.hid hbr
         have HLF := Lib.hid hlf
         have HRF := Lib.hid hrf
         clear hp h6 hbl hbr hlf hrf hs4 hsz HK HB
         obtain ⟨lf, hlf⟩ : ∃ lf, mid - A = lf := ⟨_, rfl⟩
         obtain ⟨rt, hrt⟩ : ∃ rt, B - mid = rt := ⟨_, rfl⟩
         obtain ⟨q8, hq8⟩ : ∃ q8, l / 8 = q8 := ⟨_, rfl⟩
         have elf : (mid : Int) - (A : Int) = (lf : Int) := by omega
         have ert : (B : Int) - (mid : Int) = (rt : Int) := by omega
         have eq8 : Int.tdiv (l : Int) 8 = (q8 : Int) := by
          rw [Int.tdiv_eq_ediv_of_nonneg (by omega)]
          omega
         have wlf : IntKind.i64.wrap (lf : Int) = lf := IntWalk.i64_in _ (by omega)
         have wrt : IntKind.i64.wrap (rt : Int) = rt := IntWalk.i64_in _ (by omega)
         have wq8 : IntKind.i64.wrap (q8 : Int) = q8 := IntWalk.i64_in _ (by omega)
         have HQ := Lib.hid (⟨hlf, hrt, hq8⟩ : mid - A = lf ∧ B - mid = rt ∧ l / 8 = q8)
         clear hlf hrt hq8
         by_cases hlr : lf < rt
         ·have kc : (lf : Int) < (rt : Int) := by omega
          go_wp2_with fail
          refine (IH (mid - A) (by omega) A mid L d4 w0 w6 rfl (by omega) (by omega) (by omega) HK4.out HBL.out).mono ?_
          rintro e w7 ⟨rfl, R1, hp1, hs1, h7⟩
          have HK7 := Lib.hid h7
          have HB7 := Lib.hid (HLF.out R1 hp1 hs1).1
          have HR7 : Hid (GoalU a b d (mid + 1) B R1) := Lib.hid (fun R h1 h2 => by
           have h3 := (HLF.out R1 hp1 hs1).2 R h1 h2
           exact HR.out R h3.1 h3.2)
          clear h7 hp1 hs1
          go_wp2
          exact ⟨⟨mid + 1, B, L, _, _, R1, by go_num, rfl, rfl, rfl, rfl, by omega, by omega, by omega, by omega, HK7, HB7, HR7⟩, by simp [intOf]; omega⟩
         ·have kc : ¬ (lf : Int) < (rt : Int) := by omega
          have em1 : (mid : Int) + 1 = ((mid + 1 : Nat) : Int) := by omega
          obtain ⟨mm, hmm⟩ : ∃ mm, mid + 1 = mm := ⟨_, rfl⟩
          have emm : (mid : Int) + 1 = (mm : Int) := by omega
          have wmm : IntKind.i64.wrap (mm : Int) = mm := IntWalk.i64_in _ (by omega)
          have HMM := Lib.hid hmm
          clear hmm em1
          go_wp2_with fail
          rw [← HMM.out]
          have wmm2 := HMM.out
          refine (IH (B - (mid + 1)) (by omega) (mid + 1) B L d4 w0 w6 rfl (by omega) (by omega) (by omega) HK4.out HBR.out).mono ?_
          rintro e w7 ⟨rfl, R1, hp1, hs1, h7⟩
          have HK7 := Lib.hid h7
          have HB7 := Lib.hid (HRF.out R1 hp1 hs1).1
          have HR7 : Hid (GoalU a b d A mid R1) := Lib.hid (fun R h1 h2 => by
           have h3 := (HRF.out R1 hp1 hs1).2 R h1 h2
           exact HR.out R h3.1 h3.2)
          clear h7 hp1 hs1
          go_wp2
          exact ⟨⟨A, mid, L, _, _, R1, rfl, rfl, rfl, rfl, rfl, by omega, by omega, by omega, by omega, HK7, HB7, HR7⟩, by simp [intOf]; omega⟩
      | true =>
       go_wp2_with fail
       refine (pisU_c blk n c A B D w0 w4 HK.out (by omega) hBn hn).mono ?_
       rintro e w8 ⟨rfl, h8⟩
       have hpi := partialInsertionSort_holds swo_ltInt D A B (by omega) (by rw [HK.out.size]; exact hBn) HB.out
       rcases hp : partialInsertionSort ltInt D A B with ⟨D3, ok⟩
       rw [hp] at hpi h8
       have HKn := Lib.hid h8
       clear h8
       cases ok with
       | true =>
        have HPI : Hid (PermIn A B D D3 ∧ SortedIn ltInt A B D3) := Lib.hid ⟨hpi.1, hpi.2 rfl⟩
        clear hpi hp
        go_wp2
        try simp only [Exit.inBlock, Exit.then]
        refine bodyPost_ret (results_none rfl _ _ _) rfl ?_
        exact PdqPost.mk' HR.out HPI.out HKn.out
       | false =>
        have HBn := Lib.hid (HB.out.perm (by rw [HK.out.size]; exact hBn) hpi.1)
        have HRn := Lib.hid (HR.out.perm hpi.1)
        clear hpi hp HK HB HR
        have HK := HKn
        have HB := HBn
        have HR := HRn
        clear HKn HBn HRn
        as_aux_lemma =>
         have cp := HK.out.cell (i := pv) (by omega) rfl
         have HD := Lib.hid (fun q => HK.out.drewN q)
         have pv_0 : (0 : Int) ≤ pv := by omega
         have pv_1 : (pv : Int) < n := by omega
         by_cases hA0 : 0 < A
         ·obtain ⟨A1, hA1⟩ : ∃ A1, A - 1 = A1 := ⟨_, rfl⟩
          have kA : (0 : Int) < (A : Int) := by omega
          have kA2 : decide ((0 : Int) < (A : Int)) = true := decide_eq_true kA
          have kA3 : decide (0 < A) = true := decide_eq_true hA0
          have eA : (A : Int) - 1 = (A1 : Int) := by omega
          have wA : IntKind.i64.wrap (A1 : Int) = A1 := IntWalk.i64_in _ (by omega)
          have A1_0 : (0 : Int) ≤ A1 := by omega
          have A1_1 : (A1 : Int) < n := by omega
          have ca := HK.out.cell (i := A1) (by omega) rfl
          have HLC := Lib.hid (fun r h W => lessU_c D3[A1]! D3[pv]! r W h)
          have HAA := Lib.hid hA1
          clear hA1
          cases hl : ltInt D3[A1]! D3[pv]! with
          | true =>
           have HLT := fun W => HLC.out true hl W
           clear hl HLC
           obtain ⟨u, hue⟩ : ∃ u, D3[pv]! = u := ⟨_, rfl⟩
           obtain ⟨v, hve⟩ : ∃ v, D3[A1]! = v := ⟨_, rfl⟩
           rw [hue] at cp HLT
           rw [hve] at ca HLT
           clear hue hve
           go_upto_region 17 with fail
           go_quiet (first | (go_at_call 79; refine Calls.quiet_of_same (HLT _)))
           clear HK
           have HK := Lib.hid (HD.out nq)
           clear HLT cp ca HD eA wA A1_0 A1_1 kA kA2 kA3 HAA
           generalize World.drewN _ nq = wk at *
           clear nq
           go_wp2_with fail
           refine (paU_c blk n c A B pv D3 w0 wk HK.out (by omega) (by omega) hBn hn).mono ?_
           rintro e w6 ⟨mid, ap, rfl, hm, h6⟩
           have hsz : B ≤ D3.size := by rw [HK.out.size]; exact hBn
           rcases hp : partition ltInt D3 A B pv with ⟨m2, ap2, d4⟩
           rw [hp] at hm h6
           obtain rfl : mid = m2 := hm.symm
           obtain ⟨hA4, hB4, hs4, hbl, hbr, hlf, hrf⟩ := round_part swo_ltInt (partition_holds _) (by omega) (by omega) hsz HB.out hp
           have HK4 := Lib.hid h6
           have HBL := Lib.hid hbl
           have HBR := Lib.hid hbr
           have HLF := Lib.hid hlf
           have HRF := Lib.hid hrf
           clear hp h6 hbl hbr hlf hrf hs4 hsz HK HB
           obtain ⟨lf, hlf⟩ : ∃ lf, mid - A = lf := ⟨_, rfl⟩
           obtain ⟨rt, hrt⟩ : ∃ rt, B - mid = rt := ⟨_, rfl⟩
           obtain ⟨q8, hq8⟩ : ∃ q8, l / 8 = q8 := ⟨_, rfl⟩
           have elf : (mid : Int) - (A : Int) = (lf : Int) := by omega
           have ert : (B : Int) - (mid : Int) = (rt : Int) := by omega
           have eq8 : Int.tdiv (l : Int) 8 = (q8 : Int) := by
            rw [Int.tdiv_eq_ediv_of_nonneg (by omega)]
            omega
           have wlf : IntKind.i64.wrap (lf : Int) = lf := IntWalk.i64_in _ (by omega)
           have wrt : IntKind.i64.wrap (rt : Int) = rt := IntWalk.i64_in _ (by omega)
           have wq8 : IntKind.i64.wrap (q8 : Int) = q8 := IntWalk.i64_in _ (by omega)
           have HQ := Lib.hid (⟨hlf, hrt, hq8⟩ : mid - A = lf ∧ B - mid = rt ∧ l / 8 = q8)
           clear hlf hrt hq8
           by_cases hlr : lf < rt
           ·have kc : (lf : Int) < (rt : Int) := by omega
            go_wp2_with fail
            refine (IH (mid - A) (by omega) A mid L d4 w0 w6 rfl (by omega) (by omega) (by omega) HK4.out HBL.out).mono ?_
            rintro e w7 ⟨rfl, R1, hp1, hs1, h7⟩
            have HK7 := Lib.hid h7
            have HB7 := Lib.hid (HLF.out R1 hp1 hs1).1
            have HR7 : Hid (GoalU a b d (mid + 1) B R1) := Lib.hid (fun R h1 h2 => by
             have h3 := (HLF.out R1 hp1 hs1).2 R h1 h2
             exact HR.out R h3.1 h3.2)
            clear h7 hp1 hs1
            go_wp2
            exact ⟨⟨mid + 1, B, L, _, _, R1, by go_num, rfl, rfl, rfl, rfl, by omega, by omega, by omega, by omega, HK7, HB7, HR7⟩, by simp [intOf]; omega⟩
           ·have kc : ¬ (lf : Int) < (rt : Int) := by omega
            have em1 : (mid : Int) + 1 = ((mid + 1 : Nat) : Int) := by omega
            obtain ⟨mm, hmm⟩ : ∃ mm, mid + 1 = mm := ⟨_, rfl⟩
            have emm : (mid : Int) + 1 = (mm : Int) := by omega
            have wmm : IntKind.i64.wrap (mm : Int) = mm := IntWalk.i64_in _ (by omega)
            have HMM := Lib.hid hmm
            clear hmm em1
            go_wp2_with fail
            rw [← HMM.out]
            have wmm2 := HMM.out
            refine (IH (B - (mid + 1)) (by omega) (mid + 1) B L d4 w0 w6 rfl (by omega) (by omega) (by omega) HK4.out HBR.out).mono ?_
            rintro e w7 ⟨rfl, R1, hp1, hs1, h7⟩
            have HK7 := Lib.hid h7
            have HB7 := Lib.hid (HRF.out R1 hp1 hs1).1
            have HR7 : Hid (GoalU a b d A mid R1) := Lib.hid (fun R h1 h2 => by
             have h3 := (HRF.out R1 hp1 hs1).2 R h1 h2
             exact HR.out R h3.1 h3.2)
            clear h7 hp1 hs1
            go_wp2
            exact ⟨⟨A, mid, L, _, _, R1, rfl, rfl, rfl, rfl, rfl, by omega, by omega, by omega, by omega, HK7, HB7, HR7⟩, by simp [intOf]; omega⟩
          | false =>
           have HLT := fun W => HLC.out false hl W
           have HNL : Hid (ltInt D3[A - 1]! D3[pv]! = false) := Lib.hid (by rw [HAA.out]; exact hl)
           clear hl HLC
           obtain ⟨u, hue⟩ : ∃ u, D3[pv]! = u := ⟨_, rfl⟩
           obtain ⟨v, hve⟩ : ∃ v, D3[A1]! = v := ⟨_, rfl⟩
           rw [hue] at cp HLT
           rw [hve] at ca HLT
           clear hue hve
           go_upto_region 17 with fail
           go_quiet (first | (go_at_call 79; refine Calls.quiet_of_same (HLT _)))
           clear HK
           have HK := Lib.hid (HD.out nq)
           clear HLT cp ca HD eA wA A1_0 A1_1 kA kA2 kA3
           generalize World.drewN _ nq = wk at *
           clear nq
           go_wp2_with fail
           refine (peU_c blk n c A B pv D3 w0 wk HK.out (by omega) (by omega) hBn hn).mono ?_
           rintro e w6 ⟨mid, rfl, hm, h6⟩
           have hsz : B ≤ D3.size := by rw [HK.out.size]; exact hBn
           rcases hp : partitionEqual ltInt D3 A B pv with ⟨m2, d4⟩
           rw [hp] at hm h6
           obtain rfl : mid = m2 := hm.symm
           obtain ⟨hA4, hB4, hs4, hbl, hgo⟩ := round_eq swo_ltInt (partitionEqual_holds _) hA0 (by omega) (by omega) hsz HB.out HNL.out hp
           have HK4 := Lib.hid h6
           have HB4 := Lib.hid hbl
           have HR4 : Hid (GoalU a b d mid B d4) := Lib.hid (fun R h1 h2 => HR.out R (hgo R h1 h2).1 (hgo R h1 h2).2)
           clear hp h6 hbl hgo hs4 hsz HK HB HR
           go_wp2
           exact ⟨⟨mid, B, L, _, _, d4, rfl, rfl, rfl, rfl, rfl, by omega, by omega, by omega, by omega, HK4, HB4, HR4⟩, by simp [intOf]; omega⟩
         ·have kA : ¬ (0 : Int) < (A : Int) := by omega
          have kA2 : decide ((0 : Int) < (A : Int)) = false := decide_eq_false kA
          have kA3 : decide (0 < A) = false := decide_eq_false hA0
          go_upto_region 17 with fail
          go_quiet (fail)
          clear HK
          have HK := Lib.hid (HD.out nq)
          clear cp HD kA kA2 kA3
          generalize World.drewN _ nq = wk at *
          clear nq
          go_wp2_with fail
          refine (paU_c blk n c A B pv D3 w0 wk HK.out (by omega) (by omega) hBn hn).mono ?_
          rintro e w6 ⟨mid, ap, rfl, hm, h6⟩
          have hsz : B ≤ D3.size := by rw [HK.out.size]; exact hBn
          rcases hp : partition ltInt D3 A B pv with ⟨m2, ap2, d4⟩
          rw [hp] at hm h6
          obtain rfl : mid = m2 := hm.symm
          obtain ⟨hA4, hB4, hs4, hbl, hbr, hlf, hrf⟩ := round_part swo_ltInt (partition_holds _) (by omega) (by omega) hsz HB.out hp
          have HK4 := Lib.hid h6
          have HBL := Lib.hid hbl
          have HBR := Lib.hid hbr
          have HLF := Lib.hid hlf
          have HRF := Lib.hid hrf
          clear hp h6 hbl hbr hlf hrf hs4 hsz HK HB
          obtain ⟨lf, hlf⟩ : ∃ lf, mid - A = lf := ⟨_, rfl⟩
          obtain ⟨rt, hrt⟩ : ∃ rt, B - mid = rt := ⟨_, rfl⟩
          obtain ⟨q8, hq8⟩ : ∃ q8, l / 8 = q8 := ⟨_, rfl⟩
          have elf : (mid : Int) - (A : Int) = (lf : Int) := by omega
          have ert : (B : Int) - (mid : Int) = (rt : Int) := by omega
          have eq8 : Int.tdiv (l : Int) 8 = (q8 : Int) := by
           rw [Int.tdiv_eq_ediv_of_nonneg (by omega)]
           omega
          have wlf : IntKind.i64.wrap (lf : Int) = lf := IntWalk.i64_in _ (by omega)
          have wrt : IntKind.i64.wrap (rt : Int) = rt := IntWalk.i64_in _ (by omega)
          have wq8 : IntKind.i64.wrap (q8 : Int) = q8 := IntWalk.i64_in _ (by omega)
          have HQ := Lib.hid (⟨hlf, hrt, hq8⟩ : mid - A = lf ∧ B - mid = rt ∧ l / 8 = q8)
          clear hlf hrt hq8
          by_cases hlr : lf < rt
          ·have kc : (lf : Int) < (rt : Int) := by omega
           go_wp2_with fail
           refine (IH (mid - A) (by omega) A mid L d4 w0 w6 rfl (by omega) (by omega) (by omega) HK4.out HBL.out).mono ?_
           rintro e w7 ⟨rfl, R1, hp1, hs1, h7⟩
           have HK7 := Lib.hid h7
           have HB7 := Lib.hid (HLF.out R1 hp1 hs1).1
           have HR7 : Hid (GoalU a b d (mid + 1) B R1) := Lib.hid (fun R h1 h2 => by
            have h3 := (HLF.out R1 hp1 hs1).2 R h1 h2
            exact HR.out R h3.1 h3.2)
           clear h7 hp1 hs1
           go_wp2
           exact ⟨⟨mid + 1, B, L, _, _, R1, by go_num, rfl, rfl, rfl, rfl, by omega, by omega, by omega, by omega, HK7, HB7, HR7⟩, by simp [intOf]; omega⟩
          ·have kc : ¬ (lf : Int) < (rt : Int) := by omega
           have em1 : (mid : Int) + 1 = ((mid + 1 : Nat) : Int) := by omega
           obtain ⟨mm, hmm⟩ : ∃ mm, mid + 1 = mm := ⟨_, rfl⟩
           have emm : (mid : Int) + 1 = (mm : Int) := by omega
           have wmm : IntKind.i64.wrap (mm : Int) = mm := IntWalk.i64_in _ (by omega)
           have HMM := Lib.hid hmm
           clear hmm em1
           go_wp2_with fail
           rw [← HMM.out]
           have wmm2 := HMM.out
           refine (IH (B - (mid + 1)) (by omega) (mid + 1) B L d4 w0 w6 rfl (by omega) (by omega) (by omega) HK4.out HBR.out).mono ?_
           rintro e w7 ⟨rfl, R1, hp1, hs1, h7⟩
           have HK7 := Lib.hid h7
           have HB7 := Lib.hid (HRF.out R1 hp1 hs1).1
           have HR7 : Hid (GoalU a b d A mid R1) := Lib.hid (fun R h1 h2 => by
            have h3 := (HRF.out R1 hp1 hs1).2 R h1 h2
            exact HR.out R h3.1 h3.2)
           clear h7 hp1 hs1
           go_wp2
           exact ⟨⟨A, mid, L, _, _, R1, rfl, rfl, rfl, rfl, rfl, by omega, by omega, by omega, by omega, HK7, HB7, HR7⟩, by simp [intOf]; omega⟩
     ·obtain ⟨P1, hP1⟩ : ∃ P1, pv - A = P1 := ⟨_, rfl⟩
      obtain ⟨B1, hB1⟩ : ∃ B1, B - 1 = B1 := ⟨_, rfl⟩
      obtain ⟨pw, hpw⟩ : ∃ pw, B1 - P1 = pw := ⟨_, rfl⟩
      have e1 : (pv : Int) - (A : Int) = (P1 : Int) := by omega
      have e2 : (B : Int) - 1 = (B1 : Int) := by omega
      have e3 : (B1 : Int) - (P1 : Int) = (pw : Int) := by omega
      have w_1 : IntKind.i64.wrap (P1 : Int) = P1 := IntWalk.i64_in _ (by omega)
      have w_2 : IntKind.i64.wrap (B1 : Int) = B1 := IntWalk.i64_in _ (by omega)
      have w_3 : IntKind.i64.wrap (pw : Int) = pw := IntWalk.i64_in _ (by omega)
      have hpw0 : A ≤ pw := by omega
      have hpw1 : pw < B := by omega
      clear hP1 hB1 hpw
      go_wp2_with fail
      refine (revU_c blk n c A B D w0 w4 HK.out (by omega) hBn hn).mono ?_
      rintro e w5 ⟨rfl, h5⟩
      have hpm := reverseRange_holds D A B (by omega) (by rw [HK.out.size]; exact hBn)
      have HKn := Lib.hid h5
      have HBn := Lib.hid (HB.out.perm (by rw [HK.out.size]; exact hBn) hpm)
      have HRn := Lib.hid (HR.out.perm hpm)
      clear h5 HK HB HR hpm
      generalize reverseRange D A B = D2 at *
      have HK := HKn
      have HB := HBn
      have HR := HRn
      clear HKn HBn HRn
      cases y with
      | false =>
       as_aux_lemma =>
        have cp := HK.out.cell (i := pw) (by omega) rfl
        have HD := Lib.hid (fun q => HK.out.drewN q)
        have pw_0 : (0 : Int) ≤ pw := by omega
        have pw_1 : (pw : Int) < n := by omega
        by_cases hA0 : 0 < A
        ·obtain ⟨A1, hA1⟩ : ∃ A1, A - 1 = A1 := ⟨_, rfl⟩
         have kA : (0 : Int) < (A : Int) := by omega
         have kA2 : decide ((0 : Int) < (A : Int)) = true := decide_eq_true kA
         have kA3 : decide (0 < A) = true := decide_eq_true hA0
         have eA : (A : Int) - 1 = (A1 : Int) := by omega
         have wA : IntKind.i64.wrap (A1 : Int) = A1 := IntWalk.i64_in _ (by omega)
         have A1_0 : (0 : Int) ≤ A1 := by omega
         have A1_1 : (A1 : Int) < n := by omega
         have ca := HK.out.cell (i := A1) (by omega) rfl
         have HLC := Lib.hid (fun r h W => lessU_c D2[A1]! D2[pw]! r W h)
         have HAA := Lib.hid hA1
         clear hA1
         cases hl : ltInt D2[A1]! D2[pw]! with
         | true =>
          have HLT := fun W => HLC.out true hl W
          clear hl HLC
          obtain ⟨u, hue⟩ : ∃ u, D2[pw]! = u := ⟨_, rfl⟩
          obtain ⟨v, hve⟩ : ∃ v, D2[A1]! = v := ⟨_, rfl⟩
          rw [hue] at cp HLT
          rw [hve] at ca HLT
          clear hue hve
          go_upto_region 17 with fail
          go_quiet (first | (go_at_call 79; refine Calls.quiet_of_same (HLT _)))
          clear HK
          have HK := Lib.hid (HD.out nq)
          clear HLT cp ca HD eA wA A1_0 A1_1 kA kA2 kA3 HAA
          generalize World.drewN _ nq = wk at *
          clear nq
          go_wp2_with fail
          refine (paU_c blk n c A B pw D2 w0 wk HK.out (by omega) (by omega) hBn hn).mono ?_
          rintro e w6 ⟨mid, ap, rfl, hm, h6⟩
          have hsz : B ≤ D2.size := by rw [HK.out.size]; exact hBn
          rcases hp : partition ltInt D2 A B pw with ⟨m2, ap2, d4⟩
          rw [hp] at hm h6
          obtain rfl : mid = m2 := hm.symm
          obtain ⟨hA4, hB4, hs4, hbl, hbr, hlf, hrf⟩ := round_part swo_ltInt (partition_holds _) (by omega) (by omega) hsz HB.out hp
          have HK4 := Lib.hid h6
          have HBL := Lib.hid hbl
          have HBR := Lib.hid hbr
          have HLF := Lib.hid hlf
          have HRF := Lib.hid hrf
          clear hp h6 hbl hbr hlf hrf hs4 hsz HK HB
          obtain ⟨lf, hlf⟩ : ∃ lf, mid - A = lf := ⟨_, rfl⟩
          obtain ⟨rt, hrt⟩ : ∃ rt, B - mid = rt := ⟨_, rfl⟩
          obtain ⟨q8, hq8⟩ : ∃ q8, l / 8 = q8 := ⟨_, rfl⟩
          have elf : (mid : Int) - (A : Int) = (lf : Int) := by omega
          have ert : (B : Int) - (mid : Int) = (rt : Int) := by omega
          have eq8 : Int.tdiv (l : Int) 8 = (q8 : Int) := by
           rw [Int.tdiv_eq_ediv_of_nonneg (by omega)]
           omega
          have wlf : IntKind.i64.wrap (lf : Int) = lf := IntWalk.i64_in _ (by omega)
          have wrt : IntKind.i64.wrap (rt : Int) = rt := IntWalk.i64_in _ (by omega)
          have wq8 : IntKind.i64.wrap (q8 : Int) = q8 := IntWalk.i64_in _ (by omega)
          have HQ := Lib.hid (⟨hlf, hrt, hq8⟩ : mid - A = lf ∧ B - mid = rt ∧ l / 8 = q8)
          clear hlf hrt hq8
          by_cases hlr : lf < rt
          ·have kc : (lf : Int) < (rt : Int) := by omega
           go_wp2_with fail
           refine (IH (mid - A) (by omega) A mid L d4 w0 w6 rfl (by omega) (by omega) (by omega) HK4.out HBL.out).mono ?_
           rintro e w7 ⟨rfl, R1, hp1, hs1, h7⟩
           have HK7 := Lib.hid h7
           have HB7 := Lib.hid (HLF.out R1 hp1 hs1).1
           have HR7 : Hid (GoalU a b d (mid + 1) B R1) := Lib.hid (fun R h1 h2 => by
            have h3 := (HLF.out R1 hp1 hs1).2 R h1 h2
            exact HR.out R h3.1 h3.2)
           clear h7 hp1 hs1
           go_wp2
           exact ⟨⟨mid + 1, B, L, _, _, R1, by go_num, rfl, rfl, rfl, rfl, by omega, by omega, by omega, by omega, HK7, HB7, HR7⟩, by simp [intOf]; omega⟩
          ·have kc : ¬ (lf : Int) < (rt : Int) := by omega
           have em1 : (mid : Int) + 1 = ((mid + 1 : Nat) : Int) := by omega
           obtain ⟨mm, hmm⟩ : ∃ mm, mid + 1 = mm := ⟨_, rfl⟩
           have emm : (mid : Int) + 1 = (mm : Int) := by omega
           have wmm : IntKind.i64.wrap (mm : Int) = mm := IntWalk.i64_in _ (by omega)
           have HMM := Lib.hid hmm
           clear hmm em1
           go_wp2_with fail
           rw [← HMM.out]
           have wmm2 := HMM.out
           refine (IH (B - (mid + 1)) (by omega) (mid + 1) B L d4 w0 w6 rfl (by omega) (by omega) (by omega) HK4.out HBR.out).mono ?_
           rintro e w7 ⟨rfl, R1, hp1, hs1, h7⟩
           have HK7 := Lib.hid h7
           have HB7 := Lib.hid (HRF.out R1 hp1 hs1).1
           have HR7 : Hid (GoalU a b d A mid R1) := Lib.hid (fun R h1 h2 => by
            have h3 := (HRF.out R1 hp1 hs1).2 R h1 h2
            exact HR.out R h3.1 h3.2)
           clear h7 hp1 hs1
           go_wp2
           exact ⟨⟨A, mid, L, _, _, R1, rfl, rfl, rfl, rfl, rfl, by omega, by omega, by omega, by omega, HK7, HB7, HR7⟩, by simp [intOf]; omega⟩
         | false =>
          have HLT := fun W => HLC.out false hl W
          have HNL : Hid (ltInt D2[A - 1]! D2[pw]! = false) := Lib.hid (by rw [HAA.out]; exact hl)
          clear hl HLC
          obtain ⟨u, hue⟩ : ∃ u, D2[pw]! = u := ⟨_, rfl⟩
          obtain ⟨v, hve⟩ : ∃ v, D2[A1]! = v := ⟨_, rfl⟩
          rw [hue] at cp HLT
          rw [hve] at ca HLT
          clear hue hve
          go_upto_region 17 with fail
          go_quiet (first | (go_at_call 79; refine Calls.quiet_of_same (HLT _)))
          clear HK
          have HK := Lib.hid (HD.out nq)
          clear HLT cp ca HD eA wA A1_0 A1_1 kA kA2 kA3
          generalize World.drewN _ nq = wk at *
          clear nq
          go_wp2_with fail
          refine (peU_c blk n c A B pw D2 w0 wk HK.out (by omega) (by omega) hBn hn).mono ?_
          rintro e w6 ⟨mid, rfl, hm, h6⟩
          have hsz : B ≤ D2.size := by rw [HK.out.size]; exact hBn
          rcases hp : partitionEqual ltInt D2 A B pw with ⟨m2, d4⟩
          rw [hp] at hm h6
          obtain rfl : mid = m2 := hm.symm
          obtain ⟨hA4, hB4, hs4, hbl, hgo⟩ := round_eq swo_ltInt (partitionEqual_holds _) hA0 (by omega) (by omega) hsz HB.out HNL.out hp
          have HK4 := Lib.hid h6
          have HB4 := Lib.hid hbl
          have HR4 : Hid (GoalU a b d mid B d4) := Lib.hid (fun R h1 h2 => HR.out R (hgo R h1 h2).1 (hgo R h1 h2).2)
          clear hp h6 hbl hgo hs4 hsz HK HB HR
          go_wp2
          exact ⟨⟨mid, B, L, _, _, d4, rfl, rfl, rfl, rfl, rfl, by omega, by omega, by omega, by omega, HK4, HB4, HR4⟩, by simp [intOf]; omega⟩
        ·have kA : ¬ (0 : Int) < (A : Int) := by omega
         have kA2 : decide ((0 : Int) < (A : Int)) = false := decide_eq_false kA
         have kA3 : decide (0 < A) = false := decide_eq_false hA0
         go_upto_region 17 with fail
         go_quiet (fail)
         clear HK
         have HK := Lib.hid (HD.out nq)
         clear cp HD kA kA2 kA3
         generalize World.drewN _ nq = wk at *
         clear nq
         go_wp2_with fail
         refine (paU_c blk n c A B pw D2 w0 wk HK.out (by omega) (by omega) hBn hn).mono ?_
         rintro e w6 ⟨mid, ap, rfl, hm, h6⟩
         have hsz : B ≤ D2.size := by rw [HK.out.size]; exact hBn
         rcases hp : partition ltInt D2 A B pw with ⟨m2, ap2, d4⟩
         rw [hp] at hm h6
         obtain rfl : mid = m2 := hm.symm
         obtain ⟨hA4, hB4, hs4, hbl, hbr, hlf, hrf⟩ := round_part swo_ltInt (partition_holds _) (by omega) (by omega) hsz HB.out hp
         have HK4 := Lib.hid h6
         have HBL := Lib.hid hbl
         have HBR := Lib.hid hbr
         have HLF := Lib.hid hlf
         have HRF := Lib.hid hrf
         clear hp h6 hbl hbr hlf hrf hs4 hsz HK HB
         obtain ⟨lf, hlf⟩ : ∃ lf, mid - A = lf := ⟨_, rfl⟩
         obtain ⟨rt, hrt⟩ : ∃ rt, B - mid = rt := ⟨_, rfl⟩
         obtain ⟨q8, hq8⟩ : ∃ q8, l / 8 = q8 := ⟨_, rfl⟩
         have elf : (mid : Int) - (A : Int) = (lf : Int) := by omega
         have ert : (B : Int) - (mid : Int) = (rt : Int) := by omega
         have eq8 : Int.tdiv (l : Int) 8 = (q8 : Int) := by
          rw [Int.tdiv_eq_ediv_of_nonneg (by omega)]
          omega
         have wlf : IntKind.i64.wrap (lf : Int) = lf := IntWalk.i64_in _ (by omega)
         have wrt : IntKind.i64.wrap (rt : Int) = rt := IntWalk.i64_in _ (by omega)
         have wq8 : IntKind.i64.wrap (q8 : Int) = q8 := IntWalk.i64_in _ (by omega)
         have HQ := Lib.hid (⟨hlf, hrt, hq8⟩ : mid - A = lf ∧ B - mid = rt ∧ l / 8 = q8)
         clear hlf hrt hq8
         by_cases hlr : lf < rt
         ·have kc : (lf : Int) < (rt : Int) := by omega
          go_wp2_with fail
          refine (IH (mid - A) (by omega) A mid L d4 w0 w6 rfl (by omega) (by omega) (by omega) HK4.out HBL.out).mono ?_
          rintro e w7 ⟨rfl, R1, hp1, hs1, h7⟩
          have HK7 := Lib.hid h7
          have HB7 := Lib.hid (HLF.out R1 hp1 hs1).1
          have HR7 : Hid (GoalU a b d (mid + 1) B R1) := Lib.hid (fun R h1 h2 => by
           have h3 := (HLF.out R1 hp1 hs1).2 R h1 h2
           exact HR.out R h3.1 h3.2)
          clear h7 hp1 hs1
          go_wp2
          exact ⟨⟨mid + 1, B, L, _, _, R1, by go_num, rfl, rfl, rfl, rfl, by omega, by omega, by omega, by omega, HK7, HB7, HR7⟩, by simp [intOf]; omega⟩
         ·have kc : ¬ (lf : Int) < (rt : Int) := by omega
          have em1 : (mid : Int) + 1 = ((mid + 1 : Nat) : Int) := by omega
          obtain ⟨mm, hmm⟩ : ∃ mm, mid + 1 = mm := ⟨_, rfl⟩
          have emm : (mid : Int) + 1 = (mm : Int) := by omega
          have wmm : IntKind.i64.wrap (mm : Int) = mm := IntWalk.i64_in _ (by omega)
          have HMM := Lib.hid hmm
          clear hmm em1
          go_wp2_with fail
          rw [← HMM.out]
          have wmm2 := HMM.out
          refine (IH (B - (mid + 1)) (by omega) (mid + 1) B L d4 w0 w6 rfl (by omega) (by omega) (by omega) HK4.out HBR.out).mono ?_
          rintro e w7 ⟨rfl, R1, hp1, hs1, h7⟩
          have HK7 := Lib.hid h7
          have HB7 := Lib.hid (HRF.out R1 hp1 hs1).1
          have HR7 : Hid (GoalU a b d A mid R1) := Lib.hid (fun R h1 h2 => by
           have h3 := (HRF.out R1 hp1 hs1).2 R h1 h2
           exact HR.out R h3.1 h3.2)
          clear h7 hp1 hs1
          go_wp2
          exact ⟨⟨A, mid, L, _, _, R1, rfl, rfl, rfl, rfl, rfl, by omega, by omega, by omega, by omega, HK7, HB7, HR7⟩, by simp [intOf]; omega⟩
      | true =>
       go_wp2_with fail
       refine (pisU_c blk n c A B D2 w0 w5 HK.out (by omega) hBn hn).mono ?_
       rintro e w8 ⟨rfl, h8⟩
       have hpi := partialInsertionSort_holds swo_ltInt D2 A B (by omega) (by rw [HK.out.size]; exact hBn) HB.out
       rcases hp : partialInsertionSort ltInt D2 A B with ⟨D3, ok⟩
       rw [hp] at hpi h8
       have HKn := Lib.hid h8
       clear h8
       cases ok with
       | true =>
        have HPI : Hid (PermIn A B D2 D3 ∧ SortedIn ltInt A B D3) := Lib.hid ⟨hpi.1, hpi.2 rfl⟩
        clear hpi hp
        go_wp2
        try simp only [Exit.inBlock, Exit.then]
        refine bodyPost_ret (results_none rfl _ _ _) rfl ?_
        exact PdqPost.mk' HR.out HPI.out HKn.out
       | false =>
        have HBn := Lib.hid (HB.out.perm (by rw [HK.out.size]; exact hBn) hpi.1)
        have HRn := Lib.hid (HR.out.perm hpi.1)
        clear hpi hp HK HB HR
        have HK := HKn
        have HB := HBn
        have HR := HRn
        clear HKn HBn HRn
        as_aux_lemma =>
         have cp := HK.out.cell (i := pw) (by omega) rfl
         have HD := Lib.hid (fun q => HK.out.drewN q)
         have pw_0 : (0 : Int) ≤ pw := by omega
         have pw_1 : (pw : Int) < n := by omega
         by_cases hA0 : 0 < A
         ·obtain ⟨A1, hA1⟩ : ∃ A1, A - 1 = A1 := ⟨_, rfl⟩
          have kA : (0 : Int) < (A : Int) := by omega
          have kA2 : decide ((0 : Int) < (A : Int)) = true := decide_eq_true kA
          have kA3 : decide (0 < A) = true := decide_eq_true hA0
          have eA : (A : Int) - 1 = (A1 : Int) := by omega
          have wA : IntKind.i64.wrap (A1 : Int) = A1 := IntWalk.i64_in _ (by omega)
          have A1_0 : (0 : Int) ≤ A1 := by omega
          have A1_1 : (A1 : Int) < n := by omega
          have ca := HK.out.cell (i := A1) (by omega) rfl
          have HLC := Lib.hid (fun r h W => lessU_c D3[A1]! D3[pw]! r W h)
          have HAA := Lib.hid hA1
          clear hA1
          cases hl : ltInt D3[A1]! D3[pw]! with
          | true =>
           have HLT := fun W => HLC.out true hl W
           clear hl HLC
           obtain ⟨u, hue⟩ : ∃ u, D3[pw]! = u := ⟨_, rfl⟩
           obtain ⟨v, hve⟩ : ∃ v, D3[A1]! = v := ⟨_, rfl⟩
           rw [hue] at cp HLT
           rw [hve] at ca HLT
           clear hue hve
           go_upto_region 17 with fail
           go_quiet (first | (go_at_call 79; refine Calls.quiet_of_same (HLT _)))
           clear HK
           have HK := Lib.hid (HD.out nq)
           clear HLT cp ca HD eA wA A1_0 A1_1 kA kA2 kA3 HAA
           generalize World.drewN _ nq = wk at *
           clear nq
           go_wp2_with fail
           refine (paU_c blk n c A B pw D3 w0 wk HK.out (by omega) (by omega) hBn hn).mono ?_
           rintro e w6 ⟨mid, ap, rfl, hm, h6⟩
           have hsz : B ≤ D3.size := by rw [HK.out.size]; exact hBn
           rcases hp : partition ltInt D3 A B pw with ⟨m2, ap2, d4⟩
           rw [hp] at hm h6
           obtain rfl : mid = m2 := hm.symm
           obtain ⟨hA4, hB4, hs4, hbl, hbr, hlf, hrf⟩ := round_part swo_ltInt (partition_holds _) (by omega) (by omega) hsz HB.out hp
           have HK4 := Lib.hid h6
           have HBL := Lib.hid hbl
           have HBR := Lib.hid hbr
           have HLF := Lib.hid hlf
           have HRF := Lib.hid hrf
           clear hp h6 hbl hbr hlf hrf hs4 hsz HK HB
           obtain ⟨lf, hlf⟩ : ∃ lf, mid - A = lf := ⟨_, rfl⟩
           obtain ⟨rt, hrt⟩ : ∃ rt, B - mid = rt := ⟨_, rfl⟩
           obtain ⟨q8, hq8⟩ : ∃ q8, l / 8 = q8 := ⟨_, rfl⟩
           have elf : (mid : Int) - (A : Int) = (lf : Int) := by omega
           have ert : (B : Int) - (mid : Int) = (rt : Int) := by omega
           have eq8 : Int.tdiv (l : Int) 8 = (q8 : Int) := by
            rw [Int.tdiv_eq_ediv_of_nonneg (by omega)]
            omega
           have wlf : IntKind.i64.wrap (lf : Int) = lf := IntWalk.i64_in _ (by omega)
           have wrt : IntKind.i64.wrap (rt : Int) = rt := IntWalk.i64_in _ (by omega)
           have wq8 : IntKind.i64.wrap (q8 : Int) = q8 := IntWalk.i64_in _ (by omega)
           have HQ := Lib.hid (⟨hlf, hrt, hq8⟩ : mid - A = lf ∧ B - mid = rt ∧ l / 8 = q8)
           clear hlf hrt hq8
           by_cases hlr : lf < rt
           ·have kc : (lf : Int) < (rt : Int) := by omega
            go_wp2_with fail
            refine (IH (mid - A) (by omega) A mid L d4 w0 w6 rfl (by omega) (by omega) (by omega) HK4.out HBL.out).mono ?_
            rintro e w7 ⟨rfl, R1, hp1, hs1, h7⟩
            have HK7 := Lib.hid h7
            have HB7 := Lib.hid (HLF.out R1 hp1 hs1).1
            have HR7 : Hid (GoalU a b d (mid + 1) B R1) := Lib.hid (fun R h1 h2 => by
             have h3 := (HLF.out R1 hp1 hs1).2 R h1 h2
             exact HR.out R h3.1 h3.2)
            clear h7 hp1 hs1
            go_wp2
            exact ⟨⟨mid + 1, B, L, _, _, R1, by go_num, rfl, rfl, rfl, rfl, by omega, by omega, by omega, by omega, HK7, HB7, HR7⟩, by simp [intOf]; omega⟩
           ·have kc : ¬ (lf : Int) < (rt : Int) := by omega
            have em1 : (mid : Int) + 1 = ((mid + 1 : Nat) : Int) := by omega
            obtain ⟨mm, hmm⟩ : ∃ mm, mid + 1 = mm := ⟨_, rfl⟩
            have emm : (mid : Int) + 1 = (mm : Int) := by omega
            have wmm : IntKind.i64.wrap (mm : Int) = mm := IntWalk.i64_in _ (by omega)
            have HMM := Lib.hid hmm
            clear hmm em1
            go_wp2_with fail
            rw [← HMM.out]
            have wmm2 := HMM.out
            refine (IH (B - (mid + 1)) (by omega) (mid + 1) B L d4 w0 w6 rfl (by omega) (by omega) (by omega) HK4.out HBR.out).mono ?_
            rintro e w7 ⟨rfl, R1, hp1, hs1, h7⟩
            have HK7 := Lib.hid h7
            have HB7 := Lib.hid (HRF.out R1 hp1 hs1).1
            have HR7 : Hid (GoalU a b d A mid R1) := Lib.hid (fun R h1 h2 => by
             have h3 := (HRF.out R1 hp1 hs1).2 R h1 h2
             exact HR.out R h3.1 h3.2)
            clear h7 hp1 hs1
            go_wp2
            exact ⟨⟨A, mid, L, _, _, R1, rfl, rfl, rfl, rfl, rfl, by omega, by omega, by omega, by omega, HK7, HB7, HR7⟩, by simp [intOf]; omega⟩
          | false =>
           have HLT := fun W => HLC.out false hl W
           have HNL : Hid (ltInt D3[A - 1]! D3[pw]! = false) := Lib.hid (by rw [HAA.out]; exact hl)
           clear hl HLC
           obtain ⟨u, hue⟩ : ∃ u, D3[pw]! = u := ⟨_, rfl⟩
           obtain ⟨v, hve⟩ : ∃ v, D3[A1]! = v := ⟨_, rfl⟩
           rw [hue] at cp HLT
           rw [hve] at ca HLT
           clear hue hve
           go_upto_region 17 with fail
           go_quiet (first | (go_at_call 79; refine Calls.quiet_of_same (HLT _)))
           clear HK
           have HK := Lib.hid (HD.out nq)
           clear HLT cp ca HD eA wA A1_0 A1_1 kA kA2 kA3
           generalize World.drewN _ nq = wk at *
           clear nq
           go_wp2_with fail
           refine (peU_c blk n c A B pw D3 w0 wk HK.out (by omega) (by omega) hBn hn).mono ?_
           rintro e w6 ⟨mid, rfl, hm, h6⟩
           have hsz : B ≤ D3.size := by rw [HK.out.size]; exact hBn
           rcases hp : partitionEqual ltInt D3 A B pw with ⟨m2, d4⟩
           rw [hp] at hm h6
           obtain rfl : mid = m2 := hm.symm
           obtain ⟨hA4, hB4, hs4, hbl, hgo⟩ := round_eq swo_ltInt (partitionEqual_holds _) hA0 (by omega) (by omega) hsz HB.out HNL.out hp
           have HK4 := Lib.hid h6
           have HB4 := Lib.hid hbl
           have HR4 : Hid (GoalU a b d mid B d4) := Lib.hid (fun R h1 h2 => HR.out R (hgo R h1 h2).1 (hgo R h1 h2).2)
           clear hp h6 hbl hgo hs4 hsz HK HB HR
           go_wp2
           exact ⟨⟨mid, B, L, _, _, d4, rfl, rfl, rfl, rfl, rfl, by omega, by omega, by omega, by omega, HK4, HB4, HR4⟩, by simp [intOf]; omega⟩
         ·have kA : ¬ (0 : Int) < (A : Int) := by omega
          have kA2 : decide ((0 : Int) < (A : Int)) = false := decide_eq_false kA
          have kA3 : decide (0 < A) = false := decide_eq_false hA0
          go_upto_region 17 with fail
          go_quiet (fail)
          clear HK
          have HK := Lib.hid (HD.out nq)
          clear cp HD kA kA2 kA3
          generalize World.drewN _ nq = wk at *
          clear nq
          go_wp2_with fail
          refine (paU_c blk n c A B pw D3 w0 wk HK.out (by omega) (by omega) hBn hn).mono ?_
          rintro e w6 ⟨mid, ap, rfl, hm, h6⟩
          have hsz : B ≤ D3.size := by rw [HK.out.size]; exact hBn
          rcases hp : partition ltInt D3 A B pw with ⟨m2, ap2, d4⟩
          rw [hp] at hm h6
          obtain rfl : mid = m2 := hm.symm
          obtain ⟨hA4, hB4, hs4, hbl, hbr, hlf, hrf⟩ := round_part swo_ltInt (partition_holds _) (by omega) (by omega) hsz HB.out hp
          have HK4 := Lib.hid h6
          have HBL := Lib.hid hbl
          have HBR := Lib.hid hbr
          have HLF := Lib.hid hlf
          have HRF := Lib.hid hrf
          clear hp h6 hbl hbr hlf hrf hs4 hsz HK HB
          obtain ⟨lf, hlf⟩ : ∃ lf, mid - A = lf := ⟨_, rfl⟩
          obtain ⟨rt, hrt⟩ : ∃ rt, B - mid = rt := ⟨_, rfl⟩
          obtain ⟨q8, hq8⟩ : ∃ q8, l / 8 = q8 := ⟨_, rfl⟩
          have elf : (mid : Int) - (A : Int) = (lf : Int) := by omega
          have ert : (B : Int) - (mid : Int) = (rt : Int) := by omega
          have eq8 : Int.tdiv (l : Int) 8 = (q8 : Int) := by
           rw [Int.tdiv_eq_ediv_of_nonneg (by omega)]
           omega
          have wlf : IntKind.i64.wrap (lf : Int) = lf := IntWalk.i64_in _ (by omega)
          have wrt : IntKind.i64.wrap (rt : Int) = rt := IntWalk.i64_in _ (by omega)
          have wq8 : IntKind.i64.wrap (q8 : Int) = q8 := IntWalk.i64_in _ (by omega)
          have HQ := Lib.hid (⟨hlf, hrt, hq8⟩ : mid - A = lf ∧ B - mid = rt ∧ l / 8 = q8)
          clear hlf hrt hq8
          by_cases hlr : lf < rt
          ·have kc : (lf : Int) < (rt : Int) := by omega
           go_wp2_with fail
           refine (IH (mid - A) (by omega) A mid L d4 w0 w6 rfl (by omega) (by omega) (by omega) HK4.out HBL.out).mono ?_
           rintro e w7 ⟨rfl, R1, hp1, hs1, h7⟩
           have HK7 := Lib.hid h7
           have HB7 := Lib.hid (HLF.out R1 hp1 hs1).1
           have HR7 : Hid (GoalU a b d (mid + 1) B R1) := Lib.hid (fun R h1 h2 => by
            have h3 := (HLF.out R1 hp1 hs1).2 R h1 h2
            exact HR.out R h3.1 h3.2)
           clear h7 hp1 hs1
           go_wp2
           exact ⟨⟨mid + 1, B, L, _, _, R1, by go_num, rfl, rfl, rfl, rfl, by omega, by omega, by omega, by omega, HK7, HB7, HR7⟩, by simp [intOf]; omega⟩
          ·have kc : ¬ (lf : Int) < (rt : Int) := by omega
           have em1 : (mid : Int) + 1 = ((mid + 1 : Nat) : Int) := by omega
           obtain ⟨mm, hmm⟩ : ∃ mm, mid + 1 = mm := ⟨_, rfl⟩
           have emm : (mid : Int) + 1 = (mm : Int) := by omega
           have wmm : IntKind.i64.wrap (mm : Int) = mm := IntWalk.i64_in _ (by omega)
           have HMM := Lib.hid hmm
           clear hmm em1
           go_wp2_with fail
           rw [← HMM.out]
           have wmm2 := HMM.out
           refine (IH (B - (mid + 1)) (by omega) (mid + 1) B L d4 w0 w6 rfl (by omega) (by omega) (by omega) HK4.out HBR.out).mono ?_
           rintro e w7 ⟨rfl, R1, hp1, hs1, h7⟩
           have HK7 := Lib.hid h7
           have HB7 := Lib.hid (HRF.out R1 hp1 hs1).1
           have HR7 : Hid (GoalU a b d A mid R1) := Lib.hid (fun R h1 h2 => by
            have h3 := (HRF.out R1 hp1 hs1).2 R h1 h2
            exact HR.out R h3.1 h3.2)
           clear h7 hp1 hs1
           go_wp2
           exact ⟨⟨A, mid, L, _, _, R1, rfl, rfl, rfl, rfl, rfl, by omega, by omega, by omega, by omega, HK7, HB7, HR7⟩, by simp [intOf]; omega⟩
    | false =>
     obtain ⟨L1, hL1⟩ : ∃ L1, L - 1 = L1 := ⟨_, rfl⟩
     have eL1 : (L : Int) - 1 = (L1 : Int) := by omega
     have wL1 : IntKind.i64.wrap (L1 : Int) = L1 := IntWalk.i64_in _ (by omega)
     have hL1b : L1 ≤ 100 := by omega
     clear hL1
     go_wp2_with fail
     refine (brkU_c blk n c A B D w0 wr HK.out (by omega) hBn hn).mono ?_
     rintro e wd ⟨rfl, d1, hp1, h1⟩
     have HKn := Lib.hid h1
     have HBn := Lib.hid (HB.out.perm (by rw [HK.out.size]; exact hBn) hp1)
     have HRn := Lib.hid (HR.out.perm hp1)
     clear h1 HK HB HR hp1
     have HK := HKn
     have HB := HBn
     have HR := HRn
     clear HKn HBn HRn
     go_wp2_with fail
     refine (pivU_c blk n c A B d1 w0 wd HK.out (by omega) hBn hn).mono ?_
     rintro e w4 ⟨pv, hint, rfl, hpv0, hpv1, hh, g4⟩
     have HKn := Lib.hid (HK.out.calm g4)
     clear g4 HK
     have HK := HKn
     clear HKn
     obtain rfl | rfl | rfl : hint = 0 ∨ hint = 1 ∨ hint = 2 := by omega
     ·as_aux_lemma =>
       have cp := HK.out.cell (i := pv) (by omega) rfl
       have HD := Lib.hid (fun q => HK.out.drewN q)
       have pv_0 : (0 : Int) ≤ pv := by omega
       have pv_1 : (pv : Int) < n := by omega
       by_cases hA0 : 0 < A
       ·obtain ⟨A1, hA1⟩ : ∃ A1, A - 1 = A1 := ⟨_, rfl⟩
        have kA : (0 : Int) < (A : Int) := by omega
        have kA2 : decide ((0 : Int) < (A : Int)) = true := decide_eq_true kA
        have kA3 : decide (0 < A) = true := decide_eq_true hA0
        have eA : (A : Int) - 1 = (A1 : Int) := by omega
        have wA : IntKind.i64.wrap (A1 : Int) = A1 := IntWalk.i64_in _ (by omega)
        have A1_0 : (0 : Int) ≤ A1 := by omega
        have A1_1 : (A1 : Int) < n := by omega
        have ca := HK.out.cell (i := A1) (by omega) rfl
        have HLC := Lib.hid (fun r h W => lessU_c d1[A1]! d1[pv]! r W h)
        have HAA := Lib.hid hA1
        clear hA1
        cases hl : ltInt d1[A1]! d1[pv]! with
        | true =>
         have HLT := fun W => HLC.out true hl W
         clear hl HLC
         obtain ⟨u, hue⟩ : ∃ u, d1[pv]! = u := ⟨_, rfl⟩
         obtain ⟨v, hve⟩ : ∃ v, d1[A1]! = v := ⟨_, rfl⟩
         rw [hue] at cp HLT
         rw [hve] at ca HLT
         clear hue hve
         go_upto_region 17 with fail
         go_quiet (first | (go_at_call 79; refine Calls.quiet_of_same (HLT _)))
         clear HK
         have HK := Lib.hid (HD.out nq)
         clear HLT cp ca HD eA wA A1_0 A1_1 kA kA2 kA3 HAA
         generalize World.drewN _ nq = wk at *
         clear nq
         go_wp2_with fail
         refine (paU_c blk n c A B pv d1 w0 wk HK.out (by omega) (by omega) hBn hn).mono ?_
         rintro e w6 ⟨mid, ap, rfl, hm, h6⟩
         have hsz : B ≤ d1.size := by rw [HK.out.size]; exact hBn
         rcases hp : partition ltInt d1 A B pv with ⟨m2, ap2, d4⟩
         rw [hp] at hm h6
         obtain rfl : mid = m2 := hm.symm
         obtain ⟨hA4, hB4, hs4, hbl, hbr, hlf, hrf⟩ := round_part swo_ltInt (partition_holds _) (by omega) (by omega) hsz HB.out hp
         have HK4 := Lib.hid h6
         have HBL := Lib.hid hbl
         have HBR := Lib.hid hbr
         have HLF := Lib.hid hlf
         have HRF := Lib.hid hrf
         clear hp h6 hbl hbr hlf hrf hs4 hsz HK HB
         obtain ⟨lf, hlf⟩ : ∃ lf, mid - A = lf := ⟨_, rfl⟩
         obtain ⟨rt, hrt⟩ : ∃ rt, B - mid = rt := ⟨_, rfl⟩
         obtain ⟨q8, hq8⟩ : ∃ q8, l / 8 = q8 := ⟨_, rfl⟩
         have elf : (mid : Int) - (A : Int) = (lf : Int) := by omega
         have ert : (B : Int) - (mid : Int) = (rt : Int) := by omega
         have eq8 : Int.tdiv (l : Int) 8 = (q8 : Int) := by
          rw [Int.tdiv_eq_ediv_of_nonneg (by omega)]
          omega
         have wlf : IntKind.i64.wrap (lf : Int) = lf := IntWalk.i64_in _ (by omega)
         have wrt : IntKind.i64.wrap (rt : Int) = rt := IntWalk.i64_in _ (by omega)
         have wq8 : IntKind.i64.wrap (q8 : Int) = q8 := IntWalk.i64_in _ (by omega)
         have HQ := Lib.hid (⟨hlf, hrt, hq8⟩ : mid - A = lf ∧ B - mid = rt ∧ l / 8 = q8)
         clear hlf hrt hq8
         by_cases hlr : lf < rt
         ·have kc : (lf : Int) < (rt : Int) := by omega
          go_wp2_with fail
          refine (IH (mid - A) (by omega) A mid L1 d4 w0 w6 rfl (by omega) (by omega) (by omega) HK4.out HBL.out).mono ?_
          rintro e w7 ⟨rfl, R1, hp1, hs1, h7⟩
          have HK7 := Lib.hid h7
          have HB7 := Lib.hid (HLF.out R1 hp1 hs1).1
          have HR7 : Hid (GoalU a b d (mid + 1) B R1) := Lib.hid (fun R h1 h2 => by
           have h3 := (HLF.out R1 hp1 hs1).2 R h1 h2
           exact HR.out R h3.1 h3.2)
          clear h7 hp1 hs1
          go_wp2
          exact ⟨⟨mid + 1, B, L1, _, _, R1, by go_num, rfl, rfl, rfl, rfl, by omega, by omega, by omega, by omega, HK7, HB7, HR7⟩, by simp [intOf]; omega⟩
         ·have kc : ¬ (lf : Int) < (rt : Int) := by omega
          have em1 : (mid : Int) + 1 = ((mid + 1 : Nat) : Int) := by omega
          obtain ⟨mm, hmm⟩ : ∃ mm, mid + 1 = mm := ⟨_, rfl⟩
          have emm : (mid : Int) + 1 = (mm : Int) := by omega
          have wmm : IntKind.i64.wrap (mm : Int) = mm := IntWalk.i64_in _ (by omega)
          have HMM := Lib.hid hmm
          clear hmm em1
          go_wp2_with fail
          rw [← HMM.out]
          have wmm2 := HMM.out
          refine (IH (B - (mid + 1)) (by omega) (mid + 1) B L1 d4 w0 w6 rfl (by omega) (by omega) (by omega) HK4.out HBR.out).mono ?_
          rintro e w7 ⟨rfl, R1, hp1, hs1, h7⟩
          have HK7 := Lib.hid h7
          have HB7 := Lib.hid (HRF.out R1 hp1 hs1).1
          have HR7 : Hid (GoalU a b d A mid R1) := Lib.hid (fun R h1 h2 => by
           have h3 := (HRF.out R1 hp1 hs1).2 R h1 h2
           exact HR.out R h3.1 h3.2)
          clear h7 hp1 hs1
          go_wp2
          exact ⟨⟨A, mid, L1, _, _, R1, rfl, rfl, rfl, rfl, rfl, by omega, by omega, by omega, by omega, HK7, HB7, HR7⟩, by simp [intOf]; omega⟩
        | false =>
         have HLT := fun W => HLC.out false hl W
         have HNL : Hid (ltInt d1[A - 1]! d1[pv]! = false) := Lib.hid (by rw [HAA.out]; exact hl)
         clear hl HLC
         obtain ⟨u, hue⟩ : ∃ u, d1[pv]! = u := ⟨_, rfl⟩
         obtain ⟨v, hve⟩ : ∃ v, d1[A1]! = v := ⟨_, rfl⟩
         rw [hue] at cp HLT
         rw [hve] at ca HLT
         clear hue hve
         go_upto_region 17 with fail
         go_quiet (first | (go_at_call 79; refine Calls.quiet_of_same (HLT _)))
         clear HK
         have HK := Lib.hid (HD.out nq)
         clear HLT cp ca HD eA wA A1_0 A1_1 kA kA2 kA3
         generalize World.drewN _ nq = wk at *
         clear nq
         go_wp2_with fail
         refine (peU_c blk n c A B pv d1 w0 wk HK.out (by omega) (by omega) hBn hn).mono ?_
         rintro e w6 ⟨mid, rfl, hm, h6⟩
         have hsz : B ≤ d1.size := by rw [HK.out.size]; exact hBn
         rcases hp : partitionEqual ltInt d1 A B pv with ⟨m2, d4⟩
         rw [hp] at hm h6
         obtain rfl : mid = m2 := hm.symm
         obtain ⟨hA4, hB4, hs4, hbl, hgo⟩ := round_eq swo_ltInt (partitionEqual_holds _) hA0 (by omega) (by omega) hsz HB.out HNL.out hp
         have HK4 := Lib.hid h6
         have HB4 := Lib.hid hbl
         have HR4 : Hid (GoalU a b d mid B d4) := Lib.hid (fun R h1 h2 => HR.out R (hgo R h1 h2).1 (hgo R h1 h2).2)
         clear hp h6 hbl hgo hs4 hsz HK HB HR
         go_wp2
         exact ⟨⟨mid, B, L1, _, _, d4, rfl, rfl, rfl, rfl, rfl, by omega, by omega, by omega, by omega, HK4, HB4, HR4⟩, by simp [intOf]; omega⟩
       ·have kA : ¬ (0 : Int) < (A : Int) := by omega
        have kA2 : decide ((0 : Int) < (A : Int)) = false := decide_eq_false kA
        have kA3 : decide (0 < A) = false := decide_eq_false hA0
        go_upto_region 17 with fail
        go_quiet (fail)
        clear HK
        have HK := Lib.hid (HD.out nq)
        clear cp HD kA kA2 kA3
        generalize World.drewN _ nq = wk at *
        clear nq
        go_wp2_with fail
        refine (paU_c blk n c A B pv d1 w0 wk HK.out (by omega) (by omega) hBn hn).mono ?_
        rintro e w6 ⟨mid, ap, rfl, hm, h6⟩
        have hsz : B ≤ d1.size := by rw [HK.out.size]; exact hBn
        rcases hp : partition ltInt d1 A B pv with ⟨m2, ap2, d4⟩
        rw [hp] at hm h6
        obtain rfl : mid = m2 := hm.symm
        obtain ⟨hA4, hB4, hs4, hbl, hbr, hlf, hrf⟩ := round_part swo_ltInt (partition_holds _) (by omega) (by omega) hsz HB.out hp
        have HK4 := Lib.hid h6
        have HBL := Lib.hid hbl
        have HBR := Lib.hid hbr
        have HLF := Lib.hid hlf
        have HRF := Lib.hid hrf
        clear hp h6 hbl hbr hlf hrf hs4 hsz HK HB
        obtain ⟨lf, hlf⟩ : ∃ lf, mid - A = lf := ⟨_, rfl⟩
        obtain ⟨rt, hrt⟩ : ∃ rt, B - mid = rt := ⟨_, rfl⟩
        obtain ⟨q8, hq8⟩ : ∃ q8, l / 8 = q8 := ⟨_, rfl⟩
        have elf : (mid : Int) - (A : Int) = (lf : Int) := by omega
        have ert : (B : Int) - (mid : Int) = (rt : Int) := by omega
        have eq8 : Int.tdiv (l : Int) 8 = (q8 : Int) := by
         rw [Int.tdiv_eq_ediv_of_nonneg (by omega)]
         omega
        have wlf : IntKind.i64.wrap (lf : Int) = lf := IntWalk.i64_in _ (by omega)
        have wrt : IntKind.i64.wrap (rt : Int) = rt := IntWalk.i64_in _ (by omega)
        have wq8 : IntKind.i64.wrap (q8 : Int) = q8 := IntWalk.i64_in _ (by omega)
        have HQ := Lib.hid (⟨hlf, hrt, hq8⟩ : mid - A = lf ∧ B - mid = rt ∧ l / 8 = q8)
        clear hlf hrt hq8
        by_cases hlr : lf < rt
        ·have kc : (lf : Int) < (rt : Int) := by omega
         go_wp2_with fail
         refine (IH (mid - A) (by omega) A mid L1 d4 w0 w6 rfl (by omega) (by omega) (by omega) HK4.out HBL.out).mono ?_
         rintro e w7 ⟨rfl, R1, hp1, hs1, h7⟩
         have HK7 := Lib.hid h7
         have HB7 := Lib.hid (HLF.out R1 hp1 hs1).1
         have HR7 : Hid (GoalU a b d (mid + 1) B R1) := Lib.hid (fun R h1 h2 => by
          have h3 := (HLF.out R1 hp1 hs1).2 R h1 h2
          exact HR.out R h3.1 h3.2)
         clear h7 hp1 hs1
         go_wp2
         exact ⟨⟨mid + 1, B, L1, _, _, R1, by go_num, rfl, rfl, rfl, rfl, by omega, by omega, by omega, by omega, HK7, HB7, HR7⟩, by simp [intOf]; omega⟩
        ·have kc : ¬ (lf : Int) < (rt : Int) := by omega
         have em1 : (mid : Int) + 1 = ((mid + 1 : Nat) : Int) := by omega
         obtain ⟨mm, hmm⟩ : ∃ mm, mid + 1 = mm := ⟨_, rfl⟩
         have emm : (mid : Int) + 1 = (mm : Int) := by omega
         have wmm : IntKind.i64.wrap (mm : Int) = mm := IntWalk.i64_in _ (by omega)
         have HMM := Lib.hid hmm
         clear hmm em1
         go_wp2_with fail
         rw [← HMM.out]
         have wmm2 := HMM.out
         refine (IH (B - (mid + 1)) (by omega) (mid + 1) B L1 d4 w0 w6 rfl (by omega) (by omega) (by omega) HK4.out HBR.out).mono ?_
         rintro e w7 ⟨rfl, R1, hp1, hs1, h7⟩
         have HK7 := Lib.hid h7
         have HB7 := Lib.hid (HRF.out R1 hp1 hs1).1
         have HR7 : Hid (GoalU a b d A mid R1) := Lib.hid (fun R h1 h2 => by
          have h3 := (HRF.out R1 hp1 hs1).2 R h1 h2
          exact HR.out R h3.1 h3.2)
         clear h7 hp1 hs1
         go_wp2
         exact ⟨⟨A, mid, L1, _, _, R1, rfl, rfl, rfl, rfl, rfl, by omega, by omega, by omega, by omega, HK7, HB7, HR7⟩, by simp [intOf]; omega⟩
     ·as_aux_lemma =>
       have cp := HK.out.cell (i := pv) (by omega) rfl
       have HD := Lib.hid (fun q => HK.out.drewN q)
       have pv_0 : (0 : Int) ≤ pv := by omega
       have pv_1 : (pv : Int) < n := by omega
       by_cases hA0 : 0 < A
       ·obtain ⟨A1, hA1⟩ : ∃ A1, A - 1 = A1 := ⟨_, rfl⟩
        have kA : (0 : Int) < (A : Int) := by omega
        have kA2 : decide ((0 : Int) < (A : Int)) = true := decide_eq_true kA
        have kA3 : decide (0 < A) = true := decide_eq_true hA0
        have eA : (A : Int) - 1 = (A1 : Int) := by omega
        have wA : IntKind.i64.wrap (A1 : Int) = A1 := IntWalk.i64_in _ (by omega)
        have A1_0 : (0 : Int) ≤ A1 := by omega
        have A1_1 : (A1 : Int) < n := by omega
        have ca := HK.out.cell (i := A1) (by omega) rfl
        have HLC := Lib.hid (fun r h W => lessU_c d1[A1]! d1[pv]! r W h)
        have HAA := Lib.hid hA1
        clear hA1
        cases hl : ltInt d1[A1]! d1[pv]! with
        | true =>
         have HLT := fun W => HLC.out true hl W
         clear hl HLC
         obtain ⟨u, hue⟩ : ∃ u, d1[pv]! = u := ⟨_, rfl⟩
         obtain ⟨v, hve⟩ : ∃ v, d1[A1]! = v := ⟨_, rfl⟩
         rw [hue] at cp HLT
         rw [hve] at ca HLT
         clear hue hve
         go_upto_region 17 with fail
         go_quiet (first | (go_at_call 79; refine Calls.quiet_of_same (HLT _)))
         clear HK
         have HK := Lib.hid (HD.out nq)
         clear HLT cp ca HD eA wA A1_0 A1_1 kA kA2 kA3 HAA
         generalize World.drewN _ nq = wk at *
         clear nq
         go_wp2_with fail
         refine (paU_c blk n c A B pv d1 w0 wk HK.out (by omega) (by omega) hBn hn).mono ?_
         rintro e w6 ⟨mid, ap, rfl, hm, h6⟩
         have hsz : B ≤ d1.size := by rw [HK.out.size]; exact hBn
         rcases hp : partition ltInt d1 A B pv with ⟨m2, ap2, d4⟩
         rw [hp] at hm h6
         obtain rfl : mid = m2 := hm.symm
         obtain ⟨hA4, hB4, hs4, hbl, hbr, hlf, hrf⟩ := round_part swo_ltInt (partition_holds _) (by omega) (by omega) hsz HB.out hp
         have HK4 := Lib.hid h6
         have HBL := Lib.hid hbl
         have HBR := Lib.hid hbr
         have HLF := Lib.hid hlf
         have HRF := Lib.hid hrf
         clear hp h6 hbl hbr hlf hrf hs4 hsz HK HB
         obtain ⟨lf, hlf⟩ : ∃ lf, mid - A = lf := ⟨_, rfl⟩
         obtain ⟨rt, hrt⟩ : ∃ rt, B - mid = rt := ⟨_, rfl⟩
         obtain ⟨q8, hq8⟩ : ∃ q8, l / 8 = q8 := ⟨_, rfl⟩
         have elf : (mid : Int) - (A : Int) = (lf : Int) := by omega
         have ert : (B : Int) - (mid : Int) = (rt : Int) := by omega
         have eq8 : Int.tdiv (l : Int) 8 = (q8 : Int) := by
          rw [Int.tdiv_eq_ediv_of_nonneg (by omega)]
          omega
         have wlf : IntKind.i64.wrap (lf : Int) = lf := IntWalk.i64_in _ (by omega)
         have wrt : IntKind.i64.wrap (rt : Int) = rt := IntWalk.i64_in _ (by omega)
         have wq8 : IntKind.i64.wrap (q8 : Int) = q8 := IntWalk.i64_in _ (by omega)
         have HQ := Lib.hid (⟨hlf, hrt, hq8⟩ : mid - A = lf ∧ B - mid = rt ∧ l / 8 = q8)
         clear hlf hrt hq8
         by_cases hlr : lf < rt
         ·have kc : (lf : Int) < (rt : Int) := by omega
          go_wp2_with fail
          refine (IH (mid - A) (by omega) A mid L1 d4 w0 w6 rfl (by omega) (by omega) (by omega) HK4.out HBL.out).mono ?_
          rintro e w7 ⟨rfl, R1, hp1, hs1, h7⟩
          have HK7 := Lib.hid h7
          have HB7 := Lib.hid (HLF.out R1 hp1 hs1).1
          have HR7 : Hid (GoalU a b d (mid + 1) B R1) := Lib.hid (fun R h1 h2 => by
           have h3 := (HLF.out R1 hp1 hs1).2 R h1 h2
           exact HR.out R h3.1 h3.2)
          clear h7 hp1 hs1
          go_wp2
          exact ⟨⟨mid + 1, B, L1, _, _, R1, by go_num, rfl, rfl, rfl, rfl, by omega, by omega, by omega, by omega, HK7, HB7, HR7⟩, by simp [intOf]; omega⟩
         ·have kc : ¬ (lf : Int) < (rt : Int) := by omega
          have em1 : (mid : Int) + 1 = ((mid + 1 : Nat) : Int) := by omega
          obtain ⟨mm, hmm⟩ : ∃ mm, mid + 1 = mm := ⟨_, rfl⟩
          have emm : (mid : Int) + 1 = (mm : Int) := by omega
          have wmm : IntKind.i64.wrap (mm : Int) = mm := IntWalk.i64_in _ (by omega)
          have HMM := Lib.hid hmm
          clear hmm em1
          go_wp2_with fail
          rw [← HMM.out]
          have wmm2 := HMM.out
          refine (IH (B - (mid + 1)) (by omega) (mid + 1) B L1 d4 w0 w6 rfl (by omega) (by omega) (by omega) HK4.out HBR.out).mono ?_
          rintro e w7 ⟨rfl, R1, hp1, hs1, h7⟩
          have HK7 := Lib.hid h7
          have HB7 := Lib.hid (HRF.out R1 hp1 hs1).1
          have HR7 : Hid (GoalU a b d A mid R1) := Lib.hid (fun R h1 h2 => by
           have h3 := (HRF.out R1 hp1 hs1).2 R h1 h2
           exact HR.out R h3.1 h3.2)
          clear h7 hp1 hs1
          go_wp2
          exact ⟨⟨A, mid, L1, _, _, R1, rfl, rfl, rfl, rfl, rfl, by omega, by omega, by omega, by omega, HK7, HB7, HR7⟩, by simp [intOf]; omega⟩
        | false =>
         have HLT := fun W => HLC.out false hl W
         have HNL : Hid (ltInt d1[A - 1]! d1[pv]! = false) := Lib.hid (by rw [HAA.out]; exact hl)
         clear hl HLC
         obtain ⟨u, hue⟩ : ∃ u, d1[pv]! = u := ⟨_, rfl⟩
         obtain ⟨v, hve⟩ : ∃ v, d1[A1]! = v := ⟨_, rfl⟩
         rw [hue] at cp HLT
         rw [hve] at ca HLT
         clear hue hve
         go_upto_region 17 with fail
         go_quiet (first | (go_at_call 79; refine Calls.quiet_of_same (HLT _)))
         clear HK
         have HK := Lib.hid (HD.out nq)
         clear HLT cp ca HD eA wA A1_0 A1_1 kA kA2 kA3
         generalize World.drewN _ nq = wk at *
         clear nq
         go_wp2_with fail
         refine (peU_c blk n c A B pv d1 w0 wk HK.out (by omega) (by omega) hBn hn).mono ?_
         rintro e w6 ⟨mid, rfl, hm, h6⟩
         have hsz : B ≤ d1.size := by rw [HK.out.size]; exact hBn
         rcases hp : partitionEqual ltInt d1 A B pv with ⟨m2, d4⟩
         rw [hp] at hm h6
         obtain rfl : mid = m2 := hm.symm
         obtain ⟨hA4, hB4, hs4, hbl, hgo⟩ := round_eq swo_ltInt (partitionEqual_holds _) hA0 (by omega) (by omega) hsz HB.out HNL.out hp
         have HK4 := Lib.hid h6
         have HB4 := Lib.hid hbl
         have HR4 : Hid (GoalU a b d mid B d4) := Lib.hid (fun R h1 h2 => HR.out R (hgo R h1 h2).1 (hgo R h1 h2).2)
         clear hp h6 hbl hgo hs4 hsz HK HB HR
         go_wp2
         exact ⟨⟨mid, B, L1, _, _, d4, rfl, rfl, rfl, rfl, rfl, by omega, by omega, by omega, by omega, HK4, HB4, HR4⟩, by simp [intOf]; omega⟩
       ·have kA : ¬ (0 : Int) < (A : Int) := by omega
        have kA2 : decide ((0 : Int) < (A : Int)) = false := decide_eq_false kA
        have kA3 : decide (0 < A) = false := decide_eq_false hA0
        go_upto_region 17 with fail
        go_quiet (fail)
        clear HK
        have HK := Lib.hid (HD.out nq)
        clear cp HD kA kA2 kA3
        generalize World.drewN _ nq = wk at *
        clear nq
        go_wp2_with fail
        refine (paU_c blk n c A B pv d1 w0 wk HK.out (by omega) (by omega) hBn hn).mono ?_
        rintro e w6 ⟨mid, ap, rfl, hm, h6⟩
        have hsz : B ≤ d1.size := by rw [HK.out.size]; exact hBn
        rcases hp : partition ltInt d1 A B pv with ⟨m2, ap2, d4⟩
        rw [hp] at hm h6
        obtain rfl : mid = m2 := hm.symm
        obtain ⟨hA4, hB4, hs4, hbl, hbr, hlf, hrf⟩ := round_part swo_ltInt (partition_holds _) (by omega) (by omega) hsz HB.out hp
        have HK4 := Lib.hid h6
        have HBL := Lib.hid hbl
        have HBR := Lib.hid hbr
        have HLF := Lib.hid hlf
        have HRF := Lib.hid hrf
        clear hp h6 hbl hbr hlf hrf hs4 hsz HK HB
        obtain ⟨lf, hlf⟩ : ∃ lf, mid - A = lf := ⟨_, rfl⟩
        obtain ⟨rt, hrt⟩ : ∃ rt, B - mid = rt := ⟨_, rfl⟩
        obtain ⟨q8, hq8⟩ : ∃ q8, l / 8 = q8 := ⟨_, rfl⟩
        have elf : (mid : Int) - (A : Int) = (lf : Int) := by omega
        have ert : (B : Int) - (mid : Int) = (rt : Int) := by omega
        have eq8 : Int.tdiv (l : Int) 8 = (q8 : Int) := by
         rw [Int.tdiv_eq_ediv_of_nonneg (by omega)]
         omega
        have wlf : IntKind.i64.wrap (lf : Int) = lf := IntWalk.i64_in _ (by omega)
        have wrt : IntKind.i64.wrap (rt : Int) = rt := IntWalk.i64_in _ (by omega)
        have wq8 : IntKind.i64.wrap (q8 : Int) = q8 := IntWalk.i64_in _ (by omega)
        have HQ := Lib.hid (⟨hlf, hrt, hq8⟩ : mid - A = lf ∧ B - mid = rt ∧ l / 8 = q8)
        clear hlf hrt hq8
        by_cases hlr : lf < rt
        ·have kc : (lf : Int) < (rt : Int) := by omega
         go_wp2_with fail
         refine (IH (mid - A) (by omega) A mid L1 d4 w0 w6 rfl (by omega) (by omega) (by omega) HK4.out HBL.out).mono ?_
         rintro e w7 ⟨rfl, R1, hp1, hs1, h7⟩
         have HK7 := Lib.hid h7
         have HB7 := Lib.hid (HLF.out R1 hp1 hs1).1
         have HR7 : Hid (GoalU a b d (mid + 1) B R1) := Lib.hid (fun R h1 h2 => by
          have h3 := (HLF.out R1 hp1 hs1).2 R h1 h2
          exact HR.out R h3.1 h3.2)
         clear h7 hp1 hs1
         go_wp2
         exact ⟨⟨mid + 1, B, L1, _, _, R1, by go_num, rfl, rfl, rfl, rfl, by omega, by omega, by omega, by omega, HK7, HB7, HR7⟩, by simp [intOf]; omega⟩
        ·have kc : ¬ (lf : Int) < (rt : Int) := by omega
         have em1 : (mid : Int) + 1 = ((mid + 1 : Nat) : Int) := by omega
         obtain ⟨mm, hmm⟩ : ∃ mm, mid + 1 = mm := ⟨_, rfl⟩
         have emm : (mid : Int) + 1 = (mm : Int) := by omega
         have wmm : IntKind.i64.wrap (mm : Int) = mm := IntWalk.i64_in _ (by omega)
         have HMM := Lib.hid hmm
         clear hmm em1
         go_wp2_with fail
         rw [← HMM.out]
         have wmm2 := HMM.out
         refine (IH (B - (mid + 1)) (by omega) (mid + 1) B L1 d4 w0 w6 rfl (by omega) (by omega) (by omega) HK4.out HBR.out).mono ?_
         rintro e w7 ⟨rfl, R1, hp1, hs1, h7⟩
         have HK7 := Lib.hid h7
         have HB7 := Lib.hid (HRF.out R1 hp1 hs1).1
         have HR7 : Hid (GoalU a b d A mid R1) := Lib.hid (fun R h1 h2 => by
          have h3 := (HRF.out R1 hp1 hs1).2 R h1 h2
          exact HR.out R h3.1 h3.2)
         clear h7 hp1 hs1
         go_wp2
         exact ⟨⟨A, mid, L1, _, _, R1, rfl, rfl, rfl, rfl, rfl, by omega, by omega, by omega, by omega, HK7, HB7, HR7⟩, by simp [intOf]; omega⟩
     ·obtain ⟨P1, hP1⟩ : ∃ P1, pv - A = P1 := ⟨_, rfl⟩
      obtain ⟨B1, hB1⟩ : ∃ B1, B - 1 = B1 := ⟨_, rfl⟩
      obtain ⟨pw, hpw⟩ : ∃ pw, B1 - P1 = pw := ⟨_, rfl⟩
      have e1 : (pv : Int) - (A : Int) = (P1 : Int) := by omega
      have e2 : (B : Int) - 1 = (B1 : Int) := by omega
      have e3 : (B1 : Int) - (P1 : Int) = (pw : Int) := by omega
      have w_1 : IntKind.i64.wrap (P1 : Int) = P1 := IntWalk.i64_in _ (by omega)
      have w_2 : IntKind.i64.wrap (B1 : Int) = B1 := IntWalk.i64_in _ (by omega)
      have w_3 : IntKind.i64.wrap (pw : Int) = pw := IntWalk.i64_in _ (by omega)
      have hpw0 : A ≤ pw := by omega
      have hpw1 : pw < B := by omega
      clear hP1 hB1 hpw
      go_wp2_with fail
      refine (revU_c blk n c A B d1 w0 w4 HK.out (by omega) hBn hn).mono ?_
      rintro e w5 ⟨rfl, h5⟩
      have hpm := reverseRange_holds d1 A B (by omega) (by rw [HK.out.size]; exact hBn)
      have HKn := Lib.hid h5
      have HBn := Lib.hid (HB.out.perm (by rw [HK.out.size]; exact hBn) hpm)
      have HRn := Lib.hid (HR.out.perm hpm)
      clear h5 HK HB HR hpm
      generalize reverseRange d1 A B = D2 at *
      have HK := HKn
      have HB := HBn
      have HR := HRn
      clear HKn HBn HRn
      as_aux_lemma =>
       have cp := HK.out.cell (i := pw) (by omega) rfl
       have HD := Lib.hid (fun q => HK.out.drewN q)
       have pw_0 : (0 : Int) ≤ pw := by omega
       have pw_1 : (pw : Int) < n := by omega
       by_cases hA0 : 0 < A
       ·obtain ⟨A1, hA1⟩ : ∃ A1, A - 1 = A1 := ⟨_, rfl⟩
        have kA : (0 : Int) < (A : Int) := by omega
        have kA2 : decide ((0 : Int) < (A : Int)) = true := decide_eq_true kA
        have kA3 : decide (0 < A) = true := decide_eq_true hA0
        have eA : (A : Int) - 1 = (A1 : Int) := by omega
        have wA : IntKind.i64.wrap (A1 : Int) = A1 := IntWalk.i64_in _ (by omega)
        have A1_0 : (0 : Int) ≤ A1 := by omega
        have A1_1 : (A1 : Int) < n := by omega
        have ca := HK.out.cell (i := A1) (by omega) rfl
        have HLC := Lib.hid (fun r h W => lessU_c D2[A1]! D2[pw]! r W h)
        have HAA := Lib.hid hA1
        clear hA1
        cases hl : ltInt D2[A1]! D2[pw]! with
        | true =>
         have HLT := fun W => HLC.out true hl W
         clear hl HLC
         obtain ⟨u, hue⟩ : ∃ u, D2[pw]! = u := ⟨_, rfl⟩
         obtain ⟨v, hve⟩ : ∃ v, D2[A1]! = v := ⟨_, rfl⟩
         rw [hue] at cp HLT
         rw [hve] at ca HLT
         clear hue hve
         go_upto_region 17 with fail
         go_quiet (first | (go_at_call 79; refine Calls.quiet_of_same (HLT _)))
         clear HK
         have HK := Lib.hid (HD.out nq)
         clear HLT cp ca HD eA wA A1_0 A1_1 kA kA2 kA3 HAA
         generalize World.drewN _ nq = wk at *
         clear nq
         go_wp2_with fail
         refine (paU_c blk n c A B pw D2 w0 wk HK.out (by omega) (by omega) hBn hn).mono ?_
         rintro e w6 ⟨mid, ap, rfl, hm, h6⟩
         have hsz : B ≤ D2.size := by rw [HK.out.size]; exact hBn
         rcases hp : partition ltInt D2 A B pw with ⟨m2, ap2, d4⟩
         rw [hp] at hm h6
         obtain rfl : mid = m2 := hm.symm
         obtain ⟨hA4, hB4, hs4, hbl, hbr, hlf, hrf⟩ := round_part swo_ltInt (partition_holds _) (by omega) (by omega) hsz HB.out hp
         have HK4 := Lib.hid h6
         have HBL := Lib.hid hbl
         have HBR := Lib.hid hbr
         have HLF := Lib.hid hlf
         have HRF := Lib.hid hrf
         clear hp h6 hbl hbr hlf hrf hs4 hsz HK HB
         obtain ⟨lf, hlf⟩ : ∃ lf, mid - A = lf := ⟨_, rfl⟩
         obtain ⟨rt, hrt⟩ : ∃ rt, B - mid = rt := ⟨_, rfl⟩
         obtain ⟨q8, hq8⟩ : ∃ q8, l / 8 = q8 := ⟨_, rfl⟩
         have elf : (mid : Int) - (A : Int) = (lf : Int) := by omega
         have ert : (B : Int) - (mid : Int) = (rt : Int) := by omega
         have eq8 : Int.tdiv (l : Int) 8 = (q8 : Int) := by
          rw [Int.tdiv_eq_ediv_of_nonneg (by omega)]
          omega
         have wlf : IntKind.i64.wrap (lf : Int) = lf := IntWalk.i64_in _ (by omega)
         have wrt : IntKind.i64.wrap (rt : Int) = rt := IntWalk.i64_in _ (by omega)
         have wq8 : IntKind.i64.wrap (q8 : Int) = q8 := IntWalk.i64_in _ (by omega)
         have HQ := Lib.hid (⟨hlf, hrt, hq8⟩ : mid - A = lf ∧ B - mid = rt ∧ l / 8 = q8)
         clear hlf hrt hq8
         by_cases hlr : lf < rt
         ·have kc : (lf : Int) < (rt : Int) := by omega
          go_wp2_with fail
          refine (IH (mid - A) (by omega) A mid L1 d4 w0 w6 rfl (by omega) (by omega) (by omega) HK4.out HBL.out).mono ?_
          rintro e w7 ⟨rfl, R1, hp1, hs1, h7⟩
          have HK7 := Lib.hid h7
          have HB7 := Lib.hid (HLF.out R1 hp1 hs1).1
          have HR7 : Hid (GoalU a b d (mid + 1) B R1) := Lib.hid (fun R h1 h2 => by
           have h3 := (HLF.out R1 hp1 hs1).2 R h1 h2
           exact HR.out R h3.1 h3.2)
          clear h7 hp1 hs1
          go_wp2
          exact ⟨⟨mid + 1, B, L1, _, _, R1, by go_num, rfl, rfl, rfl, rfl, by omega, by omega, by omega, by omega, HK7, HB7, HR7⟩, by simp [intOf]; omega⟩
         ·have kc : ¬ (lf : Int) < (rt : Int) := by omega
          have em1 : (mid : Int) + 1 = ((mid + 1 : Nat) : Int) := by omega
          obtain ⟨mm, hmm⟩ : ∃ mm, mid + 1 = mm := ⟨_, rfl⟩
          have emm : (mid : Int) + 1 = (mm : Int) := by omega
          have wmm : IntKind.i64.wrap (mm : Int) = mm := IntWalk.i64_in _ (by omega)
          have HMM := Lib.hid hmm
          clear hmm em1
          go_wp2_with fail
          rw [← HMM.out]
          have wmm2 := HMM.out
          refine (IH (B - (mid + 1)) (by omega) (mid + 1) B L1 d4 w0 w6 rfl (by omega) (by omega) (by omega) HK4.out HBR.out).mono ?_
          rintro e w7 ⟨rfl, R1, hp1, hs1, h7⟩
          have HK7 := Lib.hid h7
          have HB7 := Lib.hid (HRF.out R1 hp1 hs1).1
          have HR7 : Hid (GoalU a b d A mid R1) := Lib.hid (fun R h1 h2 => by
           have h3 := (HRF.out R1 hp1 hs1).2 R h1 h2
           exact HR.out R h3.1 h3.2)
          clear h7 hp1 hs1
          go_wp2
          exact ⟨⟨A, mid, L1, _, _, R1, rfl, rfl, rfl, rfl, rfl, by omega, by omega, by omega, by omega, HK7, HB7, HR7⟩, by simp [intOf]; omega⟩
        | false =>
         have HLT := fun W => HLC.out false hl W
         have HNL : Hid (ltInt D2[A - 1]! D2[pw]! = false) := Lib.hid (by rw [HAA.out]; exact hl)
         clear hl HLC
         obtain ⟨u, hue⟩ : ∃ u, D2[pw]! = u := ⟨_, rfl⟩
         obtain ⟨v, hve⟩ : ∃ v, D2[A1]! = v := ⟨_, rfl⟩
         rw [hue] at cp HLT
         rw [hve] at ca HLT
         clear hue hve
         go_upto_region 17 with fail
         go_quiet (first | (go_at_call 79; refine Calls.quiet_of_same (HLT _)))
         clear HK
         have HK := Lib.hid (HD.out nq)
         clear HLT cp ca HD eA wA A1_0 A1_1 kA kA2 kA3
         generalize World.drewN _ nq = wk at *
         clear nq
         go_wp2_with fail
         refine (peU_c blk n c A B pw D2 w0 wk HK.out (by omega) (by omega) hBn hn).mono ?_
         rintro e w6 ⟨mid, rfl, hm, h6⟩
         have hsz : B ≤ D2.size := by rw [HK.out.size]; exact hBn
         rcases hp : partitionEqual ltInt D2 A B pw with ⟨m2, d4⟩
         rw [hp] at hm h6
         obtain rfl : mid = m2 := hm.symm
         obtain ⟨hA4, hB4, hs4, hbl, hgo⟩ := round_eq swo_ltInt (partitionEqual_holds _) hA0 (by omega) (by omega) hsz HB.out HNL.out hp
         have HK4 := Lib.hid h6
         have HB4 := Lib.hid hbl
         have HR4 : Hid (GoalU a b d mid B d4) := Lib.hid (fun R h1 h2 => HR.out R (hgo R h1 h2).1 (hgo R h1 h2).2)
         clear hp h6 hbl hgo hs4 hsz HK HB HR
         go_wp2
         exact ⟨⟨mid, B, L1, _, _, d4, rfl, rfl, rfl, rfl, rfl, by omega, by omega, by omega, by omega, HK4, HB4, HR4⟩, by simp [intOf]; omega⟩
       ·have kA : ¬ (0 : Int) < (A : Int) := by omega
        have kA2 : decide ((0 : Int) < (A : Int)) = false := decide_eq_false kA
        have kA3 : decide (0 < A) = false := decide_eq_false hA0
        go_upto_region 17 with fail
        go_quiet (fail)
        clear HK
        have HK := Lib.hid (HD.out nq)
        clear cp HD kA kA2 kA3
        generalize World.drewN _ nq = wk at *
        clear nq
        go_wp2_with fail
        refine (paU_c blk n c A B pw D2 w0 wk HK.out (by omega) (by omega) hBn hn).mono ?_
        rintro e w6 ⟨mid, ap, rfl, hm, h6⟩
        have hsz : B ≤ D2.size := by rw [HK.out.size]; exact hBn
        rcases hp : partition ltInt D2 A B pw with ⟨m2, ap2, d4⟩
        rw [hp] at hm h6
        obtain rfl : mid = m2 := hm.symm
        obtain ⟨hA4, hB4, hs4, hbl, hbr, hlf, hrf⟩ := round_part swo_ltInt (partition_holds _) (by omega) (by omega) hsz HB.out hp
        have HK4 := Lib.hid h6
        have HBL := Lib.hid hbl
        have HBR := Lib.hid hbr
        have HLF := Lib.hid hlf
        have HRF := Lib.hid hrf
        clear hp h6 hbl hbr hlf hrf hs4 hsz HK HB
        obtain ⟨lf, hlf⟩ : ∃ lf, mid - A = lf := ⟨_, rfl⟩
        obtain ⟨rt, hrt⟩ : ∃ rt, B - mid = rt := ⟨_, rfl⟩
        obtain ⟨q8, hq8⟩ : ∃ q8, l / 8 = q8 := ⟨_, rfl⟩
        have elf : (mid : Int) - (A : Int) = (lf : Int) := by omega
        have ert : (B : Int) - (mid : Int) = (rt : Int) := by omega
        have eq8 : Int.tdiv (l : Int) 8 = (q8 : Int) := by
         rw [Int.tdiv_eq_ediv_of_nonneg (by omega)]
         omega
        have wlf : IntKind.i64.wrap (lf : Int) = lf := IntWalk.i64_in _ (by omega)
        have wrt : IntKind.i64.wrap (rt : Int) = rt := IntWalk.i64_in _ (by omega)
        have wq8 : IntKind.i64.wrap (q8 : Int) = q8 := IntWalk.i64_in _ (by omega)
        have HQ := Lib.hid (⟨hlf, hrt, hq8⟩ : mid - A = lf ∧ B - mid = rt ∧ l / 8 = q8)
        clear hlf hrt hq8
        by_cases hlr : lf < rt
        ·have kc : (lf : Int) < (rt : Int) := by omega
         go_wp2_with fail
         refine (IH (mid - A) (by omega) A mid L1 d4 w0 w6 rfl (by omega) (by omega) (by omega) HK4.out HBL.out).mono ?_
         rintro e w7 ⟨rfl, R1, hp1, hs1, h7⟩
         have HK7 := Lib.hid h7
         have HB7 := Lib.hid (HLF.out R1 hp1 hs1).1
         have HR7 : Hid (GoalU a b d (mid + 1) B R1) := Lib.hid (fun R h1 h2 => by
          have h3 := (HLF.out R1 hp1 hs1).2 R h1 h2
          exact HR.out R h3.1 h3.2)
         clear h7 hp1 hs1
         go_wp2
         exact ⟨⟨mid + 1, B, L1, _, _, R1, by go_num, rfl, rfl, rfl, rfl, by omega, by omega, by omega, by omega, HK7, HB7, HR7⟩, by simp [intOf]; omega⟩
        ·have kc : ¬ (lf : Int) < (rt : Int) := by omega
         have em1 : (mid : Int) + 1 = ((mid + 1 : Nat) : Int) := by omega
         obtain ⟨mm, hmm⟩ : ∃ mm, mid + 1 = mm := ⟨_, rfl⟩
         have emm : (mid : Int) + 1 = (mm : Int) := by omega
         have wmm : IntKind.i64.wrap (mm : Int) = mm := IntWalk.i64_in _ (by omega)
         have HMM := Lib.hid hmm
         clear hmm em1
         go_wp2_with fail
         rw [← HMM.out]
         have wmm2 := HMM.out
         refine (IH (B - (mid + 1)) (by omega) (mid + 1) B L1 d4 w0 w6 rfl (by omega) (by omega) (by omega) HK4.out HBR.out).mono ?_
         rintro e w7 ⟨rfl, R1, hp1, hs1, h7⟩
         have HK7 := Lib.hid h7
         have HB7 := Lib.hid (HRF.out R1 hp1 hs1).1
         have HR7 : Hid (GoalU a b d A mid R1) := Lib.hid (fun R h1 h2 => by
          have h3 := (HRF.out R1 hp1 hs1).2 R h1 h2
          exact HR.out R h3.1 h3.2)
         clear h7 hp1 hs1
         go_wp2
         exact ⟨⟨A, mid, L1, _, _, R1, rfl, rfl, rfl, rfl, rfl, by omega, by omega, by omega, by omega, HK7, HB7, HR7⟩, by simp [intOf]; omega⟩

end Go.Proofs.YtnknejokneddbaaGreatDoor
/-! SrtJ -/
namespace Go.Proofs.YtnknejokneddbaaGreatDoor
open Go.RowKit Go.Sort

theorem insN_c (w : World) : Calls Tryz.prog 187 #[.slice none 0 0, .int .i64 0, .int .i64 0] w fun e w' => e = .returned (.tuple #[]) ∧ w' = w := by
 go_enter Tryz.func187, Tryz.ntmps187
 go_wp2
 go_loopw [6] (fun vi wr => vi = .int .i64 1 ∧ wr = w) (fun _ _ => 0)
 case atStart => exact ⟨rfl, rfl⟩
 case round =>
  obtain ⟨rfl, rfl⟩ := hrel
  go_wp2
  go_end0
  exact ⟨rfl, rfl⟩

theorem pdqN_c (w : World) : Calls Tryz.prog 166 #[.slice none 0 0, .int .i64 0, .int .i64 0, .int .i64 0] w fun e w' => e = .returned (.tuple #[]) ∧ w' = w := by
 go_enter Tryz.func166, Tryz.ntmps166
 go_wp2
 go_loopw [1, 2, 3, 8, 9, 10, 11, 12, 13, 14, 15, 16, 17, 18] (fun v1 v2 _ _ _ _ _ _ _ _ _ _ _ _ wr => v1 = .int .i64 0 ∧ v2 = .int .i64 0 ∧ wr = w) (fun _ _ _ _ _ _ _ _ _ _ _ _ _ _ _ => 0)
 case atStart => exact ⟨rfl, rfl, rfl⟩
 case round =>
  obtain ⟨rfl, rfl, rfl⟩ := hrel
  go_wp2_with fail
  refine (insN_c wr).mono ?_
  rintro e w5 ⟨rfl, h5⟩
  subst w5
  go_wp2
  try simp only [Exit.inBlock, Exit.then]
  refine bodyPost_ret (results_none rfl _ _ _) rfl ?_
  exact ⟨rfl, rfl⟩

theorem lenU_c (n : Nat) (hn : n ≤ 1000000) (W : World) : Calls Tryz.prog 93 #[.int .u64 (n : Int)] W fun e w' => e = .returned (.int .i64 (bitsLen n : Nat)) ∧ w' = W := by
 have h := Tryz.bits_Len (n : Int) W (by omega) (by omega)
 rwa [Int.toNat_natCast, bitLen_eq _ (by omega)] at h

theorem sortU_nil (w : World) : Calls Tryz.prog 131 #[.slice none 0 0] w fun e w' => e = .returned (.tuple #[]) ∧ w.grownBy w' none := by
 have HL := Lib.hid (lenU_c 0 (by omega) w)
 go_enter Tryz.func131, Tryz.ntmps131
 go_wp2_with fail
 refine HL.out.mono ?_
 rintro e w5 ⟨rfl, h5⟩
 subst w5
 go_wp2_with fail
 refine (pdqN_c w).mono ?_
 rintro e w5 ⟨rfl, h5⟩
 subst w5
 go_wp2
 go_end0
 exact ⟨rfl, World.grownBy.refl w none⟩

theorem sortU_row (blk cap : Nat) (zs : List Int) (w : World) (hH : Holds (Value.int .u32) w blk 0 zs.toArray) (_hlt : blk < w.heap.size) (hn : zs.length ≤ 1000000) (_hc : zs.length ≤ cap) :
  Calls Tryz.prog 131 #[.slice (some ⟨blk, 0, none⟩) zs.length cap] w fun e w' => e = .returned (.tuple #[]) ∧ ∃ ys : Array Int, Holds (Value.int .u32) w' blk 0 ys ∧ ys.size = zs.length ∧ ys.toList.Perm zs ∧
   (∀ i j, i < j → j < ys.size → ltI ys[j]! ys[i]! = false) ∧ w.grownBy w' (some blk) := by
 obtain ⟨n, hz⟩ : ∃ n, zs.length = n := ⟨_, rfl⟩
 have H : Hid (RowU w w blk n zs.toArray) := Lib.hid ⟨hH, by simp [hz], World.grownBy.refl w _⟩
 rw [hz] at hn ⊢
 have HL := Lib.hid (lenU_c n hn w)
 have hlim : bitsLen n ≤ 100 := Nat.le_trans ((bitsLen_le_iff n 20).2 (by omega)) (by omega)
 have wn : IntKind.u64.wrap (n : Int) = n := by rw [IntKind.wrap_u64]; omega
 have HP := Lib.hid (pdqU_c blk n cap hn (n - 0) 0 n (bitsLen n) zs.toArray w w rfl (Nat.zero_le _) (Nat.le_refl _) hlim H.out (Or.inl rfl))
 have HZ := Lib.hid hz
 generalize bitsLen n = k at *
 clear hH hz H hlim
 go_enter Tryz.func131, Tryz.ntmps131
 go_wp2_with fail
 refine HL.out.mono ?_
 rintro e w5 ⟨rfl, h5⟩
 subst w5
 go_wp2_with fail
 refine HP.out.mono ?_
 rintro e w6 ⟨rfl, R, hp, hs, h6⟩
 have H6 := Lib.hid h6
 have HPM := Lib.hid hp
 have HSO := Lib.hid hs
 clear h6 hp hs
 go_wp2
 go_end0
 have hsz := H6.out.size
 refine ⟨rfl, R, H6.out.holds, hsz, ?_, fun i j h1 h2 => HSO.out i j (Nat.zero_le _) h1 (by omega), H6.out.gr⟩
 have h := HPM.out.2.2
 rw [← HZ.out] at h hsz
 have e1 : R.extract 0 zs.length = R := by rw [← hsz]; simp
 have e2 : zs.toArray.extract 0 zs.length = zs.toArray := by simp
 rw [e1, e2] at h
 exact h

theorem sortU : SortU := ⟨sortU_row, sortU_nil⟩

end Go.Proofs.YtnknejokneddbaaGreatDoor
