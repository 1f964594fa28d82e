/- Go's own slices.Sort over numbers: partitionEqual. -/
import Derived.Test.YtnknejokneddbaaGreatDoorSrtD
namespace Go.Proofs.YtnknejokneddbaaGreatDoor
open Go.RowKit Go.Sort

set_option maxRecDepth 8000 in
set_option maxHeartbeats 16000000 in
theorem peU_s (blk n c a b : Nat) (d : Array Int) (w0 w : World) (h : RowU w0 w blk n d) (hpb : a < b) (hb : b ≤ n) (hn : n ≤ 1000000) :
  Calls Tryz.prog 193 #[.slice (some ⟨blk, 0, none⟩) n c, .int .i64 a, .int .i64 b, .int .i64 a] w fun e w' => ∃ mid : Nat, e = .returned (.int .i64 mid) ∧ (partitionEqual ltInt d a b a).1 = mid ∧ RowU w0 w' blk n (partitionEqual ltInt d a b a).2 := by
 have HP : Hid (partitionEqual ltInt d a b a = partEqLoop ltInt a (a + 1) (b - 1) (swp d a a)) := Lib.hid rfl
 have H := Lib.hid h
 clear h
 go_enter Tryz.func193, Tryz.ntmps193
 go_wp2
 have a_0 : (0 : Int) ≤ a := by omega
 have a_1 : (a : Int) < n := by omega
 have hx := H.out.cell (i := a) (by omega) rfl
 have hy := H.out.cell (i := a) (by omega) rfl
 have fx := H.out.free (i := a) (by omega)
 have fy := H.out.free (i := a) (by omega)
 have HSW := Lib.hid (fun q => (H.out.drewN q).swap (i := a) (j := a) (by omega) (by omega) rfl rfl)
 generalize d[a]! = x at *
 have HSW2 := Lib.hid (HSW.out 1)
 clear HSW
 go_region
 obtain ⟨J0, hJ0⟩ : ∃ J0, b - 1 = J0 := ⟨_, rfl⟩
 obtain ⟨A1, hA1⟩ : ∃ A1, a + 1 = A1 := ⟨_, rfl⟩
 rw [hJ0, hA1] at HP
 obtain ⟨P, hPe⟩ : ∃ P, partEqLoop ltInt a A1 J0 (swp d a a) = P := ⟨_, rfl⟩
 rw [hPe] at HP
 have HE := Lib.hid hPe
 clear hPe hx fx H
 generalize swp d a a = d1 at *
 have eb : (b : Int) - 1 = (J0 : Int) := by omega
 have ea : (a : Int) + 1 = (A1 : Int) := by omega
 have wb : IntKind.i64.wrap (J0 : Int) = J0 := IntWalk.i64_in _ (by omega)
 have wa : IntKind.i64.wrap (A1 : Int) = A1 := IntWalk.i64_in _ (by omega)
 have b1 : a < A1 := by omega
 have b2 : A1 ≤ J0 + 1 := by omega
 have b3 : J0 < b := by omega
 clear hJ0 hA1
 go_wp2
 clear eb ea wb wa
 go_loopw [9, 10] (fun vi vj wr => ∃ (p q : Nat) (dk : Array Int), vi = .int .i64 p ∧ vj = .int .i64 q ∧ a < p ∧ p ≤ q + 1 ∧ q < b ∧ Hid (RowU w0 wr blk n dk) ∧ Hid (partEqLoop ltInt a p q dk = P)) (fun vi vj _ => (intOf vj).toNat + 1 - (intOf vi).toNat)
 case atStart => exact ⟨A1, J0, d1, rfl, rfl, b1, b2, b3, HSW2, HE⟩
 case round =>
  obtain ⟨p, q, dk, rfl, rfl, hap2, hpq, hqb, HK0, HL⟩ := hrel
  go_wp2
  go_loopw [9] (fun vi wr => ∃ (i : Nat), vi = .int .i64 i ∧ p ≤ i ∧ i ≤ q + 1 ∧ Hid (RowU w0 wr blk n dk) ∧ Hid (scanUp (fun x => !ltInt dk[a]! x) dk q i = scanUp (fun x => !ltInt dk[a]! x) dk q p)) (fun vi _ => n + 2 - (intOf vi).toNat)
  case atStart => exact ⟨p, rfl, Nat.le_refl _, by omega, HK0, Lib.hid rfl⟩
  case round =>
   clear HK0
   obtain ⟨i, rfl, hi0, hi1, HK, HS⟩ := hrel
   by_cases h1 : i ≤ q
   ·have k1 : (i : Int) ≤ (q : Int) := by omega
    have k2 : decide ((i : Int) ≤ (q : Int)) = true := decide_eq_true k1
    have k3 : decide (i ≤ q) = true := decide_eq_true h1
    have i_0 : (0 : Int) ≤ i := by omega
    have i_1 : (i : Int) < n := by omega
    have cx := HK.out.cell (i := i) (by omega) rfl
    have ca := HK.out.cell (i := a) (by omega) rfl
    have HD := Lib.hid (fun q => HK.out.drewN q)
    have HLC := Lib.hid (fun r h W => lessU_c dk[a]! dk[i]! r W h)
    have HM := Lib.hid (su_more (p := (fun x => !ltInt dk[a]! x)) (d := dk) h1)
    have HN := Lib.hid (su_end (p := (fun x => !ltInt dk[a]! x)) (d := dk) (j := q) (i := i))
    cases hl : ltInt dk[a]! dk[i]! with
    | false =>
     have HM2 := Lib.hid (HM.out (by simp [hl]))
     have HLT := fun W => HLC.out false hl W
     clear hl HLC HM HN
     obtain ⟨x, hxe⟩ : ∃ x, dk[i]! = x := ⟨_, rfl⟩
     obtain ⟨y, hye⟩ : ∃ y, dk[a]! = y := ⟨_, rfl⟩
     rw [hxe] at cx HLT
     rw [hye] at ca HLT
     clear hxe hye
     go_upto_region 3 with fail
     go_quiet (first | (go_at_call 79; refine Calls.quiet_of_same (HLT _)))
     have HD2 := Lib.hid (HD.out nq)
     clear HLT cx ca
     go_wp2
     exact ⟨⟨i + 1, by go_num, by omega, by omega, HD2, Lib.hid (by rw [← HS.out, HM2.out])⟩, by first | (simp [intOf]; done) | (simp [intOf]; omega)⟩
    | true =>
     have HI : Hid (scanUp (fun x => !ltInt dk[a]! x) dk q p = i) := Lib.hid (by rw [← HS.out]; exact HN.out (by simp [hl]))
     have HLT := fun W => HLC.out true hl W
     have HDI := Lib.hid hl
     clear hl HLC HM HN HS
     obtain ⟨x, hxe⟩ : ∃ x, dk[i]! = x := ⟨_, rfl⟩
     obtain ⟨y, hye⟩ : ∃ y, dk[a]! = y := ⟨_, rfl⟩
     rw [hxe] at cx HLT
     rw [hye] at ca HLT
     clear hxe hye
     go_upto_region 3 with fail
     go_quiet (first | (go_at_call 79; refine Calls.quiet_of_same (HLT _)))
     have HK2 := Lib.hid (HD.out nq)
     clear HLT cx ca HD HK
     generalize World.drewN _ nq = wk at *
     clear nq
     go_wp2
     go_loopw [10] (fun vj wr => ∃ (j : Nat), vj = .int .i64 j ∧ j ≤ q ∧ i ≤ j + 1 ∧ Hid (RowU w0 wr blk n dk) ∧ Hid (scanDown (fun x => ltInt dk[a]! x) dk i j = scanDown (fun x => ltInt dk[a]! x) dk i q)) (fun vj _ => (intOf vj).toNat)
     case atStart => exact ⟨q, rfl, Nat.le_refl _, by omega, HK2, Lib.hid rfl⟩
     case round =>
      clear HK2 k1 k2 k3
      obtain ⟨j, rfl, hj0, hj1, HK, HT⟩ := hrel
      by_cases h2 : i ≤ j
      ·obtain ⟨J, rfl⟩ : ∃ J, j = J + 1 := ⟨j - 1, by omega⟩
       have HMD := Lib.hid (sd_more (p := (fun x => ltInt dk[a]! x)) (d := dk) (j := J) h2)
       have HND := Lib.hid (sd_end (p := (fun x => ltInt dk[a]! x)) (d := dk) (i := i) (j := J + 1))
       have cx := HK.out.cell (i := J + 1) (by omega) rfl
       have ca := HK.out.cell (i := a) (by omega) rfl
       have HD := Lib.hid (fun q => HK.out.drewN q)
       have HLC := Lib.hid (fun r h W => lessU_c dk[a]! dk[J + 1]! r W h)
       cases hl : ltInt dk[a]! dk[J + 1]! with
       | true =>
        have HMD2 : Hid (scanDown (fun x => ltInt dk[a]! x) dk i J = scanDown (fun x => ltInt dk[a]! x) dk i q) := Lib.hid (by rw [← HT.out, HMD.out (by simp [hl])])
        have HLT := fun W => HLC.out true hl W
        clear hl HLC HMD HND HT
        obtain ⟨x, hxe⟩ : ∃ x, dk[J + 1]! = x := ⟨_, rfl⟩
        obtain ⟨y, hye⟩ : ∃ y, dk[a]! = y := ⟨_, rfl⟩
        rw [hxe] at cx HLT
        rw [hye] at ca HLT
        clear hxe hye
        obtain ⟨j, hjj⟩ : ∃ j, J + 1 = j := ⟨_, rfl⟩
        rw [hjj] at cx h2 hj0 ⊢
        have k1 : (i : Int) ≤ (j : Int) := by omega
        have k2 : decide ((i : Int) ≤ (j : Int)) = true := decide_eq_true k1
        have k3 : decide (i ≤ j) = true := decide_eq_true h2
        have eq1 : (j : Int) - 1 = (J : Int) := by omega
        have wr1 : IntKind.i64.wrap (J : Int) = J := IntWalk.i64_in _ (by omega)
        have HJ := Lib.hid hjj
        clear hjj
        have j_0 : (0 : Int) ≤ j := by omega
        have j_1 : (j : Int) < n := by omega
        go_upto_region 5 with fail
        go_quiet (first | (go_at_call 79; refine Calls.quiet_of_same (HLT _)))
        have HD2 := Lib.hid (HD.out nq)
        clear HLT cx ca
        go_wp2
        exact ⟨⟨J, by first | rfl | go_num, by have := HJ.out; omega, by have := HJ.out; omega, HD2, HMD2⟩, by have := HJ.out; simp [intOf]; omega⟩
       | false =>
        have HJE : Hid (scanDown (fun x => ltInt dk[a]! x) dk i q = J + 1) := Lib.hid (by rw [← HT.out]; exact HND.out (by simp [hl]))
        have hne : ¬ i = J + 1 := fun e => by
         have h5 := HDI.out
         rw [e, hl] at h5
         cases h5
        have HLT := fun W => HLC.out false hl W
        clear hl HLC HMD HND HT
        obtain ⟨x, hxe⟩ : ∃ x, dk[J + 1]! = x := ⟨_, rfl⟩
        obtain ⟨y, hye⟩ : ∃ y, dk[a]! = y := ⟨_, rfl⟩
        rw [hxe] at cx HLT
        rw [hye] at ca HLT
        clear hxe hye
        obtain ⟨j, hjj⟩ : ∃ j, J + 1 = j := ⟨_, rfl⟩
        rw [hjj] at cx h2 hj0 HJE hne ⊢
        have k1 : (i : Int) ≤ (j : Int) := by omega
        have k2 : decide ((i : Int) ≤ (j : Int)) = true := decide_eq_true k1
        have k3 : decide (i ≤ j) = true := decide_eq_true h2
        have eq1 : (j : Int) - 1 = (J : Int) := by omega
        have wr1 : IntKind.i64.wrap (J : Int) = J := IntWalk.i64_in _ (by omega)
        have HJ := Lib.hid hjj
        clear hjj
        have j_0 : (0 : Int) ≤ j := by omega
        have j_1 : (j : Int) < n := by omega
        go_upto_region 5 with fail
        go_quiet (first | (go_at_call 79; refine Calls.quiet_of_same (HLT _)))
        have HK2 := Lib.hid (HD.out nq)
        clear HLT cx ca HD HK HDI
        generalize World.drewN _ nq = wk at *
        clear nq
        have HJ2 : Hid (j - 1 = J) := Lib.hid (by have := HJ.out; omega)
        have HM := Lib.hid (pe_more ltInt HI.out HJE.out (by omega))
        rw [HJ2.out, HL.out] at HM
        have k4 : ¬ (j : Int) < (i : Int) := by omega
        go_wp2
        have hx := HK2.out.cell (i := i) (by omega) rfl
        have hy := HK2.out.cell (i := j) (by omega) rfl
        have fx := HK2.out.free (i := i) (by omega)
        have fy := HK2.out.free (i := j) (by omega)
        have HSW := Lib.hid (fun q => (HK2.out.drewN q).swap (i := i) (j := j) (by omega) (by omega) rfl rfl)
        have g1 : ¬ i = j := by omega
        have g2 : ¬ j = i := by omega
        generalize dk[i]! = x at *
        generalize dk[j]! = y at *
        have HSW2 := Lib.hid (HSW.out 1)
        clear HSW
        go_region
        go_wp2
        exact ⟨⟨i + 1, J, _, by go_num, by first | rfl | go_num, by omega, by have := HJ.out; omega, by have := HJ.out; omega, HSW2, Lib.hid HM.out.symm⟩, by have := HJ.out; simp [intOf]; omega⟩
      ·have k1 : ¬ (i : Int) ≤ (j : Int) := by omega
       have k2 : decide ((i : Int) ≤ (j : Int)) = false := decide_eq_false k1
       have k3 : decide (i ≤ j) = false := decide_eq_false h2
       have k4 : (j : Int) < (i : Int) := by omega
       have HJE : Hid (scanDown (fun x => ltInt dk[a]! x) dk i q = j) := Lib.hid (by rw [← HT.out]; exact sd_out h2)
       have HD := Lib.hid (fun q => HK.out.drewN q)
       go_upto_region 5 with fail
       go_quiet (fail)
       have HK2 := Lib.hid (HD.out nq)
       clear HD HK HDI HT
       generalize World.drewN _ nq = wk at *
       clear nq
       have HR := Lib.hid (pe_end ltInt HI.out HJE.out (by omega))
       rw [HL.out] at HR
       go_wp2
       try go_ret
       exact ⟨i, rfl, by rw [HP.out, HR.out], by rw [HP.out, HR.out]; exact HK2.out⟩
   ·have k1 : ¬ (i : Int) ≤ (q : Int) := by omega
    have k2 : decide ((i : Int) ≤ (q : Int)) = false := decide_eq_false k1
    have k3 : decide (i ≤ q) = false := decide_eq_false h1
    have HI : Hid (scanUp (fun x => !ltInt dk[a]! x) dk q p = i) := Lib.hid (by rw [← HS.out]; exact su_out h1)
    have HD := Lib.hid (fun q => HK.out.drewN q)
    go_upto_region 3 with fail
    go_quiet (fail)
    have HK2 := Lib.hid (HD.out nq)
    clear HD HK HS
    generalize World.drewN _ nq = wk at *
    clear nq
    go_wp2
    go_loopw [10] (fun vj wr => ∃ (j : Nat), vj = .int .i64 j ∧ j = q ∧ Hid (RowU w0 wr blk n dk)) (fun vj _ => (intOf vj).toNat)
    case atStart => exact ⟨q, rfl, rfl, HK2⟩
    case round =>
     clear HK2
     obtain ⟨j, rfl, hj0, HK⟩ := hrel
     have HJE : Hid (scanDown (fun x => ltInt dk[a]! x) dk i q = j) := Lib.hid (by rw [hj0]; exact sd_out h1)
     have HD := Lib.hid (fun q => HK.out.drewN q)
     have k1 : ¬ (i : Int) ≤ (j : Int) := by omega
     have k2 : decide ((i : Int) ≤ (j : Int)) = false := decide_eq_false k1
     have k3 : decide (i ≤ j) = false := decide_eq_false (by omega)
     have k4 : (j : Int) < (i : Int) := by omega
     have HR := Lib.hid (pe_end ltInt HI.out HJE.out (by omega))
     rw [HL.out] at HR
     have hjb : j < n := by omega
     have hja : a ≤ j := by omega
     clear HJE
     have HZ := Lib.hid hj0
     clear hj0
     go_upto_region 5 with fail
     go_quiet (fail)
     have HK2 := Lib.hid (HD.out nq)
     clear HD HK
     generalize World.drewN _ nq = wk at *
     clear nq
     go_wp2
     try go_ret
     exact ⟨i, rfl, by rw [HP.out, HR.out], by rw [HP.out, HR.out]; exact HK2.out⟩

set_option maxRecDepth 8000 in
set_option maxHeartbeats 16000000 in
theorem peU_d (blk n c a b pv : Nat) (d : Array Int) (w0 w : World) (h : RowU w0 w blk n d) (hap : a < pv) (hpb : pv < b) (hb : b ≤ n) (hn : n ≤ 1000000) :
  Calls Tryz.prog 193 #[.slice (some ⟨blk, 0, none⟩) n c, .int .i64 a, .int .i64 b, .int .i64 pv] w fun e w' => ∃ mid : Nat, e = .returned (.int .i64 mid) ∧ (partitionEqual ltInt d a b pv).1 = mid ∧ RowU w0 w' blk n (partitionEqual ltInt d a b pv).2 := by
 have HP : Hid (partitionEqual ltInt d a b pv = partEqLoop ltInt a (a + 1) (b - 1) (swp d a pv)) := Lib.hid rfl
 have H := Lib.hid h
 clear h
 go_enter Tryz.func193, Tryz.ntmps193
 go_wp2
 have a_0 : (0 : Int) ≤ a := by omega
 have a_1 : (a : Int) < n := by omega
 have pv_0 : (0 : Int) ≤ pv := by omega
 have pv_1 : (pv : Int) < n := by omega
 have hx := H.out.cell (i := a) (by omega) rfl
 have hy := H.out.cell (i := pv) (by omega) rfl
 have fx := H.out.free (i := a) (by omega)
 have fy := H.out.free (i := pv) (by omega)
 have HSW := Lib.hid (fun q => (H.out.drewN q).swap (i := a) (j := pv) (by omega) (by omega) rfl rfl)
 have g1 : ¬ a = pv := by omega
 have g2 : ¬ pv = a := by omega
 generalize d[a]! = x at *
 generalize d[pv]! = y at *
 have HSW2 := Lib.hid (HSW.out 1)
 clear HSW
 go_region
 obtain ⟨J0, hJ0⟩ : ∃ J0, b - 1 = J0 := ⟨_, rfl⟩
 obtain ⟨A1, hA1⟩ : ∃ A1, a + 1 = A1 := ⟨_, rfl⟩
 rw [hJ0, hA1] at HP
 obtain ⟨P, hPe⟩ : ∃ P, partEqLoop ltInt a A1 J0 (swp d a pv) = P := ⟨_, rfl⟩
 rw [hPe] at HP
 have HE := Lib.hid hPe
 clear hPe hx fx hy fy g1 g2 H
 generalize swp d a pv = d1 at *
 have eb : (b : Int) - 1 = (J0 : Int) := by omega
 have ea : (a : Int) + 1 = (A1 : Int) := by omega
 have wb : IntKind.i64.wrap (J0 : Int) = J0 := IntWalk.i64_in _ (by omega)
 have wa : IntKind.i64.wrap (A1 : Int) = A1 := IntWalk.i64_in _ (by omega)
 have b1 : a < A1 := by omega
 have b2 : A1 ≤ J0 + 1 := by omega
 have b3 : J0 < b := by omega
 clear hJ0 hA1
 go_wp2
 clear eb ea wb wa
 go_loopw [9, 10] (fun vi vj wr => ∃ (p q : Nat) (dk : Array Int), vi = .int .i64 p ∧ vj = .int .i64 q ∧ a < p ∧ p ≤ q + 1 ∧ q < b ∧ Hid (RowU w0 wr blk n dk) ∧ Hid (partEqLoop ltInt a p q dk = P)) (fun vi vj _ => (intOf vj).toNat + 1 - (intOf vi).toNat)
 case atStart => exact ⟨A1, J0, d1, rfl, rfl, b1, b2, b3, HSW2, HE⟩
 case round =>
  obtain ⟨p, q, dk, rfl, rfl, hap2, hpq, hqb, HK0, HL⟩ := hrel
  go_wp2
  go_loopw [9] (fun vi wr => ∃ (i : Nat), vi = .int .i64 i ∧ p ≤ i ∧ i ≤ q + 1 ∧ Hid (RowU w0 wr blk n dk) ∧ Hid (scanUp (fun x => !ltInt dk[a]! x) dk q i = scanUp (fun x => !ltInt dk[a]! x) dk q p)) (fun vi _ => n + 2 - (intOf vi).toNat)
  case atStart => exact ⟨p, rfl, Nat.le_refl _, by omega, HK0, Lib.hid rfl⟩
  case round =>
   clear HK0
   obtain ⟨i, rfl, hi0, hi1, HK, HS⟩ := hrel
   by_cases h1 : i ≤ q
   ·have k1 : (i : Int) ≤ (q : Int) := by omega
    have k2 : decide ((i : Int) ≤ (q : Int)) = true := decide_eq_true k1
    have k3 : decide (i ≤ q) = true := decide_eq_true h1
    have i_0 : (0 : Int) ≤ i := by omega
    have i_1 : (i : Int) < n := by omega
    have cx := HK.out.cell (i := i) (by omega) rfl
    have ca := HK.out.cell (i := a) (by omega) rfl
    have HD := Lib.hid (fun q => HK.out.drewN q)
    have HLC := Lib.hid (fun r h W => lessU_c dk[a]! dk[i]! r W h)
    have HM := Lib.hid (su_more (p := (fun x => !ltInt dk[a]! x)) (d := dk) h1)
    have HN := Lib.hid (su_end (p := (fun x => !ltInt dk[a]! x)) (d := dk) (j := q) (i := i))
    cases hl : ltInt dk[a]! dk[i]! with
    | false =>
     have HM2 := Lib.hid (HM.out (by simp [hl]))
     have HLT := fun W => HLC.out false hl W
     clear hl HLC HM HN
     obtain ⟨x, hxe⟩ : ∃ x, dk[i]! = x := ⟨_, rfl⟩
     obtain ⟨y, hye⟩ : ∃ y, dk[a]! = y := ⟨_, rfl⟩
     rw [hxe] at cx HLT
     rw [hye] at ca HLT
     clear hxe hye
     go_upto_region 3 with fail
     go_quiet (first | (go_at_call 79; refine Calls.quiet_of_same (HLT _)))
     have HD2 := Lib.hid (HD.out nq)
     clear HLT cx ca
     go_wp2
     exact ⟨⟨i + 1, by go_num, by omega, by omega, HD2, Lib.hid (by rw [← HS.out, HM2.out])⟩, by first | (simp [intOf]; done) | (simp [intOf]; omega)⟩
    | true =>
     have HI : Hid (scanUp (fun x => !ltInt dk[a]! x) dk q p = i) := Lib.hid (by rw [← HS.out]; exact HN.out (by simp [hl]))
     have HLT := fun W => HLC.out true hl W
     have HDI := Lib.hid hl
     clear hl HLC HM HN HS
     obtain ⟨x, hxe⟩ : ∃ x, dk[i]! = x := ⟨_, rfl⟩
     obtain ⟨y, hye⟩ : ∃ y, dk[a]! = y := ⟨_, rfl⟩
     rw [hxe] at cx HLT
     rw [hye] at ca HLT
     clear hxe hye
     go_upto_region 3 with fail
     go_quiet (first | (go_at_call 79; refine Calls.quiet_of_same (HLT _)))
     have HK2 := Lib.hid (HD.out nq)
     clear HLT cx ca HD HK
     generalize World.drewN _ nq = wk at *
     clear nq
     go_wp2
     go_loopw [10] (fun vj wr => ∃ (j : Nat), vj = .int .i64 j ∧ j ≤ q ∧ i ≤ j + 1 ∧ Hid (RowU w0 wr blk n dk) ∧ Hid (scanDown (fun x => ltInt dk[a]! x) dk i j = scanDown (fun x => ltInt dk[a]! x) dk i q)) (fun vj _ => (intOf vj).toNat)
     case atStart => exact ⟨q, rfl, Nat.le_refl _, by omega, HK2, Lib.hid rfl⟩
     case round =>
      clear HK2 k1 k2 k3
      obtain ⟨j, rfl, hj0, hj1, HK, HT⟩ := hrel
      by_cases h2 : i ≤ j
      ·obtain ⟨J, rfl⟩ : ∃ J, j = J + 1 := ⟨j - 1, by omega⟩
       have HMD := Lib.hid (sd_more (p := (fun x => ltInt dk[a]! x)) (d := dk) (j := J) h2)
       have HND := Lib.hid (sd_end (p := (fun x => ltInt dk[a]! x)) (d := dk) (i := i) (j := J + 1))
       have cx := HK.out.cell (i := J + 1) (by omega) rfl
       have ca := HK.out.cell (i := a) (by omega) rfl
       have HD := Lib.hid (fun q => HK.out.drewN q)
       have HLC := Lib.hid (fun r h W => lessU_c dk[a]! dk[J + 1]! r W h)
       cases hl : ltInt dk[a]! dk[J + 1]! with
       | true =>
        have HMD2 : Hid (scanDown (fun x => ltInt dk[a]! x) dk i J = scanDown (fun x => ltInt dk[a]! x) dk i q) := Lib.hid (by rw [← HT.out, HMD.out (by simp [hl])])
        have HLT := fun W => HLC.out true hl W
        clear hl HLC HMD HND HT
        obtain ⟨x, hxe⟩ : ∃ x, dk[J + 1]! = x := ⟨_, rfl⟩
        obtain ⟨y, hye⟩ : ∃ y, dk[a]! = y := ⟨_, rfl⟩
        rw [hxe] at cx HLT
        rw [hye] at ca HLT
        clear hxe hye
        obtain ⟨j, hjj⟩ : ∃ j, J + 1 = j := ⟨_, rfl⟩
        rw [hjj] at cx h2 hj0 ⊢
        have k1 : (i : Int) ≤ (j : Int) := by omega
        have k2 : decide ((i : Int) ≤ (j : Int)) = true := decide_eq_true k1
        have k3 : decide (i ≤ j) = true := decide_eq_true h2
        have eq1 : (j : Int) - 1 = (J : Int) := by omega
        have wr1 : IntKind.i64.wrap (J : Int) = J := IntWalk.i64_in _ (by omega)
        have HJ := Lib.hid hjj
        clear hjj
        have j_0 : (0 : Int) ≤ j := by omega
        have j_1 : (j : Int) < n := by omega
        go_upto_region 5 with fail
        go_quiet (first | (go_at_call 79; refine Calls.quiet_of_same (HLT _)))
        have HD2 := Lib.hid (HD.out nq)
        clear HLT cx ca
        go_wp2
        exact ⟨⟨J, by first | rfl | go_num, by have := HJ.out; omega, by have := HJ.out; omega, HD2, HMD2⟩, by have := HJ.out; simp [intOf]; omega⟩
       | false =>
        have HJE : Hid (scanDown (fun x => ltInt dk[a]! x) dk i q = J + 1) := Lib.hid (by rw [← HT.out]; exact HND.out (by simp [hl]))
        have hne : ¬ i = J + 1 := fun e => by
         have h5 := HDI.out
         rw [e, hl] at h5
         cases h5
        have HLT := fun W => HLC.out false hl W
        clear hl HLC HMD HND HT
        obtain ⟨x, hxe⟩ : ∃ x, dk[J + 1]! = x := ⟨_, rfl⟩
        obtain ⟨y, hye⟩ : ∃ y, dk[a]! = y := ⟨_, rfl⟩
        rw [hxe] at cx HLT
        rw [hye] at ca HLT
        clear hxe hye
        obtain ⟨j, hjj⟩ : ∃ j, J + 1 = j := ⟨_, rfl⟩
        rw [hjj] at cx h2 hj0 HJE hne ⊢
        have k1 : (i : Int) ≤ (j : Int) := by omega
        have k2 : decide ((i : Int) ≤ (j : Int)) = true := decide_eq_true k1
        have k3 : decide (i ≤ j) = true := decide_eq_true h2
        have eq1 : (j : Int) - 1 = (J : Int) := by omega
        have wr1 : IntKind.i64.wrap (J : Int) = J := IntWalk.i64_in _ (by omega)
        have HJ := Lib.hid hjj
        clear hjj
        have j_0 : (0 : Int) ≤ j := by omega
        have j_1 : (j : Int) < n := by omega
        go_upto_region 5 with fail
        go_quiet (first | (go_at_call 79; refine Calls.quiet_of_same (HLT _)))
        have HK2 := Lib.hid (HD.out nq)
        clear HLT cx ca HD HK HDI
        generalize World.drewN _ nq = wk at *
        clear nq
        have HJ2 : Hid (j - 1 = J) := Lib.hid (by have := HJ.out; omega)
        have HM := Lib.hid (pe_more ltInt HI.out HJE.out (by omega))
        rw [HJ2.out, HL.out] at HM
        have k4 : ¬ (j : Int) < (i : Int) := by omega
        go_wp2
        have hx := HK2.out.cell (i := i) (by omega) rfl
        have hy := HK2.out.cell (i := j) (by omega) rfl
        have fx := HK2.out.free (i := i) (by omega)
        have fy := HK2.out.free (i := j) (by omega)
        have HSW := Lib.hid (fun q => (HK2.out.drewN q).swap (i := i) (j := j) (by omega) (by omega) rfl rfl)
        have g1 : ¬ i = j := by omega
        have g2 : ¬ j = i := by omega
        generalize dk[i]! = x at *
        generalize dk[j]! = y at *
        have HSW2 := Lib.hid (HSW.out 1)
        clear HSW
        go_region
        go_wp2
        exact ⟨⟨i + 1, J, _, by go_num, by first | rfl | go_num, by omega, by have := HJ.out; omega, by have := HJ.out; omega, HSW2, Lib.hid HM.out.symm⟩, by have := HJ.out; simp [intOf]; omega⟩
      ·have k1 : ¬ (i : Int) ≤ (j : Int) := by omega
       have k2 : decide ((i : Int) ≤ (j : Int)) = false := decide_eq_false k1
       have k3 : decide (i ≤ j) = false := decide_eq_false h2
       have k4 : (j : Int) < (i : Int) := by omega
       have HJE : Hid (scanDown (fun x => ltInt dk[a]! x) dk i q = j) := Lib.hid (by rw [← HT.out]; exact sd_out h2)
       have HD := Lib.hid (fun q => HK.out.drewN q)
       go_upto_region 5 with fail
       go_quiet (fail)
       have HK2 := Lib.hid (HD.out nq)
       clear HD HK HDI HT
       generalize World.drewN _ nq = wk at *
       clear nq
       have HR := Lib.hid (pe_end ltInt HI.out HJE.out (by omega))
       rw [HL.out] at HR
       go_wp2
       try go_ret
       exact ⟨i, rfl, by rw [HP.out, HR.out], by rw [HP.out, HR.out]; exact HK2.out⟩
   ·have k1 : ¬ (i : Int) ≤ (q : Int) := by omega
    have k2 : decide ((i : Int) ≤ (q : Int)) = false := decide_eq_false k1
    have k3 : decide (i ≤ q) = false := decide_eq_false h1
    have HI : Hid (scanUp (fun x => !ltInt dk[a]! x) dk q p = i) := Lib.hid (by rw [← HS.out]; exact su_out h1)
    have HD := Lib.hid (fun q => HK.out.drewN q)
    go_upto_region 3 with fail
    go_quiet (fail)
    have HK2 := Lib.hid (HD.out nq)
    clear HD HK HS
    generalize World.drewN _ nq = wk at *
    clear nq
    go_wp2
    go_loopw [10] (fun vj wr => ∃ (j : Nat), vj = .int .i64 j ∧ j = q ∧ Hid (RowU w0 wr blk n dk)) (fun vj _ => (intOf vj).toNat)
    case atStart => exact ⟨q, rfl, rfl, HK2⟩
    case round =>
     clear HK2
     obtain ⟨j, rfl, hj0, HK⟩ := hrel
     have HJE : Hid (scanDown (fun x => ltInt dk[a]! x) dk i q = j) := Lib.hid (by rw [hj0]; exact sd_out h1)
     have HD := Lib.hid (fun q => HK.out.drewN q)
     have k1 : ¬ (i : Int) ≤ (j : Int) := by omega
     have k2 : decide ((i : Int) ≤ (j : Int)) = false := decide_eq_false k1
     have k3 : decide (i ≤ j) = false := decide_eq_false (by omega)
     have k4 : (j : Int) < (i : Int) := by omega
     have HR := Lib.hid (pe_end ltInt HI.out HJE.out (by omega))
     rw [HL.out] at HR
     have hjb : j < n := by omega
     have hja : a ≤ j := by omega
     clear HJE
     have HZ := Lib.hid hj0
     clear hj0
     go_upto_region 5 with fail
     go_quiet (fail)
     have HK2 := Lib.hid (HD.out nq)
     clear HD HK
     generalize World.drewN _ nq = wk at *
     clear nq
     go_wp2
     try go_ret
     exact ⟨i, rfl, by rw [HP.out, HR.out], by rw [HP.out, HR.out]; exact HK2.out⟩

end Go.Proofs.YtnknejokneddbaaGreatDoor
