/- Go's own slices.Sort over numbers: partialInsertionSort. -/
import Derived.Test.YtnknejokneddbaaGreatDoorSrtE
namespace Go.Proofs.YtnknejokneddbaaGreatDoor
open Go.RowKit Go.Sort

section
variable {α : Type} [Inhabited α] (lt : α → α → Bool)
theorem ss_more {d : Array α} {b i : Nat} (h : i < b) (hl : lt d[i]! d[i - 1]! = false) : scanSorted lt d b i = scanSorted lt d b (i + 1) := by
 conv => lhs; unfold scanSorted
 rw [if_pos (by rw [hl, Bool.not_false, Bool.and_true]; exact decide_eq_true h)]
theorem ss_end {d : Array α} {b i : Nat} (hl : lt d[i]! d[i - 1]! = true) : scanSorted lt d b i = i := by
 unfold scanSorted
 rw [if_neg (by rw [hl, Bool.not_true, Bool.and_false]; decide)]
theorem ss_out {d : Array α} {b i : Nat} (h : ¬ i < b) : scanSorted lt d b i = i := by
 unfold scanSorted
 rw [if_neg (by rw [Bool.and_eq_true, decide_eq_true_eq]; exact fun e => h e.1)]
theorem shd_more {d : Array α} {j : Nat} (hl : lt d[j + 1]! d[j]! = true) : shiftDown lt (j + 1) d = shiftDown lt j (swp d (j + 1) j) := by
 conv => lhs; unfold shiftDown
 rw [if_neg (by rw [hl]; decide)]
theorem shd_end {d : Array α} {j : Nat} (hl : lt d[j + 1]! d[j]! = false) : shiftDown lt (j + 1) d = d := by
 unfold shiftDown
 rw [if_pos (by rw [hl]; rfl)]
theorem shu_more {d : Array α} {b j : Nat} (h : j < b) (hl : lt d[j]! d[j - 1]! = true) : shiftUp lt b j d = shiftUp lt b (j + 1) (swp d j (j - 1)) := by
 conv => lhs; unfold shiftUp
 rw [if_pos h, if_neg (by rw [hl]; decide)]
theorem shu_end {d : Array α} {b j : Nat} (hl : lt d[j]! d[j - 1]! = false) : shiftUp lt b j d = d := by
 unfold shiftUp
 split
 ·rw [if_pos (by rw [hl]; rfl)]
 ·rfl
theorem shu_out {d : Array α} {b j : Nat} (h : ¬ j < b) : shiftUp lt b j d = d := by
 unfold shiftUp
 rw [if_neg h]
theorem pi_b {a b s i : Nat} {d : Array α} (h : scanSorted lt d b i = b) : partialIns lt a b (s + 1) i d = (d, true) := by
 rw [partialIns_succ, if_pos h]
theorem pi_s {a b s i k : Nat} {d : Array α} (h : scanSorted lt d b i = k) (hk : ¬ k = b) (hs : b - a < 50) : partialIns lt a b (s + 1) i d = (d, false) := by
 rw [partialIns_succ, h, if_neg hk, if_pos hs]
theorem pi_m {a b s i k : Nat} {d d3 d4 : Array α} (h : scanSorted lt d b i = k) (hk : ¬ k = b) (hs : ¬ b - a < 50) (e1 : fixDown lt a k (swp d k (k - 1)) = d3) (e2 : fixUp lt b k d3 = d4) :
  partialIns lt a b (s + 1) i d = partialIns lt a b s k d4 := by
 rw [partialIns_succ, h, if_neg hk, if_neg hs, e1, e2]
end

set_option maxRecDepth 8000 in
set_option maxHeartbeats 16000000 in
theorem pisU_c (blk n c a b : Nat) (d : Array Int) (w0 w : World) (h : RowU w0 w blk n d) (hab : a < b) (hb : b ≤ n) (hn : n ≤ 1000000) :
  Calls Tryz.prog 192 #[.slice (some ⟨blk, 0, none⟩) n c, .int .i64 a, .int .i64 b] w fun e w' => e = .returned (.bool (partialInsertionSort ltInt d a b).2) ∧ RowU w0 w' blk n (partialInsertionSort ltInt d a b).1 := by
 have H := Lib.hid h
 clear h
 obtain ⟨R, hR⟩ : ∃ R, partialInsertionSort ltInt d a b = R := ⟨_, rfl⟩
 have HR0 : Hid (partialIns ltInt a b 5 (a + 1) d = R) := Lib.hid hR
 rw [hR]
 clear hR
 obtain ⟨L, hL⟩ : ∃ L, b - a = L := ⟨_, rfl⟩
 have eL : (b : Int) - (a : Int) = (L : Int) := by omega
 have wL : IntKind.i64.wrap (L : Int) = L := IntWalk.i64_in _ (by omega)
 have HL := Lib.hid hL
 clear hL
 go_enter Tryz.func192, Tryz.ntmps192
 go_wp2
 go_loopw [7, 8, 9, 10] (fun vi vs _ _ wr => ∃ (i s t : Nat) (dk : Array Int), vi = .int .i64 i ∧ vs = .int .i64 s ∧ s + t = 5 ∧ a < i ∧ i ≤ b ∧ Hid (RowU w0 wr blk n dk) ∧ Hid (partialIns ltInt a b t i dk = R)) (fun _ vs _ _ _ => 5 - (intOf vs).toNat)
 case atStart => exact ⟨a + 1, 0, 5, d, by go_num, rfl, rfl, by omega, by omega, H, HR0⟩
 case round =>
  clear H HR0
  obtain ⟨i, s, t, dk, rfl, rfl, hst, hai, hib, HK0, HR⟩ := hrel
  cases t with
  | zero =>
   have ks : ¬ (s : Int) < 5 := by omega
   go_wp2
   try go_ret
   obtain rfl := HR.out
   exact ⟨rfl, HK0.out⟩
  | succ T =>
   have ks : (s : Int) < 5 := by omega
   go_wp2
   go_loopw [7] (fun vk wr => ∃ (k : Nat), vk = .int .i64 k ∧ i ≤ k ∧ k ≤ b ∧ Hid (RowU w0 wr blk n dk) ∧ Hid (scanSorted ltInt dk b k = scanSorted ltInt dk b i)) (fun vk _ => b + 1 - (intOf vk).toNat)
   case atStart => exact ⟨i, rfl, Nat.le_refl _, hib, HK0, Lib.hid rfl⟩
   case round =>
    clear HK0
    obtain ⟨k, rfl, hik, hkb0, HK, HS⟩ := hrel
    by_cases hk : k < b
    ·have kk1 : (k : Int) < (b : Int) := by omega
     have kk2 : decide ((k : Int) < (b : Int)) = true := decide_eq_true kk1
     have kk3 : decide (k < b) = true := decide_eq_true hk
     obtain ⟨K, hK⟩ : ∃ K, k = K + 1 := ⟨k - 1, by omega⟩
     have eK : (k : Int) - 1 = (K : Int) := by omega
     have wK : IntKind.i64.wrap (K : Int) = K := IntWalk.i64_in _ (by omega)
     have sK : k - 1 = K := by omega
     have Kk : K < k := by omega
     have HHK := Lib.hid hK
     clear hK
     have k_0 : (0 : Int) ≤ k := by omega
     have k_1 : (k : Int) < n := by omega
     have K_0 : (0 : Int) ≤ K := by omega
     have K_1 : (K : Int) < n := by omega
     have cx := HK.out.cell (i := k) (by omega) rfl
     have cy := HK.out.cell (i := K) (by omega) rfl
     have fx := HK.out.free (i := k) (by omega)
     have fy := HK.out.free (i := K) (by omega)
     have g1 : ¬ k = K := by omega
     have g2 : ¬ K = k := by omega
     have HD := Lib.hid (fun q => HK.out.drewN q)
     have HSW := Lib.hid (fun q => (HK.out.drewN q).swap (i := k) (j := K) (by omega) (by omega) rfl rfl)
     have HLC := Lib.hid (fun r h W => lessU_c dk[k]! dk[K]! r W h)
     have HMS := Lib.hid (ss_more ltInt (d := dk) hk)
     have HNS := Lib.hid (ss_end ltInt (d := dk) (b := b) (i := k))
     rw [sK] at HMS HNS
     cases hl : ltInt dk[k]! dk[K]! with
     | false =>
      have HM2 := Lib.hid (HMS.out hl)
      have HLT := fun W => HLC.out false hl W
      clear hl HLC HMS HNS HSW
      obtain ⟨x, hxe⟩ : ∃ x, dk[k]! = x := ⟨_, rfl⟩
      obtain ⟨y, hye⟩ : ∃ y, dk[K]! = y := ⟨_, rfl⟩
      rw [hxe] at cx HLT
      rw [hye] at cy HLT
      clear hxe hye
      go_upto_region 5 with fail
      go_quiet (first | (go_at_call 79; refine Calls.quiet_of_same (HLT _)))
      have HD2 := Lib.hid (HD.out nq)
      clear HLT cx cy
      go_wp2
      exact ⟨⟨k + 1, by go_num, by omega, by omega, HD2, Lib.hid (by rw [← HS.out, HM2.out])⟩, by simp [intOf]; omega⟩
     | true =>
      have HI : Hid (scanSorted ltInt dk b i = k) := Lib.hid (by rw [← HS.out]; exact HNS.out hl)
      have HLT := fun W => HLC.out true hl W
      clear hl HLC HMS HNS HS HSW
      obtain ⟨x, hxe⟩ : ∃ x, dk[k]! = x := ⟨_, rfl⟩
      obtain ⟨y, hye⟩ : ∃ y, dk[K]! = y := ⟨_, rfl⟩
      rw [hxe] at cx HLT
      rw [hye] at cy HLT
      clear hxe hye
      go_upto_region 5 with fail
      go_quiet (first | (go_at_call 79; refine Calls.quiet_of_same (HLT _)))
      have HK2 := Lib.hid (HD.out nq)
      clear HLT cx cy fx fy HD HK g1 g2
      generalize World.drewN _ nq = wk at *
      clear nq
      have hkb : ¬ k = b := by omega
      have hkb2 : ¬ (k : Int) = (b : Int) := by omega
      by_cases hL50 : b - a < 50
      ·have kL : (L : Int) < 50 := by have := HL.out; omega
       have HRE := Lib.hid (pi_s ltInt (s := T) HI.out hkb hL50)
       rw [HR.out] at HRE
       go_wp2
       try go_ret
       obtain rfl := HRE.out
       exact ⟨rfl, HK2.out⟩
      ·have kL : ¬ (L : Int) < 50 := by have := HL.out; omega
       have cx := HK2.out.cell (i := k) (by omega) rfl
       have cy := HK2.out.cell (i := K) (by omega) rfl
       have fx := HK2.out.free (i := k) (by omega)
       have fy := HK2.out.free (i := K) (by omega)
       have g1 : ¬ k = K := by omega
       have g2 : ¬ K = k := by omega
       have HSW := Lib.hid (fun q => (HK2.out.drewN q).swap (i := k) (j := K) (by omega) (by omega) rfl rfl)
       obtain ⟨x, hxe⟩ : ∃ x, dk[k]! = x := ⟨_, rfl⟩
       obtain ⟨y, hye⟩ : ∃ y, dk[K]! = y := ⟨_, rfl⟩
       rw [hxe] at cx
       rw [hye] at cy
       rw [hxe, hye] at HSW
       clear hxe hye
       go_wp2
       have HSW3 := Lib.hid (HSW.out 1)
       clear HSW
       go_region
       clear cx cy fx fy g1 g2 HK2
       have HD2 : Hid (RowU w0 _ blk n (swp dk k K)) := HSW3
       generalize hd2 : swp dk k K = D2 at *
       have HD2E := Lib.hid hd2
       clear hd2
       by_cases h1 : 2 ≤ k - a
       ·obtain ⟨m1, hm1⟩ : ∃ m1, k - a = m1 := ⟨_, rfl⟩
        have em1 : (k : Int) - (a : Int) = (m1 : Int) := by omega
        have wm1 : IntKind.i64.wrap (m1 : Int) = m1 := IntWalk.i64_in _ (by omega)
        have k5 : (2 : Int) ≤ (m1 : Int) := by omega
        have HX1 : Hid (fixDown ltInt a k (swp dk k (k - 1)) = shiftDown ltInt K D2) := Lib.hid (by unfold fixDown; rw [if_pos h1, sK, HD2E.out])
        clear hm1
        go_wp2
        clear em1 wm1 k5
        go_loopw [9] (fun vj wr => ∃ (j : Nat) (dz : Array Int), vj = .int .i64 j ∧ j ≤ K ∧ Hid (RowU w0 wr blk n dz) ∧ Hid (shiftDown ltInt j dz = shiftDown ltInt K D2)) (fun vj _ => (intOf vj).toNat)
        case atStart => exact ⟨K, D2, rfl, Nat.le_refl _, HD2, Lib.hid rfl⟩
        case round =>
         clear HD2
         obtain ⟨j, dz, rfl, hjK, HJ, HU⟩ := hrel
         cases j with
         | succ J =>
          have HMU := Lib.hid (shd_more ltInt (d := dz) (j := J))
          have HNU := Lib.hid (shd_end ltInt (d := dz) (j := J))
          obtain ⟨j, hj⟩ : ∃ j, J + 1 = j := ⟨_, rfl⟩
          rw [hj] at HMU HNU HU hjK ⊢
          have eJ : (j : Int) - 1 = (J : Int) := by omega
          have wJ : IntKind.i64.wrap (J : Int) = J := IntWalk.i64_in _ (by omega)
          have Jk : J < j := by omega
          have kj : (1 : Int) ≤ (j : Int) := by omega
          have HHJ := Lib.hid hj
          clear hj
          have j_0 : (0 : Int) ≤ j := by omega
          have j_1 : (j : Int) < n := by omega
          have J_0 : (0 : Int) ≤ J := by omega
          have J_1 : (J : Int) < n := by omega
          have cx := HJ.out.cell (i := j) (by omega) rfl
          have cy := HJ.out.cell (i := J) (by omega) rfl
          have fx := HJ.out.free (i := j) (by omega)
          have fy := HJ.out.free (i := J) (by omega)
          have g1 : ¬ j = J := by omega
          have g2 : ¬ J = j := by omega
          have HD := Lib.hid (fun q => HJ.out.drewN q)
          have HSW := Lib.hid (fun q => (HJ.out.drewN q).swap (i := j) (j := J) (by omega) (by omega) rfl rfl)
          have HLC := Lib.hid (fun r h W => lessU_c dz[j]! dz[J]! r W h)
          cases hl : ltInt dz[j]! dz[J]! with
          | true =>
           have HM2 := Lib.hid (HMU.out hl)
           have HLT := fun W => HLC.out true hl W
           clear hl HLC HMU HNU
           generalize dz[j]! = x at *
           generalize dz[J]! = y at *
           go_upto_region 16 with fail
           go_quiet (first | (go_at_call 79; refine Calls.quiet_of_same (HLT _)))
           go_wp2
           have HSW2 := Lib.hid (fun q => HSW.out (nq + q))
           clear HLT HSW HD
           go_region
           go_wp2
           exact ⟨⟨J, _, by first | rfl | go_num, by omega, Lib.hid (by first | exact HSW2.out _ | exact HSW2.out 1), Lib.hid (by rw [← HU.out, HM2.out])⟩, by simp [intOf]; omega⟩
          | false =>
           have H3 : Hid (fixDown ltInt a k (swp dk k (k - 1)) = dz) := Lib.hid (by rw [HX1.out, ← HU.out]; exact HNU.out hl)
           have HLT := fun W => HLC.out false hl W
           clear hl HLC HMU HNU HSW HX1 HU
           obtain ⟨x, hxe⟩ : ∃ x, dz[j]! = x := ⟨_, rfl⟩
           obtain ⟨y, hye⟩ : ∃ y, dz[J]! = y := ⟨_, rfl⟩
           rw [hxe] at cx HLT
           rw [hye] at cy HLT
           clear hxe hye
           go_upto_region 16 with fail
           go_quiet (first | (go_at_call 79; refine Calls.quiet_of_same (HLT _)))
           have HD3 := Lib.hid (HD.out nq)
           clear HLT cx cy fx fy g1 g2 HD HJ
           generalize World.drewN _ nq = wk at *
           clear nq
           clear eJ wJ Jk kj HHJ j_0 j_1 J_0 J_1 hjK
           by_cases h2 : 2 ≤ b - k
           ·obtain ⟨m2, hm2⟩ : ∃ m2, b - k = m2 := ⟨_, rfl⟩
            have em2 : (b : Int) - (k : Int) = (m2 : Int) := by omega
            have wm2 : IntKind.i64.wrap (m2 : Int) = m2 := IntWalk.i64_in _ (by omega)
            have k6 : (2 : Int) ≤ (m2 : Int) := by omega
            have HX : Hid (fixUp ltInt b k dz = shiftUp ltInt b (k + 1) dz) := Lib.hid (by unfold fixUp; rw [if_pos h2])
            clear hm2
            go_wp2
            clear em2 wm2 k6
            go_loopw [10] (fun vj wr => ∃ (j : Nat) (dj : Array Int), vj = .int .i64 j ∧ k < j ∧ j ≤ b ∧ Hid (RowU w0 wr blk n dj) ∧ Hid (shiftUp ltInt b j dj = shiftUp ltInt b (k + 1) dz)) (fun vj _ => b + 1 - (intOf vj).toNat)
            case atStart => exact ⟨k + 1, dz, by go_num, by omega, by omega, HD3, Lib.hid rfl⟩
            case round =>
             clear HD3
             obtain ⟨j, dj, rfl, hkj, hjb, HJ, HU⟩ := hrel
             by_cases hj : j < b
             ·have kj : (j : Int) < (b : Int) := by omega
              obtain ⟨J, hJ⟩ : ∃ J, j = J + 1 := ⟨j - 1, by omega⟩
              have eJ : (j : Int) - 1 = (J : Int) := by omega
              have wJ : IntKind.i64.wrap (J : Int) = J := IntWalk.i64_in _ (by omega)
              have sJ : j - 1 = J := by omega
              have Jk : J < j := by omega
              have HHJ := Lib.hid hJ
              clear hJ
              have j_0 : (0 : Int) ≤ j := by omega
              have j_1 : (j : Int) < n := by omega
              have J_0 : (0 : Int) ≤ J := by omega
              have J_1 : (J : Int) < n := by omega
              have cx := HJ.out.cell (i := j) (by omega) rfl
              have cy := HJ.out.cell (i := J) (by omega) rfl
              have fx := HJ.out.free (i := j) (by omega)
              have fy := HJ.out.free (i := J) (by omega)
              have g1 : ¬ j = J := by omega
              have g2 : ¬ J = j := by omega
              have HD := Lib.hid (fun q => HJ.out.drewN q)
              have HSW := Lib.hid (fun q => (HJ.out.drewN q).swap (i := j) (j := J) (by omega) (by omega) rfl rfl)
              have HLC := Lib.hid (fun r h W => lessU_c dj[j]! dj[J]! r W h)
              have HMU := Lib.hid (shu_more ltInt (d := dj) hj)
              have HNU := Lib.hid (shu_end ltInt (d := dj) (b := b) (j := j))
              rw [sJ] at HMU HNU
              cases hl : ltInt dj[j]! dj[J]! with
              | true =>
               have HM2 := Lib.hid (HMU.out hl)
               have HLT := fun W => HLC.out true hl W
               clear hl HLC HMU HNU
               generalize dj[j]! = x at *
               generalize dj[J]! = y at *
               go_upto_region 22 with fail
               go_quiet (first | (go_at_call 79; refine Calls.quiet_of_same (HLT _)))
               go_wp2
               have HSW2 := Lib.hid (fun q => HSW.out (nq + q))
               clear HLT HSW HD
               go_region
               go_wp2
               exact ⟨⟨j + 1, _, by go_num, by omega, by omega, Lib.hid (by first | exact HSW2.out _ | exact HSW2.out 1), Lib.hid (by rw [← HU.out, HM2.out])⟩, by simp [intOf]; omega⟩
              | false =>
               have H4 : Hid (fixUp ltInt b k dz = dj) := Lib.hid (by rw [HX.out, ← HU.out]; exact HNU.out hl)
               have HLT := fun W => HLC.out false hl W
               clear hl HLC HMU HNU HSW
               obtain ⟨x, hxe⟩ : ∃ x, dj[j]! = x := ⟨_, rfl⟩
               obtain ⟨y, hye⟩ : ∃ y, dj[J]! = y := ⟨_, rfl⟩
               rw [hxe] at cx HLT
               rw [hye] at cy HLT
               clear hxe hye
               go_upto_region 22 with fail
               go_quiet (first | (go_at_call 79; refine Calls.quiet_of_same (HLT _)))
               have HD5 := Lib.hid (HD.out nq)
               clear HLT cx cy
               go_wp2
               exact ⟨⟨k, s + 1, T, dj, rfl, by go_num, by omega, by omega, by omega, HD5, Lib.hid (by rw [← HR.out]; exact (pi_m ltInt HI.out hkb hL50 H3.out H4.out).symm)⟩, by simp [intOf]; omega⟩
             ·have kj : ¬ (j : Int) < (b : Int) := by omega
              have H4 : Hid (fixUp ltInt b k dz = dj) := Lib.hid (by rw [HX.out, ← HU.out]; exact shu_out ltInt hj)
              have HD5 := HJ
              go_wp2
              exact ⟨⟨k, s + 1, T, dj, rfl, by go_num, by omega, by omega, by omega, HD5, Lib.hid (by rw [← HR.out]; exact (pi_m ltInt HI.out hkb hL50 H3.out H4.out).symm)⟩, by simp [intOf]; omega⟩
           ·obtain ⟨m2, hm2⟩ : ∃ m2, b - k = m2 := ⟨_, rfl⟩
            have em2 : (b : Int) - (k : Int) = (m2 : Int) := by omega
            have wm2 : IntKind.i64.wrap (m2 : Int) = m2 := IntWalk.i64_in _ (by omega)
            have k6 : ¬ (2 : Int) ≤ (m2 : Int) := by omega
            have H4 : Hid (fixUp ltInt b k dz = dz) := Lib.hid (by unfold fixUp; rw [if_neg h2])
            have HD5 := HD3
            clear hm2
            go_wp2
            exact ⟨⟨k, s + 1, T, dz, rfl, by go_num, by omega, by omega, by omega, HD5, Lib.hid (by rw [← HR.out]; exact (pi_m ltInt HI.out hkb hL50 H3.out H4.out).symm)⟩, by simp [intOf]; omega⟩
         | zero =>
          have H3 : Hid (fixDown ltInt a k (swp dk k (k - 1)) = dz) := Lib.hid (by rw [HX1.out, ← HU.out]; rfl)
          have HD3 := HJ
          clear HJ HX1 HU
          by_cases h2 : 2 ≤ b - k
          ·obtain ⟨m2, hm2⟩ : ∃ m2, b - k = m2 := ⟨_, rfl⟩
           have em2 : (b : Int) - (k : Int) = (m2 : Int) := by omega
           have wm2 : IntKind.i64.wrap (m2 : Int) = m2 := IntWalk.i64_in _ (by omega)
           have k6 : (2 : Int) ≤ (m2 : Int) := by omega
           have HX : Hid (fixUp ltInt b k dz = shiftUp ltInt b (k + 1) dz) := Lib.hid (by unfold fixUp; rw [if_pos h2])
           clear hm2
           go_wp2
           clear em2 wm2 k6
           go_loopw [10] (fun vj wr => ∃ (j : Nat) (dj : Array Int), vj = .int .i64 j ∧ k < j ∧ j ≤ b ∧ Hid (RowU w0 wr blk n dj) ∧ Hid (shiftUp ltInt b j dj = shiftUp ltInt b (k + 1) dz)) (fun vj _ => b + 1 - (intOf vj).toNat)
           case atStart => exact ⟨k + 1, dz, by go_num, by omega, by omega, HD3, Lib.hid rfl⟩
           case round =>
            clear HD3
            obtain ⟨j, dj, rfl, hkj, hjb, HJ, HU⟩ := hrel
            by_cases hj : j < b
            ·have kj : (j : Int) < (b : Int) := by omega
             obtain ⟨J, hJ⟩ : ∃ J, j = J + 1 := ⟨j - 1, by omega⟩
             have eJ : (j : Int) - 1 = (J : Int) := by omega
             have wJ : IntKind.i64.wrap (J : Int) = J := IntWalk.i64_in _ (by omega)
             have sJ : j - 1 = J := by omega
             have Jk : J < j := by omega
             have HHJ := Lib.hid hJ
             clear hJ
             have j_0 : (0 : Int) ≤ j := by omega
             have j_1 : (j : Int) < n := by omega
             have J_0 : (0 : Int) ≤ J := by omega
             have J_1 : (J : Int) < n := by omega
             have cx := HJ.out.cell (i := j) (by omega) rfl
             have cy := HJ.out.cell (i := J) (by omega) rfl
             have fx := HJ.out.free (i := j) (by omega)
             have fy := HJ.out.free (i := J) (by omega)
             have g1 : ¬ j = J := by omega
             have g2 : ¬ J = j := by omega
             have HD := Lib.hid (fun q => HJ.out.drewN q)
             have HSW := Lib.hid (fun q => (HJ.out.drewN q).swap (i := j) (j := J) (by omega) (by omega) rfl rfl)
             have HLC := Lib.hid (fun r h W => lessU_c dj[j]! dj[J]! r W h)
             have HMU := Lib.hid (shu_more ltInt (d := dj) hj)
             have HNU := Lib.hid (shu_end ltInt (d := dj) (b := b) (j := j))
             rw [sJ] at HMU HNU
             cases hl : ltInt dj[j]! dj[J]! with
             | true =>
              have HM2 := Lib.hid (HMU.out hl)
              have HLT := fun W => HLC.out true hl W
              clear hl HLC HMU HNU
              generalize dj[j]! = x at *
              generalize dj[J]! = y at *
              go_upto_region 22 with fail
              go_quiet (first | (go_at_call 79; refine Calls.quiet_of_same (HLT _)))
              go_wp2
              have HSW2 := Lib.hid (fun q => HSW.out (nq + q))
              clear HLT HSW HD
              go_region
              go_wp2
              exact ⟨⟨j + 1, _, by go_num, by omega, by omega, Lib.hid (by first | exact HSW2.out _ | exact HSW2.out 1), Lib.hid (by rw [← HU.out, HM2.out])⟩, by simp [intOf]; omega⟩
             | false =>
              have H4 : Hid (fixUp ltInt b k dz = dj) := Lib.hid (by rw [HX.out, ← HU.out]; exact HNU.out hl)
              have HLT := fun W => HLC.out false hl W
              clear hl HLC HMU HNU HSW
              obtain ⟨x, hxe⟩ : ∃ x, dj[j]! = x := ⟨_, rfl⟩
              obtain ⟨y, hye⟩ : ∃ y, dj[J]! = y := ⟨_, rfl⟩
              rw [hxe] at cx HLT
              rw [hye] at cy HLT
              clear hxe hye
              go_upto_region 22 with fail
              go_quiet (first | (go_at_call 79; refine Calls.quiet_of_same (HLT _)))
              have HD5 := Lib.hid (HD.out nq)
              clear HLT cx cy
              go_wp2
              exact ⟨⟨k, s + 1, T, dj, rfl, by go_num, by omega, by omega, by omega, HD5, Lib.hid (by rw [← HR.out]; exact (pi_m ltInt HI.out hkb hL50 H3.out H4.out).symm)⟩, by simp [intOf]; omega⟩
            ·have kj : ¬ (j : Int) < (b : Int) := by omega
             have H4 : Hid (fixUp ltInt b k dz = dj) := Lib.hid (by rw [HX.out, ← HU.out]; exact shu_out ltInt hj)
             have HD5 := HJ
             go_wp2
             exact ⟨⟨k, s + 1, T, dj, rfl, by go_num, by omega, by omega, by omega, HD5, Lib.hid (by rw [← HR.out]; exact (pi_m ltInt HI.out hkb hL50 H3.out H4.out).symm)⟩, by simp [intOf]; omega⟩
          ·obtain ⟨m2, hm2⟩ : ∃ m2, b - k = m2 := ⟨_, rfl⟩
           have em2 : (b : Int) - (k : Int) = (m2 : Int) := by omega
           have wm2 : IntKind.i64.wrap (m2 : Int) = m2 := IntWalk.i64_in _ (by omega)
           have k6 : ¬ (2 : Int) ≤ (m2 : Int) := by omega
           have H4 : Hid (fixUp ltInt b k dz = dz) := Lib.hid (by unfold fixUp; rw [if_neg h2])
           have HD5 := HD3
           clear hm2
           go_wp2
           exact ⟨⟨k, s + 1, T, dz, rfl, by go_num, by omega, by omega, by omega, HD5, Lib.hid (by rw [← HR.out]; exact (pi_m ltInt HI.out hkb hL50 H3.out H4.out).symm)⟩, by simp [intOf]; omega⟩
       ·obtain ⟨m1, hm1⟩ : ∃ m1, k - a = m1 := ⟨_, rfl⟩
        have em1 : (k : Int) - (a : Int) = (m1 : Int) := by omega
        have wm1 : IntKind.i64.wrap (m1 : Int) = m1 := IntWalk.i64_in _ (by omega)
        have k5 : ¬ (2 : Int) ≤ (m1 : Int) := by omega
        have H3 : Hid (fixDown ltInt a k (swp dk k (k - 1)) = D2) := Lib.hid (by unfold fixDown; rw [if_neg h1, sK, HD2E.out])
        have HD3 := HD2
        clear hm1 HD2
        by_cases h2 : 2 ≤ b - k
        ·obtain ⟨m2, hm2⟩ : ∃ m2, b - k = m2 := ⟨_, rfl⟩
         have em2 : (b : Int) - (k : Int) = (m2 : Int) := by omega
         have wm2 : IntKind.i64.wrap (m2 : Int) = m2 := IntWalk.i64_in _ (by omega)
         have k6 : (2 : Int) ≤ (m2 : Int) := by omega
         have HX : Hid (fixUp ltInt b k D2 = shiftUp ltInt b (k + 1) D2) := Lib.hid (by unfold fixUp; rw [if_pos h2])
         clear hm2
         go_wp2
         clear em2 wm2 k6
         go_loopw [10] (fun vj wr => ∃ (j : Nat) (dj : Array Int), vj = .int .i64 j ∧ k < j ∧ j ≤ b ∧ Hid (RowU w0 wr blk n dj) ∧ Hid (shiftUp ltInt b j dj = shiftUp ltInt b (k + 1) D2)) (fun vj _ => b + 1 - (intOf vj).toNat)
         case atStart => exact ⟨k + 1, D2, by go_num, by omega, by omega, HD3, Lib.hid rfl⟩
         case round =>
          clear HD3
          obtain ⟨j, dj, rfl, hkj, hjb, HJ, HU⟩ := hrel
          by_cases hj : j < b
          ·have kj : (j : Int) < (b : Int) := by omega
           obtain ⟨J, hJ⟩ : ∃ J, j = J + 1 := ⟨j - 1, by omega⟩
           have eJ : (j : Int) - 1 = (J : Int) := by omega
           have wJ : IntKind.i64.wrap (J : Int) = J := IntWalk.i64_in _ (by omega)
           have sJ : j - 1 = J := by omega
           have Jk : J < j := by omega
           have HHJ := Lib.hid hJ
           clear hJ
           have j_0 : (0 : Int) ≤ j := by omega
           have j_1 : (j : Int) < n := by omega
           have J_0 : (0 : Int) ≤ J := by omega
           have J_1 : (J : Int) < n := by omega
           have cx := HJ.out.cell (i := j) (by omega) rfl
           have cy := HJ.out.cell (i := J) (by omega) rfl
           have fx := HJ.out.free (i := j) (by omega)
           have fy := HJ.out.free (i := J) (by omega)
           have g1 : ¬ j = J := by omega
           have g2 : ¬ J = j := by omega
           have HD := Lib.hid (fun q => HJ.out.drewN q)
           have HSW := Lib.hid (fun q => (HJ.out.drewN q).swap (i := j) (j := J) (by omega) (by omega) rfl rfl)
           have HLC := Lib.hid (fun r h W => lessU_c dj[j]! dj[J]! r W h)
           have HMU := Lib.hid (shu_more ltInt (d := dj) hj)
           have HNU := Lib.hid (shu_end ltInt (d := dj) (b := b) (j := j))
           rw [sJ] at HMU HNU
           cases hl : ltInt dj[j]! dj[J]! with
           | true =>
            have HM2 := Lib.hid (HMU.out hl)
            have HLT := fun W => HLC.out true hl W
            clear hl HLC HMU HNU
            generalize dj[j]! = x at *
            generalize dj[J]! = y at *
            go_upto_region 22 with fail
            go_quiet (first | (go_at_call 79; refine Calls.quiet_of_same (HLT _)))
            go_wp2
            have HSW2 := Lib.hid (fun q => HSW.out (nq + q))
            clear HLT HSW HD
            go_region
            go_wp2
            exact ⟨⟨j + 1, _, by go_num, by omega, by omega, Lib.hid (by first | exact HSW2.out _ | exact HSW2.out 1), Lib.hid (by rw [← HU.out, HM2.out])⟩, by simp [intOf]; omega⟩
           | false =>
            have H4 : Hid (fixUp ltInt b k D2 = dj) := Lib.hid (by rw [HX.out, ← HU.out]; exact HNU.out hl)
            have HLT := fun W => HLC.out false hl W
            clear hl HLC HMU HNU HSW
            obtain ⟨x, hxe⟩ : ∃ x, dj[j]! = x := ⟨_, rfl⟩
            obtain ⟨y, hye⟩ : ∃ y, dj[J]! = y := ⟨_, rfl⟩
            rw [hxe] at cx HLT
            rw [hye] at cy HLT
            clear hxe hye
            go_upto_region 22 with fail
            go_quiet (first | (go_at_call 79; refine Calls.quiet_of_same (HLT _)))
            have HD5 := Lib.hid (HD.out nq)
            clear HLT cx cy
            go_wp2
            exact ⟨⟨k, s + 1, T, dj, rfl, by go_num, by omega, by omega, by omega, HD5, Lib.hid (by rw [← HR.out]; exact (pi_m ltInt HI.out hkb hL50 H3.out H4.out).symm)⟩, by simp [intOf]; omega⟩
          ·have kj : ¬ (j : Int) < (b : Int) := by omega
           have H4 : Hid (fixUp ltInt b k D2 = dj) := Lib.hid (by rw [HX.out, ← HU.out]; exact shu_out ltInt hj)
           have HD5 := HJ
           go_wp2
           exact ⟨⟨k, s + 1, T, dj, rfl, by go_num, by omega, by omega, by omega, HD5, Lib.hid (by rw [← HR.out]; exact (pi_m ltInt HI.out hkb hL50 H3.out H4.out).symm)⟩, by simp [intOf]; omega⟩
        ·obtain ⟨m2, hm2⟩ : ∃ m2, b - k = m2 := ⟨_, rfl⟩
         have em2 : (b : Int) - (k : Int) = (m2 : Int) := by omega
         have wm2 : IntKind.i64.wrap (m2 : Int) = m2 := IntWalk.i64_in _ (by omega)
         have k6 : ¬ (2 : Int) ≤ (m2 : Int) := by omega
         have H4 : Hid (fixUp ltInt b k D2 = D2) := Lib.hid (by unfold fixUp; rw [if_neg h2])
         have HD5 := HD3
         clear hm2
         go_wp2
         exact ⟨⟨k, s + 1, T, D2, rfl, by go_num, by omega, by omega, by omega, HD5, Lib.hid (by rw [← HR.out]; exact (pi_m ltInt HI.out hkb hL50 H3.out H4.out).symm)⟩, by simp [intOf]; omega⟩
    ·have kk1 : ¬ (k : Int) < (b : Int) := by omega
     have kk2 : decide ((k : Int) < (b : Int)) = false := decide_eq_false kk1
     have kk3 : decide (k < b) = false := decide_eq_false hk
     obtain rfl : k = b := by omega
     have HI : Hid (scanSorted ltInt dk k i = k) := Lib.hid (by rw [← HS.out]; exact ss_out ltInt hk)
     have HRE := Lib.hid (pi_b ltInt (a := a) (s := T) HI.out)
     rw [HR.out] at HRE
     have HD := Lib.hid (fun q => HK.out.drewN q)
     go_upto_region 5 with fail
     go_quiet (fail)
     have HK2 := Lib.hid (HD.out nq)
     go_wp2
     try go_ret
     obtain rfl := HRE.out
     exact ⟨rfl, HK2.out⟩

end Go.Proofs.YtnknejokneddbaaGreatDoor
