/- Package patch: rise. -/
import Derived.Test.YtnknejokneddbaaGreatDoorPua
import Derived.Test.YtnknejokneddbaaGreatDoorApps
namespace Go.Proofs.YtnknejokneddbaaGreatDoor
open Go.RowKit

set_option maxRecDepth 8000 in
set_option maxHeartbeats 8000000 in
theorem riseU_c (l : List Nat) (lo hi : Nat) (p : Option Addr) (n c : Nat) (r : Bool) (w : World) (h : NsAt .u32 w lo hi p n l) (hb : n ≤ 1000000) (hr : r = risB ltN 0 l n) :
  Calls Tryz.prog 118 #[.slice p n c, .func (.func 113) #[] #[]] w fun e w' => e = .returned (.bool r) ∧ w.grownBy w' none := by
 have HR := Lib.hid hr
 have H := Lib.hid h
 clear hr h
 go_enter Tryz.func118, Tryz.ntmps118
 go_wp2
 go_loopw [8] (fun i wr => ∃ k : Nat, k ≤ n ∧ i = .int .i64 k ∧ Hid (risB ltN 0 l k = true) ∧ Hid (w.grownBy wr none)) (fun i _ => n - (intOf i).toNat)
 case atStart => exact ⟨0, Nat.zero_le _, rfl, Lib.hid rfl, Lib.hid (grownBy_refl _ _)⟩
 case round =>
  obtain ⟨k, hk, rfl, HS, HGW⟩ := hrel
  by_cases hkn : k < n
  ·have k0 : (0 : Int) ≤ k := by omega
   have k1 : (k : Int) < n := by omega
   have HSU := Lib.hid (risB_succ (lt := ltN) 0 l k)
   rw [HS.out] at HSU
   obtain ⟨b, o, rfl, _, _, _, hc⟩ := (H.out.calm HGW.out).cell (by omega)
   cases k with
   | zero =>
    have HS2 : Hid (risB ltN 0 l (0 + 1) = true) := Lib.hid (by rw [HSU.out]; rfl)
    have f0 : decide ((0 : Int) < ((0 : Nat) : Int)) = false := by decide
    have HG7 := Lib.hid (fun z => grownBy_trans HGW.out (grownBy_drewN wr z none))
    clear hc HSU
    go_upto_region 4 with fail
    go_quiet (fail)
    go_wp2
    exact ⟨⟨0 + 1, by omega, by go_num, HS2, Lib.hid (HG7.out _)⟩, by simp [intOf]; omega⟩
   | succ K =>
    have HS2 := HSU
    rw [Nat.add_sub_cancel] at HS2
    have HBAD : Hid (ltN (l[K]?.getD 0) (l[K + 1]?.getD 0) = false → r = false) := Lib.hid fun h => by
     rw [HR.out]
     exact risB_no hkn (by omega) (by rw [Nat.add_sub_cancel]; exact h)
    have kw : IntKind.i64.wrap (((K + 1 : Nat) : Int) - 1) = (K : Int) := by rw [IntWalk.i64_in _ (by omega)]; omega
    have kp : (0 : Int) < ((K + 1 : Nat) : Int) := by omega
    have K0 : (0 : Int) ≤ K := by omega
    have K1 : (K : Int) < n := by omega
    have hx := hc (K + 1) hkn
    have hy := hc K (by omega)
    clear hc HSU
    generalize l[K + 1]?.getD 0 = x at *
    generalize l[K]?.getD 0 = y at *
    have q0 := fun z : Later wr => later_cell (hx) z
    have q1 := fun z : Later wr => later_cell (hy) z
    have hne := later_one wr
    clear hx hy
    generalize hkk : K + 1 = kk at *
    have HKK := Lib.hid hkk
    clear hkk
    have f0 : decide ((0 : Int) < (kk : Int)) = true := decide_eq_true kp
    have f0' : decide (0 < kk) = true := decide_eq_true (by have := HKK.out; omega)
    go_upto_region 4 with fail
    cases h1 : ltN y x with
    | true =>
     have hT := Lib.hid (fun z : Later wr => later_call (fun w' hg => by have h := (cmpU_c y x w'); rw [cmpV_lt (lt := ltN) h1] at h; exact h.mono fun e w'' h' => ⟨h'.1, h'.2 ▸ grownBy_refl _ _⟩) z)
     have HS3 : Hid (risB ltN 0 l (kk + 1) = true) := Lib.hid (by rw [HS2.out, h1]; simp)
     clear h1 HBAD
     refine region_quiet_in (C := fun x => ∃ z : Later wr, x = z.at_) (by kernel_rfl) (by kernel_rfl) (later_drew wr) ?_
     repeat (go_big_quiet_step ((first | (go_at_call 113; exact hT.out _))))
     refine wpQuiet_nil ?_
     intro w' hw'
     obtain ⟨z, hz⟩ := hw'
     subst hz
     have HG9 := Lib.hid (grownBy_trans HGW.out z.ok)
     go_wp2
     exact ⟨⟨kk + 1, by omega, by go_num, HS3, HG9⟩, by have := HKK.out; simp [intOf]; omega⟩
    | false =>
     obtain rfl : r = false := HBAD.out h1
     have hv := cmpV_geq (lt := ltN) h1
     have hT := Lib.hid (fun z : Later wr => later_call (fun w' hg => (cmpU_c y x w').mono fun e w'' h' => ⟨h'.1, h'.2 ▸ grownBy_refl _ _⟩) z)
     generalize cmpV ltN _ _ = v at *
     have hv0 : decide (0 ≤ v) = true := decide_eq_true hv
     clear h1 HBAD
     refine region_quiet_in (C := fun x => ∃ z : Later wr, x = z.at_) (by kernel_rfl) (by kernel_rfl) (later_drew wr) ?_
     repeat (go_big_quiet_step ((first | (go_at_call 113; exact hT.out _))))
     refine wpQuiet_nil ?_
     intro w' hw'
     obtain ⟨z, hz⟩ := hw'
     subst hz
     have HG9 := Lib.hid (grownBy_trans HGW.out z.ok)
     go_wp2
     go_ret
     exact ⟨rfl, HG9.out⟩
  ·obtain rfl : n = k := by omega
   have k1 : ¬ ((n : Int) < n) := by omega
   obtain rfl : true = r := by rw [HR.out, HS.out]
   go_wp2
   go_ret
   exact ⟨rfl, HGW.out⟩

set_option maxRecDepth 8000 in
set_option maxHeartbeats 8000000 in
theorem riseS_c (l : List ByteArray) (lo hi : Nat) (p : Option Addr) (n c : Nat) (r : Bool) (w : World) (h : StrsAt w lo hi p n l) (hb : n ≤ 1000000) (hr : r = risB ltS ByteArray.empty l n) :
  Calls Tryz.prog 120 #[.slice p n c, .func (.func 121) #[] #[]] w fun e w' => e = .returned (.bool r) ∧ w.grownBy w' none := by
 have HR := Lib.hid hr
 have H := Lib.hid h
 clear hr h
 go_enter Tryz.func120, Tryz.ntmps120
 go_wp2
 go_loopw [8] (fun i wr => ∃ k : Nat, k ≤ n ∧ i = .int .i64 k ∧ Hid (risB ltS ByteArray.empty l k = true) ∧ Hid (w.grownBy wr none)) (fun i _ => n - (intOf i).toNat)
 case atStart => exact ⟨0, Nat.zero_le _, rfl, Lib.hid rfl, Lib.hid (grownBy_refl _ _)⟩
 case round =>
  obtain ⟨k, hk, rfl, HS, HGW⟩ := hrel
  by_cases hkn : k < n
  ·have k0 : (0 : Int) ≤ k := by omega
   have k1 : (k : Int) < n := by omega
   have HSU := Lib.hid (risB_succ (lt := ltS) ByteArray.empty l k)
   rw [HS.out] at HSU
   obtain ⟨b, o, rfl, _, _, _, hc⟩ := (H.out.calm HGW.out).cell (by omega)
   cases k with
   | zero =>
    have HS2 : Hid (risB ltS ByteArray.empty l (0 + 1) = true) := Lib.hid (by rw [HSU.out]; rfl)
    have f0 : decide ((0 : Int) < ((0 : Nat) : Int)) = false := by decide
    have HG7 := Lib.hid (fun z => grownBy_trans HGW.out (grownBy_drewN wr z none))
    clear hc HSU
    go_upto_region 4 with fail
    go_quiet (fail)
    go_wp2
    exact ⟨⟨0 + 1, by omega, by go_num, HS2, Lib.hid (HG7.out _)⟩, by simp [intOf]; omega⟩
   | succ K =>
    have HS2 := HSU
    rw [Nat.add_sub_cancel] at HS2
    have HBAD : Hid (ltS (l[K]?.getD ByteArray.empty) (l[K + 1]?.getD ByteArray.empty) = false → r = false) := Lib.hid fun h => by
     rw [HR.out]
     exact risB_no hkn (by omega) (by rw [Nat.add_sub_cancel]; exact h)
    have kw : IntKind.i64.wrap (((K + 1 : Nat) : Int) - 1) = (K : Int) := by rw [IntWalk.i64_in _ (by omega)]; omega
    have kp : (0 : Int) < ((K + 1 : Nat) : Int) := by omega
    have K0 : (0 : Int) ≤ K := by omega
    have K1 : (K : Int) < n := by omega
    have hx := hc (K + 1) hkn
    have hy := hc K (by omega)
    clear hc HSU
    generalize l[K + 1]?.getD ByteArray.empty = x at *
    generalize l[K]?.getD ByteArray.empty = y at *
    have q0 := fun z : Later wr => later_cell (hx) z
    have q1 := fun z : Later wr => later_cell (hy) z
    have hne := later_one wr
    clear hx hy
    generalize hkk : K + 1 = kk at *
    have HKK := Lib.hid hkk
    clear hkk
    have f0 : decide ((0 : Int) < (kk : Int)) = true := decide_eq_true kp
    have f0' : decide (0 < kk) = true := decide_eq_true (by have := HKK.out; omega)
    go_upto_region 4 with fail
    cases h1 : ltS y x with
    | true =>
     have hT := Lib.hid (fun z : Later wr => later_call (fun w' hg => by have h := (cmpS_c y x w'); rw [cmpV_lt (lt := ltS) h1] at h; exact h.mono fun e w'' h' => ⟨h'.1, h'.2 ▸ grownBy_refl _ _⟩) z)
     have HS3 : Hid (risB ltS ByteArray.empty l (kk + 1) = true) := Lib.hid (by rw [HS2.out, h1]; simp)
     clear h1 HBAD
     refine region_quiet_in (C := fun x => ∃ z : Later wr, x = z.at_) (by kernel_rfl) (by kernel_rfl) (later_drew wr) ?_
     repeat (go_big_quiet_step ((first | (go_at_call 121; exact hT.out _))))
     refine wpQuiet_nil ?_
     intro w' hw'
     obtain ⟨z, hz⟩ := hw'
     subst hz
     have HG9 := Lib.hid (grownBy_trans HGW.out z.ok)
     go_wp2
     exact ⟨⟨kk + 1, by omega, by go_num, HS3, HG9⟩, by have := HKK.out; simp [intOf]; omega⟩
    | false =>
     obtain rfl : r = false := HBAD.out h1
     have hv := cmpV_geq (lt := ltS) h1
     have hT := Lib.hid (fun z : Later wr => later_call (fun w' hg => (cmpS_c y x w').mono fun e w'' h' => ⟨h'.1, h'.2 ▸ grownBy_refl _ _⟩) z)
     generalize cmpV ltS _ _ = v at *
     have hv0 : decide (0 ≤ v) = true := decide_eq_true hv
     clear h1 HBAD
     refine region_quiet_in (C := fun x => ∃ z : Later wr, x = z.at_) (by kernel_rfl) (by kernel_rfl) (later_drew wr) ?_
     repeat (go_big_quiet_step ((first | (go_at_call 121; exact hT.out _))))
     refine wpQuiet_nil ?_
     intro w' hw'
     obtain ⟨z, hz⟩ := hw'
     subst hz
     have HG9 := Lib.hid (grownBy_trans HGW.out z.ok)
     go_wp2
     go_ret
     exact ⟨rfl, HG9.out⟩
  ·obtain rfl : n = k := by omega
   have k1 : ¬ ((n : Int) < n) := by omega
   obtain rfl : true = r := by rw [HR.out, HS.out]
   go_wp2
   go_ret
   exact ⟨rfl, HGW.out⟩

set_option maxRecDepth 8000 in
set_option maxHeartbeats 8000000 in
theorem riseL_c (l : List Ln) (lo hi : Nat) (p : Option Addr) (n c : Nat) (r : Bool) (w : World) (h : LnsAt w lo hi p n l) (hb : n ≤ 1000000) (hr : r = risB ltLn (0, 0) l n) :
  Calls Tryz.prog 162 #[.slice p n c, .func (.func 163) #[] #[]] w fun e w' => e = .returned (.bool r) ∧ w.grownBy w' none := by
 have HR := Lib.hid hr
 have H := Lib.hid h
 clear hr h
 go_enter Tryz.func162, Tryz.ntmps162
 go_wp2
 go_loopw [8] (fun i wr => ∃ k : Nat, k ≤ n ∧ i = .int .i64 k ∧ Hid (risB ltLn (0, 0) l k = true) ∧ Hid (w.grownBy wr none)) (fun i _ => n - (intOf i).toNat)
 case atStart => exact ⟨0, Nat.zero_le _, rfl, Lib.hid rfl, Lib.hid (grownBy_refl _ _)⟩
 case round =>
  obtain ⟨k, hk, rfl, HS, HGW⟩ := hrel
  by_cases hkn : k < n
  ·have k0 : (0 : Int) ≤ k := by omega
   have k1 : (k : Int) < n := by omega
   have HSU := Lib.hid (risB_succ (lt := ltLn) (0, 0) l k)
   rw [HS.out] at HSU
   obtain ⟨b, o, rfl, _, _, _, hc⟩ := (H.out.calm HGW.out).cell (by omega)
   cases k with
   | zero =>
    have HS2 : Hid (risB ltLn (0, 0) l (0 + 1) = true) := Lib.hid (by rw [HSU.out]; rfl)
    have f0 : decide ((0 : Int) < ((0 : Nat) : Int)) = false := by decide
    have HG7 := Lib.hid (fun z => grownBy_trans HGW.out (grownBy_drewN wr z none))
    clear hc HSU
    go_upto_region 4 with fail
    go_quiet (fail)
    go_wp2
    exact ⟨⟨0 + 1, by omega, by go_num, HS2, Lib.hid (HG7.out _)⟩, by simp [intOf]; omega⟩
   | succ K =>
    have HS2 := HSU
    rw [Nat.add_sub_cancel] at HS2
    have HBAD : Hid (ltLn (l[K]?.getD (0, 0)) (l[K + 1]?.getD (0, 0)) = false → r = false) := Lib.hid fun h => by
     rw [HR.out]
     exact risB_no hkn (by omega) (by rw [Nat.add_sub_cancel]; exact h)
    have kw : IntKind.i64.wrap (((K + 1 : Nat) : Int) - 1) = (K : Int) := by rw [IntWalk.i64_in _ (by omega)]; omega
    have kp : (0 : Int) < ((K + 1 : Nat) : Int) := by omega
    have K0 : (0 : Int) ≤ K := by omega
    have K1 : (K : Int) < n := by omega
    have hx := hc (K + 1) hkn
    have hy := hc K (by omega)
    clear hc HSU
    generalize l[K + 1]?.getD (0, 0) = x at *
    generalize l[K]?.getD (0, 0) = y at *
    obtain ⟨x1, x2⟩ := x
    obtain ⟨y1, y2⟩ := y
    simp only at hx hy
    have q0 := fun z : Later wr => later_cell (hx.1) z
    have q1 := fun z : Later wr => later_cell (hx.2) z
    have q2 := fun z : Later wr => later_cell (hy.1) z
    have q3 := fun z : Later wr => later_cell (hy.2) z
    have hne := later_one wr
    clear hx hy
    generalize hkk : K + 1 = kk at *
    have HKK := Lib.hid hkk
    clear hkk
    have f0 : decide ((0 : Int) < (kk : Int)) = true := decide_eq_true kp
    have f0' : decide (0 < kk) = true := decide_eq_true (by have := HKK.out; omega)
    go_upto_region 4 with fail
    cases h1 : ltLn (y1, y2) (x1, x2) with
    | true =>
     have hT := Lib.hid (fun z : Later wr => later_call (fun w' hg => by have h := (compareLines_c y1 y2 x1 x2 w'); rw [cmpV_lt (lt := ltLn) h1] at h; exact h) z)
     have HS3 : Hid (risB ltLn (0, 0) l (kk + 1) = true) := Lib.hid (by rw [HS2.out, h1]; simp)
     clear h1 HBAD
     refine region_quiet_in (C := fun x => ∃ z : Later wr, x = z.at_) (by kernel_rfl) (by kernel_rfl) (later_drew wr) ?_
     repeat (go_big_quiet_step ((first | (go_at_call 163; exact hT.out _))))
     refine wpQuiet_nil ?_
     intro w' hw'
     obtain ⟨z, hz⟩ := hw'
     subst hz
     have HG9 := Lib.hid (grownBy_trans HGW.out z.ok)
     go_wp2
     exact ⟨⟨kk + 1, by omega, by go_num, HS3, HG9⟩, by have := HKK.out; simp [intOf]; omega⟩
    | false =>
     obtain rfl : r = false := HBAD.out h1
     have hv := cmpV_geq (lt := ltLn) h1
     have hT := Lib.hid (fun z : Later wr => later_call (fun w' hg => (compareLines_c y1 y2 x1 x2 w')) z)
     generalize cmpV ltLn _ _ = v at *
     have hv0 : decide (0 ≤ v) = true := decide_eq_true hv
     clear h1 HBAD
     refine region_quiet_in (C := fun x => ∃ z : Later wr, x = z.at_) (by kernel_rfl) (by kernel_rfl) (later_drew wr) ?_
     repeat (go_big_quiet_step ((first | (go_at_call 163; exact hT.out _))))
     refine wpQuiet_nil ?_
     intro w' hw'
     obtain ⟨z, hz⟩ := hw'
     subst hz
     have HG9 := Lib.hid (grownBy_trans HGW.out z.ok)
     go_wp2
     go_ret
     exact ⟨rfl, HG9.out⟩
  ·obtain rfl : n = k := by omega
   have k1 : ¬ ((n : Int) < n) := by omega
   obtain rfl : true = r := by rw [HR.out, HS.out]
   go_wp2
   go_ret
   exact ⟨rfl, HGW.out⟩

set_option maxRecDepth 8000 in
set_option maxHeartbeats 8000000 in
theorem riseE_c (l : List Ed) (lo hi : Nat) (p : Option Addr) (n c : Nat) (r : Bool) (w : World) (h : EdsAt w lo hi p n l) (hb : n ≤ 1000000) (hr : r = risB ltEd ((0, 0), (0, 0)) l n) :
  Calls Tryz.prog 158 #[.slice p n c, .func (.func 159) #[] #[]] w fun e w' => e = .returned (.bool r) ∧ w.grownBy w' none := by
 have HR := Lib.hid hr
 have H := Lib.hid h
 clear hr h
 go_enter Tryz.func158, Tryz.ntmps158
 go_wp2
 go_loopw [8] (fun i wr => ∃ k : Nat, k ≤ n ∧ i = .int .i64 k ∧ Hid (risB ltEd ((0, 0), (0, 0)) l k = true) ∧ Hid (w.grownBy wr none)) (fun i _ => n - (intOf i).toNat)
 case atStart => exact ⟨0, Nat.zero_le _, rfl, Lib.hid rfl, Lib.hid (grownBy_refl _ _)⟩
 case round =>
  obtain ⟨k, hk, rfl, HS, HGW⟩ := hrel
  by_cases hkn : k < n
  ·have k0 : (0 : Int) ≤ k := by omega
   have k1 : (k : Int) < n := by omega
   have HSU := Lib.hid (risB_succ (lt := ltEd) ((0, 0), (0, 0)) l k)
   rw [HS.out] at HSU
   obtain ⟨b, o, rfl, _, _, _, hc⟩ := (H.out.calm HGW.out).cell (by omega)
   cases k with
   | zero =>
    have HS2 : Hid (risB ltEd ((0, 0), (0, 0)) l (0 + 1) = true) := Lib.hid (by rw [HSU.out]; rfl)
    have f0 : decide ((0 : Int) < ((0 : Nat) : Int)) = false := by decide
    have HG7 := Lib.hid (fun z => grownBy_trans HGW.out (grownBy_drewN wr z none))
    clear hc HSU
    go_upto_region 4 with fail
    go_quiet (fail)
    go_wp2
    exact ⟨⟨0 + 1, by omega, by go_num, HS2, Lib.hid (HG7.out _)⟩, by simp [intOf]; omega⟩
   | succ K =>
    have HS2 := HSU
    rw [Nat.add_sub_cancel] at HS2
    have HBAD : Hid (ltEd (l[K]?.getD ((0, 0), (0, 0))) (l[K + 1]?.getD ((0, 0), (0, 0))) = false → r = false) := Lib.hid fun h => by
     rw [HR.out]
     exact risB_no hkn (by omega) (by rw [Nat.add_sub_cancel]; exact h)
    have kw : IntKind.i64.wrap (((K + 1 : Nat) : Int) - 1) = (K : Int) := by rw [IntWalk.i64_in _ (by omega)]; omega
    have kp : (0 : Int) < ((K + 1 : Nat) : Int) := by omega
    have K0 : (0 : Int) ≤ K := by omega
    have K1 : (K : Int) < n := by omega
    have hx := hc (K + 1) hkn
    have hy := hc K (by omega)
    clear hc HSU
    generalize l[K + 1]?.getD ((0, 0), (0, 0)) = x at *
    generalize l[K]?.getD ((0, 0), (0, 0)) = y at *
    obtain ⟨⟨x1, x2⟩, x3, x4⟩ := x
    obtain ⟨⟨y1, y2⟩, y3, y4⟩ := y
    simp only at hx hy
    have q0 := fun z : Later wr => later_cell (hx.1) z
    have q1 := fun z : Later wr => later_cell (hx.2.1) z
    have q2 := fun z : Later wr => later_cell (hx.2.2.1) z
    have q3 := fun z : Later wr => later_cell (hx.2.2.2) z
    have q4 := fun z : Later wr => later_cell (hy.1) z
    have q5 := fun z : Later wr => later_cell (hy.2.1) z
    have q6 := fun z : Later wr => later_cell (hy.2.2.1) z
    have q7 := fun z : Later wr => later_cell (hy.2.2.2) z
    have hne := later_one wr
    clear hx hy
    generalize hkk : K + 1 = kk at *
    have HKK := Lib.hid hkk
    clear hkk
    have f0 : decide ((0 : Int) < (kk : Int)) = true := decide_eq_true kp
    have f0' : decide (0 < kk) = true := decide_eq_true (by have := HKK.out; omega)
    go_upto_region 4 with fail
    cases h1 : ltEd ((y1, y2), (y3, y4)) ((x1, x2), (x3, x4)) with
    | true =>
     have hT := Lib.hid (fun z : Later wr => later_call (fun w' hg => by have h := (compareEdges_c y1 y2 y3 y4 x1 x2 x3 x4 w'); rw [cmpV_lt (lt := ltEd) h1] at h; exact h) z)
     have HS3 : Hid (risB ltEd ((0, 0), (0, 0)) l (kk + 1) = true) := Lib.hid (by rw [HS2.out, h1]; simp)
     clear h1 HBAD
     refine region_quiet_in (C := fun x => ∃ z : Later wr, x = z.at_) (by kernel_rfl) (by kernel_rfl) (later_drew wr) ?_
     repeat (go_big_quiet_step ((first | (go_at_call 159; exact hT.out _))))
     refine wpQuiet_nil ?_
     intro w' hw'
     obtain ⟨z, hz⟩ := hw'
     subst hz
     have HG9 := Lib.hid (grownBy_trans HGW.out z.ok)
     go_wp2
     exact ⟨⟨kk + 1, by omega, by go_num, HS3, HG9⟩, by have := HKK.out; simp [intOf]; omega⟩
    | false =>
     obtain rfl : r = false := HBAD.out h1
     have hv := cmpV_geq (lt := ltEd) h1
     have hT := Lib.hid (fun z : Later wr => later_call (fun w' hg => (compareEdges_c y1 y2 y3 y4 x1 x2 x3 x4 w')) z)
     generalize cmpV ltEd _ _ = v at *
     have hv0 : decide (0 ≤ v) = true := decide_eq_true hv
     clear h1 HBAD
     refine region_quiet_in (C := fun x => ∃ z : Later wr, x = z.at_) (by kernel_rfl) (by kernel_rfl) (later_drew wr) ?_
     repeat (go_big_quiet_step ((first | (go_at_call 159; exact hT.out _))))
     refine wpQuiet_nil ?_
     intro w' hw'
     obtain ⟨z, hz⟩ := hw'
     subst hz
     have HG9 := Lib.hid (grownBy_trans HGW.out z.ok)
     go_wp2
     go_ret
     exact ⟨rfl, HG9.out⟩
  ·obtain rfl : n = k := by omega
   have k1 : ¬ ((n : Int) < n) := by omega
   obtain rfl : true = r := by rw [HR.out, HS.out]
   go_wp2
   go_ret
   exact ⟨rfl, HGW.out⟩

end Go.Proofs.YtnknejokneddbaaGreatDoor
