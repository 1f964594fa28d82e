/- The sort over uint32: insertion, heap, reversal. -/
import Derived.Sort.Grow
import Derived.Sort.AssemblyPlain
import Derived.BigQuiet
import Derived.StillTailTactics
import Derived.Test.YtnknejokneddbaaGreatDoorPua
/-! Go's own slices.Sort over numbers: the row, Less, insertion sort. -/
namespace Go.Proofs.YtnknejokneddbaaGreatDoor
open Go.RowKit Go.Sort

/-- A row of numbers that is turned, all else as it was. -/
structure RowU (w0 w : World) (blk n : Nat) (d : Array Int) : Prop where
 holds : Holds (Value.int .u32) w blk 0 d
 size : d.size = n
 gr : w0.grownBy w (some blk)
theorem grown_drewN {w0 w : World} {o : Option Nat} (h : w0.grownBy w o) (q : Nat) : w0.grownBy (w.drewN q) o := grownBy_trans h (grownBy_drewN w q o)
section
variable {w0 w : World} {blk n : Nat} {d : Array Int}
theorem RowU.cell (h : RowU w0 w blk n d) {i : Nat} (hi : i < n) {x : Int} (hx : d[i]! = x) : w.cell? ⟨blk, i, none⟩ = some (.int .u32 x) := by
 have := (h.holds i (by rw [h.size]; exact hi)).1
 rw [Nat.zero_add, hx] at this
 exact this
theorem RowU.free (h : RowU w0 w blk n d) {i : Nat} (hi : i < n) : w.frozen? ⟨blk, i, none⟩ = false := by
 have := (h.holds i (by rw [h.size]; exact hi)).2
 rwa [Nat.zero_add] at this
theorem RowU.drewN (h : RowU w0 w blk n d) (q : Nat) : RowU w0 (w.drewN q) blk n d := ⟨h.holds, h.size, grown_drewN h.gr q⟩
theorem RowU.set (h : RowU w0 w blk n d) {i : Nat} (hi : i < n) (x : Int) : RowU w0 (w.setCell ⟨blk, i, none⟩ (.int .u32 x)) blk n (d.setIfInBounds i x) := by
 refine ⟨fun j hj => ?_, by simp [h.size], grownBy_trans h.gr (grownBy_setCell w ⟨blk, i, none⟩ _)⟩
 have e := putRow_set (Value.int .u32) w blk 0 d i x (by rw [h.size]; exact hi)
 rw [putRow_self _ _ _ _ _ h.holds, Nat.zero_add] at e
 rw [e]
 exact holds_putRow (Value.int .u32) w blk 0 d _ h.holds (by simp) j hj
theorem RowU.swap (h : RowU w0 w blk n d) {i j : Nat} (hi : i < n) (hj : j < n) {x y : Int} (hx : d[i]! = x) (hy : d[j]! = y) :
  RowU w0 ((w.setCell ⟨blk, i, none⟩ (.int .u32 y)).setCell ⟨blk, j, none⟩ (.int .u32 x)) blk n (swp d i j) := by
 have h1 := (h.set hi y).set hj x
 subst hx hy
 exact h1
end
theorem lessU_c (x y : Int) (r : Bool) (w : World) (h : ltInt x y = r) : Calls Tryz.prog 79 #[.int .u32 x, .int .u32 y] w fun e w' => e = .returned (.bool r) ∧ w' = w := by
 have hn : ∀ (z : Int) (W : World), Calls Tryz.prog 114 #[.int .u32 z] W fun e w' => e = .returned (.bool false) ∧ w' = W := fun z W => by
  have h : (z != z) = false := by simp
  go_enter Tryz.func114, Tryz.ntmps114
  go_wp2
  go_ret
  exact ⟨rfl, rfl⟩
 unfold ltInt at h
 cases r with
 | true =>
  have h1 : x < y := of_decide_eq_true h
  clear h
  go_enter Tryz.func79, Tryz.ntmps79
  go_wp2_with (go_at_call 114; refine (hn _ _).mono ?_; rintro e w' ⟨rfl, h9⟩; subst w')
  go_ret
  exact ⟨rfl, rfl⟩
 | false =>
  have HD := Lib.hid h
  clear h
  go_enter Tryz.func79, Tryz.ntmps79
  go_wp2_with (go_at_call 114; refine (hn _ _).mono ?_; rintro e w' ⟨rfl, h9⟩; subst w')
  go_ret
  refine ⟨?_, rfl⟩
  show Ending.returned (Value.bool (decide (x < y))) = _
  rw [HD.out]

/-! One step of the plain functions. -/
section
variable {α : Type} [Inhabited α] (lt : α → α → Bool)
theorem insI_more {a k : Nat} {d : Array α} (h : a ≤ k) (hl : lt d[k + 1]! d[k]! = true) : insInner lt a (k + 1) d = insInner lt a k (swp d (k + 1) k) := by
 conv => lhs; unfold insInner
 rw [if_pos (by rw [hl, Bool.and_true]; exact decide_eq_true (by omega))]
theorem insI_end {a k : Nat} {d : Array α} (h : lt d[k + 1]! d[k]! = false) : insInner lt a (k + 1) d = d := by
 conv => lhs; unfold insInner
 rw [if_neg (by rw [h]; simp)]
theorem insI_low {a j : Nat} {d : Array α} (h : j ≤ a) : insInner lt a j d = d := by
 cases j with
 | zero => rfl
 | succ k =>
  conv => lhs; unfold insInner
  rw [if_neg (by rw [Bool.and_eq_true, decide_eq_true_eq]; intro e; omega)]
theorem insO_more {a b i : Nat} {d : Array α} (h : i < b) : insOuter lt a b i d = insOuter lt a b (i + 1) (insInner lt a i d) := by
 conv => lhs; unfold insOuter
 rw [if_pos h]
theorem insO_end {a b i : Nat} {d : Array α} (h : ¬ i < b) : insOuter lt a b i d = d := by
 unfold insOuter
 rw [if_neg h]
end

set_option maxRecDepth 8000 in
set_option maxHeartbeats 8000000 in
theorem insU_c (blk n c a b : Nat) (d : Array Int) (w0 w : World) (h : RowU w0 w blk n d) (hab : a ≤ b) (hb : b ≤ n) (hn : n ≤ 1000000) :
  Calls Tryz.prog 187 #[.slice (some ⟨blk, 0, none⟩) n c, .int .i64 a, .int .i64 b] w fun e w' => e = .returned (.tuple #[]) ∧ RowU w0 w' blk n (insertionSort ltInt d a b) := by
 have H := Lib.hid h
 clear h
 go_enter Tryz.func187, Tryz.ntmps187
 go_wp2
 go_loopw [6] (fun vi wr => ∃ (i : Nat) (dk : Array Int), vi = .int .i64 i ∧ a < i ∧ i ≤ b + 1 ∧ Hid (RowU w0 wr blk n dk) ∧ Hid (insOuter ltInt a b i dk = insertionSort ltInt d a b)) (fun vi _ => b + 1 - (intOf vi).toNat)
 case atStart => exact ⟨a + 1, d, by go_num, by omega, by omega, H, Lib.hid rfl⟩
 case round =>
  obtain ⟨i, dk, rfl, hai, hib, HK, HO⟩ := hrel
  by_cases hlt : i < b
  ·have i1 : (i : Int) < b := by omega
   have HOM := Lib.hid (insO_more ltInt (a := a) (d := dk) hlt)
   go_wp2
   generalize hwo : wr = wo at *
   clear hwo
   go_loopw [7] (fun vj wr => ∃ (j : Nat) (dj : Array Int), vj = .int .i64 j ∧ a ≤ j ∧ j ≤ i ∧ Hid (RowU w0 wr blk n dj) ∧ Hid (insInner ltInt a j dj = insInner ltInt a i dk)) (fun vj _ => (intOf vj).toNat)
   case atStart => exact ⟨i, dk, rfl, by omega, Nat.le_refl _, HK, Lib.hid rfl⟩
   case round =>
    clear HK
    obtain ⟨j, dj, rfl, haj, hji, HJ, HI⟩ := hrel
    have HOUT : Hid (∀ (q : Nat) , insInner ltInt a j dj = dj → insOuter ltInt a b (i + 1) dj = insertionSort ltInt d a b) := Lib.hid fun _ e => by rw [← HO.out, HOM.out, ← HI.out, e]
    by_cases hja : a < j
    ·obtain ⟨J, rfl⟩ : ∃ J, j = J + 1 := ⟨j - 1, by omega⟩
     have kp : (a : Int) < ((J + 1 : Nat) : Int) := by omega
     have hx := HJ.out.cell (i := J + 1) (by omega) rfl
     have hy := HJ.out.cell (i := J) (by omega) rfl
     have fx := HJ.out.free (i := J + 1) (by omega)
     have fy := HJ.out.free (i := J) (by omega)
     have HSW := Lib.hid (fun q => (HJ.out.drewN q).swap (i := J + 1) (j := J) (by omega) (by omega) rfl rfl)
     have HD := Lib.hid (fun q => HJ.out.drewN q)
     have HL := Lib.hid (fun r h W => lessU_c dj[J + 1]! dj[J]! r W h)
     have HM := Lib.hid (insI_more ltInt (a := a) (k := J) (d := dj) (by omega))
     have HE := Lib.hid (insI_end ltInt (a := a) (k := J) (d := dj))
     generalize dj[J + 1]! = x at *
     generalize dj[J]! = y at *
     have kw : IntKind.i64.wrap (((J + 1 : Nat) : Int) - 1) = (J : Int) := by rw [IntWalk.i64_in _ (by omega)]; omega
     have J0 : (0 : Int) ≤ J := by omega
     have J1 : (J : Int) < n := by omega
     generalize hjj : J + 1 = j at *
     have HJJ := Lib.hid hjj
     have j0 : (0 : Int) ≤ j := by omega
     have j1 : (j : Int) < n := by omega
     have hjb : j ≤ i := hji
     have hne1 : ¬ J = j := by have := HJJ.out; omega
     have hne2 : ¬ j = J := by have := HJJ.out; omega
     clear hjj
     cases hl : ltInt x y with
     | true =>
      have HLT := fun W => HL.out true hl W
      go_upto_region 4 with fail
      go_quiet (first | (go_at_call 79; refine Calls.quiet_of_same (HLT _)))
      go_wp2
      have HM2 := Lib.hid (HM.out hl)
      have HSW2 := Lib.hid (HSW.out (nq + 1))
      clear hl HOUT HL HLT HSW HD HE HM
      go_region
      go_wp2
      exact ⟨⟨J, swp dj j J, by go_num, by have := HJJ.out; omega, by have := HJJ.out; omega, HSW2, Lib.hid (by rw [← HI.out, HM2.out])⟩, by have := HJJ.out; simp [intOf]; omega⟩
     | false =>
      have HLT := fun W => HL.out false hl W
      have HE2 := Lib.hid (HE.out hl)
      clear hl HL HSW HE HM
      go_upto_region 4 with fail
      go_quiet (first | (go_at_call 79; refine Calls.quiet_of_same (HLT _)))
      have HD2 := Lib.hid (HD.out nq)
      go_wp2
      exact ⟨⟨i + 1, dj, by go_num, by omega, by omega, HD2, Lib.hid (HOUT.out 0 HE2.out)⟩, by simp [intOf]; omega⟩
    ·have kp : ¬ (a : Int) < (j : Int) := by omega
     have kd : decide ((a : Int) < (j : Int)) = false := decide_eq_false kp
     have kd' : decide (a < j) = false := decide_eq_false (by omega)
     have HE2 := Lib.hid (insI_low ltInt (a := a) (j := j) (d := dj) (by omega))
     have HD := Lib.hid (fun q => HJ.out.drewN q)
     go_upto_region 4 with fail
     go_quiet (fail)
     have HD2 := Lib.hid (HD.out nq)
     go_wp2
     exact ⟨⟨i + 1, dj, by go_num, by omega, by omega, HD2, Lib.hid (HOUT.out 0 HE2.out)⟩, by simp [intOf]; omega⟩
  ·have i1 : ¬ (i : Int) < b := by omega
   have HO2 := Lib.hid (insO_end ltInt (a := a) (d := dk) hlt)
   rw [HO2.out] at HO
   go_wp2
   go_end0
   rw [← HO.out]
   exact ⟨rfl, HK.out⟩

end Go.Proofs.YtnknejokneddbaaGreatDoor
/-! Go's own slices.Sort over numbers: the heap, the reversal. -/
namespace Go.Proofs.YtnknejokneddbaaGreatDoor
open Go.RowKit Go.Sort

section
variable {α : Type} [Inhabited α] (lt : α → α → Bool)
theorem sd_stop {hi first r : Nat} {d : Array α} (h : hi ≤ 2 * r + 1) : siftDown lt hi first r d = d := by
 unfold siftDown
 rw [dif_pos h]
theorem sd_two {hi first r : Nat} {d : Array α} (h : 2 * r + 2 < hi) (hl : lt d[first + (2 * r + 1)]! d[first + (2 * r + 1) + 1]! = true) :
  siftDown lt hi first r d = if lt d[first + r]! d[first + (2 * r + 2)]! = true then siftDown lt hi first (2 * r + 2) (swp d (first + r) (first + (2 * r + 2))) else d := by
 conv => lhs; unfold siftDown
 rw [dif_neg (by omega), if_pos (by rw [hl, Bool.and_true]; exact decide_eq_true (by omega)), dif_pos h]
 cases lt d[first + r]! d[first + (2 * r + 2)]! <;> rfl
theorem sd_one {hi first r : Nat} {d : Array α} (h : 2 * r + 1 < hi) (hl : 2 * r + 2 < hi → lt d[first + (2 * r + 1)]! d[first + (2 * r + 1) + 1]! = false) :
  siftDown lt hi first r d = if lt d[first + r]! d[first + (2 * r + 1)]! = true then siftDown lt hi first (2 * r + 1) (swp d (first + r) (first + (2 * r + 1))) else d := by
 conv => lhs; unfold siftDown
 rw [dif_neg (by omega), if_neg (by
  rw [Bool.and_eq_true, decide_eq_true_eq]
  rintro ⟨h1, h2⟩
  rw [hl (by omega)] at h2
  cases h2)]
 cases lt d[first + r]! d[first + (2 * r + 1)]! <;> rfl
end

set_option maxRecDepth 8000 in
set_option maxHeartbeats 16000000 in
theorem siftU_c (blk n c lo hi first : Nat) (d : Array Int) (w0 w : World) (h : RowU w0 w blk n d) (hf : first + hi ≤ n) (hlo : lo ≤ n) (hn : n ≤ 1000000) :
  Calls Tryz.prog 203 #[.slice (some ⟨blk, 0, none⟩) n c, .int .i64 lo, .int .i64 hi, .int .i64 first] w fun e w' => e = .returned (.tuple #[]) ∧ RowU w0 w' blk n (siftDown ltInt hi first lo d) := by
 have H := Lib.hid h
 clear h
 go_enter Tryz.func203, Tryz.ntmps203
 go_wp2
 go_loopw [8, 9] (fun vr vc wr => ∃ (r : Nat) (dk : Array Int), vr = .int .i64 r ∧ r ≤ n ∧ Hid (RowU w0 wr blk n dk) ∧ Hid (siftDown ltInt hi first r dk = siftDown ltInt hi first lo d)) (fun vr _ _ => n + 1 - (intOf vr).toNat)
 case atStart => exact ⟨lo, d, rfl, hlo, H, Lib.hid rfl⟩
 case round =>
  obtain ⟨r, dk, rfl, hr, HK, HS⟩ := hrel
  by_cases h1 : hi ≤ 2 * r + 1
  ·have i1 : (hi : Int) ≤ 2 * (r : Int) + 1 := by omega
   have HO := Lib.hid (sd_stop ltInt (first := first) (d := dk) h1)
   rw [HO.out] at HS
   go_wp2
   go_end0
   rw [← HS.out]
   exact ⟨rfl, HK.out⟩
  ·obtain ⟨q, hq⟩ : ∃ q, 2 * r + 1 = q := ⟨_, rfl⟩
   obtain ⟨fq, hfq⟩ : ∃ fq, first + q = fq := ⟨_, rfl⟩
   obtain ⟨fr, hfr⟩ : ∃ fr, first + r = fr := ⟨_, rfl⟩
   have HT := Lib.hid (sd_two ltInt (hi := hi) (first := first) (r := r) (d := dk))
   have HN := Lib.hid (sd_one ltInt (hi := hi) (first := first) (r := r) (d := dk) (by omega))
   rw [show 2 * r + 2 = q + 1 by omega, hq, hfq, show first + (q + 1) = fq + 1 by omega, hfr] at HT
   rw [show 2 * r + 2 = q + 1 by omega, hq, hfq, hfr] at HN
   have eq1 : 2 * (r : Int) + 1 = (q : Int) := by omega
   have eq2 : (first : Int) + (q : Int) = (fq : Int) := by omega
   have eq3 : (first : Int) + (r : Int) = (fr : Int) := by omega
   have qh : ¬ (hi : Int) ≤ (q : Int) := by omega
   have b0 : fq < n := by omega
   have b1 : fr < fq := by omega
   have b2 : r < q := by omega
   have b3 : q < hi := by omega
   have b4 : q + 1 < hi → fq + 1 < n := by omega
   have b5 : q ≤ n := by omega
   have q0 : (0 : Int) ≤ fq := by omega
   have q1 : (fq : Int) < n := by omega
   have r0 : (0 : Int) ≤ fr := by omega
   have r1 : (fr : Int) < n := by omega
   have wr1 : IntKind.i64.wrap (fr : Int) = fr := IntWalk.i64_in _ (by omega)
   have wr2 : IntKind.i64.wrap (fq : Int) = fq := IntWalk.i64_in _ (by omega)
   have wr3 : IntKind.i64.wrap (q : Int) = q := IntWalk.i64_in _ (by omega)
   clear hq hfq hfr h1
   by_cases h2 : q + 1 < hi
   ·have b6 := b4 h2
    obtain ⟨q2, hq2⟩ : ∃ q2, q + 1 = q2 := ⟨_, rfl⟩
    obtain ⟨fq2, hfq2⟩ : ∃ fq2, fq + 1 = fq2 := ⟨_, rfl⟩
    have HT2 := Lib.hid (HT.out h2)
    rw [hq2, hfq2] at HT2
    have HN2 := Lib.hid (fun h => HN.out (fun _ => h))
    rw [hfq2] at HN2
    have eq4 : (q : Int) + 1 = (q2 : Int) := by omega
    have eq5 : (fq : Int) + 1 = (fq2 : Int) := by omega
    have eq6 : (first : Int) + (q2 : Int) = (fq2 : Int) := by omega
    have wr4 : IntKind.i64.wrap (fq2 : Int) = fq2 := IntWalk.i64_in _ (by omega)
    have wr5 : IntKind.i64.wrap (q2 : Int) = q2 := IntWalk.i64_in _ (by omega)
    have k1 : (q2 : Int) < hi := by omega
    have k2 : decide ((q2 : Int) < (hi : Int)) = true := decide_eq_true k1
    have k3 : decide (q2 < hi) = true := decide_eq_true (by omega)
    have p0 : (0 : Int) ≤ fq2 := by omega
    have p1 : (fq2 : Int) < n := by omega
    have cx := HK.out.cell (i := fq) (by omega) rfl
    have cy := HK.out.cell (i := fq2) (by omega) rfl
    have HD0 := Lib.hid (fun q => HK.out.drewN q)
    have HLC := Lib.hid (fun r h W => lessU_c dk[fq]! dk[fq2]! r W h)
    have HT3 : Hid (ltInt dk[fq]! dk[fq2]! = true → _) := Lib.hid fun h => HT2.out h
    have HN3 : Hid (ltInt dk[fq]! dk[fq2]! = false → _) := Lib.hid fun h => HN2.out h
    clear HT HN HT2 HN2 HK b4
    cases hc : ltInt dk[fq]! dk[fq2]! with
    | true =>
     have HC := Lib.hid (HT3.out hc)
     have HLT := fun W => HLC.out true hc W
     clear hc HLC HT3 HN3
     generalize hu1 : dk[fq]! = u at cx HLT
     generalize hu2 : dk[fq2]! = v at cy HLT
     clear hu1 hu2
     go_upto_region 3 with fail
     go_quiet (first | (go_at_call 79; refine Calls.quiet_of_same (HLT _)))
     clear HLT cx cy
     have HK2 := Lib.hid (HD0.out nq)
     generalize World.drewN _ nq = wk at *
     clear HD0 nq
     have hx := HK2.out.cell (i := fr) (by omega) rfl
     have hy := HK2.out.cell (i := fq2) (by omega) rfl
     have fx := HK2.out.free (i := fr) (by omega)
     have fy := HK2.out.free (i := fq2) (by omega)
     have HSW := Lib.hid (fun q => (HK2.out.drewN q).swap (i := fr) (j := fq2) (by omega) (by omega) rfl rfl)
     have HDN := Lib.hid (fun q => HK2.out.drewN q)
     have HLS := Lib.hid (fun r h W => lessU_c dk[fr]! dk[fq2]! r W h)
     have g1 : ¬ fr = fq2 := by omega
     have g2 : ¬ fq2 = fr := by omega
     generalize dk[fr]! = x at *
     generalize dk[fq2]! = y at *
     cases hl : ltInt x y with
     | true =>
      rw [hl, if_pos rfl] at HC
      have HLT := fun W => HLS.out true hl W
      have HSW2 := Lib.hid (fun q => HSW.out q)
      clear hl HLS HSW HDN
      go_upto_region 5 with fail
      go_quiet (first | (go_at_call 79; refine Calls.quiet_of_same (HLT _)))
      go_wp2
      have HSW3 := Lib.hid (fun q => HSW2.out (nq + q))
      clear HLT HSW2
      go_region
      go_wp2
      exact ⟨⟨q2, swp dk fr fq2, by go_num, by omega, Lib.hid (by first | exact HSW3.out _ | exact HSW3.out 1), Lib.hid (by rw [← HS.out, HC.out])⟩, by simp [intOf]; omega⟩
     | false =>
      rw [hl, if_neg (by decide)] at HC
      have HLT := fun W => HLS.out false hl W
      clear hl HLS HSW
      go_upto_region 5 with fail
      go_quiet (first | (go_at_call 79; refine Calls.quiet_of_same (HLT _)))
      have HD2 := Lib.hid (HDN.out nq)
      go_wp2
      try simp only [Exit.inBlock, Exit.then]
      refine bodyPost_ret (results_none rfl _ _ _) rfl ?_
      rw [← HS.out, HC.out]
      exact ⟨rfl, HD2.out⟩
    | false =>
     have HC := Lib.hid (HN3.out hc)
     have HLT := fun W => HLC.out false hc W
     clear hc HLC HT3 HN3
     generalize hu1 : dk[fq]! = u at cx HLT
     generalize hu2 : dk[fq2]! = v at cy HLT
     clear hu1 hu2
     go_upto_region 3 with fail
     go_quiet (first | (go_at_call 79; refine Calls.quiet_of_same (HLT _)))
     clear HLT cx cy
     have HK2 := Lib.hid (HD0.out nq)
     generalize World.drewN _ nq = wk at *
     clear HD0 nq
     have hx := HK2.out.cell (i := fr) (by omega) rfl
     have hy := HK2.out.cell (i := fq) (by omega) rfl
     have fx := HK2.out.free (i := fr) (by omega)
     have fy := HK2.out.free (i := fq) (by omega)
     have HSW := Lib.hid (fun q => (HK2.out.drewN q).swap (i := fr) (j := fq) (by omega) (by omega) rfl rfl)
     have HDN := Lib.hid (fun q => HK2.out.drewN q)
     have HLS := Lib.hid (fun r h W => lessU_c dk[fr]! dk[fq]! r W h)
     have g1 : ¬ fr = fq := by omega
     have g2 : ¬ fq = fr := by omega
     generalize dk[fr]! = x at *
     generalize dk[fq]! = y at *
     cases hl : ltInt x y with
     | true =>
      rw [hl, if_pos rfl] at HC
      have HLT := fun W => HLS.out true hl W
      have HSW2 := Lib.hid (fun q => HSW.out q)
      clear hl HLS HSW HDN
      go_upto_region 5 with fail
      go_quiet (first | (go_at_call 79; refine Calls.quiet_of_same (HLT _)))
      go_wp2
      have HSW3 := Lib.hid (fun q => HSW2.out (nq + q))
      clear HLT HSW2
      go_region
      go_wp2
      exact ⟨⟨q, swp dk fr fq, by go_num, by omega, Lib.hid (by first | exact HSW3.out _ | exact HSW3.out 1), Lib.hid (by rw [← HS.out, HC.out])⟩, by simp [intOf]; omega⟩
     | false =>
      rw [hl, if_neg (by decide)] at HC
      have HLT := fun W => HLS.out false hl W
      clear hl HLS HSW
      go_upto_region 5 with fail
      go_quiet (first | (go_at_call 79; refine Calls.quiet_of_same (HLT _)))
      have HD2 := Lib.hid (HDN.out nq)
      go_wp2
      try simp only [Exit.inBlock, Exit.then]
      refine bodyPost_ret (results_none rfl _ _ _) rfl ?_
      rw [← HS.out, HC.out]
      exact ⟨rfl, HD2.out⟩
   ·have HC := Lib.hid (HN.out (fun h => absurd h h2))
    obtain ⟨q2, hq2⟩ : ∃ q2, q + 1 = q2 := ⟨_, rfl⟩
    have eq4 : (q : Int) + 1 = (q2 : Int) := by omega
    have wr5 : IntKind.i64.wrap (q2 : Int) = q2 := IntWalk.i64_in _ (by omega)
    have k2 : decide ((q2 : Int) < (hi : Int)) = false := decide_eq_false (by omega)
    have k3 : decide (q2 < hi) = false := decide_eq_false (by omega)
    have HD0 := Lib.hid (fun q => HK.out.drewN q)
    clear HT HN HK b4
    go_upto_region 3 with fail
    go_quiet (fail)
    have HK2 := Lib.hid (HD0.out nq)
    generalize World.drewN _ nq = wk at *
    clear HD0 nq
    have hx := HK2.out.cell (i := fr) (by omega) rfl
    have hy := HK2.out.cell (i := fq) (by omega) rfl
    have fx := HK2.out.free (i := fr) (by omega)
    have fy := HK2.out.free (i := fq) (by omega)
    have HSW := Lib.hid (fun q => (HK2.out.drewN q).swap (i := fr) (j := fq) (by omega) (by omega) rfl rfl)
    have HDN := Lib.hid (fun q => HK2.out.drewN q)
    have HLS := Lib.hid (fun r h W => lessU_c dk[fr]! dk[fq]! r W h)
    have g1 : ¬ fr = fq := by omega
    have g2 : ¬ fq = fr := by omega
    generalize dk[fr]! = x at *
    generalize dk[fq]! = y at *
    cases hl : ltInt x y with
    | true =>
     rw [hl, if_pos rfl] at HC
     have HLT := fun W => HLS.out true hl W
     have HSW2 := Lib.hid (fun q => HSW.out q)
     clear hl HLS HSW HDN
     go_upto_region 5 with fail
     go_quiet (first | (go_at_call 79; refine Calls.quiet_of_same (HLT _)))
     go_wp2
     have HSW3 := Lib.hid (fun q => HSW2.out (nq + q))
     clear HLT HSW2
     go_region
     go_wp2
     exact ⟨⟨q, swp dk fr fq, by go_num, by omega, Lib.hid (by first | exact HSW3.out _ | exact HSW3.out 1), Lib.hid (by rw [← HS.out, HC.out])⟩, by simp [intOf]; omega⟩
    | false =>
     rw [hl, if_neg (by decide)] at HC
     have HLT := fun W => HLS.out false hl W
     clear hl HLS HSW
     go_upto_region 5 with fail
     go_quiet (first | (go_at_call 79; refine Calls.quiet_of_same (HLT _)))
     have HD2 := Lib.hid (HDN.out nq)
     go_wp2
     try simp only [Exit.inBlock, Exit.then]
     refine bodyPost_ret (results_none rfl _ _ _) rfl ?_
     rw [← HS.out, HC.out]
     exact ⟨rfl, HD2.out⟩

end Go.Proofs.YtnknejokneddbaaGreatDoor
/-! Go's own slices.Sort over numbers: the heap sort, the reversal. -/
namespace Go.Proofs.YtnknejokneddbaaGreatDoor
open Go.RowKit Go.Sort

set_option maxRecDepth 8000 in
set_option maxHeartbeats 16000000 in
theorem heapU_c (blk n c a b : Nat) (d : Array Int) (w0 w : World) (h : RowU w0 w blk n d) (hab : a < b) (hb : b ≤ n) (hn : n ≤ 1000000) :
  Calls Tryz.prog 188 #[.slice (some ⟨blk, 0, none⟩) n c, .int .i64 a, .int .i64 b] w fun e w' => e = .returned (.tuple #[]) ∧ RowU w0 w' blk n (heapSort ltInt d a b) := by
 have H := Lib.hid h
 clear h
 obtain ⟨hi, hhi⟩ : ∃ hi, b - a = hi := ⟨_, rfl⟩
 obtain ⟨K0, hK0⟩ : ∃ K0, (hi - 1) / 2 + 1 = K0 := ⟨_, rfl⟩
 have eh : (b : Int) - (a : Int) = (hi : Int) := by omega
 have wh : IntKind.i64.wrap (hi : Int) = hi := IntWalk.i64_in _ (by omega)
 have hst : Int.tdiv ((hi : Int) - 1) 2 = (K0 : Int) - 1 := by
  rw [Int.tdiv_eq_ediv_of_nonneg (by omega)]
  omega
 have wk : IntKind.i64.wrap ((K0 : Int) - 1) = (K0 : Int) - 1 := IntWalk.i64_in _ (by omega)
 have HE : Hid (heapSort ltInt d a b = heapPop ltInt a hi (heapBuild ltInt hi a K0 d)) := Lib.hid (by unfold heapSort; rw [hhi, hK0])
 have hK0b : K0 ≤ n := by omega
 have hfi : a + hi ≤ n := by omega
 have hi1 : 1 ≤ hi := by omega
 go_enter Tryz.func188, Tryz.ntmps188
 go_wp2
 go_loopw [9] (fun vi wr => ∃ (k : Nat) (i : Int) (dk : Array Int), vi = .int .i64 i ∧ i = (k : Int) - 1 ∧ k ≤ n ∧ Hid (RowU w0 wr blk n dk) ∧ Hid (heapBuild ltInt hi a k dk = heapBuild ltInt hi a K0 d)) (fun vi _ => (intOf vi + 1).toNat)
 case atStart => exact ⟨K0, _, d, rfl, by first | exact hst | rfl | (simp; omega), hK0b, H, Lib.hid rfl⟩
 case round =>
  obtain ⟨k, i, dk, rfl, hi0, hk, HK, HB⟩ := hrel
  cases k with
  | succ K =>
   obtain rfl : i = (K : Int) := by omega
   clear hi0
   have i0 : (0 : Int) ≤ K := by omega
   clear hst wk
   go_wp2_with fail
   refine (siftU_c blk n c K hi a dk w0 wr HK.out hfi (by omega) hn).mono ?_
   rintro e w5 ⟨rfl, h5⟩
   have H5 := Lib.hid h5
   clear h5
   go_wp2
   exact ⟨⟨K, _, _, rfl, rfl, by omega, H5, Lib.hid (by rw [← HB.out]; rfl)⟩, by simp [intOf]⟩
  | zero =>
   obtain rfl : i = -1 := by omega
   clear hi0
   have HB0 : Hid (heapPop ltInt a hi dk = heapSort ltInt d a b) := Lib.hid (by rw [HE.out, ← HB.out]; rfl)
   clear hst wk HB HE H hK0 hK0b
   have wh1 : IntKind.i64.wrap ((hi : Int) - 1) = (hi : Int) - 1 := IntWalk.i64_in _ (by omega)
   go_wp2
   go_loopw [10] (fun vi wr => ∃ (k : Nat) (i : Int) (dj : Array Int), vi = .int .i64 i ∧ i = (k : Int) - 1 ∧ k ≤ hi ∧ Hid (RowU w0 wr blk n dj) ∧ Hid (heapPop ltInt a k dj = heapSort ltInt d a b)) (fun vi _ => (intOf vi + 1).toNat)
   case atStart => exact ⟨hi, _, dk, rfl, rfl, Nat.le_refl _, HK, HB0⟩
   case round =>
    clear HK HB0 wh1
    obtain ⟨k, i, dj, rfl, hi0, hk, HJ, HP⟩ := hrel
    cases k with
    | succ K =>
     obtain rfl : i = (K : Int) := by omega
     clear hi0
     have i0 : (0 : Int) ≤ K := by omega
     have HPM : Hid (heapPop ltInt a K (siftDown ltInt K a 0 (swp dj a (a + K))) = heapSort ltInt d a b) := HP
     obtain ⟨fi, hfi2⟩ : ∃ fi, a + K = fi := ⟨_, rfl⟩
     rw [hfi2] at HPM
     have b1 : fi < n := by omega
     have eq1 : (a : Int) + (K : Int) = (fi : Int) := by omega
     have wr1 : IntKind.i64.wrap (fi : Int) = fi := IntWalk.i64_in _ (by omega)
     have r0 : (0 : Int) ≤ a := by omega
     have r1 : (a : Int) < n := by omega
     have q0 : (0 : Int) ≤ fi := by omega
     have q1 : (fi : Int) < n := by omega
     have hx := HJ.out.cell (i := a) (by omega) rfl
     have hy := HJ.out.cell (i := fi) (by omega) rfl
     have fx := HJ.out.free (i := a) (by omega)
     have fy := HJ.out.free (i := fi) (by omega)
     have HSW := Lib.hid (fun q => (HJ.out.drewN q).swap (i := a) (j := fi) (by omega) (by omega) rfl rfl)
     clear HP HJ
     by_cases hz : K = 0
     ·subst hz
      obtain rfl : fi = a := by omega
      clear hfi2
      generalize dj[fi]! = x at *
      go_wp2
      have HSW2 := Lib.hid (HSW.out 1)
      clear HSW
      go_region
      have HR : Hid (RowU w0 _ blk n (swp dj fi fi)) := HSW2
      have i1 : (0 : Int) ≤ 0 := Int.le_refl _
      go_wp2_with fail
      refine (siftU_c blk n c 0 0 fi _ w0 _ HR.out (by omega) (by omega) hn).mono ?_
      rintro e w5 ⟨rfl, h5⟩
      have H5 := Lib.hid h5
      clear h5
      go_wp2
      exact ⟨⟨0, _, _, rfl, rfl, by omega, H5, HPM⟩, by simp [intOf]⟩
     ·have g1 : ¬ a = fi := by omega
      have g2 : ¬ fi = a := by omega
      clear hfi2
      generalize dj[a]! = x at *
      generalize dj[fi]! = y at *
      go_wp2
      have HSW2 := Lib.hid (HSW.out 1)
      clear HSW
      go_region
      have HR : Hid (RowU w0 _ blk n (swp dj a fi)) := HSW2
      have i1 : (0 : Int) ≤ 0 := Int.le_refl _
      go_wp2_with fail
      refine (siftU_c blk n c 0 K a _ w0 _ HR.out (by omega) (by omega) hn).mono ?_
      rintro e w5 ⟨rfl, h5⟩
      have H5 := Lib.hid h5
      clear h5
      go_wp2
      exact ⟨⟨K, _, _, rfl, rfl, by omega, H5, HPM⟩, by simp [intOf]⟩
    | zero =>
     obtain rfl : i = -1 := by omega
     clear hi0
     have HP0 : Hid (dj = heapSort ltInt d a b) := HP
     go_wp2
     go_end0
     rw [← HP0.out]
     exact ⟨rfl, HJ.out⟩

section
variable {α : Type} [Inhabited α]
theorem rev_more {i j : Nat} {d : Array α} (h : i < j) : reverseLoop i j d = reverseLoop (i + 1) (j - 1) (swp d i j) := by
 conv => lhs; unfold reverseLoop
 rw [if_pos h]
theorem rev_end {i j : Nat} {d : Array α} (h : ¬ i < j) : reverseLoop i j d = d := by
 unfold reverseLoop
 rw [if_neg h]
end

set_option maxRecDepth 8000 in
set_option maxHeartbeats 16000000 in
theorem revU_c (blk n c a b : Nat) (d : Array Int) (w0 w : World) (h : RowU w0 w blk n d) (hab : a < b) (hb : b ≤ n) (hn : n ≤ 1000000) :
  Calls Tryz.prog 191 #[.slice (some ⟨blk, 0, none⟩) n c, .int .i64 a, .int .i64 b] w fun e w' => e = .returned (.tuple #[]) ∧ RowU w0 w' blk n (reverseRange d a b) := by
 have H := Lib.hid h
 clear h
 obtain ⟨J0, hJ0⟩ : ∃ J0, b - 1 = J0 := ⟨_, rfl⟩
 have HE : Hid (reverseRange d a b = reverseLoop a J0 d) := Lib.hid (by unfold reverseRange; rw [hJ0])
 have eb : (b : Int) - 1 = (J0 : Int) := by omega
 have hJn : J0 < n := by omega
 clear hJ0
 go_enter Tryz.func191, Tryz.ntmps191
 go_wp2
 go_loopw [6, 7] (fun vi vj wr => ∃ (i j : Nat) (dk : Array Int), vi = .int .i64 i ∧ vj = .int .i64 j ∧ j < n ∧ i ≤ n ∧ Hid (RowU w0 wr blk n dk) ∧ Hid (reverseLoop i j dk = reverseRange d a b)) (fun vi vj _ => n - (intOf vi).toNat)
 case atStart => exact ⟨a, J0, d, rfl, by first | rfl | (rw [eb]) | (simp [eb]), by omega, by omega, H, Lib.hid HE.out.symm⟩
 case round =>
  clear eb HE H hJn
  obtain ⟨i, j, dk, rfl, rfl, hj, hi, HK, HL⟩ := hrel
  by_cases hij : i < j
  ·obtain ⟨J, rfl⟩ : ∃ J, j = J + 1 := ⟨j - 1, by omega⟩
   have hm3 : reverseLoop i (J + 1) dk = reverseLoop (i + 1) J (swp dk i (J + 1)) := rev_more (d := dk) hij
   obtain ⟨jj, hjj⟩ : ∃ jj, J + 1 = jj := ⟨_, rfl⟩
   rw [hjj] at hm3 hj HL hij
   have HM2 : Hid (reverseLoop (i + 1) J (swp dk i jj) = reverseRange d a b) := Lib.hid (by rw [← HL.out, hm3])
   have eq1 : (jj : Int) - 1 = (J : Int) := by omega
   have wr1 : IntKind.i64.wrap (J : Int) = J := IntWalk.i64_in _ (by omega)
   have k1 : (i : Int) < jj := by omega
   have r0 : (0 : Int) ≤ i := by omega
   have r1 : (i : Int) < n := by omega
   have q0 : (0 : Int) ≤ jj := by omega
   have q1 : (jj : Int) < n := by omega
   have g1 : ¬ i = jj := by omega
   have g2 : ¬ jj = i := by omega
   have bJ : J < n := by omega
   rw [hjj]
   clear hjj
   have hx := HK.out.cell (i := i) (by omega) rfl
   have hy := HK.out.cell (i := jj) (by omega) rfl
   have fx := HK.out.free (i := i) (by omega)
   have fy := HK.out.free (i := jj) (by omega)
   have HSW := Lib.hid (fun q => (HK.out.drewN q).swap (i := i) (j := jj) (by omega) (by omega) rfl rfl)
   clear hm3 HL HK hij
   generalize dk[i]! = x at *
   generalize dk[jj]! = y at *
   go_wp2
   have HSW2 := Lib.hid (HSW.out 1)
   clear HSW
   go_region
   go_wp2
   exact ⟨⟨i + 1, J, _, by go_num, by first | rfl | go_num, bJ, by omega, HSW2, HM2⟩, by simp [intOf]; omega⟩
  ·have HM := Lib.hid (rev_end (d := dk) hij)
   rw [HM.out] at HL
   have k1 : ¬ (i : Int) < j := by omega
   go_wp2
   go_end0
   rw [← HL.out]
   exact ⟨rfl, HK.out⟩

end Go.Proofs.YtnknejokneddbaaGreatDoor
