/- Package arrow: the contracts of keepsLabels, keepsPairs, Is, movesNothing, Inverse. -/
import Derived.Test.YtihkjgiaajgkpaaDoorArra
namespace Go.Proofs.YtihkjgiaajgkpaaDoor
open Go.RowKit

/-- The i-th element goes to one with the same label. -/
def lab1 (L L' : List ByteArray) (f : List Int) (i : Nat) : Bool := hasZ L'.length (f[i]?.getD 0) && decide (L[i]?.getD .empty = L'[(f[i]?.getD 0).toNat]?.getD .empty)
def labK (L L' : List ByteArray) (f : List Int) (k : Nat) : Bool := (List.range k).all (lab1 L L' f)
def labB (L L' : List ByteArray) (f : List Int) : Bool := decide (f.length = L.length) && labK L L' f f.length
theorem labK_succ (L L' : List ByteArray) (f : List Int) (k : Nat) : labK L L' f (k + 1) = (labK L L' f k && lab1 L L' f k) := by simp [labK, List.range_succ]
theorem labK_not {L L' : List ByteArray} {f : List Int} {k m : Nat} (hk : k < m) (h : lab1 L L' f k = false) : labK L L' f m = false := by
  rw [Bool.eq_false_iff]
  intro e
  have := List.all_eq_true.1 e k (List.mem_range.2 hk)
  rw [h] at this
  cases this
/-- A pair stays one. -/
def pr1 (N : Nat) (R : Nat → Nat → Bool) (f : List Int) (x : Int × Int) : Bool := hasI N R (f[x.1.toNat]?.getD 0) (f[x.2.toNat]?.getD 0)
def prB (N : Nat) (R : Nat → Nat → Bool) (P : List (Int × Int)) (f : List Int) : Bool := P.all (pr1 N R f)
theorem prB_succ {N : Nat} {R : Nat → Nat → Bool} {P : List (Int × Int)} {f : List Int} {k : Nat} (hk : k < P.length) : prB N R (P.take (k + 1)) f = (prB N R (P.take k) f && pr1 N R f (P[k]?.getD (0, 0))) := by
  unfold prB
  rw [List.take_succ_eq_append_getElem hk, List.getElem?_eq_getElem hk]
  simp only [List.all_append, List.all_cons, List.all_nil, Bool.and_true, Option.getD_some]
theorem prB_not {N : Nat} {R : Nat → Nat → Bool} {P : List (Int × Int)} {f : List Int} {k : Nat} (hk : k < P.length) (h : pr1 N R f (P[k]?.getD (0, 0)) = false) : prB N R P f = false := by
  rw [List.getElem?_eq_getElem hk] at h
  rw [Bool.eq_false_iff]
  intro e
  have := List.all_eq_true.1 e _ (List.getElem_mem hk)
  rw [show pr1 N R f P[k] = false from h] at this
  cases this
/-- Whether f is an arrow. -/
def arB (L : List ByteArray) (P : List (Int × Int)) (L' : List ByteArray) (P' : List (Int × Int)) (f : List Int) : Bool :=
  (chk L P == 0) && ((chk L' P' == 0) && (labB L L' f && prB (objN L' P') (objR L' P') P f))

set_option maxRecDepth 20000 in
set_option maxHeartbeats 1000000 in
theorem keepsLab_r (p q p' q' pf : Option Addr) (n c m d n' c' m' d' nf cf lo hi lo' hi' lof hif : Nat) (L L' : List ByteArray) (P P' : List (Int × Int)) (f : List Int) (r : Bool) (w : World) (h : ObjAt w lo hi p n q m L P) (h' : ObjAt w lo' hi' p' n' q' m' L' P') (hf : ZsAt w lof hif pf nf f) (hn : nf ≤ 1000000)
    (hr : labB L L' f = r) :
    Calls Tryd.prog 45 #[.agg #[.slice p n c, .slice q m d], .agg #[.slice p' n' c', .slice q' m' d'], .slice pf nf cf] w fun e w' => e = .returned (.bool r) ∧ w.grownBy w' none := by
  have hg0 := grownBy_trans (World.grownBy_alloc w (.cells #[.slice p n c, .slice q m d] 25) none) (World.grownBy_alloc _ (.cells #[.slice p' n' c', .slice q' m' d'] 25) none)
  have HG0 := Lib.hid hg0
  by_cases hl : nf = n
  · subst hl
    have hb : ((nf : Int) != (nf : Int)) = false := by simp
    have H1 := Lib.hid (h.calm hg0)
    have H2 := Lib.hid (h'.calm hg0)
    have HF := Lib.hid (hf.calm hg0)
    have HLF := Lib.hid hf.len
    have HLL := Lib.hid h.ls.len
    have HLL' := Lib.hid h'.ls.len
    have HR : Hid (labK L L' f nf = r) := Lib.hid (by rw [← hr]; unfold labB; rw [hf.len, h.ls.len]; simp)
    clear h h' hf hr hg0
    go_enter Tryd.func45, Tryd.ntmps45
    go_wp2
    go_loopw [17] (fun i wr => ∃ k : Nat, k ≤ nf ∧ i = .int .i64 k ∧ Hid (labK L L' f k = true) ∧ ((w.alloc (.cells #[.slice p nf c, .slice q m d] 25)).alloc (.cells #[.slice p' n' c', .slice q' m' d'] 25)).grownBy wr none) (fun i _ => nf - (intOf i).toNat)
    case atStart => exact ⟨0, Nat.zero_le _, rfl, Lib.hid rfl, grownBy_refl _ _⟩
    case round =>
      obtain ⟨k, hk, rfl, HT, hgr⟩ := hrel
      obtain ⟨⟨b0, _⟩, ⟨b2, _⟩, hg1⟩ := box22 hgr
      have HG1 := Lib.hid hg1
      have HGR := Lib.hid hgr
      clear hg1
      by_cases hkn : k < nf
      · obtain ⟨bf, of', rfl, q1, q2, q3, hcf⟩ := (HF.out.calm hgr).cell (by omega)
        have xf := hcf k hkn
        have HSC := Lib.hid (labK_succ L L' f k)
        have HNT := Lib.hid (fun h => labK_not (L := L) (L' := L') (f := f) hkn h)
        have H2b := Lib.hid (H2.out.ls.calm hgr)
        obtain ⟨b1, o1, rfl, s1, s2, s3, hc1⟩ := (H1.out.ls.calm hgr).cell (by omega)
        have x1 := hc1 k hkn
        clear hcf hc1 hgr
        have k0 : (0 : Int) ≤ k := by omega
        have k1 : (k : Int) < nf := by omega
        have HL1 : Hid (lab1 L L' f k = (hasZ n' (f[k]?.getD 0) && decide (L[k]?.getD .empty = L'[(f[k]?.getD 0).toNat]?.getD .empty))) := Lib.hid (by unfold lab1; rw [HLL'.out])
        generalize f[k]?.getD 0 = z at *
        generalize L[k]?.getD .empty = u at *
        cases hz : hasZ n' z
        · have HZ := Lib.hid hz
          obtain rfl : r = false := by rw [← HR.out]; exact HNT.out (by rw [HL1.out, hz]; rfl)
          clear hz
          go_wp2
          go_quiet ((go_at_call 43; exact Calls.quiet_of_same (aHas_r n' z false _ HZ.out)))
          go_wp2
          go_ret
          exact ⟨rfl, grownBy_trans HG1.out (grownBy_drewN _ _ none)⟩
        · obtain ⟨z0, z1⟩ := hasZ_iff.1 hz
          obtain ⟨y, rfl⟩ := Int.eq_ofNat_of_zero_le z0
          have hy : y < n' := by omega
          obtain ⟨b2', o2, rfl, r1, r2, r3, hc2⟩ := H2b.out.cell (by omega)
          have y1 := hc2 y hy
          have HZ := Lib.hid hz
          have HL2 : Hid (lab1 L L' f k = decide (u = L'[y]?.getD .empty)) := Lib.hid (by rw [HL1.out, hz, Int.toNat_natCast]; rfl)
          clear hc2 hz HL1
          generalize L'[y]?.getD .empty = v at *
          by_cases he : u = v
          · have hN : (u.toList == v.toList) = true := by rw [str_eq]; simpa using he
            have HNX : Hid (labK L L' f (k + 1) = true) := Lib.hid (by rw [HSC.out, HT.out, HL2.out]; simpa using he)
            clear he
            go_wp2
            go_quiet ((go_at_call 43; exact Calls.quiet_of_same (aHas_r n' y true _ HZ.out)))
            go_wp2
            exact ⟨⟨k + 1, by omega, by go_num, HNX, grownBy_trans HGR.out (grownBy_drewN _ _ none)⟩, by simp [intOf]; omega⟩
          · have hN : (u.toList == v.toList) = false := by rw [str_eq]; simpa using he
            obtain rfl : r = false := by rw [← HR.out]; exact HNT.out (by rw [HL2.out]; simpa using he)
            clear he
            go_wp2
            go_quiet ((go_at_call 43; exact Calls.quiet_of_same (aHas_r n' y true _ HZ.out)))
            go_wp2
            go_ret
            exact ⟨rfl, grownBy_trans HG1.out (grownBy_drewN _ _ none)⟩
      · obtain rfl : k = nf := by omega
        obtain rfl : r = true := by rw [← HR.out, HT.out]
        clear hgr
        go_wp2
        go_ret
        exact ⟨rfl, HG1.out⟩
  · have hb : ((nf : Int) != (n : Int)) = true := by simp; omega
    have hrf : r = false := by
      rw [← hr]
      unfold labB
      rw [hf.len, h.ls.len, decide_eq_false hl]
      rfl
    subst hrf
    clear h h' hf hl hr hg0
    go_enter Tryd.func45, Tryd.ntmps45
    go_wp2
    go_ret
    exact ⟨rfl, HG0.out⟩

theorem relHas_z (lo hi p n : Nat) (a b : Int) (R : Nat → Nat → Bool) (r : Bool) (w : World) (h : IsRel w lo hi p n R) (hr : hasI n R a b = r) : Calls Tryd.prog 64 #[.pointer (some ⟨p, 0, none⟩), .int .i64 a, .int .i64 b] w fun e w' => e = .returned (.bool r) ∧ ∃ m, w' = w.drewN m := by
  rw [← hr]
  exact relHas_c lo hi p n a b R w h

theorem inI_of_all {n : Nat} {P : List (Int × Int)} {k : Nat} (h : allIn n P = true) (hk : k < P.length) : inI n (P[k]?.getD (0, 0)).1 (P[k]?.getD (0, 0)).2 := by
  rw [List.getElem?_eq_getElem hk, Option.getD_some]
  have := List.all_eq_true.1 h _ (List.getElem_mem hk)
  exact of_decide_eq_true this

set_option maxRecDepth 20000 in
set_option maxHeartbeats 1000000 in
theorem keepsPr_r (p q p' q' pf : Option Addr) (n c m d n' c' m' d' nf cf lo hi lo' hi' lof hif : Nat) (L L' : List ByteArray) (P P' : List (Int × Int)) (f : List Int) (r : Bool) (w : World) (h : ObjAt w lo hi p n q m L P) (h' : ObjAt w lo' hi' p' n' q' m' L' P') (hf : ZsAt w lof hif pf nf f) (hm : m ≤ 1000000) (hm' : m' ≤ 1000000) (hin : allIn nf P = true)
    (hr : prB (objN L' P') (objR L' P') P f = r) :
    Calls Tryd.prog 46 #[.agg #[.slice p n c, .slice q m d], .agg #[.slice p' n' c', .slice q' m' d'], .slice pf nf cf] w fun e w' => e = .returned (.bool r) ∧ w.grownBy w' none := by
  have hg0 := grownBy_trans (World.grownBy_alloc w (.cells #[.slice p n c, .slice q m d] 25) none) (World.grownBy_alloc _ (.cells #[.slice p' n' c', .slice q' m' d'] 25) none)
  have H1 := Lib.hid (h.calm hg0)
  have H2 := Lib.hid (h'.calm hg0)
  have HF := Lib.hid (hf.calm hg0)
  have HIN := Lib.hid hin
  have HR := Lib.hid hr
  have HPL := Lib.hid h.ps.len
  clear h h' hf hr hg0 hin
  generalize hN : objN L' P' = N at *
  generalize hRR : objR L' P' = R at *
  have HNN := Lib.hid hN
  have HRR := Lib.hid hRR
  clear hN hRR
  go_enter Tryd.func46, Tryd.ntmps46
  go_wp2_with fail
  refine (objRel_c _ _ _ _ _ _ _ _ L' P' _ (by exact H2.out) hm').mono ?_
  rw [HNN.out, HRR.out]
  rintro e w1 ⟨t, rfl, hrel, hg1⟩
  obtain ⟨⟨b0, b1⟩, _, hgw⟩ := box22 hg1
  have HREL := Lib.hid hrel
  have HGW := Lib.hid hgw
  have H1b := Lib.hid (H1.out.ps.calm hg1)
  have HFb := Lib.hid (HF.out.calm hg1)
  clear hg1 hgw hrel
  go_wp2
  go_loopw [15] (fun i wr => ∃ k : Nat, k ≤ m ∧ i = .int .i64 k ∧ Hid (prB N R (P.take k) f = true) ∧ w1.grownBy wr none) (fun i _ => m - (intOf i).toNat)
  case atStart => exact ⟨0, Nat.zero_le _, rfl, Lib.hid rfl, grownBy_refl _ _⟩
  case round =>
    obtain ⟨k, hk, rfl, HT, hgr⟩ := hrel
    have HGR := Lib.hid hgr
    by_cases hkn : k < m
    · have k0 : (0 : Int) ≤ k := by omega
      have k1 : (k : Int) < m := by omega
      obtain ⟨bp, op, rfl, q1, q2, q3, hcp⟩ := (H1b.out.calm hgr).cell (by omega)
      obtain ⟨c0, c1⟩ := hcp k hkn
      have HI := Lib.hid (inI_of_all (k := k) HIN.out (by rw [HPL.out]; exact hkn))
      have HSC := Lib.hid (prB_succ (N := N) (R := R) (f := f) (P := P) (k := k) (by rw [HPL.out]; exact hkn))
      have HNT := Lib.hid (fun h => prB_not (N := N) (R := R) (f := f) (P := P) (k := k) (by rw [HPL.out]; exact hkn) h)
      have HREL2 := Lib.hid (HREL.out.calm hgr)
      have HF2 := Lib.hid (HFb.out.calm hgr)
      clear hcp hgr
      obtain ⟨x, hx⟩ : ∃ x, x = P[k]?.getD (0, 0) := ⟨_, rfl⟩
      rw [← hx] at c0 c1 HI HSC HNT
      clear hx
      obtain ⟨xa, xb⟩ := x
      obtain ⟨a0, a1, a2, a3⟩ : 0 ≤ xa ∧ xa < nf ∧ 0 ≤ xb ∧ xb < nf := by have := HI.out; unfold inI at this; simp only at this; omega
      obtain ⟨ya, rfl⟩ := Int.eq_ofNat_of_zero_le a0
      obtain ⟨yb, rfl⟩ := Int.eq_ofNat_of_zero_le a2
      have hgA := World.grownBy_alloc wr (.cells #[.int .i64 (ya : Int), .int .i64 (yb : Int)] 56) none
      obtain ⟨bf, of', rfl, s1, s2, s3, hcf⟩ := (HF2.out.calm hgA).cell (by omega)
      have fa := hcf ya (by omega)
      have fb := hcf yb (by omega)
      have HREL3 := Lib.hid (HREL2.out.calm hgA)
      have HGA := Lib.hid hgA
      have HP1 : Hid (pr1 N R f ((ya : Int), (yb : Int)) = hasI N R (f[ya]?.getD 0) (f[yb]?.getD 0)) := Lib.hid (by simp [pr1])
      clear hcf hgA
      simp only at c0 c1
      generalize f[ya]?.getD 0 = u at *
      generalize f[yb]?.getD 0 = v at *
      cases hh : hasI N R u v
      · have HH := Lib.hid hh
        obtain rfl : r = false := by rw [← HR.out]; exact HNT.out (by rw [HP1.out, hh])
        clear hh
        go_wp2
        go_quiet ((go_at_call 64; exact Calls.quiet_of (relHas_z _ _ t N u v R false _ (by exact HREL3.out.calm (grownBy_drewN _ _ none)) HH.out)))
        go_wp2
        go_ret
        exact ⟨rfl, grownBy_trans HGW.out (grownBy_trans HGR.out (grownBy_trans HGA.out (grownBy_drewN _ _ none)))⟩
      · have HH := Lib.hid hh
        have HNX : Hid (prB N R (P.take (k + 1)) f = true) := Lib.hid (by rw [HSC.out, HT.out, HP1.out, hh]; rfl)
        clear hh
        go_wp2
        go_quiet ((go_at_call 64; exact Calls.quiet_of (relHas_z _ _ t N u v R true _ (by exact HREL3.out.calm (grownBy_drewN _ _ none)) HH.out)))
        go_wp2
        exact ⟨⟨k + 1, by omega, by go_num, HNX, grownBy_trans HGR.out (grownBy_trans HGA.out (grownBy_drewN _ _ none))⟩, by simp [intOf]; omega⟩
    · obtain rfl : k = m := by omega
      obtain rfl : r = true := by
        have := HT.out
        rw [List.take_of_length_le (by rw [HPL.out]; exact Nat.le_refl _)] at this
        rw [← HR.out, this]
      clear hgr
      go_wp2
      go_ret
      exact ⟨rfl, grownBy_trans HGW.out HGR.out⟩

theorem chk_in {L : List ByteArray} {P : List (Int × Int)} (h : chk L P = 0) : labErr L = 0 ∧ risesB P = true ∧ allIn L.length P = true ∧ grewC L.length (ofL L.length P) L.length = false := by
  unfold chk at h
  split at h
  · rename_i h1; exact absurd h h1
  · rename_i h1
    split at h
    · rename_i h2
      simp only [Bool.and_eq_true, Bool.not_eq_true'] at h2
      exact ⟨by simpa using h1, h2.1, h2.2.1, h2.2.2⟩
    · cases h

set_option maxRecDepth 20000 in
set_option maxHeartbeats 1000000 in
theorem arIs_r (p q p' q' pf : Option Addr) (n c m d n' c' m' d' nf cf lo hi lo' hi' lof hif : Nat) (L L' : List ByteArray) (P P' : List (Int × Int)) (f : List Int) (r : Bool) (w : World) (h : ObjAt w lo hi p n q m L P) (h' : ObjAt w lo' hi' p' n' q' m' L' P') (hf : ZsAt w lof hif pf nf f) (hn : nf ≤ 1000000) (hm : m ≤ 1000000) (hm' : m' ≤ 1000000)
    (hr : arB L P L' P' f = r) :
    Calls Tryd.prog 22 #[.agg #[.slice p n c, .slice q m d], .agg #[.slice p' n' c', .slice q' m' d'], .slice pf nf cf] w fun e w' => e = .returned (.bool r) ∧ w.grownBy w' none := by
  have hg0 := grownBy_trans (World.grownBy_alloc w (.cells #[.slice p n c, .slice q m d] 25) none) (World.grownBy_alloc _ (.cells #[.slice p' n' c', .slice q' m' d'] 25) none)
  have H1 := Lib.hid (h.calm hg0)
  have H2 := Lib.hid (h'.calm hg0)
  have HF := Lib.hid (hf.calm hg0)
  have HLF := Lib.hid hf.len
  have HLL := Lib.hid h.ls.len
  have HR := Lib.hid hr
  clear h h' hf hr hg0
  cases ha : chk L P == 0
  · have HA := Lib.hid ha
    obtain rfl : r = false := by rw [← HR.out]; unfold arB; rw [ha]; rfl
    clear ha
    go_enter Tryd.func22, Tryd.ntmps22
    go_wp2_with fail
    refine (is_c _ _ _ _ _ _ _ _ L P false _ (by exact H1.out) hm HA.out).mono ?_
    rintro e w1 ⟨rfl, hg⟩
    have HG := Lib.hid (box22 hg).2.2
    clear hg
    go_wp2
    go_ret
    exact ⟨rfl, HG.out⟩
  · have HA := Lib.hid ha
    clear ha
    go_enter Tryd.func22, Tryd.ntmps22
    go_wp2_with fail
    refine (is_c _ _ _ _ _ _ _ _ L P true _ (by exact H1.out) hm HA.out).mono ?_
    rintro e w1 ⟨rfl, hg⟩
    obtain ⟨⟨b0, b1⟩, ⟨b2, b3⟩, hg1⟩ := box22 hg
    have HG1 := Lib.hid hg
    have H3 := Lib.hid (H2.out.calm hg)
    clear hg hg1
    cases hb : chk L' P' == 0
    · have HB := Lib.hid hb
      obtain rfl : r = false := by rw [← HR.out]; unfold arB; rw [hb, HA.out]; rfl
      clear hb
      go_wp2_with fail
      refine (is_c _ _ _ _ _ _ _ _ L' P' false _ (by exact H3.out) hm' HB.out).mono ?_
      rintro e w2 ⟨rfl, hg2⟩
      have HG := Lib.hid (box22 (grownBy_trans HG1.out hg2)).2.2
      clear hg2
      go_wp2
      go_ret
      exact ⟨rfl, HG.out⟩
    · have HB := Lib.hid hb
      clear hb
      go_wp2_with fail
      refine (is_c _ _ _ _ _ _ _ _ L' P' true _ (by exact H3.out) hm' HB.out).mono ?_
      rintro e w2 ⟨rfl, hg2⟩
      have hg3 := grownBy_trans HG1.out hg2
      clear b0 b1 b2 b3 hg2
      obtain ⟨⟨b0, b1⟩, ⟨b2, b3⟩, hg4⟩ := box22 hg3
      have HG3 := Lib.hid hg3
      have H4 := Lib.hid (H1.out.calm hg3)
      have H5 := Lib.hid (H2.out.calm hg3)
      have HF2 := Lib.hid (HF.out.calm hg3)
      clear hg3 hg4
      cases hl : labB L L' f
      · have HL := Lib.hid hl
        obtain rfl : r = false := by rw [← HR.out]; unfold arB; rw [HB.out, HA.out, hl]; rfl
        clear hl
        go_wp2_with fail
        refine (keepsLab_r _ _ _ _ _ _ _ _ _ _ _ _ _ _ _ _ _ _ _ _ _ L L' P P' f false _ (by exact H4.out) (by exact H5.out) (by exact HF2.out) hn HL.out).mono ?_
        rintro e w3 ⟨rfl, hg5⟩
        have HG := Lib.hid (box22 (grownBy_trans HG3.out hg5)).2.2
        clear hg5
        go_wp2
        go_ret
        exact ⟨rfl, HG.out⟩
      · have HL := Lib.hid hl
        have HPB : Hid (prB (objN L' P') (objR L' P') P f = r) := Lib.hid (by rw [← HR.out]; unfold arB; rw [HB.out, HA.out, hl]; rfl)
        have HIN : Hid (allIn nf P = true) := Lib.hid (by
          have e1 := (chk_in (by simpa using HA.out)).2.2.1
          unfold labB at hl
          simp only [Bool.and_eq_true, decide_eq_true_eq] at hl
          rw [← HLF.out, hl.1]
          exact e1)
        clear hl
        go_wp2_with fail
        refine (keepsLab_r _ _ _ _ _ _ _ _ _ _ _ _ _ _ _ _ _ _ _ _ _ L L' P P' f true _ (by exact H4.out) (by exact H5.out) (by exact HF2.out) hn HL.out).mono ?_
        rintro e w3 ⟨rfl, hg5⟩
        have hg6 := grownBy_trans HG3.out hg5
        clear b0 b1 b2 b3 hg5
        obtain ⟨⟨b0, b1⟩, ⟨b2, b3⟩, hg7⟩ := box22 hg6
        have HG6 := Lib.hid hg6
        have H6 := Lib.hid (H1.out.calm hg6)
        have H7 := Lib.hid (H2.out.calm hg6)
        have HF3 := Lib.hid (HF.out.calm hg6)
        clear hg6 hg7
        go_wp2_with fail
        refine (keepsPr_r _ _ _ _ _ _ _ _ _ _ _ _ _ _ _ _ _ _ _ _ _ L L' P P' f r _ (by exact H6.out) (by exact H7.out) (by exact HF3.out) hm hm' HIN.out HPB.out).mono ?_
        rintro e w4 ⟨rfl, hg8⟩
        have HG := Lib.hid (box22 (grownBy_trans HG6.out hg8)).2.2
        clear hg8
        go_wp2
        go_ret
        exact ⟨rfl, HG.out⟩

/-- Both, one behind the other, move nothing. -/
def stillB (f g : List Int) : Bool := thenB f g.length && decide (thenL f g = idL (idN f.length))

set_option maxRecDepth 20000 in
set_option maxHeartbeats 1000000 in
theorem moves_r (p q : Option Addr) (n c m d lo hi lo' hi' : Nat) (f g : List Int) (r : Bool) (w : World) (hf : ZsAt w lo hi p n f) (hg : ZsAt w lo' hi' q m g) (hn : n ≤ 1000000) (hr : stillB f g = r) :
    Calls Tryd.prog 47 #[.slice p n c, .slice q m d] w fun e w' => e = .returned (.bool r) ∧ w.grownBy w' none := by
  have H1 := Lib.hid hf
  have H2 := Lib.hid hg
  have HN := Lib.hid hf.len
  have HR := Lib.hid hr
  clear hf hg hr
  go_enter Tryd.func47, Tryd.ntmps47
  go_wp2_with fail
  refine (then_c _ _ _ _ _ _ _ _ _ _ f g _ H1.out H2.out hn).mono ?_
  rintro e w1 ⟨hg1, ⟨h1, b, rfl, hb, hrow⟩ | ⟨h1, rfl⟩⟩
  · have HG1 := Lib.hid hg1
    have HROW := Lib.hid hrow
    have HR2 : Hid (decide (thenL f g = idL (idN n)) = r) := Lib.hid (by rw [← HR.out]; unfold stillB; rw [h1, HN.out]; rfl)
    have hfl : f.length ≤ 1000000 := by rw [HN.out]; exact hn
    have HFL := Lib.hid (thenL_len f g)
    clear hg1 hrow h1 hb
    generalize f.length = k at *
    go_wp2_with fail
    refine (ident_c n (idN n) _ rfl).mono ?_
    rintro e w2 ⟨b2, rfl, hb2, hrow2, hg2⟩
    have HG2 := Lib.hid (grownBy_trans HG1.out hg2)
    have HZ1 := Lib.hid ((HROW.out.calm hg2).at1)
    have HZ2 := Lib.hid hrow2.at1
    clear hg2 hrow2 hb2
    rw [HFL.out] at HZ1
    go_wp2_with fail
    refine (arSame_r _ _ _ _ _ _ _ _ _ _ (thenL f g) (idL (idN n)) r _ (by exact HZ1.out) (by exact HZ2.out) hfl HR2.out).mono ?_
    rintro e w3 ⟨rfl, hg3⟩
    have HG3 := Lib.hid (grownBy_trans HG2.out hg3)
    clear hg3
    go_wp2
    go_ret
    exact ⟨rfl, HG3.out⟩
  · have HG1 := Lib.hid hg1
    obtain rfl : r = false := by rw [← HR.out]; unfold stillB; rw [h1]; rfl
    clear hg1 h1
    go_wp2
    go_ret
    exact ⟨rfl, HG1.out⟩

/-- Whether both are arrows, there and back, that move nothing. -/
def invB (L : List ByteArray) (P : List (Int × Int)) (L' : List ByteArray) (P' : List (Int × Int)) (f g : List Int) : Bool :=
  arB L P L' P' f && (arB L' P' L P g && (stillB f g && stillB g f))

set_option maxRecDepth 20000 in
set_option maxHeartbeats 1000000 in
theorem arInv_r (p q p' q' pf pg : Option Addr) (n c m d n' c' m' d' nf cf ng cg lo hi lo' hi' lof hif log hig : Nat) (L L' : List ByteArray) (P P' : List (Int × Int)) (f g : List Int) (r : Bool) (w : World) (h : ObjAt w lo hi p n q m L P) (h' : ObjAt w lo' hi' p' n' q' m' L' P') (hf : ZsAt w lof hif pf nf f) (hg : ZsAt w log hig pg ng g) (hn : nf ≤ 1000000) (hng : ng ≤ 1000000) (hm : m ≤ 1000000) (hm' : m' ≤ 1000000)
    (hr : invB L P L' P' f g = r) :
    Calls Tryd.prog 24 #[.agg #[.slice p n c, .slice q m d], .agg #[.slice p' n' c', .slice q' m' d'], .slice pf nf cf, .slice pg ng cg] w fun e w' => e = .returned (.bool r) ∧ w.grownBy w' none := by
  have hg0 := grownBy_trans (World.grownBy_alloc w (.cells #[.slice p n c, .slice q m d] 25) none) (World.grownBy_alloc _ (.cells #[.slice p' n' c', .slice q' m' d'] 25) none)
  have H1 := Lib.hid (h.calm hg0)
  have H2 := Lib.hid (h'.calm hg0)
  have HF := Lib.hid (hf.calm hg0)
  have HK := Lib.hid (hg.calm hg0)
  have HR := Lib.hid hr
  clear h h' hf hg hr hg0
  cases ha : arB L P L' P' f
  · have HA := Lib.hid ha
    obtain rfl : r = false := by rw [← HR.out]; unfold invB; rw [ha]; rfl
    clear ha
    go_enter Tryd.func24, Tryd.ntmps24
    go_wp2_with fail
    refine (arIs_r _ _ _ _ _ _ _ _ _ _ _ _ _ _ _ _ _ _ _ _ _ L L' P P' f false _ (by exact H1.out) (by exact H2.out) (by exact HF.out) hn hm hm' HA.out).mono ?_
    rintro e w1 ⟨rfl, hg⟩
    have HG := Lib.hid (box22 hg).2.2
    clear hg
    go_wp2
    go_ret
    exact ⟨rfl, HG.out⟩
  · have HA := Lib.hid ha
    clear ha
    go_enter Tryd.func24, Tryd.ntmps24
    go_wp2_with fail
    refine (arIs_r _ _ _ _ _ _ _ _ _ _ _ _ _ _ _ _ _ _ _ _ _ L L' P P' f true _ (by exact H1.out) (by exact H2.out) (by exact HF.out) hn hm hm' HA.out).mono ?_
    rintro e w1 ⟨rfl, hg⟩
    obtain ⟨⟨b0, b1⟩, ⟨b2, b3⟩, hg1⟩ := box22 hg
    have HG1 := Lib.hid hg
    have H3 := Lib.hid (H1.out.calm hg)
    have H4 := Lib.hid (H2.out.calm hg)
    have HK2 := Lib.hid (HK.out.calm hg)
    clear hg hg1
    cases hb : arB L' P' L P g
    · have HB := Lib.hid hb
      obtain rfl : r = false := by rw [← HR.out]; unfold invB; rw [hb, HA.out]; rfl
      clear hb
      go_wp2_with fail
      refine (arIs_r _ _ _ _ _ _ _ _ _ _ _ _ _ _ _ _ _ _ _ _ _ L' L P' P g false _ (by exact H4.out) (by exact H3.out) (by exact HK2.out) hng hm' hm HB.out).mono ?_
      rintro e w2 ⟨rfl, hg2⟩
      have HG := Lib.hid (box22 (grownBy_trans HG1.out hg2)).2.2
      clear hg2
      go_wp2
      go_ret
      exact ⟨rfl, HG.out⟩
    · have HB := Lib.hid hb
      clear hb
      go_wp2_with fail
      refine (arIs_r _ _ _ _ _ _ _ _ _ _ _ _ _ _ _ _ _ _ _ _ _ L' L P' P g true _ (by exact H4.out) (by exact H3.out) (by exact HK2.out) hng hm' hm HB.out).mono ?_
      rintro e w2 ⟨rfl, hg2⟩
      have hg3 := grownBy_trans HG1.out hg2
      have HG3 := Lib.hid (box22 hg3).2.2
      have HF3 := Lib.hid (HF.out.calm hg3)
      have HK3 := Lib.hid (HK.out.calm hg3)
      clear b0 b1 b2 b3 hg2 hg3
      cases hs : stillB f g
      · have HS := Lib.hid hs
        obtain rfl : r = false := by rw [← HR.out]; unfold invB; rw [HB.out, HA.out, hs]; rfl
        clear hs
        go_wp2_with fail
        refine (moves_r _ _ _ _ _ _ _ _ _ _ f g false _ (by exact HF3.out) (by exact HK3.out) hn HS.out).mono ?_
        rintro e w3 ⟨rfl, hg4⟩
        have HG := Lib.hid (grownBy_trans HG3.out hg4)
        clear hg4
        go_wp2
        go_ret
        exact ⟨rfl, HG.out⟩
      · have HS := Lib.hid hs
        have HS2 : Hid (stillB g f = r) := Lib.hid (by rw [← HR.out]; unfold invB; rw [HB.out, HA.out, hs]; rfl)
        clear hs
        go_wp2_with fail
        refine (moves_r _ _ _ _ _ _ _ _ _ _ f g true _ (by exact HF3.out) (by exact HK3.out) hn HS.out).mono ?_
        rintro e w3 ⟨rfl, hg4⟩
        have HG4 := Lib.hid (grownBy_trans HG3.out hg4)
        have HF4 := Lib.hid (HF3.out.calm hg4)
        have HK4 := Lib.hid (HK3.out.calm hg4)
        clear hg4
        go_wp2_with fail
        refine (moves_r _ _ _ _ _ _ _ _ _ _ g f r _ (by exact HK4.out) (by exact HF4.out) hng HS2.out).mono ?_
        rintro e w4 ⟨rfl, hg5⟩
        have HG := Lib.hid (grownBy_trans HG4.out hg5)
        clear hg5
        go_wp2
        go_ret
        exact ⟨rfl, HG.out⟩

end Go.Proofs.YtihkjgiaajgkpaaDoor
