/- The reference's Inverse (package centoref4); once of centolaw5. -/
import Derived.Test.YtjimgihfejjilaaRefas
import Derived.Test.YtjimgihfejjilaaArrs
namespace Go.Proofs.Ytjimgihfejjilaa
open Go.RowKit

theorem arB_parts {L : List ByteArray} {P : List (Int × Int)} {L' : List ByteArray} {P' : List (Int × Int)} {f : List Int} (h : arB L P L' P' f = true) : chk L P = 0 ∧ chk L' P' = 0 ∧ f.length = L.length ∧ labK L L' f f.length = true ∧ prB (objN L' P') (objR L' P') P f = true := by
  unfold arB labB at h
  simp only [Bool.and_eq_true, beq_iff_eq, decide_eq_true_eq] at h
  exact ⟨h.1, h.2.1, h.2.2.1.1, h.2.2.1.2, h.2.2.2⟩
theorem lab_has {L L' : List ByteArray} {f : List Int} (h : labK L L' f f.length = true) : thenB f L'.length = true := by
  unfold thenB
  rw [List.all_eq_true]
  intro z hz
  obtain ⟨i, hi, rfl⟩ := List.getElem_of_mem hz
  have h1 := List.all_eq_true.1 h i (List.mem_range.2 hi)
  unfold lab1 at h1
  simp only [Bool.and_eq_true] at h1
  rw [List.getElem?_eq_getElem hi] at h1
  exact h1.1
theorem still_of {L : List ByteArray} {P : List (Int × Int)} {L' : List ByteArray} {P' : List (Int × Int)} {f g : List Int} (h : arB L P L' P' f = true) (h2 : arB L' P' L P g = true) : thenB f g.length = true ∧ stillB f g = decide (thenL f g = idL (idN L.length)) := by
  obtain ⟨_, _, h3, h4, _⟩ := arB_parts h
  obtain ⟨_, _, h5, _, _⟩ := arB_parts h2
  have h6 : thenB f g.length = true := by rw [h5]; exact lab_has h4
  refine ⟨h6, ?_⟩
  unfold stillB
  rw [h6, h3]
  rfl

set_option maxRecDepth 20000 in
set_option maxHeartbeats 2000000 in
theorem refInv_r (p q p' q' pf pg : Option Addr) (n c m d n' c' m' d' nf cf ng cg lo hi lo' hi' lof hif log hig : Nat) (L L' : List ByteArray) (P P' : List (Int × Int)) (f g : List Int) (r : Bool) (w : World) (h : ObjAt w lo hi p n q m L P) (h' : ObjAt w lo' hi' p' n' q' m' L' P') (hf : ZsAt w lof hif pf nf f) (hg : ZsAt w log hig pg ng g) (hn : nf ≤ 1000000) (hng : ng ≤ 1000000) (hm : m ≤ 1000000) (hm' : m' ≤ 1000000)
    (hr : invB L P L' P' f g = r) :
    Calls Try.prog 13 #[.agg #[.slice p n c, .slice q m d], .agg #[.slice p' n' c', .slice q' m' d'], .slice pf nf cf, .slice pg ng cg] w fun e w' => e = .returned (.bool r) ∧ w.grownBy w' none := by
  have hg0 := grownBy_trans (World.grownBy_alloc w (.cells #[.slice p n c, .slice q m d] 25) none) (World.grownBy_alloc _ (.cells #[.slice p' n' c', .slice q' m' d'] 25) none)
  have hbx := box22 (grownBy_refl ((w.alloc (.cells #[.slice p n c, .slice q m d] 25)).alloc (.cells #[.slice p' n' c', .slice q' m' d'] 25)) none)
  have HE0 : Hid (Env3 ((w.alloc (.cells #[.slice p n c, .slice q m d] 25)).alloc (.cells #[.slice p' n' c', .slice q' m' d'] 25)) w.heap.size lo hi lo' hi' lof hif p q p' q' pf n c m d n' c' m' d' nf L L' P P' f) :=
    Lib.hid ⟨h.calm hg0, h'.calm hg0, hf.calm hg0, hbx.1.1, hbx.1.2, hbx.2.1.1, hbx.2.1.2, by simp⟩
  have HK0 := Lib.hid (hg.calm hg0)
  have HG0 := Lib.hid hg0
  have HLF := Lib.hid hf.len
  have HLG := Lib.hid hg.len
  have HLL := Lib.hid h.ls.len
  have HLL' := Lib.hid h'.ls.len
  have HR := Lib.hid hr
  clear h h' hf hg hr hg0 hbx
  cases ha : arB L P L' P' f
  · have HA := Lib.hid ha
    obtain rfl : r = false := by rw [← HR.out]; unfold invB; rw [ha]; rfl
    clear ha
    go_enter Try.func13, Try.ntmps13
    go_wp2_with fail
    refine (refArrow_r _ _ _ _ _ _ _ _ _ _ _ _ _ _ _ _ _ _ _ _ _ L L' P P' f false _ (by exact HE0.out.a) (by exact HE0.out.b) (by exact HE0.out.f) hn hm hm' HA.out).mono ?_
    rintro e w1 ⟨rfl, hg⟩
    have HG := Lib.hid (grownBy_trans HG0.out hg)
    clear hg
    go_wp2
    go_ret
    exact ⟨rfl, HG.out⟩
  · have HA := Lib.hid ha
    clear ha
    go_enter Try.func13, Try.ntmps13
    go_wp2_with fail
    refine (refArrow_r _ _ _ _ _ _ _ _ _ _ _ _ _ _ _ _ _ _ _ _ _ L L' P P' f true _ (by exact HE0.out.a) (by exact HE0.out.b) (by exact HE0.out.f) hn hm hm' HA.out).mono ?_
    rintro e w1 ⟨rfl, hg⟩
    have HE1 := Lib.hid (HE0.out.calm hg)
    have HK1 := Lib.hid (HK0.out.calm hg)
    have HG1 := Lib.hid (grownBy_trans HG0.out hg)
    have b0 := HE1.out.b0
    have b1 := HE1.out.b1
    have b2 := HE1.out.b2
    have b3 := HE1.out.b3
    clear hg HE0 HK0 HG0
    cases hb : arB L' P' L P g
    · have HB := Lib.hid hb
      obtain rfl : r = false := by rw [← HR.out]; unfold invB; rw [hb, HA.out]; rfl
      clear hb
      go_wp2_with fail
      refine (refArrow_r _ _ _ _ _ _ _ _ _ _ _ _ _ _ _ _ _ _ _ _ _ L' L P' P g false _ (by exact HE1.out.b) (by exact HE1.out.a) (by exact HK1.out) hng hm' hm HB.out).mono ?_
      rintro e w2 ⟨rfl, hg2⟩
      have HG := Lib.hid (grownBy_trans HG1.out hg2)
      clear hg2
      go_wp2
      go_ret
      exact ⟨rfl, HG.out⟩
    · have HB := Lib.hid hb
      have HS1 := Lib.hid (still_of HA.out hb)
      have HS2 := Lib.hid (still_of hb HA.out)
      clear hb
      go_wp2_with fail
      refine (refArrow_r _ _ _ _ _ _ _ _ _ _ _ _ _ _ _ _ _ _ _ _ _ L' L P' P g true _ (by exact HE1.out.b) (by exact HE1.out.a) (by exact HK1.out) hng hm' hm HB.out).mono ?_
      rintro e w2 ⟨rfl, hg2⟩
      have HE2 := Lib.hid (HE1.out.calm hg2)
      have HK2 := Lib.hid (HK1.out.calm hg2)
      have HG2 := Lib.hid (grownBy_trans HG1.out hg2)
      clear b0 b1 b2 b3 hg2 HE1 HK1 HG1
      go_wp2_with fail
      refine (refThen_c _ _ _ _ _ _ _ _ _ _ f g _ (by exact HE2.out.f) (by exact HK2.out) hn).mono ?_
      rintro e w3 ⟨hg3, ⟨h1, px, cx, rfl, hx⟩ | ⟨h1, rfl⟩⟩
      · have HE3 := Lib.hid (HE2.out.calm hg3)
        have HK3 := Lib.hid (HK2.out.calm hg3)
        have HX3 := Lib.hid hx
        have HG3 := Lib.hid (grownBy_trans HG2.out hg3)
        rw [HLF.out] at HX3
        have eLF : (f.length : Nat) = nf := HLF.out
        rw [eLF]
        clear hg3 hx h1 HE2 HK2 HG2 eLF
        go_wp2_with fail
        refine (refThen_c _ _ _ _ _ _ _ _ _ _ g f _ (by exact HK3.out) (by exact HE3.out.f) hng).mono ?_
        rintro e w4 ⟨hg4, ⟨h1, py, cy, rfl, hy⟩ | ⟨h1, rfl⟩⟩
        · have HE4 := Lib.hid (HE3.out.calm hg4)
          have HX4 := Lib.hid (HX3.out.calm hg4)
          have HY4 := Lib.hid hy
          have HG4 := Lib.hid (grownBy_trans HG3.out hg4)
          rw [HLG.out] at HY4
          have eLG : (g.length : Nat) = ng := HLG.out
          rw [eLG]
          clear hg4 hy h1 HE3 HK3 HG3 HX3 eLG
          have b0 := HE4.out.b0
          go_wp2_with fail
          refine (refIdent_c n (idN n) _ rfl).mono ?_
          rintro e w5 ⟨pi, ci, rfl, hi5, hg5⟩
          have HE5 := Lib.hid (HE4.out.calm hg5)
          have HX5 := Lib.hid (HX4.out.calm hg5)
          have HY5 := Lib.hid (HY4.out.calm hg5)
          have HI5 := Lib.hid hi5
          have HG5 := Lib.hid (grownBy_trans HG4.out hg5)
          clear hg5 hi5 b0 HE4 HX4 HY4 HG4
          cases hs : stillB f g
          · have HS : Hid (decide (thenL f g = idL (idN n)) = false) := Lib.hid (by rw [← hs, HS1.out.2, HLL.out])
            obtain rfl : r = false := by rw [← HR.out]; unfold invB; rw [HA.out, HB.out, hs]; rfl
            clear hs
            go_wp2_with fail
            refine (alike_r _ _ _ _ _ _ _ _ _ _ (thenL f g) (idL (idN n)) false _ (by exact HX5.out) (by exact HI5.out) hn HS.out).mono ?_
            rintro e w6 ⟨rfl, hg6⟩
            have HG6 := Lib.hid (grownBy_trans HG5.out hg6)
            clear hg6
            go_wp2
            go_ret
            exact ⟨rfl, HG6.out⟩
          · have HS : Hid (decide (thenL f g = idL (idN n)) = true) := Lib.hid (by rw [← hs, HS1.out.2, HLL.out])
            have HSR : Hid (decide (thenL g f = idL (idN n')) = r) := Lib.hid (by rw [← HR.out]; unfold invB; rw [HA.out, HB.out, hs, HS2.out.2, HLL'.out]; rfl)
            clear hs
            go_wp2_with fail
            refine (alike_r _ _ _ _ _ _ _ _ _ _ (thenL f g) (idL (idN n)) true _ (by exact HX5.out) (by exact HI5.out) hn HS.out).mono ?_
            rintro e w6 ⟨rfl, hg6⟩
            have HE6 := Lib.hid (HE5.out.calm hg6)
            have HY6 := Lib.hid (HY5.out.calm hg6)
            have HG6 := Lib.hid (grownBy_trans HG5.out hg6)
            have b2 := HE6.out.b2
            clear hg6 HE5 HX5 HY5 HG5 HI5
            go_wp2_with fail
            refine (refIdent_c n' (idN n') _ rfl).mono ?_
            rintro e w7 ⟨pj, cj, rfl, hi7, hg7⟩
            have HY7 := Lib.hid (HY6.out.calm hg7)
            have HI7 := Lib.hid hi7
            have HG7 := Lib.hid (grownBy_trans HG6.out hg7)
            clear hg7 hi7 b2
            go_wp2_with fail
            refine (alike_r _ _ _ _ _ _ _ _ _ _ (thenL g f) (idL (idN n')) r _ (by exact HY7.out) (by exact HI7.out) hng HSR.out).mono ?_
            rintro e w8 ⟨rfl, hg8⟩
            have HG8 := Lib.hid (grownBy_trans HG7.out hg8)
            clear hg8
            go_wp2
            go_ret
            exact ⟨rfl, HG8.out⟩
        · exact absurd h1 (by rw [HS2.out.1]; decide)
      · exact absurd h1 (by rw [HS1.out.1]; decide)

/-- The i-th place is none of the first k; so each of the first i. -/
def inK (f : List Int) (i k : Nat) : Bool := (List.range k).all fun b => decide (f[i]?.getD 0 ≠ f[b]?.getD 0)
def onK (f : List Int) (i : Nat) : Bool := (List.range i).all fun a => inK f a a
theorem inK_succ (f : List Int) (i k : Nat) : inK f i (k + 1) = (inK f i k && decide (f[i]?.getD 0 ≠ f[k]?.getD 0)) := by simp [inK, List.range_succ]
theorem onK_succ (f : List Int) (i : Nat) : onK f (i + 1) = (onK f i && inK f i i) := by simp [onK, List.range_succ]
theorem onK_end {f : List Int} {n : Nat} (hn : f.length = n) (h : onK f n = true) : injB f = true := by
  unfold injB
  rw [decide_eq_true_iff]
  apply List.pairwise_iff_getElem.2
  intro i j hi hj hij e
  have h1 := List.all_eq_true.1 h j (List.mem_range.2 (by omega))
  have h2 := List.all_eq_true.1 h1 i (List.mem_range.2 hij)
  rw [List.getElem?_eq_getElem hi, List.getElem?_eq_getElem hj] at h2
  exact of_decide_eq_true h2 e.symm
theorem injB_out {f : List Int} {i k : Nat} (hi : i < f.length) (hk : k < i) (e : f[i]?.getD 0 = f[k]?.getD 0) : injB f = false := by
  unfold injB
  rw [decide_eq_false_iff_not]
  intro hn
  rw [List.getElem?_eq_getElem hi, List.getElem?_eq_getElem (by omega)] at e
  exact List.pairwise_iff_getElem.1 hn k i (by omega) hi hk e.symm

set_option maxRecDepth 20000 in
set_option maxHeartbeats 1000000 in
theorem once_r (p : Option Addr) (n c lo hi : Nat) (f : List Int) (r : Bool) (w : World) (h : ZsAt w lo hi p n f) (hn : n ≤ 1000000) (hr : injB f = r) :
    Calls Try.prog 19 #[.slice p n c] w fun e w' => e = .returned (.bool r) ∧ w.grownBy w' none := by
  have H := Lib.hid h
  have HR := Lib.hid hr
  have HL := Lib.hid h.len
  clear h hr
  go_enter Try.func19, Try.ntmps19
  go_wp2
  go_loopw [3] (fun i wr => ∃ k : Nat, k ≤ n ∧ i = .int .i64 k ∧ Hid (onK f k = true) ∧ w.grownBy wr none) (fun i _ => n - (intOf i).toNat)
  case atStart => exact ⟨0, Nat.zero_le _, rfl, Lib.hid rfl, grownBy_refl _ _⟩
  case round =>
    obtain ⟨i, hi, rfl, HT, hgr⟩ := hrel
    have HGR := Lib.hid hgr
    by_cases hin : i < n
    · have i0 : (0 : Int) ≤ i := by omega
      have i1 : (i : Int) < n := by omega
      generalize wr = wo at *
      clear hgr
      go_wp2
      go_loopw [4] (fun j wr => ∃ k : Nat, k ≤ i ∧ j = .int .i64 k ∧ Hid (inK f i k = true) ∧ wo.grownBy wr none) (fun j _ => i - (intOf j).toNat)
      case atStart => exact ⟨0, Nat.zero_le _, rfl, Lib.hid rfl, grownBy_refl _ _⟩
      case round =>
        obtain ⟨k, hk, rfl, HK, hgk⟩ := hrel
        have HGK := Lib.hid hgk
        have HGW := Lib.hid (grownBy_trans HGR.out hgk)
        by_cases hki : k < i
        · have k0 : (0 : Int) ≤ k := by omega
          have k1 : (k : Int) < i := by omega
          have k2 : (k : Int) < n := by omega
          obtain ⟨b, off, rfl, q1, q2, q3, hc⟩ := (H.out.calm HGW.out).cell (by omega)
          have x1 := hc i hin
          have y1 := hc k (by omega)
          have HSC := Lib.hid (inK_succ f i k)
          have HNO := Lib.hid (fun h => injB_out (f := f) (i := i) (k := k) (by rw [HL.out]; omega) hki h)
          clear hc hgk
          by_cases he : f[i]?.getD 0 = f[k]?.getD 0
          · obtain rfl : r = false := by rw [← HR.out]; exact HNO.out he
            have hN : (f[i]?.getD 0 == f[k]?.getD 0) = true := by simpa using he
            clear he
            generalize f[i]?.getD 0 = u at *
            generalize f[k]?.getD 0 = v at *
            go_wp2
            go_quiet (fail)
            go_wp2
            go_ret
            exact ⟨rfl, grownBy_trans HGW.out (grownBy_drewN _ _ none)⟩
          · have hN : (f[i]?.getD 0 == f[k]?.getD 0) = false := by simpa using he
            have HNX : Hid (inK f i (k + 1) = true) := Lib.hid (by rw [HSC.out, HK.out, decide_eq_true he]; rfl)
            clear he
            generalize f[i]?.getD 0 = u at *
            generalize f[k]?.getD 0 = v at *
            go_wp2
            go_quiet (fail)
            go_wp2
            exact ⟨⟨k + 1, by omega, by go_num, HNX, grownBy_trans HGK.out (grownBy_drewN _ _ none)⟩, by simp [intOf]; omega⟩
        · obtain rfl : i = k := by omega
          have k1 : ¬ ((i : Int) < i) := by omega
          have HNX : Hid (onK f (i + 1) = true) := Lib.hid (by rw [onK_succ, HT.out, HK.out]; rfl)
          clear hgk
          go_wp2
          exact ⟨⟨i + 1, by omega, by go_num, HNX, HGW.out⟩, by simp [intOf]; omega⟩
    · obtain rfl : i = n := by omega
      have i1 : ¬ ((i : Int) < i) := by omega
      obtain rfl : r = true := by rw [← HR.out]; exact onK_end HL.out HT.out
      clear hgr
      go_wp2
      go_ret
      exact ⟨rfl, HGR.out⟩

end Go.Proofs.Ytjimgihfejjilaa
