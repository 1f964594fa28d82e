/- The walk of the statement ConeOne: at every input it answers true and leaves all that lay as it lay. Condition: the table of the lowest places is in memory. -/
import Derived.Test.YtgpcakcjiaoimaaDoorKnow8
namespace Go.Proofs.YtgpcakcjiaoimaaDoor
open Go.RowKit

/-- Which map comes to both. -/
theorem one_a {N : Nat} {I J U V h k : List Int} (hr : Reach N I J) (hU : U.length = N) (hV : V.length = N) (hi : thenL I U = h) (hj : thenL J U = k) (h1 : thenL I V = h) (h2 : thenL J V = k) : V = U :=
  way_only hr hV hU (h1.trans hi.symm) (h2.trans hj.symm)

set_option maxRecDepth 20000 in
set_option maxHeartbeats 4000000 in
theorem coneOne_in (p0 q0 p1 q1 p2 q2 p3 q3 pf pg ph pk po : Option Addr) (n0 c0 m0 d0 n1 c1 m1 d1 n2 c2 m2 d2 n3 c3 m3 d3 nf cf ng cg nh ch nk ck no co : Nat) (lo0 hi0 lo1 hi1 lo2 hi2 lo3 hi3 lof hif log hig loh hih lok hik loo hio : Nat) (L0 L1 L2 L3 : List ByteArray) (P0 P1 P2 P3 : List (Int × Int)) (f g h k o : List Int) (w : World) (a0 : ObjAt w lo0 hi0 p0 n0 q0 m0 L0 P0) (a1 : ObjAt w lo1 hi1 p1 n1 q1 m1 L1 P1) (a2 : ObjAt w lo2 hi2 p2 n2 q2 m2 L2 P2) (a3 : ObjAt w lo3 hi3 p3 n3 q3 m3 L3 P3) (zf : ZsAt w lof hif pf nf f) (zg : ZsAt w log hig pg ng g) (zh : ZsAt w loh hih ph nh h) (zk : ZsAt w lok hik pk nk k) (zo : ZsAt w loo hio po no o) (g0 : n0 ≤ maxLen) (g1 : n1 ≤ maxLen) (g2 : n2 ≤ maxLen) (g3 : n3 ≤ maxLen) (k1 : p1 = none → c1 = 0) (k2 : p2 = none → c2 = 0) (k3 : q1 = none → d1 = 0) (k4 : q2 = none → d2 = 0) (ht : Tab w) :
    Calls Tryd.prog 4 #[.agg #[.slice p0 n0 c0, .slice q0 m0 d0], .agg #[.slice p1 n1 c1, .slice q1 m1 d1], .agg #[.slice p2 n2 c2, .slice q2 m2 d2], .slice pf nf cf, .slice pg ng cg, .agg #[.slice p3 n3 c3, .slice q3 m3 d3], .slice ph nh ch, .slice pk nk ck, .slice po no co] w fun e w' => e = .returned (.bool true) ∧ w.grownBy w' none := by
  have A0 := Lib.hid a0
  have N0 := Lib.hid g0
  have LL0 := Lib.hid a0.ls.len
  have A1 := Lib.hid a1
  have N1 := Lib.hid g1
  have LL1 := Lib.hid a1.ls.len
  have A2 := Lib.hid a2
  have N2 := Lib.hid g2
  have LL2 := Lib.hid a2.ls.len
  have A3 := Lib.hid a3
  have N3 := Lib.hid g3
  have LL3 := Lib.hid a3.ls.len
  have Zf := Lib.hid zf
  have Zg := Lib.hid zg
  have Zh := Lib.hid zh
  have Zk := Lib.hid zk
  have Zo := Lib.hid zo
  have K1 := Lib.hid k1
  have K2 := Lib.hid k2
  have K3 := Lib.hid k3
  have K4 := Lib.hid k4
  have HT := Lib.hid ht
  clear a0 g0 a1 g1 a2 g2 a3 g3 zf zg zh zk zo k1 k2 k3 k4 ht
  go_enter Tryd.func4, Tryd.ntmps4
  go_wp2_with fail
  have he := boxEnv_four w (.slice p0 n0 c0) (.slice q0 m0 d0) (.slice p1 n1 c1) (.slice q1 m1 d1) (.slice p2 n2 c2) (.slice q2 m2 d2) (.slice p3 n3 c3) (.slice q3 m3 d3)
  generalize (((w.alloc (.cells #[.slice p0 n0 c0, .slice q0 m0 d0] 25)).alloc (.cells #[.slice p1 n1 c1, .slice q1 m1 d1] 25)).alloc (.cells #[.slice p2 n2 c2, .slice q2 m2 d2] 25)).alloc (.cells #[.slice p3 n3 c3, .slice q3 m3 d3] 25) = W0 at *
  refine (known8_c _ (HT.out.grown he.1 (by simp))).mono ?_
  rintro e w1 ⟨rfl, hg1⟩
  have he1 := he.calm hg1
  have HE1 := Lib.hid he1
  obtain ⟨x00, x01, x10, x11, x20, x21⟩ := he1.three
  obtain ⟨x30, x31, _, _⟩ := he1.fourth
  clear he hg1 he1
  go_wp2_with fail
  cases hfw : fewB L0 m0 with
  | false =>
    have HW := Lib.hid hfw
    clear hfw
    refine (few_r _ _ _ _ _ _ _ _ L0 P0 false _ (A0.out.calm HE1.out.1) N0.out HW.out).mono ?_
    rintro e w2 ⟨rfl, hg⟩
    have HG := Lib.hid (HE1.out.calm hg).1
    clear hg
    go_wp2
    go_ret
    exact ⟨rfl, HG.out⟩
  | true =>
    have HW0 := Lib.hid hfw
    clear hfw
    refine (few_r _ _ _ _ _ _ _ _ L0 P0 true _ (A0.out.calm HE1.out.1) N0.out HW0.out).mono ?_
    rintro e w2 ⟨rfl, hg⟩
    have he2 := HE1.out.calm hg
    have HE2 := Lib.hid he2
    obtain ⟨x00, x01, x10, x11, x20, x21⟩ := he2.three
    obtain ⟨x30, x31, _, _⟩ := he2.fourth
    clear hg he2 HE1
    go_wp2_with fail
    cases hfw : fewB L1 m1 with
    | false =>
      have HW := Lib.hid hfw
      clear hfw
      refine (few_r _ _ _ _ _ _ _ _ L1 P1 false _ (A1.out.calm HE2.out.1) N1.out HW.out).mono ?_
      rintro e w3 ⟨rfl, hg⟩
      have HG := Lib.hid (HE2.out.calm hg).1
      clear hg
      go_wp2
      go_ret
      exact ⟨rfl, HG.out⟩
    | true =>
      have HW1 := Lib.hid hfw
      clear hfw
      refine (few_r _ _ _ _ _ _ _ _ L1 P1 true _ (A1.out.calm HE2.out.1) N1.out HW1.out).mono ?_
      rintro e w3 ⟨rfl, hg⟩
      have he3 := HE2.out.calm hg
      have HE3 := Lib.hid he3
      obtain ⟨x00, x01, x10, x11, x20, x21⟩ := he3.three
      obtain ⟨x30, x31, _, _⟩ := he3.fourth
      clear hg he3 HE2
      go_wp2_with fail
      cases hfw : fewB L2 m2 with
      | false =>
        have HW := Lib.hid hfw
        clear hfw
        refine (few_r _ _ _ _ _ _ _ _ L2 P2 false _ (A2.out.calm HE3.out.1) N2.out HW.out).mono ?_
        rintro e w4 ⟨rfl, hg⟩
        have HG := Lib.hid (HE3.out.calm hg).1
        clear hg
        go_wp2
        go_ret
        exact ⟨rfl, HG.out⟩
      | true =>
        have HW2 := Lib.hid hfw
        clear hfw
        refine (few_r _ _ _ _ _ _ _ _ L2 P2 true _ (A2.out.calm HE3.out.1) N2.out HW2.out).mono ?_
        rintro e w4 ⟨rfl, hg⟩
        have he4 := HE3.out.calm hg
        have HE4 := Lib.hid he4
        obtain ⟨x00, x01, x10, x11, x20, x21⟩ := he4.three
        obtain ⟨x30, x31, _, _⟩ := he4.fourth
        clear hg he4 HE3
        go_wp2_with fail
        cases hfw : fewB L3 m3 with
        | false =>
          have HW := Lib.hid hfw
          clear hfw
          refine (few_r _ _ _ _ _ _ _ _ L3 P3 false _ (A3.out.calm HE4.out.1) N3.out HW.out).mono ?_
          rintro e w5 ⟨rfl, hg⟩
          have HG := Lib.hid (HE4.out.calm hg).1
          clear hg
          go_wp2
          go_ret
          exact ⟨rfl, HG.out⟩
        | true =>
          have HW3 := Lib.hid hfw
          clear hfw
          refine (few_r _ _ _ _ _ _ _ _ L3 P3 true _ (A3.out.calm HE4.out.1) N3.out HW3.out).mono ?_
          rintro e w5 ⟨rfl, hg⟩
          have he5 := HE4.out.calm hg
          have HE5 := Lib.hid he5
          obtain ⟨x00, x01, x10, x11, x20, x21⟩ := he5.three
          obtain ⟨x30, x31, _, _⟩ := he5.fourth
          have HG := Lib.hid he5.1
          have HE := Lib.hid he5
          clear hg he5 HE4
          clear HE5
          by_cases h60 : 60 < nf
          · have d1 : (60 : Int) < nf := by omega
            go_wp2
            go_ret
            exact ⟨rfl, HG.out⟩
          have dnf : ¬ ((60 : Int) < nf) := by omega
          have bf : nf ≤ 60 := by omega
          clear h60
          by_cases h60 : 60 < ng
          · have d1 : (60 : Int) < ng := by omega
            go_wp2
            go_ret
            exact ⟨rfl, HG.out⟩
          have dng : ¬ ((60 : Int) < ng) := by omega
          have bg : ng ≤ 60 := by omega
          clear h60
          by_cases h60 : 60 < nh
          · have d1 : (60 : Int) < nh := by omega
            go_wp2
            go_ret
            exact ⟨rfl, HG.out⟩
          have dnh : ¬ ((60 : Int) < nh) := by omega
          have bh : nh ≤ 60 := by omega
          clear h60
          by_cases h60 : 60 < nk
          · have d1 : (60 : Int) < nk := by omega
            go_wp2
            go_ret
            exact ⟨rfl, HG.out⟩
          have dnk : ¬ ((60 : Int) < nk) := by omega
          have bk : nk ≤ 60 := by omega
          clear h60
          by_cases h60 : 60 < no
          · have d1 : (60 : Int) < no := by omega
            go_wp2
            go_ret
            exact ⟨rfl, HG.out⟩
          have dno : ¬ ((60 : Int) < no) := by omega
          have bo : no ≤ 60 := by omega
          clear h60
          have kk0 : n0 ≤ 50 ∧ m0 ≤ 200 := by have := few_small HW0.out; rwa [LL0.out] at this
          have kk1 : n1 ≤ 50 ∧ m1 ≤ 200 := by have := few_small HW1.out; rwa [LL1.out] at this
          have kk2 : n2 ≤ 50 ∧ m2 ≤ 200 := by have := few_small HW2.out; rwa [LL2.out] at this
          have kk3 : n3 ≤ 50 ∧ m3 ≤ 200 := by have := few_small HW3.out; rwa [LL3.out] at this
          obtain ⟨U, r, hv⟩ := medV_ex L0 P0 L1 P1 L2 P2 f g L3 P3 h k
          obtain ⟨A, B, I, J, r', hp⟩ := pushV_ex L0 P0 L1 P1 L2 P2 f g
          have HV := Lib.hid hv
          have HP := Lib.hid hp
          have hcs : ((r = 10 ∨ r = 11 ∨ r = 12) ∧ U = []) ∨ (r = 0 ∧ r' = 0 ∧ PushA L0 L1 L2 A P0 P1 P2 B f g I J ∧ arB A B L3 P3 U = true ∧ thenL I U = h ∧ thenL J U = k) := by
            rcases hv.cases hp with ⟨h1, h2, h3⟩ | ⟨_, _, h2, h3⟩ | ⟨_, _, _, h2, h3⟩ | ⟨h1, _, _, h2, _, h3⟩
            · exact .inl ⟨by omega, h3⟩
            · exact .inl ⟨by omega, h3⟩
            · exact .inl ⟨by omega, h3⟩
            · exact .inr ⟨h2, h1, (hp.cases.resolve_left (fun h => by have := h.1; omega)).2, h3⟩
          clear hv hp
          go_wp2_with fail
          have he := HE.out
          refine (med_v p0 q0 p1 q1 p2 q2 p3 q3 pf pg ph pk n0 c0 m0 d0 n1 c1 m1 d1 n2 c2 m2 d2 n3 c3 m3 d3 nf cf ng cg nh ch nk ck _ _ _ _ _ _ _ _ _ _ _ _ _ _ _ _ L0 L1 L2 L3 P0 P1 P2 P3 f g h k U r _ HV.out (A0.out.calm he.1) (A1.out.calm he.1) (A2.out.calm he.1) (A3.out.calm he.1) (Zf.out.calm he.1) (Zg.out.calm he.1) (Zh.out.calm he.1) (Zk.out.calm he.1) kk0 kk1 kk2 bf bg (by omega) (by omega) (by omega) K1.out K2.out K3.out (HT.out.grown he.1 (by simp))).mono ?_
          rintro e v1 ⟨pu, cu, rfl, hu, hg⟩
          have he5 := he.calm hg
          have HE5 := Lib.hid he5
          have HU5 := Lib.hid hu
          obtain ⟨x00, x01, x10, x11, x20, x21⟩ := he5.three
          obtain ⟨x30, x31, _, _⟩ := he5.fourth
          clear he hg hu HE HG he5
          rcases hcs with ⟨hr, rfl⟩ | ⟨rfl, rfl, hP, hUA, hUI, hUJ⟩
          · have HF := Lib.hid HE5.out.1
            simp only [List.length_nil]
            rcases hr with rfl | rfl | rfl
            all_goals
              go_wp2
              go_ret
              exact ⟨rfl, HF.out⟩
          have HPA := Lib.hid hP
          have HUA := Lib.hid hUA
          have HUI := Lib.hid hUI
          have HUJ := Lib.hid hUJ
          obtain ⟨NA, hNA⟩ : ∃ NA, A.length = NA := ⟨_, rfl⟩
          obtain ⟨NB, hNB⟩ : ∃ NB, B.length = NB := ⟨_, rfl⟩
          obtain ⟨NI, hNI⟩ : ∃ NI, I.length = NI := ⟨_, rfl⟩
          obtain ⟨NJ, hNJ⟩ : ∃ NJ, J.length = NJ := ⟨_, rfl⟩
          have hNU : U.length = NA := (arB_parts hUA).2.2.1.trans hNA
          have hs : NA ≤ 40 ∧ NB ≤ 1600 ∧ NI ≤ 40 ∧ NJ ≤ 40 := by
            have a1 := hP.few
            have a2 := hP.squ.il
            have a3 := hP.squ.jl
            have a4 := hP.small
            have a5 := hP.pairs
            omega
          have hu5 := HU5.out
          rw [hNU] at hu5 ⊢
          have HU5' := Lib.hid hu5
          have HNA := Lib.hid hNA
          have HNU := Lib.hid hNU
          have HNI := Lib.hid hNI
          have HNJ := Lib.hid hNJ
          have HNB := Lib.hid hNB
          have HTI := Lib.hid (hP.thenI (hNU.trans hNA.symm))
          have HRE := Lib.hid (show Reach NA I J by rw [← hNA]; exact hP.reach)
          clear hP hUA hUI hUJ hNA hNB hNI hNJ hNU hu5 HU5
          go_wp2_with fail
          have he := HE5.out
          refine (refPush_v p0 q0 p1 q1 p2 q2 pf pg n0 c0 m0 d0 n1 c1 m1 d1 n2 c2 m2 d2 nf cf ng cg _ _ _ _ _ _ _ _ _ _ L0 L1 L2 P0 P1 P2 f g A B I J 0 _ HP.out (A0.out.calm he.1) (A1.out.calm he.1) (A2.out.calm he.1) (Zf.out.calm he.1) (Zg.out.calm he.1) kk0 kk1 kk2 bf bg K1.out K2.out K3.out).mono ?_
          rintro e v2 ⟨p5, c5, q5, d5, pi, ci, pj, cj, rfl, ho, hi, hj, hg⟩
          rw [HNA.out, HNB.out] at ho ⊢
          rw [HNI.out] at hi ⊢
          rw [HNJ.out] at hj ⊢
          have hga := World.grownBy_alloc v2 (.cells #[.slice p5 NA c5, .slice q5 NB d5] 25) none
          have hbo := BoxO.new v2 (.slice p5 NA c5) (.slice q5 NB d5)
          have hg2 := grownBy_trans hg hga
          have he6 := he.calm hg2
          have HE6 := Lib.hid he6
          have HO6 := Lib.hid (ho.calm hga)
          have HI6 := Lib.hid (hi.calm hga)
          have HJ6 := Lib.hid (hj.calm hga)
          have HU6 := Lib.hid (HU5'.out.calm hg2)
          have HB6 := Lib.hid hbo
          clear he ho hi hj hg hga hbo hg2 he6 HE5 HU5' HP x00 x01 x10 x11 x20 x21 x30 x31
          have hz1 := hs.1
          go_wp2_with fail
          generalize v2.alloc (.cells #[.slice p5 NA c5, .slice q5 NB d5] 25) = v3 at *
          generalize v2.heap.size = gq at *
          refine (then_c pi pu NI ci NA cu _ _ _ _ I U _ HI6.out HU6.out (by omega)).mono ?_
          rintro e v4 ⟨hg, ⟨h1, gx, rfl, hgx, hrx⟩ | ⟨h1, rfl⟩⟩
          rotate_left
          · exact absurd h1 (by rw [HTI.out.1]; decide)
          have HX4 := Lib.hid hrx.at1
          have HG4 := Lib.hid hg
          rw [HNI.out]
          clear h1 hgx hrx hg
          go_wp2_with fail
          refine (then_c pj pu NJ cj NA cu _ _ _ _ J U _ (HJ6.out.calm HG4.out) (HU6.out.calm HG4.out) (by omega)).mono ?_
          rintro e v5 ⟨hg, ⟨h1, gy, rfl, hgy, hry⟩ | ⟨h1, rfl⟩⟩
          rotate_left
          · exact absurd h1 (by rw [HTI.out.2]; decide)
          have hx5 := HX4.out.calm hg
          have hy5 := hry.at1
          rw [thenL_len, HNI.out, HUI.out] at hx5
          rw [thenL_len, HNJ.out, HUJ.out] at hy5
          have HX5 := Lib.hid hx5
          have HY5 := Lib.hid hy5
          have HG5 := Lib.hid (grownBy_trans HG4.out hg)
          rw [HNJ.out]
          have he5 := HE6.out.calm HG5.out
          have hb5 := HB6.out.calm HG5.out
          obtain ⟨x30, x31, _, _⟩ := he5.fourth
          have y0 := hb5.c0
          have y1 := hb5.c1
          clear h1 hgy hry hg hx5 hy5 he5 hb5 HX4 HG4
          go_wp2_with fail
          refine (arIs_r p5 q5 p3 q3 pu NA c5 NB d5 n3 c3 m3 d3 NA cu _ _ _ _ _ _ A L3 B P3 U true _ (HO6.out.calm HG5.out) (A3.out.calm (HE6.out.calm HG5.out).1) (HU6.out.calm HG5.out) (by omega) (by omega) (by omega) HUA.out).mono ?_
          rintro e v6 ⟨rfl, hg⟩
          have HG6 := Lib.hid (grownBy_trans HG5.out hg)
          have hx6 := HX5.out.calm hg
          have HY6 := Lib.hid (HY5.out.calm hg)
          clear hg HG5 HX5 HY5
          have NIH : NI = nh := by have := congrArg List.length HUI.out; rw [thenL_len, HNI.out, Zh.out.len] at this; exact this
          have NJK : NJ = nk := by have := congrArg List.length HUJ.out; rw [thenL_len, HNJ.out, Zk.out.len] at this; exact this
          subst NIH NJK
          go_wp2_with fail
          refine (arSame_r _ _ _ _ _ _ _ _ _ _ h h true _ hx6 (Zh.out.calm (HE6.out.calm HG6.out).1) (by omega) (by simp)).mono ?_
          rintro e v7 ⟨rfl, hg⟩
          have HG7 := Lib.hid (grownBy_trans HG6.out hg)
          have hy7 := HY6.out.calm hg
          clear hg HG6 HY6 hx6
          go_wp2_with fail
          refine (arSame_r _ _ _ _ _ _ _ _ _ _ k k true _ hy7 (Zk.out.calm (HE6.out.calm HG7.out).1) (by omega) (by simp)).mono ?_
          rintro e v8 ⟨rfl, hg⟩
          have HG8 := Lib.hid (grownBy_trans HG7.out hg)
          have he8 := HE6.out.calm HG8.out
          have hb8 := HB6.out.calm HG8.out
          obtain ⟨x30, x31, _, _⟩ := he8.fourth
          have y0 := hb8.c0
          have y1 := hb8.c1
          clear hg HG7 hy7 he8 hb8
          go_wp2_with fail
          cases har : arB A B L3 P3 o with
          | false =>
            have HAR := Lib.hid har
            clear har
            refine (arIs_r p5 q5 p3 q3 po NA c5 NB d5 n3 c3 m3 d3 no co _ _ _ _ _ _ A L3 B P3 o false _ (HO6.out.calm HG8.out) (A3.out.calm (HE6.out.calm HG8.out).1) (Zo.out.calm (HE6.out.calm HG8.out).1) (by omega) (by omega) (by omega) HAR.out).mono ?_
            rintro e v9 ⟨rfl, hg⟩
            have HF := Lib.hid (HE6.out.calm (grownBy_trans HG8.out hg)).1
            clear hg
            go_wp2
            go_ret
            exact ⟨rfl, HF.out⟩
          | true =>
            have HAR := Lib.hid har
            have hno : NA = no := by have := (arB_parts har).2.2.1; rw [Zo.out.len, HNA.out] at this; exact this.symm
            subst hno
            clear har
            refine (arIs_r p5 q5 p3 q3 po NA c5 NB d5 n3 c3 m3 d3 NA co _ _ _ _ _ _ A L3 B P3 o true _ (HO6.out.calm HG8.out) (A3.out.calm (HE6.out.calm HG8.out).1) (Zo.out.calm (HE6.out.calm HG8.out).1) (by omega) (by omega) (by omega) HAR.out).mono ?_
            rintro e v9 ⟨rfl, hg⟩
            have HG9 := Lib.hid (grownBy_trans HG8.out hg)
            clear hg HG8
            have HTO := Lib.hid (HPA.out.thenI (n := o.length) (by rw [Zo.out.len, HNA.out]))
            go_wp2_with fail
            refine (then_c pi po NI ci NA co _ _ _ _ I o _ (HI6.out.calm HG9.out) (Zo.out.calm (HE6.out.calm HG9.out).1) (by omega)).mono ?_
            rintro e va ⟨hg, ⟨h1, gv, rfl, hgx, hrx⟩ | ⟨h1, rfl⟩⟩
            rotate_left
            · exact absurd h1 (by rw [HTO.out.1]; decide)
            have hxa := hrx.at1
            rw [thenL_len, HNI.out] at hxa
            rw [HNI.out]
            have HXA := Lib.hid hxa
            have HGA := Lib.hid (grownBy_trans HG9.out hg)
            clear h1 hgx hrx hg hxa HG9
            go_wp2_with fail
            refine (then_c pj po NJ cj NA co _ _ _ _ J o _ (HJ6.out.calm HGA.out) (Zo.out.calm (HE6.out.calm HGA.out).1) (by omega)).mono ?_
            rintro e vb ⟨hg, ⟨h1, gz, rfl, hgx, hrx⟩ | ⟨h1, rfl⟩⟩
            rotate_left
            · exact absurd h1 (by rw [HTO.out.2]; decide)
            have hyb := hrx.at1
            rw [thenL_len, HNJ.out] at hyb
            rw [HNJ.out]
            have HYB := Lib.hid hyb
            have hxb := HXA.out.calm hg
            have HGB := Lib.hid (grownBy_trans HGA.out hg)
            clear h1 hgx hrx hg hyb HGA HXA
            go_wp2_with fail
            by_cases q1 : thenL I o = h
            · have HQ1 := Lib.hid q1
              clear q1
              refine (arSame_r _ _ _ _ _ _ _ _ _ _ (thenL I o) h true _ hxb (Zh.out.calm (HE6.out.calm HGB.out).1) (by omega) (decide_eq_true HQ1.out)).mono ?_
              rintro e vc ⟨rfl, hg⟩
              have HGC := Lib.hid (grownBy_trans HGB.out hg)
              have hyc := HYB.out.calm hg
              clear hg HGB HYB hxb
              go_wp2_with fail
              by_cases q2 : thenL J o = k
              · have HQ2 := Lib.hid q2
                clear q2
                have HOU := Lib.hid (one_a HRE.out HNU.out Zo.out.len HUI.out HUJ.out HQ1.out HQ2.out)
                refine (arSame_r _ _ _ _ _ _ _ _ _ _ (thenL J o) k true _ hyc (Zk.out.calm (HE6.out.calm HGC.out).1) (by omega) (decide_eq_true HQ2.out)).mono ?_
                rintro e vd ⟨rfl, hg⟩
                have HGD := Lib.hid (grownBy_trans HGC.out hg)
                clear hg HGC hyc
                go_wp2_with fail
                refine (arSame_r _ _ _ _ _ _ _ _ _ _ o U true _ (Zo.out.calm (HE6.out.calm HGD.out).1) (HU6.out.calm HGD.out) (by omega) (decide_eq_true HOU.out)).mono ?_
                rintro e ve ⟨rfl, hg⟩
                have HF := Lib.hid (HE6.out.calm (grownBy_trans HGD.out hg)).1
                clear hg
                go_wp2
                go_ret
                exact ⟨rfl, HF.out⟩
              · have HQ2 := Lib.hid q2
                clear q2
                have HOU := Lib.hid (show ¬ o = U from fun e => HQ2.out (by rw [e]; exact HUJ.out))
                refine (arSame_r _ _ _ _ _ _ _ _ _ _ (thenL J o) k false _ hyc (Zk.out.calm (HE6.out.calm HGC.out).1) (by omega) (decide_eq_false HQ2.out)).mono ?_
                rintro e vd ⟨rfl, hg⟩
                have HGD := Lib.hid (grownBy_trans HGC.out hg)
                clear hg HGC hyc
                go_wp2_with fail
                refine (arSame_r _ _ _ _ _ _ _ _ _ _ o U false _ (Zo.out.calm (HE6.out.calm HGD.out).1) (HU6.out.calm HGD.out) (by omega) (decide_eq_false HOU.out)).mono ?_
                rintro e ve ⟨rfl, hg⟩
                have HF := Lib.hid (HE6.out.calm (grownBy_trans HGD.out hg)).1
                clear hg
                go_wp2
                go_ret
                exact ⟨rfl, HF.out⟩
            · have HQ1 := Lib.hid q1
              clear q1
              have HOU := Lib.hid (show ¬ o = U from fun e => HQ1.out (by rw [e]; exact HUI.out))
              refine (arSame_r _ _ _ _ _ _ _ _ _ _ (thenL I o) h false _ hxb (Zh.out.calm (HE6.out.calm HGB.out).1) (by omega) (decide_eq_false HQ1.out)).mono ?_
              rintro e vc ⟨rfl, hg⟩
              have HGC := Lib.hid (grownBy_trans HGB.out hg)
              clear hg HGB HYB hxb
              go_wp2_with fail
              refine (arSame_r _ _ _ _ _ _ _ _ _ _ o U false _ (Zo.out.calm (HE6.out.calm HGC.out).1) (HU6.out.calm HGC.out) (by omega) (decide_eq_false HOU.out)).mono ?_
              rintro e ve ⟨rfl, hg⟩
              have HF := Lib.hid (HE6.out.calm (grownBy_trans HGC.out hg)).1
              clear hg
              go_wp2
              go_ret
              exact ⟨rfl, HF.out⟩

end Go.Proofs.YtgpcakcjiaoimaaDoor
