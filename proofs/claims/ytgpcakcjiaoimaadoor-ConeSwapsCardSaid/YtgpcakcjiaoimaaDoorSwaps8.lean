/- The walk of the statement ConeSwaps: at every input it answers true and leaves all that lay as it lay. Condition: the table of the lowest places is in memory. -/
import Derived.Test.YtgpcakcjiaoimaaDoorKnow8
namespace Go.Proofs.YtgpcakcjiaoimaaDoor
open Go.RowKit

theorem thenL_assoc {f g h : List Int} (hf : thenB f g.length = true) : thenL f (thenL g h) = thenL (thenL f g) h := by
  refine ext0 (by simp [thenL_len]) (fun k hk => ?_)
  rw [thenL_len] at hk
  obtain ⟨z0, z1⟩ := thenB_at hf hk
  rw [thenL_get hk, thenL_get (f := g) (by omega), thenL_get (f := thenL f g) (by rw [thenL_len]; exact hk), thenL_get hk]
theorem still_way {A A' : List ByteArray} {B B' : List (Int × Int)} {I J I' J' X Y : List Int} (hx : arB A B A' B' X = true) (hy : arB A' B' A B Y = true) (hr : Reach A.length I J) (hs : A.length ≤ 40)
    (ti : thenB I A.length = true) (tj : thenB J A.length = true) (e1 : thenL I X = I') (e2 : thenL J X = J') (e3 : thenL I' Y = I) (e4 : thenL J' Y = J) : stillB X Y = true := by
  have hl := (arB_parts hx).2.2.1
  rw [(still_of hx hy).2, idN_nat hs]
  refine decide_eq_true (way_only hr (by rw [thenL_len]; exact hl) (idL_len _) ?_ ?_)
  · rw [thenL_assoc (by rw [hl]; exact ti), e1, e3, thenL_id2 ti]
  · rw [thenL_assoc (by rw [hl]; exact tj), e2, e4, thenL_id2 tj]
/-- There and back. -/
theorem swap_ex {L0 L L' A AQ : List ByteArray} {P0 P P' B BQ : List (Int × Int)} {f g I J IQ JQ : List Int} {r r2 : Int} (hv : PushV L0 P0 L P L' P' f g A B I J r) (hv2 : PushV L0 P0 L' P' L P g f AQ BQ IQ JQ r2) :
    r2 = r ∧ ∃ X Y, ((r = 10 ∨ r = 11) ∧ X = [] ∧ Y = []) ∨ (r = 0 ∧ PushA L0 L L' A P0 P P' B f g I J ∧ PushA L0 L' L AQ P0 P' P BQ g f IQ JQ ∧ X.length = A.length ∧ thenL I X = JQ ∧ thenL J X = IQ ∧ Y.length = AQ.length ∧ thenL IQ Y = J ∧ thenL JQ Y = I ∧ invB A B AQ BQ X Y = true) := by
  have hrr : r2 = r := by rw [hv.r, hv2.r, pushR_swap]
  subst hrr
  refine ⟨rfl, ?_⟩
  rcases hv.cases with ⟨h1, _⟩ | ⟨h1, hP⟩
  · exact ⟨[], [], .inl ⟨h1, rfl, rfl⟩⟩
  · have hQ := (hv2.cases.resolve_left (fun h => by have := h.1; omega)).2
    obtain ⟨x1, x2, x3⟩ := hP.way AQ BQ JQ IQ hQ.squ.aj hQ.squ.ai hQ.squ.same.symm
    obtain ⟨y1, y2, y3⟩ := hQ.way A B J I hP.squ.aj hP.squ.ai hP.squ.same.symm
    refine ⟨_, _, .inr ⟨h1, hP, hQ, (arB_parts x1).2.2.1, x2, x3, (arB_parts y1).2.2.1, y2, y3, ?_⟩⟩
    unfold invB
    rw [x1, y1, still_way x1 y1 hP.reach hP.small (hP.thenI rfl).1 (hP.thenI rfl).2 x2 x3 y3 y2, still_way y1 x1 hQ.reach hQ.small (hQ.thenI rfl).1 (hQ.thenI rfl).2 y2 y3 x3 x2]
    rfl

set_option maxRecDepth 20000 in
set_option maxHeartbeats 4000000 in
theorem coneSwaps_in (p0 q0 p1 q1 p2 q2 pf pg : Option Addr) (n0 c0 m0 d0 n1 c1 m1 d1 n2 c2 m2 d2 nf cf ng cg : Nat) (lo0 hi0 lo1 hi1 lo2 hi2 lof hif log hig : Nat) (L0 L1 L2 : List ByteArray) (P0 P1 P2 : List (Int × Int)) (f g : List Int) (w : World) (a0 : ObjAt w lo0 hi0 p0 n0 q0 m0 L0 P0) (a1 : ObjAt w lo1 hi1 p1 n1 q1 m1 L1 P1) (a2 : ObjAt w lo2 hi2 p2 n2 q2 m2 L2 P2) (zf : ZsAt w lof hif pf nf f) (zg : ZsAt w log hig pg ng g) (g0 : n0 ≤ maxLen) (g1 : n1 ≤ maxLen) (g2 : n2 ≤ maxLen) (k1 : p1 = none → c1 = 0) (k2 : p2 = none → c2 = 0) (k3 : q1 = none → d1 = 0) (k4 : q2 = none → d2 = 0) (ht : Tab w) :
    Calls Tryd.prog 5 #[.agg #[.slice p0 n0 c0, .slice q0 m0 d0], .agg #[.slice p1 n1 c1, .slice q1 m1 d1], .agg #[.slice p2 n2 c2, .slice q2 m2 d2], .slice pf nf cf, .slice pg ng cg] w fun e w' => e = .returned (.bool true) ∧ w.grownBy w' none := by
  have A0 := Lib.hid a0
  have N0 := Lib.hid g0
  have LL0 := Lib.hid a0.ls.len
  have A1 := Lib.hid a1
  have N1 := Lib.hid g1
  have LL1 := Lib.hid a1.ls.len
  have A2 := Lib.hid a2
  have N2 := Lib.hid g2
  have LL2 := Lib.hid a2.ls.len
  have Zf := Lib.hid zf
  have Zg := Lib.hid zg
  have K1 := Lib.hid k1
  have K2 := Lib.hid k2
  have K3 := Lib.hid k3
  have K4 := Lib.hid k4
  have HT := Lib.hid ht
  clear a0 g0 a1 g1 a2 g2 zf zg k1 k2 k3 k4 ht
  go_enter Tryd.func5, Tryd.ntmps5
  go_wp2_with fail
  have he := boxEnv_three w (.slice p0 n0 c0) (.slice q0 m0 d0) (.slice p1 n1 c1) (.slice q1 m1 d1) (.slice p2 n2 c2) (.slice q2 m2 d2)
  generalize ((w.alloc (.cells #[.slice p0 n0 c0, .slice q0 m0 d0] 25)).alloc (.cells #[.slice p1 n1 c1, .slice q1 m1 d1] 25)).alloc (.cells #[.slice p2 n2 c2, .slice q2 m2 d2] 25) = W0 at *
  refine (known8_c _ (HT.out.grown he.1 (by simp))).mono ?_
  rintro e w1 ⟨rfl, hg1⟩
  have he1 := he.calm hg1
  have HE1 := Lib.hid he1
  obtain ⟨x00, x01, x10, x11, x20, x21⟩ := he1.three
  clear he hg1 he1
  go_wp2_with fail
  cases hfw : fewB L0 m0 with
  | false =>
    have HW := Lib.hid hfw
    clear hfw
    refine (few_r _ _ _ _ _ _ _ _ L0 P0 false _ (A0.out.calm HE1.out.1) N0.out HW.out).mono ?_
    rintro e w2 ⟨rfl, hg⟩
    have HG := Lib.hid (HE1.out.calm hg).1
    clear hg
    go_wp2
    go_ret
    exact ⟨rfl, HG.out⟩
  | true =>
    have HW0 := Lib.hid hfw
    clear hfw
    refine (few_r _ _ _ _ _ _ _ _ L0 P0 true _ (A0.out.calm HE1.out.1) N0.out HW0.out).mono ?_
    rintro e w2 ⟨rfl, hg⟩
    have he2 := HE1.out.calm hg
    have HE2 := Lib.hid he2
    obtain ⟨x00, x01, x10, x11, x20, x21⟩ := he2.three
    clear hg he2 HE1
    go_wp2_with fail
    cases hfw : fewB L1 m1 with
    | false =>
      have HW := Lib.hid hfw
      clear hfw
      refine (few_r _ _ _ _ _ _ _ _ L1 P1 false _ (A1.out.calm HE2.out.1) N1.out HW.out).mono ?_
      rintro e w3 ⟨rfl, hg⟩
      have HG := Lib.hid (HE2.out.calm hg).1
      clear hg
      go_wp2
      go_ret
      exact ⟨rfl, HG.out⟩
    | true =>
      have HW1 := Lib.hid hfw
      clear hfw
      refine (few_r _ _ _ _ _ _ _ _ L1 P1 true _ (A1.out.calm HE2.out.1) N1.out HW1.out).mono ?_
      rintro e w3 ⟨rfl, hg⟩
      have he3 := HE2.out.calm hg
      have HE3 := Lib.hid he3
      obtain ⟨x00, x01, x10, x11, x20, x21⟩ := he3.three
      clear hg he3 HE2
      go_wp2_with fail
      cases hfw : fewB L2 m2 with
      | false =>
        have HW := Lib.hid hfw
        clear hfw
        refine (few_r _ _ _ _ _ _ _ _ L2 P2 false _ (A2.out.calm HE3.out.1) N2.out HW.out).mono ?_
        rintro e w4 ⟨rfl, hg⟩
        have HG := Lib.hid (HE3.out.calm hg).1
        clear hg
        go_wp2
        go_ret
        exact ⟨rfl, HG.out⟩
      | true =>
        have HW2 := Lib.hid hfw
        clear hfw
        refine (few_r _ _ _ _ _ _ _ _ L2 P2 true _ (A2.out.calm HE3.out.1) N2.out HW2.out).mono ?_
        rintro e w4 ⟨rfl, hg⟩
        have he4 := HE3.out.calm hg
        have HE4 := Lib.hid he4
        obtain ⟨x00, x01, x10, x11, x20, x21⟩ := he4.three
        have HG := Lib.hid he4.1
        have HE := Lib.hid he4
        clear hg he4 HE3
        clear HE4
        by_cases h60 : 60 < nf
        · have d1 : (60 : Int) < nf := by omega
          go_wp2
          go_ret
          exact ⟨rfl, HG.out⟩
        have dnf : ¬ ((60 : Int) < nf) := by omega
        have bf : nf ≤ 60 := by omega
        clear h60
        by_cases h60 : 60 < ng
        · have d1 : (60 : Int) < ng := by omega
          go_wp2
          go_ret
          exact ⟨rfl, HG.out⟩
        have dng : ¬ ((60 : Int) < ng) := by omega
        have bg : ng ≤ 60 := by omega
        clear h60
        have kk0 : n0 ≤ 50 ∧ m0 ≤ 200 := by have := few_small HW0.out; rwa [LL0.out] at this
        have kk1 : n1 ≤ 50 ∧ m1 ≤ 200 := by have := few_small HW1.out; rwa [LL1.out] at this
        have kk2 : n2 ≤ 50 ∧ m2 ≤ 200 := by have := few_small HW2.out; rwa [LL2.out] at this
        obtain ⟨A, B, I, J, r, hp⟩ := pushV_ex L0 P0 L1 P1 L2 P2 f g
        obtain ⟨AQ, BQ, IQ, JQ, r2, hq⟩ := pushV_ex L0 P0 L2 P2 L1 P1 g f
        obtain ⟨rfl, X, Y, hcs⟩ := swap_ex hp hq
        have HP := Lib.hid hp
        have HQ := Lib.hid hq
        have HCS := Lib.hid hcs
        clear hp hq hcs
        go_wp2_with fail
        have he := HE.out
        refine (swap_v p0 q0 p1 q1 p2 q2 pf pg n0 c0 m0 d0 n1 c1 m1 d1 n2 c2 m2 d2 nf cf ng cg _ _ _ _ _ _ _ _ _ _ L0 L1 L2 P0 P1 P2 f g A AQ B BQ I J IQ JQ X Y r2 _ HP.out HQ.out (by rcases HCS.out with ⟨h1, h2, h3⟩ | ⟨h1, _, _, h2, h3, h4, h5, h6, h7, _⟩; exact .inl ⟨by omega, h2, h3⟩; exact .inr ⟨h1, h2, h3, h4, h5, h6, h7⟩) (A0.out.calm he.1) (A1.out.calm he.1) (A2.out.calm he.1) (Zf.out.calm he.1) (Zg.out.calm he.1) kk0 kk1 kk2 bf bg K1.out K2.out K3.out K4.out (HT.out.grown he.1 (by simp))).mono ?_
        rintro e v1 ⟨px, cx, py, cy, rfl, hx, hy, hg⟩
        have he5 := he.calm hg
        have HE5 := Lib.hid he5
        have HX5 := Lib.hid hx
        have HY5 := Lib.hid hy
        obtain ⟨x00, x01, x10, x11, x20, x21⟩ := he5.three
        obtain ⟨NX, hNX⟩ : ∃ NX, X.length = NX := ⟨_, rfl⟩
        obtain ⟨NY, hNY⟩ : ∃ NY, Y.length = NY := ⟨_, rfl⟩
        obtain ⟨NA, hNA⟩ : ∃ NA, A.length = NA := ⟨_, rfl⟩
        obtain ⟨NB, hNB⟩ : ∃ NB, B.length = NB := ⟨_, rfl⟩
        obtain ⟨NI, hNI⟩ : ∃ NI, I.length = NI := ⟨_, rfl⟩
        obtain ⟨NJ, hNJ⟩ : ∃ NJ, J.length = NJ := ⟨_, rfl⟩
        obtain ⟨NC, hNC⟩ : ∃ NC, AQ.length = NC := ⟨_, rfl⟩
        obtain ⟨ND, hND⟩ : ∃ ND, BQ.length = ND := ⟨_, rfl⟩
        obtain ⟨NK, hNK⟩ : ∃ NK, IQ.length = NK := ⟨_, rfl⟩
        obtain ⟨NL, hNL⟩ : ∃ NL, JQ.length = NL := ⟨_, rfl⟩
        have HN1 := Lib.hid hNX
        have HN2 := Lib.hid hNY
        have HN3 := Lib.hid hNA
        have HN4 := Lib.hid hNB
        have HN5 := Lib.hid hNI
        have HN6 := Lib.hid hNJ
        have HN7 := Lib.hid hNC
        have HN8 := Lib.hid hND
        have HN9 := Lib.hid hNK
        have HNL := Lib.hid hNL
        rw [HN1.out] at HX5 ⊢
        rw [HN2.out] at HY5 ⊢
        clear he hg hx hy HE HG he5 hNX hNY hNA hNB hNI hNJ hNC hND hNK hNL
        go_wp2_with fail
        have he := HE5.out
        refine (refPush_v p0 q0 p1 q1 p2 q2 pf pg n0 c0 m0 d0 n1 c1 m1 d1 n2 c2 m2 d2 nf cf ng cg _ _ _ _ _ _ _ _ _ _ L0 L1 L2 P0 P1 P2 f g A B I J r2 _ HP.out (A0.out.calm he.1) (A1.out.calm he.1) (A2.out.calm he.1) (Zf.out.calm he.1) (Zg.out.calm he.1) kk0 kk1 kk2 bf bg K1.out K2.out K3.out).mono ?_
        rintro e v2 ⟨p5, c5, q5, d5, pi, ci, pj, cj, rfl, ho, hi, hj, hg⟩
        rw [HN3.out, HN4.out] at ho ⊢
        rw [HN5.out] at hi ⊢
        rw [HN6.out] at hj ⊢
        have hga := World.grownBy_alloc v2 (.cells #[.slice p5 NA c5, .slice q5 NB d5] 25) none
        have hbo := BoxO.new v2 (.slice p5 NA c5) (.slice q5 NB d5)
        have hg2 := grownBy_trans hg hga
        have he6 := he.calm hg2
        have HE6 := Lib.hid he6
        have HO6 := Lib.hid (ho.calm hga)
        have HI6 := Lib.hid (hi.calm hga)
        have HJ6 := Lib.hid (hj.calm hga)
        have HX6 := Lib.hid (HX5.out.calm hg2)
        have HY6 := Lib.hid (HY5.out.calm hg2)
        have HB6 := Lib.hid hbo
        obtain ⟨x00, x01, x10, x11, x20, x21⟩ := he6.three
        clear he ho hi hj hg hga hbo hg2 he6 HE5 HX5 HY5
        go_wp2_with fail
        generalize v2.alloc (.cells #[.slice p5 NA c5, .slice q5 NB d5] 25) = v3 at *
        generalize v2.heap.size = gq at *
        have he := HE6.out
        refine (refPush_v p0 q0 p2 q2 p1 q1 pg pf n0 c0 m0 d0 n2 c2 m2 d2 n1 c1 m1 d1 ng cg nf cf _ _ _ _ _ _ _ _ _ _ L0 L2 L1 P0 P2 P1 g f AQ BQ IQ JQ r2 _ HQ.out (A0.out.calm he.1) (A2.out.calm he.1) (A1.out.calm he.1) (Zg.out.calm he.1) (Zf.out.calm he.1) kk0 kk2 kk1 bg bf K2.out K1.out K4.out).mono ?_
        rintro e v4 ⟨p6, c6, q6, d6, pk, ck, pl, cl, rfl, ho, hi, hj, hg⟩
        rw [HN7.out, HN8.out] at ho ⊢
        rw [HN9.out] at hi ⊢
        rw [HNL.out] at hj ⊢
        have hga := World.grownBy_alloc v4 (.cells #[.slice p6 NC c6, .slice q6 ND d6] 25) none
        have hbo := BoxO.new v4 (.slice p6 NC c6) (.slice q6 ND d6)
        have hg2 := grownBy_trans hg hga
        have he7 := he.calm hg2
        have HE7 := Lib.hid he7
        have HO7 := Lib.hid (HO6.out.calm hg2)
        have HI7 := Lib.hid (HI6.out.calm hg2)
        have HJ7 := Lib.hid (HJ6.out.calm hg2)
        have HX7 := Lib.hid (HX6.out.calm hg2)
        have HY7 := Lib.hid (HY6.out.calm hg2)
        have HB7 := Lib.hid (HB6.out.calm hg2)
        have HOQ := Lib.hid (ho.calm hga)
        have HIQ := Lib.hid (hi.calm hga)
        have HJQ := Lib.hid (hj.calm hga)
        have HBQ := Lib.hid hbo
        clear he ho hi hj hg hga hbo hg2 he7 HE6 HO6 HI6 HJ6 HX6 HY6 HB6 HP HQ x00 x01 x10 x11 x20 x21
        rcases HCS.out with ⟨h1, h2, h3⟩ | ⟨rfl, hP, hQ, e1, e2, e3, e4, e5, e6, e7⟩
        · obtain rfl : NX = 0 := by rw [← HN1.out, h2]; rfl
          obtain rfl : NY = 0 := by rw [← HN2.out, h3]; rfl
          have HF := Lib.hid HE7.out.1
          clear h2 h3 HCS
          rcases h1 with rfl | rfl
          all_goals
            go_wp2
            go_ret
            exact ⟨rfl, HF.out⟩
        · have hNX : NX = NA := by rw [← HN1.out, ← HN3.out]; exact e1
          have hNY : NY = NC := by rw [← HN2.out, ← HN7.out]; exact e4
          have hs : NA ≤ 40 ∧ NB ≤ 1600 ∧ NI ≤ 40 ∧ NJ ≤ 40 ∧ NC ≤ 40 ∧ ND ≤ 1600 ∧ NI = NL ∧ NJ = NK := by
            have a1 := hP.few
            have a2 := hP.squ.il
            have a3 := hP.squ.jl
            have a4 := hP.small
            have a5 := hP.pairs
            have a6 := hQ.squ.il
            have a7 := hQ.squ.jl
            have a8 := hQ.small
            have a9 := hQ.pairs
            have b1 := HN3.out
            have b2 := HN4.out
            have b3 := HN5.out
            have b4 := HN6.out
            have b5 := HN7.out
            have b6 := HN8.out
            have b7 := HN9.out
            have b8 := HNL.out
            omega
          obtain ⟨s1, s2, s3, s4, s5, s6, s7, s8⟩ := hs
          subst hNX hNY s7 s8
          have HTI := Lib.hid (hP.thenI e1)
          have HQ2 := Lib.hid e2
          have HQ3 := Lib.hid e3
          have HQ7 := Lib.hid e7
          clear hP hQ e1 e2 e3 e4 e5 e6 e7 HCS
          go_wp2_with fail
          generalize v4.alloc (.cells #[.slice p6 NY c6, .slice q6 ND d6] 25) = v5 at *
          generalize v4.heap.size = gr at *
          refine (then_c pi px NI ci NX cx _ _ _ _ I X _ HI7.out HX7.out (by omega)).mono ?_
          rintro e v6 ⟨hg, ⟨h1, gx, rfl, hgx, hrx⟩ | ⟨h1, rfl⟩⟩
          rotate_left
          · exact absurd h1 (by rw [HTI.out.1]; decide)
          have HXA := Lib.hid hrx.at1
          have HGA := Lib.hid hg
          rw [HN5.out]
          clear h1 hgx hrx hg
          go_wp2_with fail
          refine (then_c pj px NJ cj NX cx _ _ _ _ J X _ (HJ7.out.calm HGA.out) (HX7.out.calm HGA.out) (by omega)).mono ?_
          rintro e v7 ⟨hg, ⟨h1, gy, rfl, hgy, hry⟩ | ⟨h1, rfl⟩⟩
          rotate_left
          · exact absurd h1 (by rw [HTI.out.2]; decide)
          have hxb := HXA.out.calm hg
          have hyb := hry.at1
          rw [thenL_len, HN5.out, HQ2.out] at hxb
          rw [thenL_len, HN6.out, HQ3.out] at hyb
          have HXB := Lib.hid hxb
          have HYB := Lib.hid hyb
          have HGB := Lib.hid (grownBy_trans HGA.out hg)
          rw [HN6.out]
          have hb1 := HB7.out.calm HGB.out
          have hb2 := HBQ.out.calm HGB.out
          have y0 := hb1.c0
          have y1 := hb1.c1
          have z0 := hb2.c0
          have z1 := hb2.c1
          clear h1 hgy hry hg hxb hyb hb1 hb2 HXA HGA
          go_wp2_with fail
          refine (arInv_r p5 q5 p6 q6 px py NX c5 NB d5 NY c6 ND d6 NX cx NY cy _ _ _ _ _ _ _ _ A AQ B BQ X Y true _ (HO7.out.calm HGB.out) (HOQ.out.calm HGB.out) (HX7.out.calm HGB.out) (HY7.out.calm HGB.out) (by omega) (by omega) (by omega) (by omega) HQ7.out).mono ?_
          rintro e v8 ⟨rfl, hg⟩
          have HGC := Lib.hid (grownBy_trans HGB.out hg)
          have hxc := HXB.out.calm hg
          have HYC := Lib.hid (HYB.out.calm hg)
          clear hg HGB HXB HYB
          go_wp2_with fail
          refine (arSame_r _ _ _ _ _ _ _ _ _ _ JQ JQ true _ hxc (HJQ.out.calm HGC.out) (by omega) (by simp)).mono ?_
          rintro e v9 ⟨rfl, hg⟩
          have HGD := Lib.hid (grownBy_trans HGC.out hg)
          have hyd := HYC.out.calm hg
          clear hg HGC HYC hxc
          go_wp2_with fail
          refine (arSame_r _ _ _ _ _ _ _ _ _ _ IQ IQ true _ hyd (HIQ.out.calm HGD.out) (by omega) (by simp)).mono ?_
          rintro e va ⟨rfl, hg⟩
          have HF := Lib.hid (HE7.out.calm (grownBy_trans HGD.out hg)).1
          clear hg
          go_wp2
          go_ret
          exact ⟨rfl, HF.out⟩

end Go.Proofs.YtgpcakcjiaoimaaDoor
