/- The walk of ColimPush. -/
import Derived.Test.YthmebbnoicldcaaDoorKnow9
import Derived.Test.YthmebbnoicldcaaDoorConC
import Derived.Test.YthmebbnoicldcaaDoorColQ
namespace Go.Proofs.YthmebbnoicldcaaDoor
open Go.RowKit Go.Shelf

set_option maxRecDepth 20000 in
set_option maxHeartbeats 4000000 in
theorem colimPush_in (p0 q0 p1 q1 p2 q2 pf pg : Option Addr) (n0 c0 m0 d0 n1 c1 m1 d1 n2 c2 m2 d2 nf cf ng cg : Nat) (lo0 hi0 lo1 hi1 lo2 hi2 lof hif log hig : Nat) (L0 L1 L2 : List ByteArray) (P0 P1 P2 : List (Int × Int)) (f g : List Int) (w : World) (a0 : ObjAt w lo0 hi0 p0 n0 q0 m0 L0 P0) (a1 : ObjAt w lo1 hi1 p1 n1 q1 m1 L1 P1) (a2 : ObjAt w lo2 hi2 p2 n2 q2 m2 L2 P2) (zf : ZsAt w lof hif pf nf f) (zg : ZsAt w log hig pg ng g) (g0 : n0 ≤ maxLen) (g1 : n1 ≤ maxLen) (g2 : n2 ≤ maxLen) (k1 : p1 = none → c1 = 0) (k2 : p2 = none → c2 = 0) (k3 : q1 = none → d1 = 0) (k4 : q2 = none → d2 = 0) (k5 : p0 = none → c0 = 0) (k6 : q0 = none → d0 = 0) (ht : Tab w) :
    Calls Tryd.prog 4 #[.agg #[.slice p0 n0 c0, .slice q0 m0 d0], .agg #[.slice p1 n1 c1, .slice q1 m1 d1], .agg #[.slice p2 n2 c2, .slice q2 m2 d2], .slice pf nf cf, .slice pg ng cg] w fun e w' => e = .returned (.bool true) ∧ w.grownBy w' none := by
  have K5 := Lib.hid k5
  have K6 := Lib.hid k6
  clear k5 k6
  have A0 := Lib.hid a0
  have N0 := Lib.hid g0
  have LL0 := Lib.hid a0.ls.len
  have A1 := Lib.hid a1
  have N1 := Lib.hid g1
  have LL1 := Lib.hid a1.ls.len
  have A2 := Lib.hid a2
  have N2 := Lib.hid g2
  have LL2 := Lib.hid a2.ls.len
  have Zf := Lib.hid zf
  have Zg := Lib.hid zg
  have K1 := Lib.hid k1
  have K2 := Lib.hid k2
  have K3 := Lib.hid k3
  have K4 := Lib.hid k4
  have HT := Lib.hid ht
  clear a0 g0 a1 g1 a2 g2 zf zg k1 k2 k3 k4 ht
  go_enter Tryd.func4, Tryd.ntmps4
  go_wp2_with fail
  have he := boxEnv_three w (.slice p0 n0 c0) (.slice q0 m0 d0) (.slice p1 n1 c1) (.slice q1 m1 d1) (.slice p2 n2 c2) (.slice q2 m2 d2)
  generalize ((w.alloc (.cells #[.slice p0 n0 c0, .slice q0 m0 d0] 29)).alloc (.cells #[.slice p1 n1 c1, .slice q1 m1 d1] 29)).alloc (.cells #[.slice p2 n2 c2, .slice q2 m2 d2] 29) = W0 at *
  refine (known9_c _ (HT.out.grown he.1 (by simp))).mono ?_
  rintro e w1 ⟨rfl, hg1⟩
  have he1 := he.calm hg1
  have HE1 := Lib.hid he1
  obtain ⟨x00, x01, x10, x11, x20, x21⟩ := he1.three
  clear he hg1 he1
  go_wp2_with fail
  cases hfw : fewB L0 m0 with
  | false =>
    have HW := Lib.hid hfw
    clear hfw
    refine (few_r _ _ _ _ _ _ _ _ L0 P0 false _ (A0.out.calm HE1.out.1) N0.out HW.out).mono ?_
    rintro e w2 ⟨rfl, hg⟩
    have HG := Lib.hid (HE1.out.calm hg).1
    clear hg
    go_wp2
    go_ret
    exact ⟨rfl, HG.out⟩
  | true =>
    have HW0 := Lib.hid hfw
    clear hfw
    refine (few_r _ _ _ _ _ _ _ _ L0 P0 true _ (A0.out.calm HE1.out.1) N0.out HW0.out).mono ?_
    rintro e w2 ⟨rfl, hg⟩
    have he2 := HE1.out.calm hg
    have HE2 := Lib.hid he2
    obtain ⟨x00, x01, x10, x11, x20, x21⟩ := he2.three
    clear hg he2 HE1
    go_wp2_with fail
    cases hfw : fewB L1 m1 with
    | false =>
      have HW := Lib.hid hfw
      clear hfw
      refine (few_r _ _ _ _ _ _ _ _ L1 P1 false _ (A1.out.calm HE2.out.1) N1.out HW.out).mono ?_
      rintro e w3 ⟨rfl, hg⟩
      have HG := Lib.hid (HE2.out.calm hg).1
      clear hg
      go_wp2
      go_ret
      exact ⟨rfl, HG.out⟩
    | true =>
      have HW1 := Lib.hid hfw
      clear hfw
      refine (few_r _ _ _ _ _ _ _ _ L1 P1 true _ (A1.out.calm HE2.out.1) N1.out HW1.out).mono ?_
      rintro e w3 ⟨rfl, hg⟩
      have he3 := HE2.out.calm hg
      have HE3 := Lib.hid he3
      obtain ⟨x00, x01, x10, x11, x20, x21⟩ := he3.three
      clear hg he3 HE2
      go_wp2_with fail
      cases hfw : fewB L2 m2 with
      | false =>
        have HW := Lib.hid hfw
        clear hfw
        refine (few_r _ _ _ _ _ _ _ _ L2 P2 false _ (A2.out.calm HE3.out.1) N2.out HW.out).mono ?_
        rintro e w4 ⟨rfl, hg⟩
        have HG := Lib.hid (HE3.out.calm hg).1
        clear hg
        go_wp2
        go_ret
        exact ⟨rfl, HG.out⟩
      | true =>
        have HW2 := Lib.hid hfw
        clear hfw
        refine (few_r _ _ _ _ _ _ _ _ L2 P2 true _ (A2.out.calm HE3.out.1) N2.out HW2.out).mono ?_
        rintro e w4 ⟨rfl, hg⟩
        have he4 := HE3.out.calm hg
        have HE4 := Lib.hid he4
        obtain ⟨x00, x01, x10, x11, x20, x21⟩ := he4.three
        have HG := Lib.hid he4.1
        have HE := Lib.hid he4
        clear hg he4 HE3
        clear HE4
        by_cases h60 : 60 < nf
        · have d1 : (60 : Int) < nf := by omega
          go_wp2
          go_ret
          exact ⟨rfl, HG.out⟩
        have dnf : ¬ ((60 : Int) < nf) := by omega
        have bf : nf ≤ 60 := by omega
        clear h60
        by_cases h60 : 60 < ng
        · have d1 : (60 : Int) < ng := by omega
          go_wp2
          go_ret
          exact ⟨rfl, HG.out⟩
        have dng : ¬ ((60 : Int) < ng) := by omega
        have bg : ng ≤ 60 := by omega
        clear h60
        have kk0 : n0 ≤ 50 ∧ m0 ≤ 200 := by have := few_small HW0.out; rwa [LL0.out] at this
        have kk1 : n1 ≤ 50 ∧ m1 ≤ 200 := by have := few_small HW1.out; rwa [LL1.out] at this
        have kk2 : n2 ≤ 50 ∧ m2 ≤ 200 := by have := few_small HW2.out; rwa [LL2.out] at this
        go_wp2_with fail
        obtain ⟨A, B, I, J, r, hv⟩ := pushV_ex L0 P0 L1 P1 L2 P2 f g
        have HC := Lib.hid hv.cases
        have HV := Lib.hid hv
        refine (refPush_v p0 q0 p1 q1 p2 q2 pf pg n0 c0 m0 d0 n1 c1 m1 d1 n2 c2 m2 d2 nf cf ng cg _ _ _ _ _ _ _ _ _ _ L0 L1 L2 P0 P1 P2 f g A B I J r _ hv (A0.out.calm HG.out) (A1.out.calm HG.out) (A2.out.calm HG.out) (Zf.out.calm HG.out) (Zg.out.calm HG.out) kk0 kk1 kk2 bf bg K1.out K2.out K3.out).mono ?_
        rintro e w5 ⟨pa, ca, pb, cb, pi, ci, pj, cj, rfl, hob, hI, hJ, hg⟩
        have he5 := HE.out.calm hg
        clear hv
        rcases HC.out with ⟨hr, rfl, rfl, rfl, rfl⟩ | ⟨rfl, hPA⟩
        · have HG5 := Lib.hid (grownBy_trans he5.1 (World.grownBy_alloc w5 (.cells #[.slice pa ([] : List ByteArray).length ca, .slice pb ([] : List (Int × Int)).length cb] 29) none))
          clear he5 hob hI hJ hg
          rcases hr with rfl | rfl
          · go_wp2
            go_ret
            exact ⟨rfl, HG5.out⟩
          · go_wp2
            go_ret
            exact ⟨rfl, HG5.out⟩
        have HPA := Lib.hid hPA
        clear hPA
        have hga := World.grownBy_alloc w5 (.cells #[.slice pa A.length ca, .slice pb B.length cb] 29) none
        have hbx := BoxO.new w5 (.slice pa A.length ca) (.slice pb B.length cb)
        have he6 := he5.calm hga
        have HE6 := Lib.hid he6
        have HBX := Lib.hid hbx
        have HOB := Lib.hid (hob.calm hga)
        have HI := Lib.hid (hI.calm hga)
        have HJ := Lib.hid (hJ.calm hga)
        clear x00 x01 x10 x11 x20 x21
        obtain ⟨x00, x01, x10, x11, x20, x21⟩ := he6.three
        clear hob hI hJ hg hga hbx he5 he6 HE
        go_upto_region 6 with fail
        generalize w5.alloc (.cells #[.slice pa A.length ca, .slice pb B.length cb] 29) = W6 at *
        generalize w5.heap.size = g6 at *
        by_cases h40 : 40 < n0 + n1 + n2
        · have e40 : (40 : Int) < (n0 : Int) + n1 + n2 := by omega
          have HG6 := Lib.hid HE6.out.1
          go_wp2
          go_ret
          exact ⟨rfl, HG6.out⟩
        have e40 : ¬ ((40 : Int) < (n0 : Int) + n1 + n2) := by omega
        go_wp2_with fail
        change Calls _ _ _ (allocL W6 [.cells #[.slice p1 n1 c1, .slice q1 m1 d1, .slice p2 n2 c2, .slice q2 m2 d2, .slice p0 n0 c0, .slice q0 m0 d0] 29, .cells #[.int .i64 2, .int .i64 0, .slice pf nf cf, .int .i64 2, .int .i64 1, .slice pg ng cg] 50]) _
        obtain ⟨hg7, hb7⟩ := allocL_facts [.cells #[.slice p1 n1 c1, .slice q1 m1 d1, .slice p2 n2 c2, .slice q2 m2 d2, .slice p0 n0 c0, .slice q0 m0 d0] 29, .cells #[.int .i64 2, .int .i64 0, .slice pf nf cf, .int .i64 2, .int .i64 1, .slice pg ng cg] 50] W6
        generalize allocL W6 [.cells #[.slice p1 n1 c1, .slice q1 m1 d1, .slice p2 n2 c2, .slice q2 m2 d2, .slice p0 n0 c0, .slice q0 m0 d0] 29, .cells #[.int .i64 2, .int .i64 0, .slice pf nf cf, .int .i64 2, .int .i64 1, .slice pg ng cg] 50] = W7 at *
        have hb0 : W7.heap[W6.heap.size]? = _ := hb7 0 (by simp)
        have hb1 : W7.heap[W6.heap.size + 1]? = _ := hb7 1 (by simp)
        have hlt : W6.heap.size + 1 < W7.heap.size := (Array.getElem?_eq_some_iff.1 hb1).1
        have he7 := HE6.out.calm hg7
        have hnod := nodes_of (g := W6.heap.size) (lo := 0) (hi := W7.heap.size) (xs := pN L0 L1 L2 P0 P1 P2) (vs := [.slice p1 n1 c1, .slice q1 m1 d1, .slice p2 n2 c2, .slice q2 m2 d2, .slice p0 n0 c0, .slice q0 m0 d0]) hb0 (Nat.zero_le _) (by omega) (Nat.le_refl _) (fun k hk => by
          match k, hk with
          | 0, _ => exact ⟨_, _, _, _, _, _, rfl, rfl, objAt_wide (A1.out.calm he7.1), N1.out, K1.out, K3.out⟩
          | 1, _ => exact ⟨_, _, _, _, _, _, rfl, rfl, objAt_wide (A2.out.calm he7.1), N2.out, K2.out, K4.out⟩
          | 2, _ => exact ⟨_, _, _, _, _, _, rfl, rfl, objAt_wide (A0.out.calm he7.1), N0.out, K5.out, K6.out⟩)
        have harr := arrs_of (g := W6.heap.size + 1) (lo := 0) (hi := W7.heap.size) (xs := pA f g) (vs := [.int .i64 2, .int .i64 0, .slice pf nf cf, .int .i64 2, .int .i64 1, .slice pg ng cg]) hb1 (Nat.zero_le _) (by omega) (Nat.le_refl _) (fun k hk => by
          match k, hk with
          | 0, _ => exact ⟨_, _, _, rfl, rfl, rfl, (Zf.out.calm he7.1).wideZ⟩
          | 1, _ => exact ⟨_, _, _, rfl, rfl, rfl, (Zg.out.calm he7.1).wideZ⟩)
        have hfew : DFew (pN L0 L1 L2 P0 P1 P2) (pA f g) := by
          refine ⟨by show 3 ≤ 10; decide, fun k hk => ?_, by show 2 ≤ 12; decide, fun a ha => ?_⟩
          · match k, hk with
            | 0, _ => exact few_small HW1.out |> fun h => ⟨h.1, by show P1.length ≤ 200; rw [A1.out.ps.len]; exact h.2⟩
            | 1, _ => exact few_small HW2.out |> fun h => ⟨h.1, by show P2.length ≤ 200; rw [A2.out.ps.len]; exact h.2⟩
            | 2, _ => exact few_small HW0.out |> fun h => ⟨h.1, by show P0.length ≤ 200; rw [A0.out.ps.len]; exact h.2⟩
          · match a, ha with
            | 0, _ => show f.length ≤ 60; rw [Zf.out.len]; exact bf
            | 1, _ => show g.length ≤ 60; rw [Zg.out.len]; exact bg
        obtain ⟨K, hcol⟩ := colim_push HV.out (by rw [LL0.out, LL1.out, LL2.out]; omega)
        have hlen : (pN L0 L1 L2 P0 P1 P2).length = 3 := rfl
        have hlen2 : (pA f g).length = 2 := rfl
        rw [hlen] at hnod
        rw [hlen2] at harr
        have HOB7 := Lib.hid (HOB.out.calm hg7)
        have HI7 := Lib.hid (HI.out.calm hg7)
        have HJ7 := Lib.hid (HJ.out.calm hg7)
        have HBX7 := Lib.hid (HBX.out.calm hg7)
        have HE7 := Lib.hid he7
        have hht := HT.out.grown he7.1 (by simp)
        clear he7 hg7 hb7 hb0 hb1 hlen hlen2 HOB HI HJ HBX HE6
        clear x00 x01 x10 x11 x20 x21
        generalize W6.heap.size = s6 at *
        refine (of9_v _ _ 3 3 2 2 _ _ _ _ (pN L0 L1 L2 P0 P1 P2) (pA f g) A B [I, J, K] 0 W7 hcol hnod harr hfew hht).mono ?_
        rintro e w8 ⟨u, v, pl, cl, rfl, hob, hlg, hg⟩
        obtain ⟨pc, cc, pd, cd, rfl, rfl, hoat, _, _⟩ := hob.form
        rw [show ([I, J, K] : List (List Int)).length = 3 from rfl] at *
        have hga := World.grownBy_alloc w8 (.cells #[.slice pc A.length cc, .slice pd B.length cd] 29) none
        have hbx := BoxO.new w8 (.slice pc A.length cc) (.slice pd B.length cd)
        have hbx7 := (HBX7.out.calm hg).calm hga
        have HQ8 := Lib.hid (hoat.calm hga)
        have HOB8 := Lib.hid ((HOB7.out.calm hg).calm hga)
        have HI8 := Lib.hid ((HI7.out.calm hg).calm hga)
        have HJ8 := Lib.hid ((HJ7.out.calm hg).calm hga)
        have HG8 := Lib.hid (grownBy_trans HE7.out.1 (grownBy_trans hg hga))
        have hl8 := hlg.calm hga
        obtain ⟨bl, ol, rfl, _, r2, r3, hcl⟩ := hl8.cell (by decide)
        obtain ⟨pm0, nm0, cm0, l0, z0⟩ := hcl 0 (by decide)
        rw [show ol + 0 = ol from rfl] at l0
        obtain ⟨pm1, nm1, cm1, l1, z1⟩ := hcl 1 (by decide)
        have HZ0 : Hid (ZsAt (w8.alloc (.cells #[.slice pc A.length cc, .slice pd B.length cd] 29)) _ _ pm0 nm0 I) := Lib.hid z0
        have HZ1 : Hid (ZsAt (w8.alloc (.cells #[.slice pc A.length cc, .slice pd B.length cd] 29)) _ _ pm1 nm1 J) := Lib.hid z1
        have y0 := hbx.c0
        have y1 := hbx.c1
        have y2 := hbx7.c0
        have y3 := hbx7.c1
        have hAl := HPA.out.small
        have hBl := HPA.out.pairs
        have hIl : nm0 ≤ 1000000 := by
          have h1 : I.length = nm0 := HZ0.out.len
          have h2 := (arB_parts HPA.out.squ.ai).2.2.1
          have h3 := HPA.out.few
          omega
        have hJl : nm1 ≤ 1000000 := by
          have h1 : J.length = nm1 := HZ1.out.len
          have h2 := (arB_parts HPA.out.squ.aj).2.2.1
          have h3 := HPA.out.few
          omega
        clear hob hoat hlg hg hga hbx hbx7 hl8 hcl z0 z1 hnod harr hfew hcol hht HE7
        have HL0 := Lib.hid l0
        have HL1 := Lib.hid l1
        go_upto_region 9 with fail
        generalize w8.alloc (.cells #[.slice pc A.length cc, .slice pd B.length cd] 29) = W8 at *
        generalize w8.heap.size = g8 at *
        go_wp2_with fail
        refine (refSame_r _ _ _ _ _ _ _ _ _ _ _ _ _ _ _ _ A A B B true _ HQ8.out HOB8.out (by omega) (by omega) (by simp)).mono ?_
        rintro e wa ⟨rfl, hga⟩
        clear l0 l1
        have l0 := cell_calm hga HL0.out (by omega)
        have l1 := cell_calm hga HL1.out (by omega)
        have HGA := Lib.hid hga
        clear y0 y1 y2 y3 hga
        go_wp2_with fail
        refine (arSame_r _ _ _ _ _ _ _ _ _ _ _ _ true _ (HZ0.out.calm HGA.out) (HI8.out.calm HGA.out) hIl (decide_eq_true rfl)).mono ?_
        rintro e wb ⟨rfl, hgb⟩
        clear l0 l1
        have l0 := cell_calm (grownBy_trans HGA.out hgb) HL0.out (by omega)
        have l1 := cell_calm (grownBy_trans HGA.out hgb) HL1.out (by omega)
        have HGB := Lib.hid (grownBy_trans HGA.out hgb)
        clear hgb
        go_wp2_with fail
        refine (arSame_r _ _ _ _ _ _ _ _ _ _ _ _ true _ (HZ1.out.calm HGB.out) (HJ8.out.calm HGB.out) hJl (decide_eq_true rfl)).mono ?_
        rintro e wc ⟨rfl, hgc⟩
        have HGC := Lib.hid (grownBy_trans HG8.out (grownBy_trans HGB.out hgc))
        clear hgc l0 l1
        go_wp2
        go_ret
        exact ⟨rfl, HGC.out⟩

end Go.Proofs.YthmebbnoicldcaaDoor
