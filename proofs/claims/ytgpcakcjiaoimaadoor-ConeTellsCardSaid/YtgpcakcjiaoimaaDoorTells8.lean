/- The walk of the statement ConeTells: at every input it answers true and leaves all that lay as it lay. Condition: the table of the lowest places is in memory. -/
import Derived.Test.YtgpcakcjiaoimaaDoorKnow8
import Derived.Test.YtgpcakcjiaoimaaDoorQuie
namespace Go.Proofs.YtgpcakcjiaoimaaDoor
open Go.RowKit

set_option maxRecDepth 20000 in
set_option maxHeartbeats 4000000 in
theorem coneTells_in (p0 q0 p1 q1 p2 q2 p3 q3 pf pg ph pk : Option Addr) (n0 c0 m0 d0 n1 c1 m1 d1 n2 c2 m2 d2 n3 c3 m3 d3 nf cf ng cg nh ch nk ck : Nat) (lo0 hi0 lo1 hi1 lo2 hi2 lo3 hi3 lof hif log hig loh hih lok hik : Nat) (L0 L1 L2 L3 : List ByteArray) (P0 P1 P2 P3 : List (Int × Int)) (f g h k : List Int) (w : World) (a0 : ObjAt w lo0 hi0 p0 n0 q0 m0 L0 P0) (a1 : ObjAt w lo1 hi1 p1 n1 q1 m1 L1 P1) (a2 : ObjAt w lo2 hi2 p2 n2 q2 m2 L2 P2) (a3 : ObjAt w lo3 hi3 p3 n3 q3 m3 L3 P3) (zf : ZsAt w lof hif pf nf f) (zg : ZsAt w log hig pg ng g) (zh : ZsAt w loh hih ph nh h) (zk : ZsAt w lok hik pk nk k) (g0 : n0 ≤ maxLen) (g1 : n1 ≤ maxLen) (g2 : n2 ≤ maxLen) (g3 : n3 ≤ maxLen) (k1 : p1 = none → c1 = 0) (k2 : p2 = none → c2 = 0) (k3 : q1 = none → d1 = 0) (k4 : q2 = none → d2 = 0) (ht : Tab w) :
    Calls Tryd.prog 3 #[.agg #[.slice p0 n0 c0, .slice q0 m0 d0], .agg #[.slice p1 n1 c1, .slice q1 m1 d1], .agg #[.slice p2 n2 c2, .slice q2 m2 d2], .slice pf nf cf, .slice pg ng cg, .agg #[.slice p3 n3 c3, .slice q3 m3 d3], .slice ph nh ch, .slice pk nk ck] w fun e w' => e = .returned (.bool true) ∧ w.grownBy w' none := by
  have A0 := Lib.hid a0
  have N0 := Lib.hid g0
  have LL0 := Lib.hid a0.ls.len
  have A1 := Lib.hid a1
  have N1 := Lib.hid g1
  have LL1 := Lib.hid a1.ls.len
  have A2 := Lib.hid a2
  have N2 := Lib.hid g2
  have LL2 := Lib.hid a2.ls.len
  have A3 := Lib.hid a3
  have N3 := Lib.hid g3
  have LL3 := Lib.hid a3.ls.len
  have Zf := Lib.hid zf
  have Zg := Lib.hid zg
  have Zh := Lib.hid zh
  have Zk := Lib.hid zk
  have K1 := Lib.hid k1
  have K2 := Lib.hid k2
  have K3 := Lib.hid k3
  have K4 := Lib.hid k4
  have HT := Lib.hid ht
  clear a0 g0 a1 g1 a2 g2 a3 g3 zf zg zh zk k1 k2 k3 k4 ht
  go_enter Tryd.func3, Tryd.ntmps3
  go_wp2_with fail
  have he := boxEnv_four w (.slice p0 n0 c0) (.slice q0 m0 d0) (.slice p1 n1 c1) (.slice q1 m1 d1) (.slice p2 n2 c2) (.slice q2 m2 d2) (.slice p3 n3 c3) (.slice q3 m3 d3)
  generalize (((w.alloc (.cells #[.slice p0 n0 c0, .slice q0 m0 d0] 25)).alloc (.cells #[.slice p1 n1 c1, .slice q1 m1 d1] 25)).alloc (.cells #[.slice p2 n2 c2, .slice q2 m2 d2] 25)).alloc (.cells #[.slice p3 n3 c3, .slice q3 m3 d3] 25) = W0 at *
  refine (known8_c _ (HT.out.grown he.1 (by simp))).mono ?_
  rintro e w1 ⟨rfl, hg1⟩
  have he1 := he.calm hg1
  have HE1 := Lib.hid he1
  obtain ⟨x00, x01, x10, x11, x20, x21⟩ := he1.three
  obtain ⟨x30, x31, _, _⟩ := he1.fourth
  clear he hg1 he1
  go_wp2_with fail
  cases hfw : fewB L0 m0 with
  | false =>
    have HW := Lib.hid hfw
    clear hfw
    refine (few_r _ _ _ _ _ _ _ _ L0 P0 false _ (A0.out.calm HE1.out.1) N0.out HW.out).mono ?_
    rintro e w2 ⟨rfl, hg⟩
    have HG := Lib.hid (HE1.out.calm hg).1
    clear hg
    go_wp2
    go_ret
    exact ⟨rfl, HG.out⟩
  | true =>
    have HW0 := Lib.hid hfw
    clear hfw
    refine (few_r _ _ _ _ _ _ _ _ L0 P0 true _ (A0.out.calm HE1.out.1) N0.out HW0.out).mono ?_
    rintro e w2 ⟨rfl, hg⟩
    have he2 := HE1.out.calm hg
    have HE2 := Lib.hid he2
    obtain ⟨x00, x01, x10, x11, x20, x21⟩ := he2.three
    obtain ⟨x30, x31, _, _⟩ := he2.fourth
    clear hg he2 HE1
    go_wp2_with fail
    cases hfw : fewB L1 m1 with
    | false =>
      have HW := Lib.hid hfw
      clear hfw
      refine (few_r _ _ _ _ _ _ _ _ L1 P1 false _ (A1.out.calm HE2.out.1) N1.out HW.out).mono ?_
      rintro e w3 ⟨rfl, hg⟩
      have HG := Lib.hid (HE2.out.calm hg).1
      clear hg
      go_wp2
      go_ret
      exact ⟨rfl, HG.out⟩
    | true =>
      have HW1 := Lib.hid hfw
      clear hfw
      refine (few_r _ _ _ _ _ _ _ _ L1 P1 true _ (A1.out.calm HE2.out.1) N1.out HW1.out).mono ?_
      rintro e w3 ⟨rfl, hg⟩
      have he3 := HE2.out.calm hg
      have HE3 := Lib.hid he3
      obtain ⟨x00, x01, x10, x11, x20, x21⟩ := he3.three
      obtain ⟨x30, x31, _, _⟩ := he3.fourth
      clear hg he3 HE2
      go_wp2_with fail
      cases hfw : fewB L2 m2 with
      | false =>
        have HW := Lib.hid hfw
        clear hfw
        refine (few_r _ _ _ _ _ _ _ _ L2 P2 false _ (A2.out.calm HE3.out.1) N2.out HW.out).mono ?_
        rintro e w4 ⟨rfl, hg⟩
        have HG := Lib.hid (HE3.out.calm hg).1
        clear hg
        go_wp2
        go_ret
        exact ⟨rfl, HG.out⟩
      | true =>
        have HW2 := Lib.hid hfw
        clear hfw
        refine (few_r _ _ _ _ _ _ _ _ L2 P2 true _ (A2.out.calm HE3.out.1) N2.out HW2.out).mono ?_
        rintro e w4 ⟨rfl, hg⟩
        have he4 := HE3.out.calm hg
        have HE4 := Lib.hid he4
        obtain ⟨x00, x01, x10, x11, x20, x21⟩ := he4.three
        obtain ⟨x30, x31, _, _⟩ := he4.fourth
        clear hg he4 HE3
        go_wp2_with fail
        cases hfw : fewB L3 m3 with
        | false =>
          have HW := Lib.hid hfw
          clear hfw
          refine (few_r _ _ _ _ _ _ _ _ L3 P3 false _ (A3.out.calm HE4.out.1) N3.out HW.out).mono ?_
          rintro e w5 ⟨rfl, hg⟩
          have HG := Lib.hid (HE4.out.calm hg).1
          clear hg
          go_wp2
          go_ret
          exact ⟨rfl, HG.out⟩
        | true =>
          have HW3 := Lib.hid hfw
          clear hfw
          refine (few_r _ _ _ _ _ _ _ _ L3 P3 true _ (A3.out.calm HE4.out.1) N3.out HW3.out).mono ?_
          rintro e w5 ⟨rfl, hg⟩
          have he5 := HE4.out.calm hg
          have HE5 := Lib.hid he5
          obtain ⟨x00, x01, x10, x11, x20, x21⟩ := he5.three
          obtain ⟨x30, x31, _, _⟩ := he5.fourth
          have HG := Lib.hid he5.1
          have HE := Lib.hid he5
          clear hg he5 HE4
          clear HE5
          by_cases h60 : 60 < nf
          · have d1 : (60 : Int) < nf := by omega
            go_wp2
            go_ret
            exact ⟨rfl, HG.out⟩
          have df : ¬ ((60 : Int) < nf) := by omega
          have bf : nf ≤ 60 := by omega
          clear h60
          by_cases h60 : 60 < ng
          · have d1 : (60 : Int) < ng := by omega
            go_wp2
            go_ret
            exact ⟨rfl, HG.out⟩
          have dg : ¬ ((60 : Int) < ng) := by omega
          have bg : ng ≤ 60 := by omega
          clear h60
          by_cases h60 : 60 < nh
          · have d1 : (60 : Int) < nh := by omega
            go_wp2
            go_ret
            exact ⟨rfl, HG.out⟩
          have dh : ¬ ((60 : Int) < nh) := by omega
          have bh : nh ≤ 60 := by omega
          clear h60
          by_cases h60 : 60 < nk
          · have d1 : (60 : Int) < nk := by omega
            go_wp2
            go_ret
            exact ⟨rfl, HG.out⟩
          have dk : ¬ ((60 : Int) < nk) := by omega
          have bk : nk ≤ 60 := by omega
          clear h60
          have kk0 : n0 ≤ 50 ∧ m0 ≤ 200 := by have := few_small HW0.out; rwa [LL0.out] at this
          have kk1 : n1 ≤ 50 ∧ m1 ≤ 200 := by have := few_small HW1.out; rwa [LL1.out] at this
          have kk2 : n2 ≤ 50 ∧ m2 ≤ 200 := by have := few_small HW2.out; rwa [LL2.out] at this
          have kk3 : n3 ≤ 50 ∧ m3 ≤ 200 := by have := few_small HW3.out; rwa [LL3.out] at this
          obtain ⟨U, r, hv⟩ := medV_ex L0 P0 L1 P1 L2 P2 f g L3 P3 h k
          have HV := Lib.hid hv
          have hr : r = 0 ∨ r = 10 ∨ r = 11 ∨ r = 12 := by
            obtain ⟨A, B, I, J, r', hp⟩ := pushV_ex L0 P0 L1 P1 L2 P2 f g
            rcases hv.cases hp with ⟨h1, h2, _⟩ | ⟨_, _, h2, _⟩ | ⟨_, _, _, h2, _⟩ | ⟨_, _, _, h2, _⟩ <;> omega
          have hul : U.length ≤ 1000000 := by
            obtain ⟨A, B, I, J, r', hp⟩ := pushV_ex L0 P0 L1 P1 L2 P2 f g
            rcases hv.cases hp with ⟨_, _, h2⟩ | ⟨_, _, _, h2⟩ | ⟨_, _, _, _, h2⟩ | ⟨h0, _, _, _, _, h2, _⟩
            · rw [h2]; simp
            · rw [h2]; simp
            · rw [h2]; simp
            · rcases hp.cases with ⟨h3, _⟩ | ⟨_, h3⟩
              · omega
              · have := h3.small
                have := (arB_parts h2).2.2.1
                omega
          have HUL := Lib.hid hul
          clear hv hul
          go_wp2_with fail
          have he := HE.out
          refine (med_v p0 q0 p1 q1 p2 q2 p3 q3 pf pg ph pk n0 c0 m0 d0 n1 c1 m1 d1 n2 c2 m2 d2 n3 c3 m3 d3 nf cf ng cg nh ch nk ck _ _ _ _ _ _ _ _ _ _ _ _ _ _ _ _ L0 L1 L2 L3 P0 P1 P2 P3 f g h k U r _ HV.out (A0.out.calm he.1) (A1.out.calm he.1) (A2.out.calm he.1) (A3.out.calm he.1) (Zf.out.calm he.1) (Zg.out.calm he.1) (Zh.out.calm he.1) (Zk.out.calm he.1) kk0 kk1 kk2 bf bg (by omega) (by omega) (by omega) K1.out K2.out K3.out (HT.out.grown he.1 (by simp))).mono ?_
          rintro e v1 ⟨pu, cu, rfl, hu, hg⟩
          have he5 := he.calm hg
          have HE5 := Lib.hid he5
          have HU5 := Lib.hid hu
          obtain ⟨x00, x01, x10, x11, x20, x21⟩ := he5.three
          obtain ⟨x30, x31, _, _⟩ := he5.fourth
          clear he hg hu HE HG he5
          go_wp2_with fail
          have he := HE5.out
          refine (refMed_v p0 q0 p1 q1 p2 q2 p3 q3 pf pg ph pk n0 c0 m0 d0 n1 c1 m1 d1 n2 c2 m2 d2 n3 c3 m3 d3 nf cf ng cg nh ch nk ck _ _ _ _ _ _ _ _ _ _ _ _ _ _ _ _ L0 L1 L2 L3 P0 P1 P2 P3 f g h k U r _ HV.out (A0.out.calm he.1) (A1.out.calm he.1) (A2.out.calm he.1) (A3.out.calm he.1) (Zf.out.calm he.1) (Zg.out.calm he.1) (Zh.out.calm he.1) (Zk.out.calm he.1) kk0 kk1 kk2 bf bg (by omega) (by omega) (by omega) K1.out K2.out K3.out).mono ?_
          rintro e v2 ⟨pv, cv, rfl, hv, hg⟩
          have he6 := he.calm hg
          have HE6 := Lib.hid he6
          have HU6 := Lib.hid (HU5.out.calm hg)
          have HV6 := Lib.hid hv
          obtain ⟨x00, x01, x10, x11, x20, x21⟩ := he6.three
          obtain ⟨x30, x31, _, _⟩ := he6.fourth
          clear he hg hv HE5 he6 HU5 HV
          generalize hcb : coneB L0 P0 L1 P1 L2 P2 f g L3 P3 h k = cb
          have HCB := Lib.hid hcb
          clear hcb
          have hne := later_one v2
          have hA := Lib.hid (fun z : Later v2 => later_call (fun w' hg => alike_r pu pv _ _ cu cv _ _ _ _ U U true w' (HU6.out.calm hg) (HV6.out.calm hg) HUL.out (by simp)) z)
          have hC := Lib.hid (fun z : Later v2 => later_call (fun w' hg => cocone_r p0 q0 p1 q1 p2 q2 p3 q3 pf pg ph pk n0 c0 m0 d0 n1 c1 m1 d1 n2 c2 m2 d2 n3 c3 m3 d3 nf cf ng cg nh ch nk ck _ _ _ _ _ _ _ _ _ _ _ _ _ _ _ _ L0 L1 L2 L3 P0 P1 P2 P3 f g h k cb w' (A0.out.calm (HE6.out.calm hg).1) (A1.out.calm (HE6.out.calm hg).1) (A2.out.calm (HE6.out.calm hg).1) (A3.out.calm (HE6.out.calm hg).1) (Zf.out.calm (HE6.out.calm hg).1) (Zg.out.calm (HE6.out.calm hg).1) (Zh.out.calm (HE6.out.calm hg).1) (Zk.out.calm (HE6.out.calm hg).1) (by omega) (by omega) (by omega) (by omega) (by omega) (by omega) (by omega) (by omega) HCB.out) z)
          have hD := Lib.hid (fun z : Later v2 => later_call (fun w' hg => refCocone_r p0 q0 p1 q1 p2 q2 p3 q3 pf pg ph pk n0 c0 m0 d0 n1 c1 m1 d1 n2 c2 m2 d2 n3 c3 m3 d3 nf cf ng cg nh ch nk ck _ _ _ _ _ _ _ _ _ _ _ _ _ _ _ _ L0 L1 L2 L3 P0 P1 P2 P3 f g h k cb w' (A0.out.calm (HE6.out.calm hg).1) (A1.out.calm (HE6.out.calm hg).1) (A2.out.calm (HE6.out.calm hg).1) (A3.out.calm (HE6.out.calm hg).1) (Zf.out.calm (HE6.out.calm hg).1) (Zg.out.calm (HE6.out.calm hg).1) (Zh.out.calm (HE6.out.calm hg).1) (Zk.out.calm (HE6.out.calm hg).1) (by omega) (by omega) (by omega) (by omega) (by omega) (by omega) (by omega) (by omega) HCB.out) z)
          have y0 := fun z : Later v2 => later_cell x00 z
          have y1 := fun z : Later v2 => later_cell x01 z
          have y2 := fun z : Later v2 => later_cell x10 z
          have y3 := fun z : Later v2 => later_cell x11 z
          have y4 := fun z : Later v2 => later_cell x20 z
          have y5 := fun z : Later v2 => later_cell x21 z
          have y6 := fun z : Later v2 => later_cell x30 z
          have y7 := fun z : Later v2 => later_cell x31 z
          generalize U.length = nu at *
          cases cb
          all_goals
            rcases hr with rfl | rfl | rfl | rfl
            all_goals
              as_aux_lemma =>
                go_wp2_with fail
                refine region_quiet_in (C := fun x => ∃ z : Later v2, x = z.at_) (by kernel_rfl) (by kernel_rfl) (later_drew v2) ?_
                repeat (go_big_quiet_step ((first | (go_at_call 11; exact hA.out _) | (go_at_call 12; exact hC.out _) | (go_at_call 13; exact hD.out _))))
                refine wpQuiet_nil ?_
                intro w' hw'
                obtain ⟨z, hz⟩ := hw'
                subst hz
                have HF := Lib.hid (HE6.out.calm z.ok).1
                go_wp2
                go_ret
                exact ⟨rfl, HF.out⟩

end Go.Proofs.YtgpcakcjiaoimaaDoor
