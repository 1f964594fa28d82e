/- The walk of ColimSteps. -/
import Derived.Test.YtemnbkenihldgaaDoorKnow9
import Derived.Test.YtemnbkenihldgaaDoorConC
import Derived.Test.YtemnbkenihldgaaDoorComm
import Derived.Test.YtemnbkenihldgaaDoorRefS
import Derived.Test.YtemnbkenihldgaaDoorWith
import Derived.Test.YtemnbkenihldgaaDoorStpE
namespace Go.Proofs.YtemnbkenihldgaaDoor
open Go.RowKit Go.Shelf

theorem boxAll9 {w w1 : World} {x y : Value} {t : TypeId} (hg : (w.alloc (.cells #[x, y] t)).grownBy w1 none) : w1.cell? ⟨w.heap.size, 0, none⟩ = some x ∧ w1.cell? ⟨w.heap.size, 1, none⟩ = some y ∧ w1.frozen? ⟨w.heap.size, 0, none⟩ = false ∧ w1.frozen? ⟨w.heap.size, 1, none⟩ = false ∧ w.heap.size < w1.heap.size :=
  ⟨(box2 hg).1, (box2 hg).2.1, (box2f hg).1, (box2f hg).2, by have := hg.size; simp at this; omega⟩
theorem boxMore9 {W W' : World} {B : Nat} {x y : Value} (h : W.cell? ⟨B, 0, none⟩ = some x ∧ W.cell? ⟨B, 1, none⟩ = some y ∧ W.frozen? ⟨B, 0, none⟩ = false ∧ W.frozen? ⟨B, 1, none⟩ = false ∧ B < W.heap.size) (hg : W.grownBy W' none) :
    W'.cell? ⟨B, 0, none⟩ = some x ∧ W'.cell? ⟨B, 1, none⟩ = some y ∧ W'.frozen? ⟨B, 0, none⟩ = false ∧ W'.frozen? ⟨B, 1, none⟩ = false ∧ B < W'.heap.size := by
  obtain ⟨h0, h1, h2, h3, h4⟩ := h
  have hb := hg.block B h4 (by simp)
  exact ⟨(World.cell?_of_block (a := ⟨B, 0, none⟩) hb).trans h0, (World.cell?_of_block (a := ⟨B, 1, none⟩) hb).trans h1, (World.frozen?_of_block (a := ⟨B, 0, none⟩) hb).trans h2, (World.frozen?_of_block (a := ⟨B, 1, none⟩) hb).trans h3, Nat.lt_of_lt_of_le h4 hg.size⟩
theorem grownBy_drew9 (w : World) : w.grownBy w.drew none := grownBy_drewN w 1 none
/-- What common hands back, in one form. -/
theorem CommPost.any {L L' : List ByteArray} {w w' : World} {e : Ending} (h : CommPost L L' w e w') : w.grownBy w' none ∧ ∃ (pl px py : Option Addr) (k : Nat) (ok : Bool), e = .returned (.tuple #[.agg #[.slice pl k k, .slice none 0 0], .slice px k k, .slice py k k, .bool ok]) ∧
    (ok = true → k = 1 ∧ ∃ (x y : Nat) (lab : ByteArray), x < L.length ∧ y < L'.length ∧ L[x]?.getD .empty = lab ∧ L'[y]?.getD .empty = lab ∧ StrsAt w' 0 w'.heap.size pl 1 [lab] ∧ ZsAt w' 0 w'.heap.size px 1 [(x : Int)] ∧ ZsAt w' 0 w'.heap.size py 1 [(y : Int)] ∧ pl ≠ none) := by
  obtain ⟨hg, h | ⟨gl, gx, gy, x, y, lab, h, h1, h2, h3, h4, h5, h6, h7⟩⟩ := h
  · exact ⟨hg, none, none, none, 0, false, h, fun h => by cases h⟩
  · exact ⟨hg, _, _, _, 1, true, h, fun _ => ⟨rfl, x, y, lab, h1, h2, h3, h4, h5, h6, h7, by simp⟩⟩

/-- A goal under a name: what is shown of it then is a lemma of its own. -/
theorem nameGoal {P : Prop} (h : ∀ Q : Prop, Q = P → Q) : P := h P rfl
set_option maxRecDepth 20000 in
set_option maxHeartbeats 4000000 in
theorem colimSteps_in (p0 q0 p1 q1 p2 q2 : Option Addr) (n0 c0 m0 d0 n1 c1 m1 d1 n2 c2 m2 d2 : Nat) (lo0 hi0 lo1 hi1 lo2 hi2 tn tm : Nat) (L0 L1 L2 : List ByteArray) (P0 P1 P2 : List (Int × Int)) (w : World) (a0 : ObjAt w lo0 hi0 p0 n0 q0 m0 L0 P0) (a1 : ObjAt w lo1 hi1 p1 n1 q1 m1 L1 P1) (a2 : ObjAt w lo2 hi2 p2 n2 q2 m2 L2 P2) (g0 : n0 ≤ maxLen) (g1 : n1 ≤ maxLen) (g2 : n2 ≤ maxLen) (k1 : p1 = none → c1 = 0) (k2 : p2 = none → c2 = 0) (k3 : q1 = none → d1 = 0) (k4 : q2 = none → d2 = 0) (k5 : p0 = none → c0 = 0) (k6 : q0 = none → d0 = 0) (htn : tn < 256) (htm : tm < 256) (ht : Tab w) :
    Calls Tryd.prog 3 #[.agg #[.slice p0 n0 c0, .slice q0 m0 d0], .agg #[.slice p1 n1 c1, .slice q1 m1 d1], .agg #[.slice p2 n2 c2, .slice q2 m2 d2], .int .u8 tn, .int .u8 tm] w fun e w' => e = .returned (.bool true) ∧ w.grownBy w' none := by
  have K5 := Lib.hid k5
  have K6 := Lib.hid k6
  clear k5 k6
  have A0 := Lib.hid a0
  have N0 := Lib.hid g0
  have LL0 := Lib.hid a0.ls.len
  have A1 := Lib.hid a1
  have N1 := Lib.hid g1
  have LL1 := Lib.hid a1.ls.len
  have A2 := Lib.hid a2
  have N2 := Lib.hid g2
  have LL2 := Lib.hid a2.ls.len
  have K1 := Lib.hid k1
  have K2 := Lib.hid k2
  have K3 := Lib.hid k3
  have K4 := Lib.hid k4
  have HT := Lib.hid ht
  clear a0 g0 a1 g1 a2 g2  k1 k2 k3 k4 ht
  go_enter Tryd.func3, Tryd.ntmps3
  go_wp2_with fail
  have he := boxEnv_three w (.slice p0 n0 c0) (.slice q0 m0 d0) (.slice p1 n1 c1) (.slice q1 m1 d1) (.slice p2 n2 c2) (.slice q2 m2 d2)
  generalize ((w.alloc (.cells #[.slice p0 n0 c0, .slice q0 m0 d0] 25)).alloc (.cells #[.slice p1 n1 c1, .slice q1 m1 d1] 25)).alloc (.cells #[.slice p2 n2 c2, .slice q2 m2 d2] 25) = W0 at *
  refine (known9_c _ (HT.out.grown he.1 (by simp))).mono ?_
  rintro e w1 ⟨rfl, hg1⟩
  have he1 := he.calm hg1
  have HE1 := Lib.hid he1
  obtain ⟨x00, x01, x10, x11, x20, x21⟩ := he1.three
  clear he hg1 he1
  go_wp2_with fail
  cases hfw : fewB L0 m0 with
  | false =>
    have HW := Lib.hid hfw
    clear hfw
    refine (few_r _ _ _ _ _ _ _ _ L0 P0 false _ (A0.out.calm HE1.out.1) N0.out HW.out).mono ?_
    rintro e w2 ⟨rfl, hg⟩
    have HG := Lib.hid (HE1.out.calm hg).1
    clear hg
    go_wp2
    go_ret
    exact ⟨rfl, HG.out⟩
  | true =>
    have HW0 := Lib.hid hfw
    clear hfw
    refine (few_r _ _ _ _ _ _ _ _ L0 P0 true _ (A0.out.calm HE1.out.1) N0.out HW0.out).mono ?_
    rintro e w2 ⟨rfl, hg⟩
    have he2 := HE1.out.calm hg
    have HE2 := Lib.hid he2
    obtain ⟨x00, x01, x10, x11, x20, x21⟩ := he2.three
    clear hg he2 HE1
    go_wp2_with fail
    cases hfw : fewB L1 m1 with
    | false =>
      have HW := Lib.hid hfw
      clear hfw
      refine (few_r _ _ _ _ _ _ _ _ L1 P1 false _ (A1.out.calm HE2.out.1) N1.out HW.out).mono ?_
      rintro e w3 ⟨rfl, hg⟩
      have HG := Lib.hid (HE2.out.calm hg).1
      clear hg
      go_wp2
      go_ret
      exact ⟨rfl, HG.out⟩
    | true =>
      have HW1 := Lib.hid hfw
      clear hfw
      refine (few_r _ _ _ _ _ _ _ _ L1 P1 true _ (A1.out.calm HE2.out.1) N1.out HW1.out).mono ?_
      rintro e w3 ⟨rfl, hg⟩
      have he3 := HE2.out.calm hg
      have HE3 := Lib.hid he3
      obtain ⟨x00, x01, x10, x11, x20, x21⟩ := he3.three
      clear hg he3 HE2
      go_wp2_with fail
      cases hfw : fewB L2 m2 with
      | false =>
        have HW := Lib.hid hfw
        clear hfw
        refine (few_r _ _ _ _ _ _ _ _ L2 P2 false _ (A2.out.calm HE3.out.1) N2.out HW.out).mono ?_
        rintro e w4 ⟨rfl, hg⟩
        have HG := Lib.hid (HE3.out.calm hg).1
        clear hg
        go_wp2
        go_ret
        exact ⟨rfl, HG.out⟩
      | true =>
        have HW2 := Lib.hid hfw
        clear hfw
        refine (few_r _ _ _ _ _ _ _ _ L2 P2 true _ (A2.out.calm HE3.out.1) N2.out HW2.out).mono ?_
        rintro e w4 ⟨rfl, hg⟩
        have he4 := HE3.out.calm hg
        have HE4 := Lib.hid he4
        obtain ⟨x00, x01, x10, x11, x20, x21⟩ := he4.three
        have HG := Lib.hid he4.1
        have HE := Lib.hid he4
        clear hg he4 HE3
        clear HE4
        have kk0 : n0 ≤ 50 ∧ m0 ≤ 200 := by have := few_small HW0.out; rwa [LL0.out] at this
        have kk1 : n1 ≤ 50 ∧ m1 ≤ 200 := by have := few_small HW1.out; rwa [LL1.out] at this
        have kk2 : n2 ≤ 50 ∧ m2 ≤ 200 := by have := few_small HW2.out; rwa [LL2.out] at this
        go_wp2_with fail
        cases hck : (chk L0 P0 == 0) with
        | false =>
          have HCK := Lib.hid hck
          clear hck
          refine (refIs_c p0 q0 n0 c0 m0 d0 _ _ L0 P0 false _ (A0.out.calm HG.out) (by omega) HCK.out).mono ?_
          rintro e wx ⟨rfl, hg⟩
          have HGX := Lib.hid (grownBy_trans HG.out hg)
          clear hg
          go_wp2
          go_ret
          exact ⟨rfl, HGX.out⟩
        | true =>
          have HCK0 := Lib.hid hck
          clear hck
          refine (refIs_c p0 q0 n0 c0 m0 d0 _ _ L0 P0 true _ (A0.out.calm HG.out) (by omega) HCK0.out).mono ?_
          rintro e wi0 ⟨rfl, hg⟩
          have he := HE.out.calm hg
          clear HE HG x00 x01 x10 x11 x20 x21
          have HE := Lib.hid he
          have HG := Lib.hid he.1
          obtain ⟨x00, x01, x10, x11, x20, x21⟩ := he.three
          clear hg he
          go_wp2_with fail
          cases hck : (chk L1 P1 == 0) with
          | false =>
            have HCK := Lib.hid hck
            clear hck
            refine (refIs_c p1 q1 n1 c1 m1 d1 _ _ L1 P1 false _ (A1.out.calm HG.out) (by omega) HCK.out).mono ?_
            rintro e wx ⟨rfl, hg⟩
            have HGX := Lib.hid (grownBy_trans HG.out hg)
            clear hg
            go_wp2
            go_ret
            exact ⟨rfl, HGX.out⟩
          | true =>
            have HCK1 := Lib.hid hck
            clear hck
            refine (refIs_c p1 q1 n1 c1 m1 d1 _ _ L1 P1 true _ (A1.out.calm HG.out) (by omega) HCK1.out).mono ?_
            rintro e wi1 ⟨rfl, hg⟩
            have he := HE.out.calm hg
            clear HE HG x00 x01 x10 x11 x20 x21
            have HE := Lib.hid he
            have HG := Lib.hid he.1
            obtain ⟨x00, x01, x10, x11, x20, x21⟩ := he.three
            clear hg he
            go_wp2_with fail
            cases hck : (chk L2 P2 == 0) with
            | false =>
              have HCK := Lib.hid hck
              clear hck
              refine (refIs_c p2 q2 n2 c2 m2 d2 _ _ L2 P2 false _ (A2.out.calm HG.out) (by omega) HCK.out).mono ?_
              rintro e wx ⟨rfl, hg⟩
              have HGX := Lib.hid (grownBy_trans HG.out hg)
              clear hg
              go_wp2
              go_ret
              exact ⟨rfl, HGX.out⟩
            | true =>
              have HCK2 := Lib.hid hck
              clear hck
              refine (refIs_c p2 q2 n2 c2 m2 d2 _ _ L2 P2 true _ (A2.out.calm HG.out) (by omega) HCK2.out).mono ?_
              rintro e wi2 ⟨rfl, hg⟩
              have he := HE.out.calm hg
              clear HE HG x00 x01 x10 x11 x20 x21
              have HE := Lib.hid he
              have HG := Lib.hid he.1
              obtain ⟨x00, x01, x10, x11, x20, x21⟩ := he.three
              clear hg he
              have hc0 : chk L0 P0 = 0 := by simpa using HCK0.out
              have hc1 : chk L1 P1 = 0 := by simpa using HCK1.out
              have hc2 : chk L2 P2 = 0 := by simpa using HCK2.out
              have HC0 := Lib.hid hc0
              have HC1 := Lib.hid hc1
              have HC2 := Lib.hid hc2
              clear hc0 hc1 hc2 HCK0 HCK1 HCK2
              by_cases h40 : 40 < n0 + n1 + n2
              · have e40 : (40 : Int) < (n0 : Int) + n1 + n2 := by omega
                go_wp2
                go_ret
                exact ⟨rfl, HG.out⟩
              have e40 : ¬ ((40 : Int) < (n0 : Int) + n1 + n2) := by omega
              have tn0 : (0 : Int) ≤ tn := by omega
              have tn1 : (tn : Int) < 256 := by omega
              have tm0 : (0 : Int) ≤ tm := by omega
              have tm1 : (tm : Int) < 256 := by omega
              go_wp2_with fail
              refine (common9_c p0 q0 p1 q1 n0 c0 m0 d0 n1 c1 m1 d1 _ _ _ _ tn L0 L1 P0 P1 _ (A0.out.calm HG.out) (A1.out.calm HG.out) (by omega) (by omega) htn).mono ?_
              rintro e wa hpost
              obtain ⟨hg, px, pf, pg, kx, ok, rfl, hok⟩ := hpost.any
              have HOK := Lib.hid hok
              have hga := World.grownBy_alloc wa (.cells #[.slice px kx kx, .slice none 0 0] 25) none
              have HBX := Lib.hid (BoxO.new wa (.slice px kx kx) (.slice none 0 0))
              have HGA := Lib.hid hga
              have he := (HE.out.calm hg).calm hga
              clear HE HG x00 x01 x10 x11 x20 x21
              have HE := Lib.hid he
              have HG := Lib.hid he.1
              obtain ⟨x00, x01, x10, x11, x20, x21⟩ := he.three
              clear hpost hg hga he hok
              go_upto_region 6 with fail
              generalize wa.alloc (.cells #[.slice px kx kx, .slice none 0 0] 25) = wb at *
              generalize wa.heap.size = gx at *
              go_wp2_with fail
              refine (common9_c p1 q1 p2 q2 n1 c1 m1 d1 n2 c2 m2 d2 _ _ _ _ tm L1 L2 P1 P2 _ (A1.out.calm HG.out) (A2.out.calm HG.out) (by omega) (by omega) htm).mono ?_
              rintro e wc hpost
              obtain ⟨hg, py, ph, pk, ky, ok2, rfl, hok2⟩ := hpost.any
              have HOK2 := Lib.hid hok2
              have hga := World.grownBy_alloc wc (.cells #[.slice py ky ky, .slice none 0 0] 25) none
              have HBY := Lib.hid (BoxO.new wc (.slice py ky ky) (.slice none 0 0))
              have HGC := Lib.hid (grownBy_trans hg hga)
              have HGD := Lib.hid hga
              have he := (HE.out.calm hg).calm hga
              have hbx := (HBX.out.calm hg).calm hga
              clear HE HG HBX x00 x01 x10 x11 x20 x21
              have HE := Lib.hid he
              have HG := Lib.hid he.1
              have HBX := Lib.hid hbx
              obtain ⟨x00, x01, x10, x11, x20, x21⟩ := he.three
              clear hpost hg hga he hok2 hbx
              go_upto_region 7 with fail
              generalize wc.alloc (.cells #[.slice py ky ky, .slice none 0 0] 25) = wd at *
              generalize wc.heap.size = gy at *
              cases ok with
              | false =>
                go_wp2
                go_ret
                exact ⟨rfl, HG.out⟩
              | true =>
              cases ok2 with
              | false =>
                go_wp2
                go_ret
                exact ⟨rfl, HG.out⟩
              | true =>
              obtain ⟨rfl, x, x', lab, hx1, hx2, hx3, hx4, hx5, hx6, hx7, hx8⟩ := HOK.out rfl
              obtain ⟨rfl, y, y', lab', hy1, hy2, hy3, hy4, hy5, hy6, hy7, hy8⟩ := HOK2.out rfl
              obtain ⟨f, hf⟩ : ∃ f : List Int, f = [(x : Int)] := ⟨_, rfl⟩
              obtain ⟨g, hg'⟩ : ∃ g : List Int, g = [(x' : Int)] := ⟨_, rfl⟩
              obtain ⟨h, hh⟩ : ∃ h : List Int, h = [(y : Int)] := ⟨_, rfl⟩
              obtain ⟨k, hk⟩ : ∃ k : List Int, k = [(y' : Int)] := ⟨_, rfl⟩
              rw [← hf] at hx6
              rw [← hg'] at hx7
              rw [← hh] at hy6
              rw [← hk] at hy7
              have HS : Hid (StpA (L0, P0) (L1, P1) (L2, P2) ([lab], []) ([lab'], []) f g h k) := Lib.hid ⟨by rw [hf]; exact one_arB HC0.out hx1 hx3, by rw [hg']; exact one_arB HC1.out hx2 hx4, by rw [hh]; exact one_arB HC1.out hy1 hy3, by rw [hk]; exact one_arB HC2.out hy2 hy4⟩
              have HX := Lib.hid (show ObjAt wd 0 wd.heap.size px 1 none 0 [lab] [] from ⟨((hx5.calm HGA.out).calm HGC.out).wide, pairsAt_nil _ _ _⟩)
              have HY := Lib.hid (show ObjAt wd 0 wd.heap.size py 1 none 0 [lab'] [] from ⟨(hy5.calm HGD.out).wide, pairsAt_nil _ _ _⟩)
              have HZF := Lib.hid ((hx6.calm HGA.out).calm HGC.out)
              have HZG := Lib.hid ((hx7.calm HGA.out).calm HGC.out)
              have HZH := Lib.hid (hy6.calm HGD.out)
              have HZK := Lib.hid (hy7.calm HGD.out)
              have HPX := Lib.hid hx8
              have HPY := Lib.hid hy8
              obtain ⟨P, PB, pi, pj, r, hv⟩ := pushV_ex [lab] [] L0 P0 L1 P1 f g
              obtain ⟨O, OB, oi, oj, r', hv'⟩ := pushV_ex [lab'] [] L1 P1 L2 P2 h k
              obtain ⟨rfl, hp⟩ := hv.zero HS.out.f HS.out.g (by rw [LL0.out, LL1.out]; omega)
              obtain ⟨rfl, ho⟩ := hv'.zero HS.out.h HS.out.k (by rw [LL1.out, LL2.out]; omega)
              have HP := Lib.hid hp
              have HO := Lib.hid ho
              have HV := Lib.hid hv
              have HV' := Lib.hid hv'
              have HLP := Lib.hid hv.le
              have HLO := Lib.hid hv'.le
              clear hx1 hx2 hx3 hx4 hx5 hx6 hx7 hx8 hy1 hy2 hy3 hy4 hy5 hy6 hy7 hy8 hf hg' hh hk hv hv' hp ho HOK HOK2 HGA HGC HGD
              have bx0 := HBX.out.c0
              have bx1 := HBX.out.c1
              have by0 := HBY.out.c0
              have by1 := HBY.out.c1
              go_wp2_with fail
              refine (refPush_z px none p0 q0 p1 q1 pf pg 1 1 0 0 n0 c0 m0 d0 n1 c1 m1 d1 1 1 1 1 _ _ _ _ _ _ _ _ _ _ [lab] L0 L1 [] P0 P1 f g P PB pi pj _ HV.out HX.out (A0.out.calm HG.out) (A1.out.calm HG.out) HZF.out HZG.out (by omega) ⟨kk0.1, by omega⟩ ⟨kk1.1, by omega⟩ (by omega) (by omega) K5.out K1.out K6.out).mono ?_
              rintro e we ⟨pp, cp, qp, dp, ppi, cpi, ppj, cpj, rfl, hob, hI, hJ, hg, hnil⟩
              have hga := World.grownBy_alloc we (.cells #[.slice pp P.length cp, .slice qp PB.length dp] 25) none
              have hgg := grownBy_trans hg hga
              have HBP := Lib.hid (BoxO.new we (.slice pp P.length cp) (.slice qp PB.length dp))
              have HOP := Lib.hid (objAt_wide (hob.calm hga))
              have HPJ := Lib.hid (hJ.calm hga)
              have HNP := Lib.hid hnil
              have he := HE.out.calm hgg
              have hbx := HBX.out.calm hgg
              have hby := HBY.out.calm hgg
              have hX := objAt_wide (HX.out.calm hgg)
              have hY := objAt_wide (HY.out.calm hgg)
              have hzf := HZF.out.calm hgg
              have hzg := HZG.out.calm hgg
              have hzh := HZH.out.calm hgg
              have hzk := HZK.out.calm hgg
              clear HE HG HBX HBY HX HY HZF HZG HZH HZK x00 x01 x10 x11 x20 x21 bx0 bx1 by0 by1
              have HE := Lib.hid he
              have HG := Lib.hid he.1
              have HBX := Lib.hid hbx
              have HBY := Lib.hid hby
              have HX := Lib.hid hX
              have HY := Lib.hid hY
              have HZF := Lib.hid hzf
              have HZG := Lib.hid hzg
              have HZH := Lib.hid hzh
              have HZK := Lib.hid hzk
              obtain ⟨x00, x01, x10, x11, x20, x21⟩ := he.three
              have bx0 := hbx.c0
              have bx1 := hbx.c1
              have by0 := hby.c0
              have by1 := hby.c1
              clear hob hI hJ hg hnil hga hgg he hbx hby hX hY hzf hzg hzh hzk
              go_upto_region 10 with fail
              generalize we.alloc (.cells #[.slice pp P.length cp, .slice qp PB.length dp] 25) = wf at *
              generalize we.heap.size = gp at *
              have gp0 := HBP.out.c0
              have gp1 := HBP.out.c1
              go_wp2_with fail
              refine (refPush_z py none p1 q1 p2 q2 ph pk 1 1 0 0 n1 c1 m1 d1 n2 c2 m2 d2 1 1 1 1 _ _ _ _ _ _ _ _ _ _ [lab'] L1 L2 [] P1 P2 h k O OB oi oj _ HV'.out HY.out (A1.out.calm HG.out) (A2.out.calm HG.out) HZH.out HZK.out (by omega) ⟨kk1.1, by omega⟩ ⟨kk2.1, by omega⟩ (by omega) (by omega) K1.out K2.out K3.out).mono ?_
              rintro e wg ⟨po, co, qo, dO, poi, coi, poj, coj, rfl, hob, hI, hJ, hg, hnil⟩
              have hga := World.grownBy_alloc wg (.cells #[.slice po O.length co, .slice qo OB.length dO] 25) none
              have hgg := grownBy_trans hg hga
              have HBO := Lib.hid (BoxO.new wg (.slice po O.length co) (.slice qo OB.length dO))
              have HOO := Lib.hid (objAt_wide (hob.calm hga))
              have HOI := Lib.hid (hI.calm hga)
              have HNO := Lib.hid hnil
              have hbp := HBP.out.calm hgg
              have hop := objAt_wide (HOP.out.calm hgg)
              have hpj := HPJ.out.calm hgg
              have he := HE.out.calm hgg
              have hbx := HBX.out.calm hgg
              have hby := HBY.out.calm hgg
              have hX := objAt_wide (HX.out.calm hgg)
              have hY := objAt_wide (HY.out.calm hgg)
              have hzf := HZF.out.calm hgg
              have hzg := HZG.out.calm hgg
              have hzh := HZH.out.calm hgg
              have hzk := HZK.out.calm hgg
              clear HE HG HBX HBY HX HY HZF HZG HZH HZK HBP HOP HPJ x00 x01 x10 x11 x20 x21 bx0 bx1 by0 by1 gp0 gp1
              have HE := Lib.hid he
              have HG := Lib.hid he.1
              have HBX := Lib.hid hbx
              have HBY := Lib.hid hby
              have HX := Lib.hid hX
              have HY := Lib.hid hY
              have HZF := Lib.hid hzf
              have HZG := Lib.hid hzg
              have HZH := Lib.hid hzh
              have HZK := Lib.hid hzk
              have HBP := Lib.hid hbp
              have HOP := Lib.hid hop
              have HPJ := Lib.hid hpj
              obtain ⟨x00, x01, x10, x11, x20, x21⟩ := he.three
              have bx0 := hbx.c0
              have bx1 := hbx.c1
              have by0 := hby.c0
              have by1 := hby.c1
              have gp0 := hbp.c0
              have gp1 := hbp.c1
              have go0 := HBO.out.c0
              have go1 := HBO.out.c1
              clear hob hI hJ hg hnil hga hgg he hbx hby hX hY hzf hzg hzh hzk hbp hop hpj
              go_upto_region 13 with fail
              generalize wg.alloc (.cells #[.slice po O.length co, .slice qo OB.length dO] 25) = wh at *
              generalize wg.heap.size = gO at *
              have HTB := Lib.hid (show thenB h pj.length = true from List.all_eq_true.2 fun z hz => hasZ_iff.2 (by rw [HP.out.squ.jl]; exact (arB_hasZ HS.out.h).2 z hz))
              have HLP2 : Hid (P.length ≤ n0 + n1) := Lib.hid (by have := HLP.out; rw [LL0.out, LL1.out] at this; exact this)
              have hPB := HP.out.pairs
              have hP40 := HP.out.small
              obtain ⟨Lf, LfB, a1, a2, r3, hv3⟩ := pushV_ex [lab'] [] P PB L2 P2 (thenL h pj) k
              obtain ⟨rfl, hl3⟩ := hv3.zero (arB_then HS.out.h HP.out.squ.aj) HS.out.k (by have := HLP2.out; rw [LL2.out]; omega)
              have HV3 := Lib.hid hv3
              have HL3 := Lib.hid hl3
              clear hv3 hl3
              have HNL := Lib.hid (show pp = none → cp = 0 from fun e => by
                obtain ⟨_, _, e2, _⟩ := HOP.out.ls.cell (arB_pos HP.out.squ.ai (arB_pos HS.out.f (by simp)))
                rw [e] at e2
                cases e2)
              clear hPB hP40
              have HPB := Lib.hid HP.out.pairs
              have HP40 := Lib.hid HP.out.small
              go_cut [27, 28, 29, 30] (fun s27 s28 s29 s30 wy => ∃ (gl : Nat) (pl ql : Option Addr) (cl dl : Nat) (pi : Option Addr) (ci : Nat), s27 = .pointer (some ⟨gl, 0, none⟩) ∧ s28 = .slice pi a1.length ci ∧ s30 = .int .i64 0 ∧ BoxO wy gl (.slice pl Lf.length cl) (.slice ql LfB.length dl) ∧ wh.grownBy wy none)
              case first =>
                refine nameGoal ?_
                intro Q1 hQ1
                exact Nonempty.elim (letI inst : Nonempty Q1 := ((⟨by
                  subst hQ1
                  have HNB := Lib.hid (BoxO.new wh (.slice none 0 0) (.slice none 0 0))
                  have HAG := Lib.hid (World.grownBy_alloc wh (.cells #[.slice none 0 0, .slice none 0 0] 25) none)
                  have HSS : Hid (∀ W, wh.grownBy W none → W.cell? ⟨gy, 0, none⟩ = some (.slice py 1 1) ∧ W.cell? ⟨gy, 1, none⟩ = some (.slice none 0 0) ∧ W.cell? ⟨gp, 0, none⟩ = some (.slice pp P.length cp) ∧ W.cell? ⟨gp, 1, none⟩ = some (.slice qp PB.length dp) ∧ W.cell? ⟨w.heap.size + 1 + 1, 0, none⟩ = some (.slice p2 n2 c2) ∧ W.cell? ⟨w.heap.size + 1 + 1, 1, none⟩ = some (.slice q2 m2 d2)) := Lib.hid (fun W hW => ⟨(HBY.out.calm hW).c0, (HBY.out.calm hW).c1, (HBP.out.calm hW).c0, (HBP.out.calm hW).c1, ((HE.out.calm hW).three).2.2.2.2.1, ((HE.out.calm hW).three).2.2.2.2.2⟩)
                  go_region_held3 (fun W => W.cell? ⟨gy, 0, none⟩ = some (.slice py 1 1) ∧ W.cell? ⟨gy, 1, none⟩ = some (.slice none 0 0) ∧ W.cell? ⟨gp, 0, none⟩ = some (.slice pp P.length cp) ∧ W.cell? ⟨gp, 1, none⟩ = some (.slice qp PB.length dp) ∧ W.cell? ⟨w.heap.size + 1 + 1, 0, none⟩ = some (.slice p2 n2 c2) ∧ W.cell? ⟨w.heap.size + 1 + 1, 1, none⟩ = some (.slice q2 m2 d2)) (first | exact HSS.out _ (grownBy_refl _ _) | exact HSS.out _ HA.out | exact HSS.out _ HB.out | exact HSS.out _ HAG.out | exact HSS.out _ (grownBy_trans HA.out (World.grownBy_alloc _ _ none)) | exact HSS.out _ (grownBy_trans HB.out (World.grownBy_alloc _ _ none)) | exact HSS.out _ (grownBy_setCell_new _ (grownBy_setCell_new _ HB.out (by first | exact Nat.le_refl _ | exact HA.out.size)) (by first | exact Nat.le_refl _ | exact HA.out.size)) | go_keep)
                    (first
                      | (go_at_call 9
                         (first
                          | ((refine (behind9_c ph ppj 1 1 pj.length cpj _ _ _ _ h pj _ (HZH.out.calm (grownBy_drew9 wh)) (HPJ.out.calm (grownBy_drew9 wh)) (by omega) HTB.out).mono ?_); rintro e wA ⟨pq, cq, rfl, hzA, hgA⟩; have HA := Lib.hid (grownBy_trans (grownBy_drew9 wh) hgA); have HZA := Lib.hid hzA; clear hgA hzA)
                          | ((refine (behind9_c ph ppj 1 1 pj.length cpj _ _ _ _ h pj _ ((HZH.out.calm HAG.out).calm (grownBy_drew9 _)) ((HPJ.out.calm HAG.out).calm (grownBy_drew9 _)) (by omega) HTB.out).mono ?_); rintro e wA ⟨pq, cq, rfl, hzA, hgA⟩; have HA := Lib.hid (grownBy_trans HAG.out (grownBy_trans (grownBy_drew9 _) hgA)); have HZA := Lib.hid hzA; have HNX := Lib.hid (HNB.out.calm (grownBy_trans (grownBy_drew9 _) hgA)); have hx0 := HNX.out.c0; have hx1 := HNX.out.c1; have hf0 := HNX.out.free 0; have hf1 := HNX.out.free 1; clear hgA hzA)))
                      | (go_at_call 8
                         (first
                          | ((refine (refPush_z py none pp qp p2 q2 pq pk 1 1 0 0 P.length cp PB.length dp n2 c2 m2 d2 1 cq 1 1 _ _ _ _ _ _ _ _ _ _ [lab'] P L2 [] PB P2 (thenL h pj) k Lf LfB a1 a2 wA HV3.out (HY.out.calm HA.out) (HOP.out.calm HA.out) (A2.out.calm (grownBy_trans HG.out HA.out)) HZA.out (HZK.out.calm HA.out) (by omega) ⟨by have := HP40.out; omega, by have := HPB.out; omega⟩ ⟨kk2.1, by omega⟩ (by omega) (by omega) HNL.out K2.out HNP.out).mono ?_); rintro e wB ⟨pl, cl, ql, dl, pa1, ca1, pa2, ca2, rfl, hobB, hIB, hJB, hgB, hnilB⟩; have HB := Lib.hid (grownBy_trans HA.out hgB); try (have h5 := HNX.out.calm hgB; have HNX := Lib.hid h5; have hx0 := h5.c0; have hx1 := h5.c1; have hf0 := h5.free 0; have hf1 := h5.free 1))
                          | ((refine (refPush_z py none pp qp p2 q2 pq pk 1 1 0 0 P.length cp PB.length dp n2 c2 m2 d2 1 cq 1 1 _ _ _ _ _ _ _ _ _ _ [lab'] P L2 [] PB P2 (thenL h pj) k Lf LfB a1 a2 (wA.alloc (.cells #[.slice none 0 0, .slice none 0 0] 25)) HV3.out (HY.out.calm (grownBy_trans HA.out (World.grownBy_alloc _ _ none))) (HOP.out.calm (grownBy_trans HA.out (World.grownBy_alloc _ _ none))) (A2.out.calm (grownBy_trans HG.out (grownBy_trans HA.out (World.grownBy_alloc _ _ none)))) (HZA.out.calm (World.grownBy_alloc _ _ none)) (HZK.out.calm (grownBy_trans HA.out (World.grownBy_alloc _ _ none))) (by omega) ⟨by have := HP40.out; omega, by have := HPB.out; omega⟩ ⟨kk2.1, by omega⟩ (by omega) (by omega) HNL.out K2.out HNP.out).mono ?_); rintro e wB ⟨pl, cl, ql, dl, pa1, ca1, pa2, ca2, rfl, hobB, hIB, hJB, hgB, hnilB⟩; have HB := Lib.hid (grownBy_trans (grownBy_trans HA.out (World.grownBy_alloc _ _ none)) hgB); have h5 := (BoxO.new wA (.slice none 0 0) (.slice none 0 0)).calm hgB; have HNX := Lib.hid h5; have hx0 := h5.c0; have hx1 := h5.c1; have hf0 := h5.free 0; have hf1 := h5.free 1))))
                  all_goals
                    try go_wp2
                    go_meet
                    first
                      | exact ⟨_, _, _, _, _, _, _, rfl, rfl, rfl, BoxO.new _ _ _, grownBy_trans HB.out (World.grownBy_alloc _ _ none)⟩
                      | exact ⟨_, _, _, _, _, _, _, rfl, rfl, rfl, (HNX.out.set0 _).set1 _, grownBy_setCell_new _ (grownBy_setCell_new _ HB.out (by first | exact Nat.le_refl _ | exact HA.out.size)) (by first | exact Nat.le_refl _ | exact HA.out.size)⟩
                  ⟩ : Nonempty Q1) :); inferInstanceAs (Nonempty Q1)) id
              case rest =>
                refine nameGoal ?_
                intro Q2 hQ2
                exact Nonempty.elim (letI inst : Nonempty Q2 := ((⟨by
                  subst hQ2
                  obtain ⟨wi, hwi⟩ : ∃ W, W = wc := ⟨_, rfl⟩
                  subst hwi
                  obtain ⟨gl, pl, ql, cl, dl, pa1, ca1, rfl, rfl, rfl, hbl, hg⟩ := hcut
                  have HGI := Lib.hid hg
                  have HBL := Lib.hid hbl
                  clear hbl HNL HTB HOP HPJ HNP
                  have he := HE.out.calm hg
                  have hbxn := HBX.out.calm hg
                  have hbyn := HBY.out.calm hg
                  have hbpn := HBP.out.calm hg
                  have hbon := HBO.out.calm hg
                  have hxn := objAt_wide (HX.out.calm hg)
                  have hyn := objAt_wide (HY.out.calm hg)
                  have hoon := objAt_wide (HOO.out.calm hg)
                  have hzfn := HZF.out.calm hg
                  have hzgn := HZG.out.calm hg
                  have hzhn := HZH.out.calm hg
                  have hzkn := HZK.out.calm hg
                  have hoin := HOI.out.calm hg
                  clear HE HG HBX HBY HBP HBO HX HY HOO HZF HZG HZH HZK HOI x00 x01 x10 x11 x20 x21 bx0 bx1 by0 by1 gp0 gp1 go0 go1
                  have HE := Lib.hid he
                  have HG := Lib.hid he.1
                  have HBX := Lib.hid hbxn
                  have HBY := Lib.hid hbyn
                  have HBP := Lib.hid hbpn
                  have HBO := Lib.hid hbon
                  have HX := Lib.hid hxn
                  have HY := Lib.hid hyn
                  have HOO := Lib.hid hoon
                  have HZF := Lib.hid hzfn
                  have HZG := Lib.hid hzgn
                  have HZH := Lib.hid hzhn
                  have HZK := Lib.hid hzkn
                  have HOI := Lib.hid hoin
                  obtain ⟨x00, x01, x10, x11, x20, x21⟩ := he.three
                  have bx0 := HBX.out.c0
                  have bx1 := HBX.out.c1
                  have by0 := HBY.out.c0
                  have by1 := HBY.out.c1
                  have gp0 := HBP.out.c0
                  have gp1 := HBP.out.c1
                  have go0 := HBO.out.c0
                  have go1 := HBO.out.c1
                  clear he hbxn hbyn hbpn hbon hxn hyn hoon hzfn hzgn hzhn hzkn hoin
                  have gl0 := HBL.out.c0
                  have gl1 := HBL.out.c1
                  have HTB2 := Lib.hid (show thenB g oi.length = true from List.all_eq_true.2 fun z hz => hasZ_iff.2 (by rw [HO.out.squ.il]; exact (arB_hasZ HS.out.g).2 z hz))
                  have HLO2 : Hid (O.length ≤ n1 + n2) := Lib.hid (by have := HLO.out; rw [LL1.out, LL2.out] at this; exact this)
                  obtain ⟨R, RB, b1, b2, r4, hv4⟩ := pushV_ex [lab] [] L0 P0 O OB f (thenL g oi)
                  obtain ⟨rfl, hr4⟩ := hv4.zero HS.out.f (arB_then HS.out.g HO.out.squ.ai) (by have := HLO2.out; rw [LL0.out]; omega)
                  have HV4 := Lib.hid hv4
                  have HR4 := Lib.hid hr4
                  clear hv4 hr4
                  have HNL2 := Lib.hid (show po = none → co = 0 from fun e => by
                    obtain ⟨_, _, e2, _⟩ := HOO.out.ls.cell (arB_pos HO.out.squ.ai (arB_pos HS.out.h (by simp)))
                    rw [e] at e2
                    cases e2)
                  have HOB := Lib.hid HO.out.pairs
                  have HO40 := Lib.hid HO.out.small
                  go_upto_region 14 with fail
                  go_cut [31, 32, 33, 34] (fun s31 s32 s33 s34 wy => ∃ (gr : Nat) (pr qr : Option Addr) (cr dr : Nat) (pj : Option Addr) (cj : Nat), s31 = .pointer (some ⟨gr, 0, none⟩) ∧ s33 = .slice pj b2.length cj ∧ s34 = .int .i64 0 ∧ BoxO wy gr (.slice pr R.length cr) (.slice qr RB.length dr) ∧ wi.grownBy wy none)
                  case first =>
                    refine nameGoal ?_
                    intro Q3 hQ3
                    exact Nonempty.elim (letI inst : Nonempty Q3 := ((⟨by
                      subst hQ3
                      have HNB := Lib.hid (BoxO.new wi (.slice none 0 0) (.slice none 0 0))
                      have HAG := Lib.hid (World.grownBy_alloc wi (.cells #[.slice none 0 0, .slice none 0 0] 25) none)
                      have HSS : Hid (∀ W, wi.grownBy W none → W.cell? ⟨gx, 0, none⟩ = some (.slice px 1 1) ∧ W.cell? ⟨gx, 1, none⟩ = some (.slice none 0 0) ∧ W.cell? ⟨w.heap.size, 0, none⟩ = some (.slice p0 n0 c0) ∧ W.cell? ⟨w.heap.size, 1, none⟩ = some (.slice q0 m0 d0) ∧ W.cell? ⟨gO, 0, none⟩ = some (.slice po O.length co) ∧ W.cell? ⟨gO, 1, none⟩ = some (.slice qo OB.length dO)) := Lib.hid (fun W hW => ⟨(HBX.out.calm hW).c0, (HBX.out.calm hW).c1, ((HE.out.calm hW).three).1, ((HE.out.calm hW).three).2.1, (HBO.out.calm hW).c0, (HBO.out.calm hW).c1⟩)
                      go_region_held3 (fun W => W.cell? ⟨gx, 0, none⟩ = some (.slice px 1 1) ∧ W.cell? ⟨gx, 1, none⟩ = some (.slice none 0 0) ∧ W.cell? ⟨w.heap.size, 0, none⟩ = some (.slice p0 n0 c0) ∧ W.cell? ⟨w.heap.size, 1, none⟩ = some (.slice q0 m0 d0) ∧ W.cell? ⟨gO, 0, none⟩ = some (.slice po O.length co) ∧ W.cell? ⟨gO, 1, none⟩ = some (.slice qo OB.length dO)) (first | exact HSS.out _ (grownBy_refl _ _) | exact HSS.out _ HA.out | exact HSS.out _ HB.out | exact HSS.out _ HAG.out | exact HSS.out _ (grownBy_trans HA.out (World.grownBy_alloc _ _ none)) | exact HSS.out _ (grownBy_trans HB.out (World.grownBy_alloc _ _ none)) | exact HSS.out _ (grownBy_setCell_new _ (grownBy_setCell_new _ HB.out (by first | exact Nat.le_refl _ | exact HA.out.size)) (by first | exact Nat.le_refl _ | exact HA.out.size)) | go_keep)
                        (first
                          | (go_at_call 9
                             (first
                              | ((refine (behind9_c pg poi 1 1 oi.length coi _ _ _ _ g oi _ (HZG.out.calm (grownBy_drew9 wi)) (HOI.out.calm (grownBy_drew9 wi)) (by omega) HTB2.out).mono ?_); rintro e wA ⟨pq, cq, rfl, hzA, hgA⟩; have HA := Lib.hid (grownBy_trans (grownBy_drew9 wi) hgA); have HZA := Lib.hid hzA; clear hgA hzA)
                              | ((refine (behind9_c pg poi 1 1 oi.length coi _ _ _ _ g oi _ ((HZG.out.calm HAG.out).calm (grownBy_drew9 _)) ((HOI.out.calm HAG.out).calm (grownBy_drew9 _)) (by omega) HTB2.out).mono ?_); rintro e wA ⟨pq, cq, rfl, hzA, hgA⟩; have HA := Lib.hid (grownBy_trans HAG.out (grownBy_trans (grownBy_drew9 _) hgA)); have HZA := Lib.hid hzA; have HNX := Lib.hid (HNB.out.calm (grownBy_trans (grownBy_drew9 _) hgA)); have hx0 := HNX.out.c0; have hx1 := HNX.out.c1; have hf0 := HNX.out.free 0; have hf1 := HNX.out.free 1; clear hgA hzA)))
                          | (go_at_call 8
                             (first
                              | ((refine (refPush_z px none p0 q0 po qo pf pq 1 1 0 0 n0 c0 m0 d0 O.length co OB.length dO 1 1 1 cq _ _ _ _ _ _ _ _ _ _ [lab] L0 O [] P0 OB f (thenL g oi) R RB b1 b2 wA HV4.out (HX.out.calm HA.out) (A0.out.calm (grownBy_trans HG.out HA.out)) (HOO.out.calm HA.out) (HZF.out.calm HA.out) HZA.out (by omega) ⟨kk0.1, by omega⟩ ⟨by have := HO40.out; omega, by have := HOB.out; omega⟩ (by omega) (by omega) K5.out HNL2.out K6.out).mono ?_); rintro e wB ⟨pl, cl, ql, dl, pa1, ca1, pa2, ca2, rfl, hobB, hIB, hJB, hgB, hnilB⟩; have HB := Lib.hid (grownBy_trans HA.out hgB); try (have h5 := HNX.out.calm hgB; have HNX := Lib.hid h5; have hx0 := h5.c0; have hx1 := h5.c1; have hf0 := h5.free 0; have hf1 := h5.free 1))
                              | ((refine (refPush_z px none p0 q0 po qo pf pq 1 1 0 0 n0 c0 m0 d0 O.length co OB.length dO 1 1 1 cq _ _ _ _ _ _ _ _ _ _ [lab] L0 O [] P0 OB f (thenL g oi) R RB b1 b2 (wA.alloc (.cells #[.slice none 0 0, .slice none 0 0] 25)) HV4.out (HX.out.calm (grownBy_trans HA.out (World.grownBy_alloc _ _ none))) (A0.out.calm (grownBy_trans HG.out (grownBy_trans HA.out (World.grownBy_alloc _ _ none)))) (HOO.out.calm (grownBy_trans HA.out (World.grownBy_alloc _ _ none))) (HZF.out.calm (grownBy_trans HA.out (World.grownBy_alloc _ _ none))) (HZA.out.calm (World.grownBy_alloc _ _ none)) (by omega) ⟨kk0.1, by omega⟩ ⟨by have := HO40.out; omega, by have := HOB.out; omega⟩ (by omega) (by omega) K5.out HNL2.out K6.out).mono ?_); rintro e wB ⟨pl, cl, ql, dl, pa1, ca1, pa2, ca2, rfl, hobB, hIB, hJB, hgB, hnilB⟩; have HB := Lib.hid (grownBy_trans (grownBy_trans HA.out (World.grownBy_alloc _ _ none)) hgB); have h5 := (BoxO.new wA (.slice none 0 0) (.slice none 0 0)).calm hgB; have HNX := Lib.hid h5; have hx0 := h5.c0; have hx1 := h5.c1; have hf0 := h5.free 0; have hf1 := h5.free 1))))
                      all_goals
                        try go_wp2
                        go_meet
                        first
                          | exact ⟨_, _, _, _, _, _, _, rfl, rfl, rfl, BoxO.new _ _ _, grownBy_trans HB.out (World.grownBy_alloc _ _ none)⟩
                          | exact ⟨_, _, _, _, _, _, _, rfl, rfl, rfl, (HNX.out.set0 _).set1 _, grownBy_setCell_new _ (grownBy_setCell_new _ HB.out (by first | exact Nat.le_refl _ | exact HA.out.size)) (by first | exact Nat.le_refl _ | exact HA.out.size)⟩
                      ⟩ : Nonempty Q3) :); inferInstanceAs (Nonempty Q3)) id
                  case rest =>
                    refine nameGoal ?_
                    intro Q4 hQ4
                    exact Nonempty.elim (letI inst : Nonempty Q4 := ((⟨by
                      subst hQ4
                      obtain ⟨wj, hwj⟩ : ∃ W, W = wc := ⟨_, rfl⟩
                      subst hwj
                      obtain ⟨gr, pr, qr, cr, dr, pb2, cb2, rfl, rfl, rfl, hbr, hg⟩ := hcut
                      have HBR := Lib.hid hbr
                      clear hbr HNL2 HTB2 HOO HOI HGI
                      have he := HE.out.calm hg
                      have hbxn := HBX.out.calm hg
                      have hbyn := HBY.out.calm hg
                      have hbpn := HBP.out.calm hg
                      have hbon := HBO.out.calm hg
                      have hbln := HBL.out.calm hg
                      have hxn := objAt_wide (HX.out.calm hg)
                      have hyn := objAt_wide (HY.out.calm hg)
                      have hzfn := HZF.out.calm hg
                      have hzgn := HZG.out.calm hg
                      have hzhn := HZH.out.calm hg
                      have hzkn := HZK.out.calm hg
                      clear HE HG HBX HBY HBP HBO HBL HX HY HZF HZG HZH HZK x00 x01 x10 x11 x20 x21 bx0 bx1 by0 by1 gp0 gp1 go0 go1 gl0 gl1
                      have HE := Lib.hid he
                      have HG := Lib.hid he.1
                      have HBX := Lib.hid hbxn
                      have HBY := Lib.hid hbyn
                      have HBP := Lib.hid hbpn
                      have HBO := Lib.hid hbon
                      have HBL := Lib.hid hbln
                      have HX := Lib.hid hxn
                      have HY := Lib.hid hyn
                      have HZF := Lib.hid hzfn
                      have HZG := Lib.hid hzgn
                      have HZH := Lib.hid hzhn
                      have HZK := Lib.hid hzkn
                      obtain ⟨x00, x01, x10, x11, x20, x21⟩ := he.three
                      have bx0 := HBX.out.c0
                      have bx1 := HBX.out.c1
                      have by0 := HBY.out.c0
                      have by1 := HBY.out.c1
                      have gp0 := HBP.out.c0
                      have gp1 := HBP.out.c1
                      have go0 := HBO.out.c0
                      have go1 := HBO.out.c1
                      have gl0 := HBL.out.c0
                      have gl1 := HBL.out.c1
                      clear hg he hbxn hbyn hbpn hbon hbln hxn hyn hzfn hzgn hzhn hzkn
                      have gr0 := HBR.out.c0
                      have gr1 := HBR.out.c1
                      go_upto_region 18 with fail
                      have hgk : wj.grownBy ((wj.alloc (.cells #[.slice p0 n0 c0, .slice q0 m0 d0, .slice p1 n1 c1, .slice q1 m1 d1, .slice p2 n2 c2, .slice q2 m2 d2] 25)).alloc (.cells #[.slice (some ⟨wj.heap.size, 0, none⟩) 3 3, .slice none 0 0] 37)) none := (allocL_facts [.cells #[.slice p0 n0 c0, .slice q0 m0 d0, .slice p1 n1 c1, .slice q1 m1 d1, .slice p2 n2 c2, .slice q2 m2 d2] 25, .cells #[.slice (some ⟨wj.heap.size, 0, none⟩) 3 3, .slice none 0 0] 37] wj).1
                      have HB0 : Hid (Blk ((wj.alloc (.cells #[.slice p0 n0 c0, .slice q0 m0 d0, .slice p1 n1 c1, .slice q1 m1 d1, .slice p2 n2 c2, .slice q2 m2 d2] 25)).alloc (.cells #[.slice (some ⟨wj.heap.size, 0, none⟩) 3 3, .slice none 0 0] 37)) wj.heap.size ⟨[.slice p0 n0 c0, .slice q0 m0 d0, .slice p1 n1 c1, .slice q1 m1 d1, .slice p2 n2 c2, .slice q2 m2 d2]⟩ 25) := Lib.hid ((allocL_facts [.cells #[.slice p0 n0 c0, .slice q0 m0 d0, .slice p1 n1 c1, .slice q1 m1 d1, .slice p2 n2 c2, .slice q2 m2 d2] 25, .cells #[.slice (some ⟨wj.heap.size, 0, none⟩) 3 3, .slice none 0 0] 37] wj).2 0 (by simp))
                      have HB1 : Hid (Blk ((wj.alloc (.cells #[.slice p0 n0 c0, .slice q0 m0 d0, .slice p1 n1 c1, .slice q1 m1 d1, .slice p2 n2 c2, .slice q2 m2 d2] 25)).alloc (.cells #[.slice (some ⟨wj.heap.size, 0, none⟩) 3 3, .slice none 0 0] 37)) (wj.heap.size + 1) ⟨[.slice (some ⟨wj.heap.size, 0, none⟩) 3 3, .slice none 0 0]⟩ 37) := Lib.hid ((allocL_facts [.cells #[.slice p0 n0 c0, .slice q0 m0 d0, .slice p1 n1 c1, .slice q1 m1 d1, .slice p2 n2 c2, .slice q2 m2 d2] 25, .cells #[.slice (some ⟨wj.heap.size, 0, none⟩) 3 3, .slice none 0 0] 37] wj).2 1 (by simp))
                      generalize ((wj.alloc (.cells #[.slice p0 n0 c0, .slice q0 m0 d0, .slice p1 n1 c1, .slice q1 m1 d1, .slice p2 n2 c2, .slice q2 m2 d2] 25)).alloc (.cells #[.slice (some ⟨wj.heap.size, 0, none⟩) 3 3, .slice none 0 0] 37)) = wk at *
                      generalize wj.heap.size = gd at *
                      have HGK := Lib.hid hgk
                      have HGW := Lib.hid (grownBy_trans HG.out hgk)
                      have kx0 := (HBX.out.calm hgk).c0
                      have kx1 := (HBX.out.calm hgk).c1
                      have ky0 := (HBY.out.calm hgk).c0
                      have ky1 := (HBY.out.calm hgk).c1
                      have kd0 := HB1.out.c0
                      have kd1 := HB1.out.c1
                      clear hgk
                      go_wp2_with fail
                      refine (withs9_c gd p0 q0 p1 q1 p2 q2 px none py none pf pg ph pk n0 c0 m0 d0 n1 c1 m1 d1 n2 c2 m2 d2 1 1 0 0 1 1 0 0 1 1 1 1 1 1 1 1 _ _ _ _ _ _ _ _ L0 L1 L2 [lab] [lab'] P0 P1 P2 [] [] f g h k wk HB0.out ⟨objAt_wide (A0.out.calm HGW.out), N0.out, K5.out, K6.out⟩ ⟨objAt_wide (A1.out.calm HGW.out), N1.out, K1.out, K3.out⟩ ⟨objAt_wide (A2.out.calm HGW.out), N2.out, K2.out, K4.out⟩ ⟨objAt_wide (HX.out.calm HGK.out), by unfold maxLen; omega, fun e => absurd e HPX.out, fun _ => rfl⟩ ⟨objAt_wide (HY.out.calm HGK.out), by unfold maxLen; omega, fun e => absurd e HPY.out, fun _ => rfl⟩ (HZF.out.calm HGK.out) (HZG.out.calm HGK.out) (HZH.out.calm HGK.out) (HZK.out.calm HGK.out)).mono ?_
                      rintro e wl ⟨pn, cn, ga, rfl, hn, har, hg⟩
                      have HN5 := Lib.hid hn
                      have HA4 := Lib.hid har
                      have HGL := Lib.hid (grownBy_trans HGK.out hg)
                      clear hn har hg HB0 HB1 HGW kx0 kx1 ky0 ky1 kd0 kd1
                      go_wp2_with fail
                      obtain ⟨Q, QB, Ls, r5, hcol⟩ := colV_ex (sN (L0, P0) (L1, P1) (L2, P2) ([lab], []) ([lab'], [])) (sA f g h k)
                      have HCV := Lib.hid hcol
                      clear hcol
                      refine (of9_v pn (some ⟨ga, 0, none⟩) 5 cn 4 4 _ _ _ _ (sN (L0, P0) (L1, P1) (L2, P2) ([lab], []) ([lab'], [])) (sA f g h k) Q QB Ls r5 wl HCV.out HN5.out HA4.out ⟨by show 5 ≤ 10; decide, fun i hi => by
                        match i, hi with
                        | 0, _ => exact ⟨by show L0.length ≤ 50; rw [LL0.out]; exact kk0.1, by show P0.length ≤ 200; rw [A0.out.ps.len]; exact kk0.2⟩
                        | 1, _ => exact ⟨by show L1.length ≤ 50; rw [LL1.out]; exact kk1.1, by show P1.length ≤ 200; rw [A1.out.ps.len]; exact kk1.2⟩
                        | 2, _ => exact ⟨by show L2.length ≤ 50; rw [LL2.out]; exact kk2.1, by show P2.length ≤ 200; rw [A2.out.ps.len]; exact kk2.2⟩
                        | 3, _ => exact ⟨by show 1 ≤ 50; decide, by show 0 ≤ 200; decide⟩
                        | 4, _ => exact ⟨by show 1 ≤ 50; decide, by show 0 ≤ 200; decide⟩, by show 4 ≤ 12; decide, fun i hi => by
                        match i, hi with
                        | 0, _ => show f.length ≤ 60; rw [HZF.out.len]; decide
                        | 1, _ => show g.length ≤ 60; rw [HZG.out.len]; decide
                        | 2, _ => show h.length ≤ 60; rw [HZH.out.len]; decide
                        | 3, _ => show k.length ≤ 60; rw [HZK.out.len]; decide⟩ (HT.out.grown (grownBy_trans HG.out HGL.out) (by simp))).mono ?_
                      rintro e wm ⟨u, v, pL, cL, rfl, hob, hlg, hg⟩
                      obtain ⟨pc, cc, pd, cd, rfl, rfl, _, _, _⟩ := hob.form
                      clear hob hlg
                      have hga := World.grownBy_alloc wm (.cells #[.slice pc Q.length cc, .slice pd QB.length cd] 25) none
                      have hgm := grownBy_trans (grownBy_trans HGL.out hg) hga
                      have HBQ := Lib.hid (BoxO.new wm (.slice pc Q.length cc) (.slice pd QB.length cd))
                      have HGM := Lib.hid (grownBy_trans HG.out hgm)
                      clear x00 x01 x10 x11 x20 x21 bx0 bx1 by0 by1 gp0 gp1 go0 go1 gl0 gl1 gr0 gr1
                      obtain ⟨x00, x01, x10, x11, x20, x21⟩ := (HE.out.calm hgm).three
                      have bx0 := (HBX.out.calm hgm).c0
                      have by0 := (HBY.out.calm hgm).c0
                      have gp0 := (HBP.out.calm hgm).c0
                      have go0 := (HBO.out.calm hgm).c0
                      have gl0 := (HBL.out.calm hgm).c0
                      have gl1 := (HBL.out.calm hgm).c1
                      have gr0 := (HBR.out.calm hgm).c0
                      have gr1 := (HBR.out.calm hgm).c1
                      have gq0 := HBQ.out.c0
                      have gq1 := HBQ.out.c1
                      clear hg hga hgm HE HG HBX HBY HBP HBO HBL HBR HBQ HX HY HGK HGL HN5 HA4
                      go_upto_region 19 with fail
                      generalize wm.alloc (.cells #[.slice pc Q.length cc, .slice pd QB.length cd] 25) = wn at *
                      generalize wm.heap.size = gq at *
                      rcases HS.out.told HCV.out with ⟨h41, rfl, rfl, rfl, rfl⟩ | ⟨h41, rfl, hL5, hCA⟩
                      · have e41 : (40 : Int) < (1 : Int) + 1 + (n0 : Int) + n1 + n2 := by
                          have l0 := LL0.out
                          have l1 := LL1.out
                          have l2 := LL2.out
                          simp only [List.length_singleton] at h41
                          omega
                        have e42 : (40 : Int) < (2 : Int) + (n0 : Int) + n1 + n2 := by omega
                        clear h41
                        go_wp2
                        go_ret
                        exact ⟨rfl, HGM.out⟩
                      have e41 : ¬ ((40 : Int) < (1 : Int) + 1 + (n0 : Int) + n1 + n2) := by
                        have l0 := LL0.out
                        have l1 := LL1.out
                        have l2 := LL2.out
                        simp only [List.length_singleton] at h41
                        omega
                      have e42 : ¬ ((40 : Int) < (2 : Int) + (n0 : Int) + n1 + n2) := by omega
                      clear h41
                      obtain ⟨q1, q2, q3, q4, q5, q6⟩ := HS.out.same HP.out HL3.out HO.out HR4.out hCA
                      clear hCA
                      rw [hL5, q3, q4]
                      rw [q1] at gq0
                      rw [← q2] at gr0
                      rw [q5] at gq1
                      rw [show RB.length = LfB.length from q6.symm.trans q5] at gr1
                      clear hL5 q1 q2 q3 q4 q5 q6
                      go_wp2
                      go_ret
                      exact ⟨rfl, HGM.out⟩
                      ⟩ : Nonempty Q4) :); inferInstanceAs (Nonempty Q4)) id
                  ⟩ : Nonempty Q2) :); inferInstanceAs (Nonempty Q2)) id
end Go.Proofs.YtemnbkenihldgaaDoor
