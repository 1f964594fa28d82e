/- Package colim: fold: an element for each class. -/
import Derived.Test.YtemnbkenihldgaaDoorColM
import Derived.Test.YtemnbkenihldgaaDoorRef7d
namespace Go.Proofs.YtemnbkenihldgaaDoor
open Go.RowKit Go.Shelf

/-- What fold leaves. -/
def Fold9Post (Lb : List ByteArray) (P : List (Int × Int)) (L : List Nat) (w : World) (e : Ending) (w' : World) : Prop :=
  ∃ u v, e = .returned (.agg #[u, v]) ∧ OwnObj w' w.heap.size u v (labG Lb L) (gluP L P) ∧ w.grownBy w' none

theorem news_one (w : World) (x : Value) (t : TypeId) : ∀ j u, ([x] : List Value)[j]? = some u → (w.alloc (.cells #[x] t)).cell? ((⟨w.heap.size, 0, none⟩ : Addr).add j) = some u := World.news_of_block (heap_new w _)

set_option maxRecDepth 20000 in
set_option maxHeartbeats 4000000 in
theorem fold9_c (p q : Option Addr) (N c m d lo0 hi0 lo hi b : Nat) (Lb : List ByteArray) (P : List (Int × Int)) (L : List Nat) (w : World) (h : ObjAt w lo0 hi0 p N q m Lb P) (hu : IsUn w lo hi b L) (hLN : L.length = N) (hlab : labErr Lb = 0) (hm : m ≤ 1000000) (hin : allIn N P = true) (ht : Tab w) :
    Calls Tryd.prog 27 #[.agg #[.slice p N c, .slice q m d], .pointer (some ⟨b, 0, none⟩)] w (Fold9Post Lb P L w) := by
  obtain ⟨i0, hi0', hz0, hz1, hz2⟩ := info_parts Tryd.info9
  have hN : N ≤ 40 := by have := lab_small hlab; have := h.ls.len; omega
  have his := hu.is.1
  have H := Lib.hid h
  have HU := Lib.hid hu
  have HIS := Lib.hid his
  have HLN := Lib.hid hLN
  have HIN := Lib.hid hin
  have HPL := Lib.hid h.ps.len
  have HLB := Lib.hid hlab
  have HT := Lib.hid ht
  have HM := Lib.hid (circ_len7 his)
  have hMl : cntR L L.length ≤ 40 := Nat.le_trans (cntR_le L L.length) (by omega)
  have HPL2 : Hid (∀ e, e < N → ∃ y : Nat, (atZ L)[e]?.getD 0 = (y : Int) ∧ y = plc6 L e ∧ y < cntR L L.length) := Lib.hid (fun e he => ⟨_, atZ_get (by rw [HLN.out]; exact he), rfl, plc6_lt HIS.out (by rw [HLN.out]; exact he)⟩)
  have HLG := Lib.hid (labG_len Lb L)
  have HGP : Hid (gluP L P = pairsL (cntR L L.length) (clo (cntR L L.length) (ofL (cntR L L.length) (mapP (atZ L) P))) (cntR L L.length)) := Lib.hid rfl
  have HLK := Lib.hid (labG_ok hlab (by rw [hLN]; exact h.ls.len.symm))
  have HCL : Hid (∀ k cl, (circL (eqC L) L.length)[k]? = some cl → ∃ x r, cl = x :: r ∧ x < N ∧ scells ((labG Lb L).take (k + 1)) = scells ((labG Lb L).take k) ++ [.string (Lb[x]?.getD .empty)]) := Lib.hid (fun k cl hk => by
    obtain ⟨x, r, e, h1, h2⟩ := cls_head7 HIS.out hk
    refine ⟨x, r, e, by rw [← HLN.out]; exact h2, ?_⟩
    rw [labG_take h1, scells_app]
    rfl)
  clear h hu his hLN hlab hin ht
  generalize hMM : cntR L L.length = M at *
  clear hMM
  go_enter Tryd.func27, Tryd.ntmps27
  go_wp2_with fail
  have he := boxEnv_two7 w (.slice p N c) (.slice q m d) (.slice none 0 0) (.slice none 0 0)
  generalize (w.alloc (.cells #[.slice p N c, .slice q m d] 25)).alloc (.cells #[.slice none 0 0, .slice none 0 0] 25) = W2 at *
  refine (classesU_c lo hi b L W2 (HU.out.calm he.1)).mono ?_
  rintro e w1 ⟨v, rfl, ⟨ib, ic, hgrid⟩, hg1⟩
  obtain ⟨pg, cg, rfl, hpg⟩ := hgrid.slice
  rw [HM.out] at hpg hgrid ⊢
  have he1 := he.calm hg1
  have HE1 := Lib.hid he1
  have HGRID := Lib.hid hgrid
  have HPG := Lib.hid hpg
  have hs1 := he1.1.size
  clear hg1 he he1 hgrid hpg
  go_wp2
  go_loopw [5, 17] (fun ls i wr => ∃ (k : Nat) (pl : Option Addr) (cl : Nat), k ≤ M ∧ i = .int .i64 k ∧ ls = .slice pl k cl ∧ wr.ownsRow w1.heap.size 9 1 (.slice pl k cl) k (scells ((labG Lb L).take k)) ∧ w1.grownBy wr none) (fun _ i _ => M - (intOf i).toNat)
  case atStart => exact ⟨0, none, 0, Nat.zero_le _, rfl, rfl, World.ownsRow_nil _ _ _ _, grownBy_refl _ _⟩
  case round =>
    obtain ⟨k, pl, cl, hk, rfl, rfl, hown, hgr⟩ := hrel
    have HOWN := Lib.hid hown
    have HGR := Lib.hid hgr
    have hsz := hgr.size
    by_cases hkm : k < M
    · have k0 : (0 : Int) ≤ k := by omega
      have k1 : (k : Int) < M := by omega
      obtain ⟨cls, hcls⟩ : ∃ cls, (circL (eqC L) L.length)[k]? = some cls := ⟨_, List.getElem?_eq_getElem (by rw [HM.out]; exact hkm)⟩
      obtain ⟨x, r, hx, hxN, hst⟩ := HCL.out k cls hcls
      obtain ⟨g, rfl, _, _⟩ := HPG.out k hkm
      have hgr2 := HGRID.out.calm hgr
      have ch := hgr2.head hcls
      have cx := (hgr2.row k cls hcls).cell (j := 0) (x := x) (by rw [hx]; rfl)
      have hl1 : 0 < cls.length := by rw [hx]; simp
      obtain ⟨pb, po, rfl, s1, s2, s3, hcl⟩ := (H.out.ls.calm (grownBy_trans HE1.out.1 hgr)).cell (by omega)
      have c0 := hcl x hxN
      have he2 := HE1.out.calm hgr
      have b0' : wr.cell? ⟨w.heap.size, 0, none⟩ = some (.slice (some ⟨pb, po, none⟩) N c) := (he2.2 0 _ rfl).c0
      have x0 : (0 : Int) ≤ x := by omega
      have x1 : (x : Int) < N := by omega
      have HST := Lib.hid hst
      clear hown hgr hcl he2 hgr2 hst hcls hx
      generalize hlb : Lb[x]?.getD .empty = lb at *
      generalize cls.length = cn at *
      clear hlb
      go_wp2
      go_region_law (refine step_append_lies _ (by rfl) _ _ _ (by rfl) w1.heap.size 9 i0 (.string .empty) 1 16 Tryd.underlying22 hi0' hz0 hz1 hz2 rfl (by decide) (.slice pl k cl) k (scells ((labG Lb L).take k)) (by rfl) (by exact HOWN.out.drew.alloc _) ⟨wr.heap.size, 0, none⟩ 1 1 [.string lb] (by rfl) rfl (by exact news_one wr.drew _ _) (by simp [Value.oneCell']) (by decide) (by unfold maxLen; omega) (by omega) (by simp; omega) (wr.heap.size + 1) (by simp) ?_; intro g' cap' w2 hown' hgrow _ _)
      all_goals have HO2 := Lib.hid hown'
      all_goals have HG2 := Lib.hid hgrow
      all_goals clear hown' hgrow
      all_goals go_wp2
      all_goals
        refine ⟨⟨k + 1, some ⟨g', 0, none⟩, cap', by omega, by go_num, by first | rfl | go_num, ?_, sgrow (grownBy_trans HGR.out (grownBy_drewN wr 1 none)) HOWN.out.drew HG2.out⟩, by simp [intOf]; omega⟩
        rw [HST.out]
        exact HO2.out
    · obtain rfl : k = M := by omega
      have k1 : ¬ ((k : Int) < k) := by omega
      rw [List.take_of_length_le (by rw [HLG.out]; exact Nat.le_refl _)] at hown
      clear HOWN HGRID HPG HCL HM
      have HOWN := Lib.hid hown
      have hnil : pl = none → cl = 0 := by
        rintro rfl
        rcases hown.2 with ⟨h5, _⟩ | ⟨g', cap, cur, h5, _⟩
        · cases h5; rfl
        · cases h5
      have hst : StrsAt wr w1.heap.size wr.heap.size pl k (labG Lb L) := by
        obtain ⟨p9, c9, e9, hst⟩ := strsAt_own (by rw [HLG.out]; exact hown)
        rw [HLG.out] at e9 hst
        cases e9
        exact hst
      have HNIL := Lib.hid hnil
      have HST := Lib.hid hst
      clear hown hnil hst
      have HGW := Lib.hid (grownBy_trans HE1.out.1 hgr)
      have b01 := ((HE1.out.calm hgr).2 0 _ rfl).c1
      go_wp2_with fail
      refine (placesU_c lo hi b L wr (HU.out.calm HGW.out)).mono ?_
      rintro e w2 ⟨gp, rfl, hrow, hg2⟩
      have hpl := placesL_len L
      rw [HLN.out] at hpl
      rw [hpl] at hrow ⊢
      have HROW := Lib.hid hrow
      have HG2 := Lib.hid hg2
      clear hrow hg2 hpl
      go_wp2_with fail
      refine (relNew_mid k w2 (by omega)).mono ?_
      rintro e wn ⟨rb, rfl, hR0, hgn⟩
      have HR0 := Lib.hid hR0
      have HGN := Lib.hid hgn
      have hrt := hR0.top
      have HGX := Lib.hid (grownBy_trans HGW.out (grownBy_trans HG2.out hgn))
      have HRW := Lib.hid (HROW.out.calm hgn)
      have b0 : wn.cell? ⟨w.heap.size, 0, none⟩ = _ := ((HE1.out.calm (grownBy_trans hgr (grownBy_trans HG2.out hgn))).2 0 _ rfl).c0
      have b1 : wn.cell? ⟨w.heap.size, 1, none⟩ = _ := ((HE1.out.calm (grownBy_trans hgr (grownBy_trans HG2.out hgn))).2 0 _ rfl).c1
      clear hR0 hgn
      go_wp2
      clear b0 b01
      go_loopw [40] (fun i wr => ∃ j : Nat, j ≤ m ∧ i = .int .i64 j ∧ IsRel wr w2.heap.size wn.heap.size rb k (ofL k (mapP (atZ L) (P.take j))) ∧ w2.grownBy wr none) (fun i _ => m - (intOf i).toNat)
      case atStart => exact ⟨0, Nat.zero_le _, rfl, HR0.out, HGN.out⟩
      case round =>
        obtain ⟨j, hj, rfl, hrl, hgr3⟩ := hrel
        generalize wr = wx at *
        have HRL := Lib.hid hrl
        have HGR3 := Lib.hid hgr3
        by_cases hjm : j < m
        · have j0 : (0 : Int) ≤ j := by omega
          have j1 : (j : Int) < m := by omega
          obtain ⟨qb, qo, rfl, y1, y2, y3, hcp⟩ := (H.out.ps.calm (grownBy_trans HGW.out (grownBy_trans HG2.out hgr3))).cell (by omega)
          obtain ⟨z0, z1⟩ := hcp j hjm
          have HI := Lib.hid (inI_of_all (k := j) HIN.out (by rw [HPL.out]; exact hjm))
          have HTK := Lib.hid (show P.take (j + 1) = P.take j ++ [P[j]?.getD (0, 0)] by rw [List.take_add_one, List.getElem?_eq_getElem (by rw [HPL.out]; exact hjm)]; rfl)
          clear hcp hrl
          obtain ⟨x, hx⟩ : ∃ x, x = P[j]?.getD (0, 0) := ⟨_, rfl⟩
          rw [← hx] at z0 z1 HI HTK
          clear hx
          obtain ⟨xa, xb⟩ := x
          obtain ⟨a0, a1, a2, a3⟩ : 0 ≤ xa ∧ xa < N ∧ 0 ≤ xb ∧ xb < N := by have := HI.out; unfold inI at this; simp only at this; omega
          simp only at z0 z1
          obtain ⟨xa, rfl⟩ := Int.eq_ofNat_of_zero_le a0
          obtain ⟨xb, rfl⟩ := Int.eq_ofNat_of_zero_le a2
          obtain ⟨ya, hya, hya0, hya1⟩ := HPL2.out xa (by omega)
          obtain ⟨yb, hyb, hyb0, hyb1⟩ := HPL2.out xb (by omega)
          have hla : xa < L.length := by rw [HLN.out]; omega
          have hlb : xb < L.length := by rw [HLN.out]; omega
          have hga := World.grownBy_alloc wx (.cells #[.int .i64 xa, .int .i64 xb] 74) none
          have hrj := (HROW.out.calm hgr3).calm hga
          have cwa := hrj.cell (j := xa) (x := ya) (by rw [hya0, nx_get (by rw [placesL_len]; exact hla), nx_places hla])
          have cwb := hrj.cell (j := xb) (x := yb) (by rw [hyb0, nx_get (by rw [placesL_len]; exact hlb), nx_places hlb])
          have HADD : Hid (ofL k (mapP (atZ L) (P.take (j + 1))) = addI k (ofL k (mapP (atZ L) (P.take j))) ((ya : Int), (yb : Int))) := Lib.hid (by
            rw [HTK.out]
            unfold mapP
            rw [List.map_append, List.map_cons, List.map_nil, ofL_snoc]
            simp only [Int.toNat_natCast, hya, hyb])
          have HGA := Lib.hid (grownBy_trans HGR3.out hga)
          have HRA := Lib.hid (HRL.out.calm hga)
          clear hga hrj hya hyb hya0 hyb0 hgr3
          have p0 : (wx.alloc (.cells #[.int .i64 xa, .int .i64 xb] 74)).cell? ⟨wx.heap.size, 0, none⟩ = some (.int .i64 xa) := by simp
          have p1 : (wx.alloc (.cells #[.int .i64 xa, .int .i64 xb] 74)).cell? ⟨wx.heap.size, 1, none⟩ = some (.int .i64 xb) := by simp
          go_wp2_with fail
          generalize wx.alloc (.cells #[.int .i64 xa, .int .i64 xb] 74) = wa at *
          refine wp_region_still_tail 11 (by kernel_rfl) (by kernel_rfl) ?_
          simp only [List.take_succ_cons, List.take_zero, List.drop_succ_cons, List.drop_zero]
          repeat still_step
          refine wpStill_nil ?_
          change wpList _ _ _ _ _ wa.drew
          clear z0 z1 cwa cwb p0 p1
          go_wp2_with fail
          refine (add_b w2.heap.size wn.heap.size rb k ya yb _ _ _ (HRA.out.calm (grownBy_drewN wa 1 none)) rfl).mono ?_
          rintro e w5 ⟨rfl, h5, hk5⟩
          have HA5 := Lib.hid (show IsRel w5 w2.heap.size wn.heap.size rb k (ofL k (mapP (atZ L) (P.take (j + 1)))) by rw [HADD.out]; exact h5)
          have HG5 := Lib.hid (Kept.new (grownBy_trans HGA.out (grownBy_drewN wa 1 none)) hk5 (Nat.le_refl _))
          clear h5 hk5
          go_wp2
          exact ⟨⟨j + 1, by omega, by go_num, HA5.out, HG5.out⟩, by simp [intOf]; omega⟩
        · obtain rfl : j = m := by omega
          have j1 : ¬ ((j : Int) < j) := by omega
          have hPj : P.take j = P := List.take_of_length_le (by rw [HPL.out]; exact Nat.le_refl _)
          rw [hPj] at HRL
          have HG9 := Lib.hid (grownBy_trans HGW.out (grownBy_trans HG2.out hgr3))
          have HST9 := Lib.hid ((HST.out.calm HG2.out).calm hgr3)
          have HE9 := Lib.hid (HE1.out.calm (grownBy_trans hgr (grownBy_trans HG2.out hgr3)))
          clear hPj hrl hgr3
          go_wp2_with fail
          refine (make_ok pl k cl _ _ w2.heap.size wn.heap.size rb (labG Lb L) _ wx HST9.out HNIL.out HLK.out HRL.out (HT.out.grown HG9.out (by simp))).mono ?_
          rintro e w6 ⟨u, v, rfl, hobj, hg6⟩
          obtain ⟨pu, cu, rfl⟩ := ownsRow_sl hobj.ls
          obtain ⟨pv, cv, rfl⟩ := ownsRow_sl hobj.ps
          have HOB := Lib.hid hobj
          have he6 := HE9.out.calm hg6
          have HE6 := Lib.hid he6
          have HLT := Lib.hid (show w.heap.size + 1 < wx.heap.size from (HE9.out.2 1 _ rfl).lt)
          have b10 := (he6.2 1 _ rfl).c0
          have b11 := (he6.2 1 _ rfl).c1
          have f10 := (he6.2 1 _ rfl).free 0
          have f11 := (he6.2 1 _ rfl).free 1
          clear hobj hg6 he6 HRL HR0 HGN
          go_upto_region 15 with fail
          have hga := World.grownBy_alloc w6 (.cells #[.slice pu (labG Lb L).length cu, .slice pv (pairsL k (clo k (ofL k (mapP (atZ L) P))) k).length cv] 25) none
          have hbx := BoxO.new w6 (.slice pu (labG Lb L).length cu) (.slice pv (pairsL k (clo k (ofL k (mapP (atZ L) P))) k).length cv)
          rw [← HGP.out] at hga hbx ⊢
          rw [← HGP.out] at HOB
          generalize w6.alloc (.cells #[.slice pu (labG Lb L).length cu, .slice pv (gluP L P).length cv] 25) = w7 at *
          have x0 := hbx.c0
          have x1 := hbx.c1
          have he7 := HE6.out.calm hga
          have b10 := (he7.2 1 _ rfl).c0
          have b11 := (he7.2 1 _ rfl).c1
          have f10 := (he7.2 1 _ rfl).free 0
          have f11 := (he7.2 1 _ rfl).free 1
          have HFIN : Hid (∀ W8, W8 = ((w7.setCell ⟨w.heap.size + 1, 0, none⟩ (.slice pu (labG Lb L).length cu)).setCell ⟨w.heap.size + 1, 1, none⟩ (.slice pv (gluP L P).length cv)) →
              BoxO W8 (w.heap.size + 1) (.slice pu (labG Lb L).length cu) (.slice pv (gluP L P).length cv) ∧ OwnObj W8 w.heap.size (.slice pu (labG Lb L).length cu) (.slice pv (gluP L P).length cv) (labG Lb L) (gluP L P) ∧ w.grownBy W8 none) := Lib.hid (by
            rintro W8 rfl
            have hlt := HLT.out
            have hob : OwnObj w7 wx.heap.size (.slice pu (labG Lb L).length cu) (.slice pv (gluP L P).length cv) (labG Lb L) (gluP L P) := ⟨ownsRow_calm HOB.out.ls hga, ownsRow_calm HOB.out.ps hga⟩
            have hob2 := (hob.set (p := ⟨w.heap.size + 1, 0, none⟩) hlt (.slice pu (labG Lb L).length cu)).set (p := ⟨w.heap.size + 1, 1, none⟩) hlt (.slice pv (gluP L P).length cv)
            exact ⟨((he7.2 1 _ rfl).set0 _).set1 _, ⟨ownsRow_down hob2.ls (by omega), ownsRow_down hob2.ps (by omega)⟩, grownBy_setCell_new _ (grownBy_setCell_new _ he7.1 (by show _ ≤ w.heap.size + 1; omega)) (by show _ ≤ w.heap.size + 1; omega)⟩)
          clear hga hbx he7
          go_wp2
          obtain ⟨z1, z2, z3⟩ := HFIN.out _ rfl
          generalize ((w7.setCell ⟨w.heap.size + 1, 0, none⟩ (.slice pu (labG Lb L).length cu)).setCell ⟨w.heap.size + 1, 1, none⟩ (.slice pv (gluP L P).length cv)) = W8 at *
          have y0 := z1.c0
          have y1 := z1.c1
          have Z2 := Lib.hid z2
          have Z3 := Lib.hid z3
          clear z1 z2 z3
          exact bodyPost_ret (v := .agg #[.slice pu (labG Lb L).length cu, .slice pv (gluP L P).length cv]) (by simp [results, Tryd.results27, go_sem, y0, y1]) rfl ⟨_, _, rfl, Z2.out, Z3.out⟩

/-- What split has laid so far: a row of slices, the first k of them a part each. -/
def SpI (W : World) (g n k : Nat) (Ls : Nat → List Int) : Prop := ∃ lv : List Value, lv.length = n ∧ Blk W g lv.toArray 28 ∧ (∀ j, k ≤ j → j < n → lv[j]? = some (.slice none 0 0)) ∧ ∀ j, j < k → ∃ pm nm cm, lv[j]? = some (.slice pm nm cm) ∧ ZsAt W (g + 1) W.heap.size pm nm (Ls j)
theorem SpI.calm {W W' : World} {g n k : Nat} {Ls : Nat → List Int} (h : SpI W g n k Ls) (hg : W.grownBy W' none) : SpI W' g n k Ls := by
  obtain ⟨lv, h1, h2, h3, h4⟩ := h
  refine ⟨lv, h1, h2.calm hg, h3, fun j hj => ?_⟩
  obtain ⟨pm, nm, cm, e, hz⟩ := h4 j hj
  exact ⟨pm, nm, cm, e, (hz.calm hg).wider (Nat.le_refl _) hg.size (Nat.le_refl _)⟩
theorem SpI.cell {W : World} {g n k : Nat} {Ls : Nat → List Int} (h : SpI W g n k Ls) (hk : k < n) : W.cell? ⟨g, k, none⟩ = some (.slice none 0 0) ∧ W.frozen? ⟨g, k, none⟩ = false := by
  obtain ⟨lv, h1, h2, h3, h4⟩ := h
  refine ⟨?_, h2.free k⟩
  have h' : W.heap[g]? = some (.cells lv.toArray 28 (0, 0)) := h2
  have h5 := h3 k (Nat.le_refl _) hk
  simp [World.cell?, h', h5]
theorem SpI.next {W : World} {g n k pn pc : Nat} {pm : Option Addr} {Ls : Nat → List Int} (h : SpI W g n k Ls) (hk : k < n) (hz : ZsAt W (g + 1) W.heap.size pm pn (Ls k)) : SpI (W.setCell ⟨g, k, none⟩ (.slice pm pn pc)) g n (k + 1) Ls := by
  obtain ⟨lv, h1, h2, h3, h4⟩ := h
  have hg := grownBy_setCell W ⟨g, k, none⟩ (.slice pm pn pc)
  have hkp : Kept g (g + 1) W (W.setCell ⟨g, k, none⟩ (.slice pm pn pc)) := Kept.row hg (Nat.le_refl _) (Nat.lt_succ_self _)
  have key : ∀ {p : Option Addr} {m : Nat} {l : List Int}, ZsAt W (g + 1) W.heap.size p m l → ZsAt (W.setCell ⟨g, k, none⟩ (.slice pm pn pc)) (g + 1) (W.setCell ⟨g, k, none⟩ (.slice pm pn pc)).heap.size p m l := fun z => (z.apart hkp (.inr (Nat.le_refl _))).wider (Nat.le_refl _) hg.size (Nat.le_refl _)
  refine ⟨lv.set k (.slice pm pn pc), by simpa using h1, ?_, fun j h5 h6 => ?_, fun j hj => ?_⟩
  · have h' := heap_setCell_same W g k lv.toArray 28 (.slice pm pn pc) h2
    simpa [Blk] using h'
  · rw [List.getElem?_set_ne (by omega)]
    exact h3 j (by omega) h6
  · by_cases e : j = k
    · subst e
      exact ⟨pm, pn, pc, by rw [List.getElem?_set_self (by omega)], key hz⟩
    · obtain ⟨pm', nm', cm', e', hz'⟩ := h4 j (by omega)
      exact ⟨pm', nm', cm', by rw [List.getElem?_set_ne (by omega)]; exact e', key hz'⟩
theorem SpI.made (W : World) (n : Nat) (Ls : Nat → List Int) : SpI (W.alloc (.cells (madeCells #[.slice none 0 0] n) 28)) W.heap.size n 0 Ls := by
  refine ⟨List.replicate n (.slice none 0 0), by simp, ?_, fun j _ h => by rw [List.getElem?_replicate]; simp [h], fun j hj => absurd hj (Nat.not_lt_zero _)⟩
  have h := Blk.new W (madeCells #[.slice none 0 0] n) 28
  have e : (madeCells #[.slice none 0 0] n) = (List.replicate n (Value.slice none 0 0)).toArray := by
    apply Array.ext
    · simp [madeCells]
    · intro i h1 h2
      simp [madeCells, Nat.mod_one]
  rw [← e]
  exact h
theorem SpI.end' {W : World} {g n lo : Nat} {Ls : Nat → List Int} {xs : List (List Int)} (h : SpI W g n n Ls) (hlo : lo ≤ g) (hx : xs = (List.range n).map Ls) : LegsAt W lo W.heap.size (some ⟨g, 0, none⟩) n xs := by
  obtain ⟨lv, h1, h2, h3, h4⟩ := h
  have h' : W.heap[g]? = some (.cells lv.toArray 28 (0, 0)) := h2
  refine ⟨by simp [hx], fun hn => ⟨g, 0, rfl, hlo, h2.lt, Nat.le_refl _, fun k hk => ?_⟩⟩
  obtain ⟨pm, nm, cm, e, hz⟩ := h4 k hk
  refine ⟨pm, nm, cm, ?_, ?_⟩
  · simp [World.cell?, h', e]
  · rw [hx, lgA_map _ hk]
    exact hz.wider (by omega) (Nat.le_refl _) (Nat.le_refl _)

end Go.Proofs.YtemnbkenihldgaaDoor
