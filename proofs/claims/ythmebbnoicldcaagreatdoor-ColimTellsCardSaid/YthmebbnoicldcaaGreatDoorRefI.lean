/- The reference's Colim. -/
import Derived.Test.YthmebbnoicldcaaGreatDoorRefG
import Derived.Test.YthmebbnoicldcaaGreatDoorColF
namespace Go.Proofs.YthmebbnoicldcaaGreatDoor
open Go.RowKit Go.Shelf

/-- What the reference's Colim hands back. -/
def RResD (A : List ByteArray) (B : List (Int × Int)) (Ls : List (List Int)) (r : Int) (w : World) (e : Ending) (w' : World) : Prop :=
  ∃ p c q d pl cl, e = .returned (.tuple #[.agg #[.slice p A.length c, .slice q B.length d], .slice pl Ls.length cl, .int .i64 r]) ∧ ObjAt w' w.heap.size w'.heap.size p A.length q B.length A B ∧ LegsAt w' w.heap.size w'.heap.size pl Ls.length Ls ∧ w.grownBy w' none
theorem rresD_nil {r : Int} {w w' : World} (h : w.grownBy w' none) : RResD [] [] [] r w (.returned (.tuple #[.agg #[.slice none 0 0, .slice none 0 0], .slice none 0 0, .int .i64 r])) w' :=
  ⟨none, 0, none, 0, none, 0, rfl, ⟨strsAt_nil _ _ _, pairsAt_nil _ _ _⟩, legsAt_nil _ _ _, h⟩

def stL (Ns : List Nd) (k : Nat) : List Int := (List.range k).map fun j => (stK Ns j : Int)
theorem stL_len (Ns : List Nd) (k : Nat) : (stL Ns k).length = k := by simp [stL]
theorem stL_succ (Ns : List Nd) (k : Nat) : stL Ns (k + 1) = stL Ns k ++ [(stK Ns k : Int)] := by simp [stL, List.range_succ]
theorem stL_get {Ns : List Nd} {k j : Nat} (h : j < k) : (stL Ns k)[j]?.getD 0 = (stK Ns j : Int) := by
  unfold stL
  rw [List.getElem?_map, List.getElem?_range h]
  rfl

theorem OwnObj.objAt {w : World} {base n c m d : Nat} {p q : Option Addr} {L : List ByteArray} {P : List (Int × Int)} (h : OwnObj w base (.slice p n c) (.slice q m d) L P) (hn : L.length = n) (hm : P.length = m) : ObjAt w base w.heap.size p n q m L P ∧ (p = none → c = 0) ∧ (q = none → d = 0) := by
  obtain ⟨p', c', q', d', e1, e2, ho, h1, h2⟩ := h.form
  cases e1
  cases e2
  exact ⟨ho, h1, h2⟩
/-- What lies while the reference's Colim puts the nodes side by side. -/
structure RE (w W : World) (g gs base : Nat) (dn da : Value) (vf : Value) (k : Nat) (fl : List Int) (u v : Value) (L : List ByteArray) (P : List (Int × Int)) : Prop where
  two : TwoB w W g dn da (.slice none 0 0) (.slice none 0 0)
  all : BoxO W gs u v
  frm : W.ownsRow base 3 1 vf k (zcells fl)
  obj : OwnObj W base u v L P
  lt : w.heap.size ≤ g ∧ g + 1 < gs ∧ gs < base ∧ base ≤ W.heap.size
theorem RE.calm {w W W' : World} {g gs base k : Nat} {dn da vf u v : Value} {fl : List Int} {L : List ByteArray} {P : List (Int × Int)} (h : RE w W g gs base dn da vf k fl u v L P) (hg : W.grownBy W' none) : RE w W' g gs base dn da vf k fl u v L P :=
  ⟨h.two.calm hg, h.all.calm hg, ownsRow_calm h.frm hg, h.obj.calm9 hg, h.lt.1, h.lt.2.1, h.lt.2.2.1, Nat.le_trans h.lt.2.2.2 hg.size⟩
theorem RE.app {w W W' : World} {g gs base k k' : Nat} {dn da vf v' u v : Value} {fl fl' : List Int} {L : List ByteArray} {P : List (Int × Int)} (h : RE w W g gs base dn da vf k fl u v L P) (ho : W'.ownsRow base 3 1 v' k' (zcells fl')) (hg : W.grownBy W' vf.ownBlock) : RE w W' g gs base dn da v' k' fl' u v L P := by
  obtain ⟨h1, h2, h3, h4⟩ := h.lt
  refine ⟨⟨ownsRow_new2 h.two.1 h.frm (by omega) hg, h.two.2.1.other hg (ne_own h.frm h.two.2.1 (by decide)), h.two.2.2.other hg (ne_own h.frm h.two.2.2 (by decide))⟩, h.all.other hg (ne_own h.frm h.all (by decide)), ho, ⟨own_other h.obj.ls h.frm (by decide) hg, own_other h.obj.ps h.frm (by decide) hg⟩, h1, h2, h3, Nat.le_trans h4 hg.size⟩
theorem RE.new {w W W' : World} {g gs base k : Nat} {dn da vf u v u' v' : Value} {fl : List Int} {L L' : List ByteArray} {P P' : List (Int × Int)} (h : RE w W g gs base dn da vf k fl u v L P) (hg : W.grownBy W' none) (ho : OwnObj W' W.heap.size u' v' L' P') : RE w ((W'.setCell ⟨gs, 0, none⟩ u').setCell ⟨gs, 1, none⟩ v') g gs base dn da vf k fl u' v' L' P' := by
  obtain ⟨h1, h2, h3, h4⟩ := h.lt
  have hc := h.calm hg
  have q1 := grownBy_setCell W' ⟨gs, 0, none⟩ u'
  have q2 := grownBy_setCell (W'.setCell ⟨gs, 0, none⟩ u') ⟨gs, 1, none⟩ v'
  have hgs : gs < W.heap.size := by omega
  have ho2 := (ho.set (p := ⟨gs, 0, none⟩) hgs u').set (p := ⟨gs, 1, none⟩) hgs v'
  have hf2 := ownsRow_set (ownsRow_set hc.frm (p := ⟨gs, 0, none⟩) h3 u') (p := ⟨gs, 1, none⟩) h3 v'
  have n1 : some g ≠ some gs := by intro e; have := Option.some.inj e; omega
  have n2 : some (g + 1) ≠ some gs := by intro e; have := Option.some.inj e; omega
  exact ⟨⟨grownBy_setCell_new _ (grownBy_setCell_new _ hc.two.1 (by show _ ≤ gs; omega)) (by show _ ≤ gs; omega), (hc.two.2.1.other q1 n1).other q2 n1, (hc.two.2.2.other q1 n2).other q2 n2⟩, (hc.all.set0 _).set1 _, hf2, ⟨ownsRow_down ho2.ls h4, ownsRow_down ho2.ps h4⟩, h1, h2, h3, Nat.le_trans hc.lt.2.2.2 (Nat.le_trans q1.size q2.size)⟩
theorem RE.cells {w W : World} {g gs base k : Nat} {dn da vf u v : Value} {fl : List Int} {L : List ByteArray} {P : List (Int × Int)} (h : RE w W g gs base dn da vf k fl u v L P) : W.cell? ⟨g, 0, none⟩ = some dn ∧ W.cell? ⟨g, 1, none⟩ = some da ∧ W.cell? ⟨gs, 0, none⟩ = some u ∧ W.cell? ⟨gs, 1, none⟩ = some v ∧ W.frozen? ⟨gs, 0, none⟩ = false ∧ W.frozen? ⟨gs, 1, none⟩ = false := ⟨h.two.2.1.c0, h.two.2.1.c1, h.all.c0, h.all.c1, h.all.free 0, h.all.free 1⟩

/-- Legs that lie in a row of their own. -/
theorem legsAt_own {w : World} {lo base k cl : Nat} {pl : Option Addr} {lv : List Value} {Ls : Nat → List Int} (h : w.ownsRow base 40 1 (.slice pl k cl) k lv) (hz : ∀ i, i < k → ∃ pm nm cm, lv[i]? = some (.slice pm nm cm) ∧ ZsAt w lo w.heap.size pm nm (Ls i)) (hlo : lo ≤ base) : LegsAt w lo w.heap.size pl k ((List.range k).map Ls) := by
  refine ⟨by simp, fun hk => ?_⟩
  rcases h.2 with ⟨e, h0⟩ | ⟨g, cap, cur, e, hb, hg, _⟩
  · omega
  · cases e
    refine ⟨g, 0, rfl, by omega, (Array.getElem?_eq_some_iff.1 hg).1, Nat.le_refl _, fun i hi => ?_⟩
    obtain ⟨pm, nm, cm, h1, h2⟩ := hz i hi
    refine ⟨pm, nm, cm, ?_, by rw [lgA_map _ hi]; exact h2⟩
    have hc := h.cells (g := g) rfl i _ h1
    rw [add_blk] at hc
    rw [Nat.zero_add]
    exact hc

set_option maxRecDepth 20000 in
set_option maxHeartbeats 4000000 in
theorem refCol_v (p q : Option Addr) (n c m d lo hi lo' hi' : Nat) (Ns : List Nd) (As : List Ar) (A : List ByteArray) (B : List (Int × Int)) (Ls : List (List Int)) (r : Int) (w : World) (hv : ColV Ns As A B Ls r) (hn : NodesAt w lo hi p n Ns) (ha : ArrsAt w lo' hi' q m As) (hf : DFew Ns As) :
    Calls Tryz.prog 9 #[.agg #[.slice p n c, .slice q m d]] w (RResD A B Ls r w) := by
  obtain ⟨j0, hj0, jz0, jz1, jz2⟩ := info_parts Tryz.infoI3
  obtain ⟨i0, hi0, iz0, iz1, iz2⟩ := info_parts Tryz.infoI40
  have HV := Lib.hid hv
  have HN := Lib.hid hn
  have HA := Lib.hid ha
  have HF := Lib.hid hf
  have HNL := Lib.hid hn.len
  have HAL := Lib.hid ha.len
  have hn10 : n ≤ 10 := by rw [← hn.len]; exact hf.nn
  have hm12 : m ≤ 12 := by rw [← ha.len]; exact hf.aa
  have he := TwoB.new w (.slice p n c) (.slice q m d) (.slice none 0 0) (.slice none 0 0)
  clear hv hn ha hf
  go_enter Tryz.func9, Tryz.ntmps9
  go_wp2_with fail
  generalize (w.alloc (.cells #[.slice p n c, .slice q m d] 25)).alloc (.cells #[.slice none 0 0, .slice none 0 0] 29) = W0 at *
  have HE := Lib.hid he
  clear he
  generalize hgg : w.heap.size = g at *
  have HGG := Lib.hid hgg
  have hg1' : w.heap.size ≤ g + 1 := by omega
  clear hgg
  cases hlg : (manyB Ns As || decide (40 < stK Ns Ns.length)) with
  | true =>
    obtain ⟨rfl, rfl, rfl, rfl⟩ : A = [] ∧ B = [] ∧ Ls = [] ∧ r = 11 := by
      have h : colR Ns As = 11 := by
        unfold colR
        by_cases hm : manyB Ns As = true
        · rw [if_pos hm]
        · rw [if_neg hm]
          have hm' : manyB Ns As = false := by simpa using hm
          rw [hm', Bool.false_or] at hlg
          rw [if_pos (of_decide_eq_true hlg)]
      obtain ⟨h1, h2, h3, h4⟩ := HV.out
      rw [h] at h1
      rw [if_neg (by rw [h]; decide)] at h2 h3 h4
      exact ⟨h2, h3, h4, h1⟩
    refine (refLarge_r p q n c m d _ _ _ _ Ns As true _ (HN.out.calm HE.out.1) (HA.out.calm HE.out.1) HF.out hlg).mono ?_
    rintro e w1 ⟨rfl, hg1⟩
    have he1 := HE.out.calm hg1
    have HG := Lib.hid (he1.gr2 hg1' (.slice none 0 0) (.slice none 0 0))
    obtain ⟨x0, x1, b0, b1⟩ := he1.cells
    have f0 := he1.2.2.free 0
    have f1 := he1.2.2.free 1
    clear hg1 hlg he1
    go_wp2
    exact bodyPost_ret (v := .tuple #[.agg #[.slice none 0 0, .slice none 0 0], .slice none 0 0, .int .i64 11]) (by simp [results, Tryz.results9, go_sem, b0, b1]) rfl (rresD_nil HG.out)
  | false =>
    have hlg2 : manyB Ns As = false ∧ ¬ 40 < stK Ns Ns.length := by simpa using hlg
    have HMY := Lib.hid hlg2.1
    have HSM : Hid (stK Ns Ns.length ≤ 40) := Lib.hid (by have := hlg2.2; omega)
    refine (refLarge_r p q n c m d _ _ _ _ Ns As false _ (HN.out.calm HE.out.1) (HA.out.calm HE.out.1) HF.out hlg).mono ?_
    rintro e w2 ⟨rfl, hg2⟩
    have he2 := HE.out.calm hg2
    have HE2 := Lib.hid he2
    obtain ⟨x0, x1, b0, b1⟩ := he2.cells
    clear hg2 he2 HE hlg hlg2
    go_wp2_with fail
    cases hdg : diagB Ns As with
    | false =>
      obtain ⟨rfl, rfl, rfl, rfl⟩ : A = [] ∧ B = [] ∧ Ls = [] ∧ r = 10 := by
        have h : colR Ns As = 10 := by unfold colR; rw [if_neg (by rw [HMY.out]; decide), if_neg (by have := HSM.out; omega), hdg]; rfl
        obtain ⟨h1, h2, h3, h4⟩ := HV.out
        rw [h] at h1
        rw [if_neg (by rw [h]; decide)] at h2 h3 h4
        exact ⟨h2, h3, h4, h1⟩
      refine (refIsD_r p q n c m d _ _ _ _ Ns As false _ (HN.out.calm HE2.out.1) (HA.out.calm HE2.out.1) HF.out hdg).mono ?_
      rintro e w3 ⟨rfl, hg3⟩
      have he3 := HE2.out.calm hg3
      have HG := Lib.hid (he3.gr2 hg1' (.slice none 0 0) (.slice none 0 0))
      obtain ⟨x0, x1, b0, b1⟩ := he3.cells
      have f0 := he3.2.2.free 0
      have f1 := he3.2.2.free 1
      clear hg3 he3 hdg
      go_wp2
      exact bodyPost_ret (v := .tuple #[.agg #[.slice none 0 0, .slice none 0 0], .slice none 0 0, .int .i64 10]) (by simp [results, Tryz.results9, go_sem, b0, b1]) rfl (rresD_nil HG.out)
    | true =>
      obtain ⟨e0, e1, e2, e3⟩ : A = labG (labsK Ns Ns.length) (joinsD Ns As) ∧ B = gluP (joinsD Ns As) (prsK Ns Ns.length) ∧ Ls = (List.range Ns.length).map (legD Ns (joinsD Ns As)) ∧ r = 0 := by
        have h : colR Ns As = 0 := by unfold colR; rw [if_neg (by rw [HMY.out]; decide), if_neg (by have := HSM.out; omega), if_pos hdg]
        obtain ⟨h1, h2, h3, h4⟩ := HV.out
        rw [h] at h1
        rw [if_pos h] at h2 h3 h4
        exact ⟨h2, h3, h4, h1⟩
      subst e3
      have E0 := Lib.hid e0
      have E1 := Lib.hid e1
      have E2 := Lib.hid e2
      have HDG := Lib.hid (diag_parts hdg)
      clear e0 e1 e2
      refine (refIsD_r p q n c m d _ _ _ _ Ns As true _ (HN.out.calm HE2.out.1) (HA.out.calm HE2.out.1) HF.out hdg).mono ?_
      rintro e w3 ⟨rfl, hg3⟩
      have he3 := HE2.out.calm hg3
      have HE3 := Lib.hid he3
      have HCK := Lib.hid (beside_chk Ns HDG.out.nod HSM.out)
      have h3lt := he3.2.2.lt
      have hga := World.grownBy_alloc w3 (.cells #[.slice none 0 0, .slice none 0 0] 29) none
      have HRE : Hid (RE w (w3.alloc (.cells #[.slice none 0 0, .slice none 0 0] 29)) g w3.heap.size (w3.heap.size + 1) (.slice p n c) (.slice q m d) (.slice none 0 0) 0 (stL Ns 0) (.slice none 0 0) (.slice none 0 0) (labsK Ns 0) (prsK Ns 0)) := Lib.hid ⟨he3.calm hga, BoxO.new w3 _ _, World.ownsRow_nil _ _ _ _, ⟨World.ownsRow_nil _ _ _ _, World.ownsRow_nil _ _ _ _⟩, by rw [HGG.out]; exact Nat.le_refl _, h3lt, Nat.lt_succ_self _, by simp⟩
      clear hg3 he3 hdg HE2 HV hga x0 x1 b0 b1
      go_wp2_with fail
      generalize hgs : w3.heap.size = gs at *
      clear hgs
      go_loopw [6, 7] (fun sf si wr => ∃ (k : Nat) (pf : Option Addr) (cf : Nat) (pu : Option Addr) (cu : Nat) (pv : Option Addr) (mm cv : Nat), k ≤ n ∧ si = .int .i64 k ∧ sf = .slice pf k cf ∧ Hid (mm = (prsK Ns k).length) ∧ Hid ((pu = none → cu = 0) ∧ (pv = none → cv = 0)) ∧ RE w wr g gs (gs + 1) (.slice p n c) (.slice q m d) (.slice pf k cf) k (stL Ns k) (.slice pu (stK Ns k) cu) (.slice pv mm cv) (labsK Ns k) (prsK Ns k)) (fun _ si _ => n - (intOf si).toNat)
      case atStart => exact ⟨0, none, 0, none, 0, none, 0, 0, Nat.zero_le _, rfl, rfl, Lib.hid rfl, Lib.hid ⟨fun _ => rfl, fun _ => rfl⟩, HRE.out⟩
      case round =>
        obtain ⟨k, pf, cf, pu, cu, pv, mm, cv, hk, rfl, rfl, HMM, HPN, hre⟩ := hrel
        obtain ⟨y0, y1, y2, y3, _, _⟩ := hre.cells
        have HR := Lib.hid hre
        by_cases hkn : k < n
        · have k0 : (0 : Int) ≤ k := by omega
          have k1 : (k : Int) < n := by omega
          have hga := World.grownBy_alloc wr (.cells #[.int .i64 (stK Ns k : Nat)] 3) none
          have HRA := Lib.hid (hre.calm hga)
          have hfit := stK_fit Ns (show k < Ns.length by rw [HNL.out]; exact hkn)
          have hsz := hre.lt
          have hs40 : stK Ns k ≤ 40 := by have := HSM.out; omega
          have HST := Lib.hid (stL_succ Ns k)
          clear hre hga HRE
          generalize hsk : stK Ns k = s at *
          have HSK := Lib.hid hsk
          clear hsk
          go_upto_region 11 with (at_builtin; refine wpList_append_own _ rfl _ _ 40 rfl (gs + 1) 3 j0 (.int .i64 0) 1 8 Tryz.underlying40 hj0 jz0 jz1 jz2 rfl (by decide) (.slice pf k cf) k (zcells (stL Ns k)) rfl HRA.out.frm ⟨wr.heap.size, 0, none⟩ 1 1 [.int .i64 (s : Int)] rfl rfl (World.news_of_block (heap_new wr _)) (by simp [Value.oneCell']) (by unfold maxLen; omega) (by omega) (by simp only [World.size_alloc]; omega) ?_; intro v' w5 hown' hgrow _; obtain ⟨p7, c7, rfl⟩ := ownsRow_sl hown'; have HOW := Lib.hid hown'; have HGR := Lib.hid hgrow; clear hown' hgrow)
          have hr5 := HRA.out.app (fl' := stL Ns (k + 1)) (by rw [HST.out, zcells_snoc]; exact HOW.out) HGR.out
          have HR5 := Lib.hid hr5
          obtain ⟨b, off, rfl, q1, q2, q3, hc⟩ := (HN.out.calm hr5.two.1).cell (by omega)
          obtain ⟨pl, nl, cl, pq, nq, cq, c0, c1, ho, hnl, hcl, hcq⟩ := hc k hkn
          clear y0 y1 y2 y3
          obtain ⟨y0, y1, y2, y3, _, _⟩ := hr5.cells
          have hgd := grownBy_drewN w5 1 none
          have hrd := hr5.calm hgd
          have HRD := Lib.hid hrd
          obtain ⟨z0, z1, z2, z3, z4, z5⟩ := hrd.cells
          have hob := hrd.obj.objAt (by rw [labsK_len, HSK.out]) (by rw [← HMM.out])
          have HOB := Lib.hid hob.1
          have HPU := Lib.hid hob.2
          have hml := prsK_len (Ns := Ns) (n := k) (fun j hj => (HF.out.nod j (by rw [HNL.out]; omega)).2)
          rw [← HMM.out] at hml
          have hnq := (HF.out.nod k (by rw [HNL.out]; exact hkn)).2
          have hnl2 := (HF.out.nod k (by rw [HNL.out]; exact hkn)).1
          rw [ho.ps.len] at hnq
          rw [ho.ls.len] at hnl2
          have HSS : Hid (stK Ns (k + 1) = s + nl ∧ labsK Ns (k + 1) = labsK Ns k ++ (ndA Ns k).1 ∧ prsK Ns (k + 1) = prsK Ns k ++ shP s (ndA Ns k).2 ∧ (prsK Ns (k + 1)).length = mm + nq) := Lib.hid ⟨by rw [stK, HSK.out, ho.ls.len], rfl, by rw [prsK, HSK.out], by rw [prsK, List.length_append, shP_len, ho.ps.len, HMM.out]⟩
          have HO := Lib.hid (ho.calm hgd)
          have HIN : Hid (allIn nl (ndA Ns k).2 = true) := Lib.hid (by have := (chk_in (HDG.out.nod k (by rw [HNL.out]; exact hkn))).2.2.1; rwa [ho.ls.len] at this)
          clear hc ho hr5 hgd hrd hob HR HRA HOW HGR HR5
          go_wp2
          refine wp_region_still_tail 6 (by kernel_rfl) (by kernel_rfl) ?_
          simp only [List.take_succ_cons, List.take_zero, List.drop_succ_cons, List.drop_zero]
          repeat still_step
          refine wpStill_nil ?_
          change wpList _ _ _ _ _ w5.drew
          clear y0 y1 y2 y3 c0 c1
          go_wp2_with (go_at_call 27; refine (refBeside_o pu pv pl pq s cu mm cv nl cl nq cq _ _ _ _ (labsK Ns k) (ndA Ns k).1 (prsK Ns k) (ndA Ns k).2 _ HOB.out HO.out (by omega) (by omega) (by omega) (by omega) HPU.out.1 hcl HPU.out.2 HIN.out).mono ?_)
          rintro e w8 ⟨u8, v8, rfl, ho8, hg8⟩
          obtain ⟨p8, c8, q8, d8, rfl, rfl, _, hp8, hq8⟩ := ho8.form
          have el : (labsK Ns k ++ (ndA Ns k).1).length = s + nl := by rw [← HSS.out.2.1, labsK_len, HSS.out.1]
          have ep : (prsK Ns k ++ shP s (ndA Ns k).2).length = mm + nq := by rw [← HSS.out.2.2.1, HSS.out.2.2.2]
          rw [el, ep] at ho8 ⊢
          rw [← HSS.out.2.1, ← HSS.out.2.2.1] at ho8
          have HNW := Lib.hid (HRD.out.new hg8 ho8)
          have HPN8 : Hid ((p8 = none → c8 = 0) ∧ (q8 = none → d8 = 0)) := Lib.hid ⟨hp8, hq8⟩
          clear z0 z1 z2 z3 z4 z5
          obtain ⟨z0, z1, z2, z3, z4, z5⟩ := (HRD.out.calm hg8).cells
          clear ho8 hg8 el ep hp8 hq8 HOB HO HRD
          go_wp2
          exact ⟨⟨k + 1, p7, c7, p8, c8, q8, mm + nq, d8, by omega, by go_num, rfl, Lib.hid HSS.out.2.2.2.symm, HPN8, by rw [HSS.out.1]; exact HNW.out⟩, by simp [intOf]; omega⟩
        · obtain rfl : k = n := by omega
          have k1 : ¬ ((k : Int) < k) := by omega
          have hsN : stK Ns k = stK Ns Ns.length := by rw [HNL.out]
          have hobj := hre.obj.objAt (by rw [labsK_len]) (by rw [← HMM.out])
          have HOB := Lib.hid hobj.1
          have hml := prsK_len (Ns := Ns) (n := k) (fun j hj => (HF.out.nod j (by rw [HNL.out]; omega)).2)
          rw [← HMM.out] at hml
          have hzs : ZsAt wr (gs + 1) wr.heap.size pf k (stL Ns k) := by
            have h1 := hre.frm
            obtain ⟨p9, c9, e9, h9⟩ := zsAt_own (l := stL Ns k) (by rw [stL_len]; exact h1)
            rw [stL_len] at e9 h9
            cases e9
            exact h9
          have HZS := Lib.hid hzs
          have hN40 : stK Ns k ≤ 40 := by rw [hsN]; exact HSM.out
          have HTW := Lib.hid hre.two
          have HALL := Lib.hid hre.all
          clear hre hobj hzs HRE
          generalize hNN : stK Ns k = N at *
          have HNN := Lib.hid hNN
          have HSN := Lib.hid hsN
          clear hNN hsN
          go_wp2_with fail
          generalize wr = w5 at *
          refine (newR_c N w5 (by omega)).mono ?_
          rintro e w6 ⟨ub, rfl, hu, hg6⟩
          have HU6 := Lib.hid hu
          have HG6 := Lib.hid hg6
          clear y0 y1 y2 y3
          generalize w6.heap.size = hu6 at *
          clear hu hg6
          go_wp2
          go_loopw [9] (fun i wr => ∃ a : Nat, a ≤ m ∧ i = .int .i64 a ∧ IsRn wr w5.heap.size hu6 ub (joinsK (List.range N) (jF Ns As As.length) (jG Ns As As.length) (lenK As a)) ∧ w5.grownBy wr none) (fun i _ => m - (intOf i).toNat)
          case atStart => exact ⟨0, Nat.zero_le _, rfl, HU6.out, HG6.out⟩
          case round =>
            obtain ⟨a, ha, rfl, hu, hgr⟩ := hrel
            have HU := Lib.hid hu
            have HGR := Lib.hid hgr
            have hew := HTW.out.calm hgr
            obtain ⟨x0, x1, b0, b1⟩ := hew.cells
            by_cases ham : a < m
            · have a0 : (0 : Int) ≤ a := by omega
              have a1 : (a : Int) < m := by omega
              obtain ⟨⟨fa, fb⟩, ⟨ta, tb⟩, hv⟩ := HDG.out.arr a (by rw [HAL.out]; exact ham)
              obtain ⟨bq, oq, rfl, q1, q2, q3, hc⟩ := HA.out.cell (by omega)
              obtain ⟨pm, nm, cm, c0, c1, c2, hz⟩ := hc a ham
              replace c0 := cell_calm hew.1 c0 (by omega)
              replace c1 := cell_calm hew.1 c1 (by omega)
              replace c2 := cell_calm hew.1 c2 (by omega)
              have htop := hu.top.2
              have hnm := HF.out.arr a (by rw [HAL.out]; exact ham)
              have HJX := Lib.hid (fun x (hx : x < nm) => joinsK_next (N := N) (Ns := Ns) (As := As) (a := a) (x := x) (by rw [HAL.out]; exact ham) (by rw [hz.len]; exact hx))
              have HLK : Hid (lenK As (a + 1) = lenK As a + nm) := Lib.hid (by rw [lenK, hz.len])
              rw [hz.len] at hnm
              obtain ⟨⟨z1, z2, l⟩, hx⟩ : ∃ x : Ar, x = arA As a := ⟨_, rfl⟩
              rw [← hx] at c0 c1 hz fa fb ta tb hv HJX
              simp only at c0 c1 hz fa fb ta tb hv HJX
              clear hx
              rw [HNL.out] at fb tb
              obtain ⟨fn, rfl⟩ := Int.eq_ofNat_of_zero_le fa
              obtain ⟨tn, rfl⟩ := Int.eq_ofNat_of_zero_le ta
              rw [Int.toNat_natCast, Int.toNat_natCast] at hv
              have hfn : fn < k := by omega
              have htn : tn < k := by omega
              have HHZ := Lib.hid (arB_hasZ hv)
              have hsf := stK_fit Ns (show fn < Ns.length by rw [HNL.out]; exact hfn)
              have hst := stK_fit Ns (show tn < Ns.length by rw [HNL.out]; exact htn)
              have hnl : nm = (ndA Ns fn).1.length := by rw [← HHZ.out.1, hz.len]
              rw [← hnl] at hsf
              rw [← HSN.out] at hsf hst
              have hga := World.grownBy_alloc wr (.cells #[.int .i64 fn, .int .i64 tn, .slice pm nm cm] 49) none
              have hbx := Blk.new wr #[.int .i64 fn, .int .i64 tn, .slice pm nm cm] 49
              have HBA := Lib.hid hbx
              have HZ := Lib.hid hz
              have HGA := Lib.hid (grownBy_trans hgr hga)
              have HUA := Lib.hid (hu.calm hga)
              have HZL := Lib.hid hz.len
              clear hc hz hga hgr hbx hew hv fa fb ta tb hu HU hnl
              go_wp2
              clear c0 c1 c2 x0 x1 b0 b1
              generalize wr.alloc (.cells #[.int .i64 fn, .int .i64 tn, .slice pm nm cm] 49) = wa at *
              generalize wr.heap.size = ga at *
              go_loopw [11] (fun i wr => ∃ x : Nat, x ≤ nm ∧ i = .int .i64 x ∧ IsRn wr w5.heap.size hu6 ub (joinsK (List.range N) (jF Ns As As.length) (jG Ns As As.length) (lenK As a + x)) ∧ Kept w5.heap.size hu6 wa wr ∧ w5.grownBy wr none) (fun i _ => nm - (intOf i).toNat)
              case atStart => exact ⟨0, Nat.zero_le _, rfl, HUA.out, Kept.refl _ _ _, HGA.out⟩
              case round =>
                obtain ⟨x, hx, rfl, hu, hkp, hgx⟩ := hrel
                generalize wr = wx at *
                have HUX := Lib.hid hu
                have HKX := Lib.hid hkp
                have HGX := Lib.hid hgx
                have hba := Blk.keptK HBA.out hkp (by omega)
                have y0 := hba.c0
                have y1 := hba.c1
                have y2 := hba.c2
                by_cases hxn : x < nm
                · have x00 : (0 : Int) ≤ x := by omega
                  have x01 : (x : Int) < nm := by omega
                  obtain ⟨bm, om, rfl, _, _, _, hcm⟩ := (HZ.out.calm (grownBy_trans HTW.out.1 hgx)).cell (by omega)
                  have cx := hcm x hxn
                  obtain ⟨lx0, lx1⟩ := HHZ.out.2 (l[x]?.getD 0) (by rw [List.getElem?_eq_getElem (by rw [HZL.out]; exact hxn)]; exact List.getElem_mem _)
                  have HSTEP := Lib.hid (HJX.out x hxn)
                  obtain ⟨bf, of', rfl, _, _, _, hcf⟩ := (HZS.out.calm hgx).cell (by omega)
                  have r0 := hcf fn hfn
                  have r1 := hcf tn htn
                  rw [stL_get hfn] at r0
                  rw [stL_get htn] at r1
                  rw [Int.toNat_natCast, Int.toNat_natCast] at HSTEP
                  clear hcm hba hcf hu hkp hgx
                  generalize l[x]?.getD 0 = lx at *
                  generalize stK Ns fn = sf at *
                  generalize stK Ns tn = st at *
                  have f00 : (0 : Int) ≤ fn := by omega
                  have f01 : (fn : Int) < k := by omega
                  have t00 : (0 : Int) ≤ tn := by omega
                  have t01 : (tn : Int) < k := by omega
                  go_wp2
                  refine wp_region_still_tail 19 (by kernel_rfl) (by kernel_rfl) ?_
                  simp only [List.take_succ_cons, List.take_zero, List.drop_succ_cons, List.drop_zero]
                  repeat still_step
                  refine wpStill_nil ?_
                  change wpList _ _ _ _ _ wx.drew
                  clear cx y0 y1 y2 r0 r1
                  go_wp2_with fail
                  refine (joinR_c w5.heap.size hu6 ub _ ((sf : Int) + x) ((st : Int) + lx) _ (HUX.out.calm (grownBy_drewN wx 1 none))).mono ?_
                  rintro e w9 ⟨rfl, h9, hk9⟩
                  have HU9 := Lib.hid (show IsRn w9 w5.heap.size hu6 ub (joinsK (List.range N) (jF Ns As As.length) (jG Ns As As.length) (lenK As a + (x + 1))) by rw [HSTEP.out]; exact h9)
                  have HG9 := Lib.hid (Kept.new (grownBy_trans HGX.out (grownBy_drewN wx 1 none)) hk9 (Nat.le_refl _))
                  have HK9 := Lib.hid ((HKX.out.trans (Kept.calm (grownBy_drewN wx 1 none))).trans hk9)
                  clear h9 hk9
                  go_wp2
                  exact ⟨⟨x + 1, by omega, by go_num, HU9.out, HK9.out, HG9.out⟩, by simp [intOf]; omega⟩
                · obtain rfl : x = nm := by omega
                  have x01 : ¬ ((x : Int) < x) := by omega
                  clear hu hkp hgx hba
                  go_wp2
                  exact ⟨⟨a + 1, by omega, by go_num, by rw [HLK.out]; exact HUX.out, HGX.out⟩, by simp [intOf]; omega⟩
            · obtain rfl : a = m := by omega
              have a1 : ¬ ((a : Int) < a) := by omega
              have HJ : Hid (joinsK (List.range N) (jF Ns As As.length) (jG Ns As As.length) (lenK As a) = joinsD Ns As) := Lib.hid (by
                unfold joinsD joinsL
                rw [jF_len, HAL.out, ← HSN.out])
              rw [HJ.out] at hu
              have HJL : Hid ((joinsD Ns As).length = N ∧ (joinsD Ns As).length = stK Ns Ns.length ∧ isL (joinsD Ns As)) := Lib.hid ⟨by rw [joinsD_len, HSN.out], joinsD_len Ns As, joinsD_is Ns As⟩
              have HIN : Hid (allIn N (prsK Ns k) = true) := Lib.hid (by have := (chk_in HCK.out).2.2.1; rwa [labsK_len, ← HSN.out, HNL.out] at this)
              have e0 := E0.out
              have e1 := E1.out
              rw [HNL.out] at e0 e1
              have e2 := E2.out
              generalize joinsD Ns As = J at *
              have F0 := Lib.hid e0
              have F1 := Lib.hid e1
              have F2 := Lib.hid e2
              have HALL8 := Lib.hid (HALL.out.calm hgr)
              have z2 := HALL8.out.c0
              have z3 := HALL8.out.c1
              have HUF := Lib.hid (hu.calm (grownBy_refl wr none))
              have HOBF := Lib.hid (HOB.out.calm hgr)
              have HTWF := Lib.hid hew
              clear e0 e1 e2 E0 E1 E2 hu hew HU HGR
              have HZSF := Lib.hid (HZS.out.calm hgr)
              clear hgr
              go_wp2_with fail
              refine (glued_c pu pv N cu mm cv _ _ _ _ ub (labsK Ns k) (prsK Ns k) J wr HOBF.out HUF.out HJL.out.2.2 HJL.out.1 hN40 (by omega) HIN.out).mono ?_
              rintro e w7 ⟨pq', cq', pr', cr', gat, rfl, hoq, hzq, hg7⟩
              rw [← F0.out, ← F1.out] at hoq ⊢
              have hga := World.grownBy_alloc w7 (.cells #[.slice pq' A.length cq', .slice pr' B.length cr'] 29) none
              have hbx := BoxO.new w7 (.slice pq' A.length cq') (.slice pr' B.length cr')
              have HTW8 := Lib.hid ((HTWF.out.calm hg7).calm hga)
              have HBX := Lib.hid hbx
              have HQ8 := Lib.hid (hoq.calm hga)
              have HZ8 := Lib.hid (hzq.calm hga)
              have HZS8 := Lib.hid ((HZSF.out.calm hg7).calm hga)
              have hw7 := HTWF.out.1.size
              have hw7' := hg7.size
              have hw78 := hga.size
              have hlt1 := HTWF.out.2.2.lt
              clear hoq hzq hg7 hga hbx z2 z3 x0 x1 b0 b1
              go_upto_region 22 with fail
              generalize w7.alloc (.cells #[.slice pq' A.length cq', .slice pr' B.length cr'] 29) = W8 at *
              have HLB : Hid (w7.heap.size ≤ W8.heap.size ∧ wr.heap.size ≤ w7.heap.size ∧ g + 1 < wr.heap.size) := Lib.hid ⟨hw78, hw7', hlt1⟩
              have hgq : w7.heap.size < W8.heap.size := HBX.out.lt
              generalize w7.heap.size = gq at *
              generalize hs8 : wr.heap.size = s8 at *
              clear hs8
              go_wp2
              go_loopw [14, 15] (fun sl si wx => ∃ (j : Nat) (pl : Option Addr) (cl : Nat) (lv : List Value), j ≤ k ∧ si = .int .i64 j ∧ sl = .slice pl j cl ∧ wx.ownsRow W8.heap.size 40 1 (.slice pl j cl) j lv ∧ Hid (∀ i, i < j → ∃ pm nm cm, lv[i]? = some (.slice pm nm cm) ∧ ZsAt W8 s8 W8.heap.size pm nm (legD Ns J i)) ∧ W8.grownBy wx none) (fun _ si _ => k - (intOf si).toNat)
              case atStart => exact ⟨0, none, 0, [], Nat.zero_le _, rfl, rfl, World.ownsRow_nil _ _ _ _, Lib.hid (fun i hi => absurd hi (Nat.not_lt_zero _)), grownBy_refl _ _⟩
              case round =>
                obtain ⟨j, pl, cl, lv, hj, rfl, rfl, hown, HLV, hgx⟩ := hrel
                generalize wr = wx at *
                have HOWN := Lib.hid hown
                have HGX := Lib.hid hgx
                have htw := HTW8.out.calm hgx
                obtain ⟨x0, x1, b0, b1⟩ := htw.cells
                have hsz := hgx.size
                by_cases hjk : j < k
                · have j00 : (0 : Int) ≤ j := by omega
                  have j01 : (j : Int) < k := by omega
                  obtain ⟨b, off, rfl, q1, q2, q3, hc⟩ := (HN.out.calm htw.1).cell (by omega)
                  obtain ⟨pu', nl, cu', pq', nq', cq'', c0, c1, ho, _, _, _⟩ := hc j hjk
                  obtain ⟨bf, of', rfl, _, _, _, hcf⟩ := (HZS8.out.calm hgx).cell (by omega)
                  have r0 := hcf j hjk
                  rw [stL_get hjk] at r0
                  have hfit := stK_fit Ns (show j < Ns.length by rw [HNL.out]; exact hjk)
                  rw [← HSN.out, ho.ls.len] at hfit
                  have hlg := leg_len Ns HJL.out.2.1 (k := j) (by rw [HNL.out]; exact hjk)
                  rw [ho.ls.len] at hlg
                  have HZJ0 : Hid (ZsAt W8 s8 W8.heap.size (some ⟨gat, stK Ns j, none⟩) nl (legD Ns J j)) := Lib.hid (⟨hlg, fun hp => by
                    obtain ⟨b', o', e', h1, h2, h3, hcc⟩ := HZ8.out.cell (by omega)
                    cases e'
                    refine ⟨gat, stK Ns j, rfl, h1, by have := HLB.out.1; omega, Nat.le_refl _, fun i hi => ?_⟩
                    have h5 := hcc (stK Ns j + i) (by omega)
                    rw [Nat.zero_add] at h5
                    have h6 : (legD Ns J j)[i]?.getD 0 = (atZ J)[stK Ns j + i]?.getD 0 := by
                      show (((atZ J).drop (stK Ns j)).take _)[i]?.getD 0 = _
                      rw [at_take (by rw [ho.ls.len]; exact hi), at_drop]
                    rw [h6]
                    exact h5⟩)
                  have hll : lv.length = j := by have := hown.1; omega
                  have HLV2 : Hid (∀ (pm : Option Addr) (nm cm : Nat), ZsAt W8 s8 W8.heap.size pm nm (legD Ns J j) → Hid (∀ i, i < j + 1 → ∃ pm' nm' cm', (lv ++ [.slice pm nm cm])[i]? = some (.slice pm' nm' cm') ∧ ZsAt W8 s8 W8.heap.size pm' nm' (legD Ns J i))) := Lib.hid (fun pm nm cm hz => Lib.hid (fun i hi => by
                    by_cases e : i = j
                    · subst e
                      exact ⟨pm, nm, cm, by rw [List.getElem?_append_right (by omega), hll, Nat.sub_self]; rfl, hz⟩
                    · obtain ⟨pm', nm', cm', h1, h2⟩ := HLV.out i (by omega)
                      exact ⟨pm', nm', cm', by rw [List.getElem?_append_left (by omega)]; exact h1, h2⟩))
                  clear hc ho hcf hown hgx htw hlg hll
                  have HSJ := Lib.hid (rfl : stK Ns j = stK Ns j)
                  generalize stK Ns j = s at *
                  have s0 : (0 : Int) ≤ s := by omega
                  have s1 : (s : Int) ≤ (s : Int) + nl := by omega
                  have s2 : (s : Int) + nl ≤ N := by omega
                  have hnl : (nl : Int) ≤ 40 := by omega
                  go_wp2
                  by_cases hsN : N = s
                  · have e1 : N - s = 0 := by omega
                    have e2 : nl = 0 := by omega
                    subst e2
                    have HZJ : Hid (ZsAt W8 s8 W8.heap.size (some ⟨gat, 0, none⟩) 0 (legD Ns J j)) := Lib.hid ⟨HZJ0.out.len, fun h => absurd h (by omega)⟩
                    subst hsN
                    have hw : IntKind.i64.wrap (N : Int) = (N : Int) := wrap_few _ (by omega) (by omega)
                    go_region_law (refine step_append_lies _ (by rfl) _ _ _ (by rfl) W8.heap.size 40 i0 (.slice none 0 0) 1 24 Tryz.underlying30 hi0 iz0 iz1 iz2 rfl (by decide) (.slice pl j cl) j lv (by rfl) (by exact HOWN.out.drew.alloc _) ⟨wx.heap.size, 0, none⟩ 1 1 [.slice (some ⟨gat, 0, none⟩) 0 0] (by rfl) rfl (by exact news_one wx.drew _ _) (by simp [Value.oneCell']) (by decide) (by unfold maxLen; omega) (by omega) (by simp; omega) (wx.heap.size + 1) (by simp) ?_; intro g' cap' w2 hown' hgrow _ _)
                    all_goals have HO2 := Lib.hid hown'
                    all_goals have HG2 := Lib.hid hgrow
                    all_goals clear hown' hgrow
                    all_goals go_wp2
                    all_goals
                      exact ⟨⟨j + 1, some ⟨g', 0, none⟩, cap', lv ++ [.slice (some ⟨gat, 0, none⟩) 0 0], by omega, by go_num, by first | rfl | go_num, HO2.out, HLV2.out _ _ _ HZJ.out, ownsRow_new2 (grownBy_trans (grownBy_trans HGX.out (grownBy_drewN wx 1 none)) (World.grownBy_alloc _ _ none)) (HOWN.out.drew.alloc _) (Nat.le_refl _) HG2.out⟩, by simp [intOf]; omega⟩
                  · have e1 : ¬ (N - s = 0) := by omega
                    have HZJ := HZJ0
                    obtain ⟨t, ht⟩ : ∃ t, t = s + nl := ⟨_, rfl⟩
                    have hw : IntKind.i64.wrap ((s : Int) + nl) = (t : Int) := by rw [wrap_few _ (by omega) (by omega)]; omega
                    have t1 : s ≤ t := by omega
                    have t2 : t ≤ N := by omega
                    have t3 : t - s = nl := by omega
                    clear ht
                    go_region_law (refine step_append_lies _ (by rfl) _ _ _ (by rfl) W8.heap.size 40 i0 (.slice none 0 0) 1 24 Tryz.underlying30 hi0 iz0 iz1 iz2 rfl (by decide) (.slice pl j cl) j lv (by rfl) (by exact HOWN.out.drew.alloc _) ⟨wx.heap.size, 0, none⟩ 1 1 [.slice (some ⟨gat, s, none⟩) nl (N - s)] (by rfl) rfl (by exact news_one wx.drew _ _) (by simp [Value.oneCell']) (by decide) (by unfold maxLen; omega) (by omega) (by simp; omega) (wx.heap.size + 1) (by simp) ?_; intro g' cap' w2 hown' hgrow _ _)
                    all_goals have HO2 := Lib.hid hown'
                    all_goals have HG2 := Lib.hid hgrow
                    all_goals clear hown' hgrow
                    all_goals go_wp2
                    all_goals
                      exact ⟨⟨j + 1, some ⟨g', 0, none⟩, cap', lv ++ [.slice (some ⟨gat, s, none⟩) nl (N - s)], by omega, by go_num, by first | rfl | go_num, HO2.out, HLV2.out _ _ _ HZJ.out, ownsRow_new2 (grownBy_trans (grownBy_trans HGX.out (grownBy_drewN wx 1 none)) (World.grownBy_alloc _ _ none)) (HOWN.out.drew.alloc _) (Nat.le_refl _) HG2.out⟩, by simp [intOf]; omega⟩
                · obtain rfl : j = k := by omega
                  have j1 : ¬ ((j : Int) < j) := by omega
                  have hl := legsAt_own (Ls := legD Ns J) hown (fun i hi => by
                    obtain ⟨pm, nm, cm, h1, h2⟩ := HLV.out i hi
                    exact ⟨pm, nm, cm, h1, (h2.calm hgx).wider (Nat.le_refl _) hgx.size (Nat.le_refl _)⟩) (by have := HLB.out; omega)
                  have hq := (HQ8.out.calm hgx)
                  have hbx := HBX.out.calm hgx
                  have z0 := hbx.c0
                  have z1 := hbx.c1
                  have f0 := htw.2.2.free 0
                  have f1 := htw.2.2.free 1
                  have hlb := HLB.out
                  have q1 := grownBy_setCell wx ⟨g + 1, 0, none⟩ (.slice pq' A.length cq')
                  have q2 := grownBy_setCell (wx.setCell ⟨g + 1, 0, none⟩ (.slice pq' A.length cq')) ⟨g + 1, 1, none⟩ (.slice pr' B.length cr')
                  have k1 : Kept (g + 1) (g + 1 + 1) wx (wx.setCell ⟨g + 1, 0, none⟩ (.slice pq' A.length cq')) := Kept.row q1 (Nat.le_refl _) (Nat.lt_succ_self _)
                  have k2 : Kept (g + 1) (g + 1 + 1) (wx.setCell ⟨g + 1, 0, none⟩ (.slice pq' A.length cq')) ((wx.setCell ⟨g + 1, 0, none⟩ (.slice pq' A.length cq')).setCell ⟨g + 1, 1, none⟩ (.slice pr' B.length cr')) := Kept.row q2 (Nat.le_refl _) (Nat.lt_succ_self _)
                  have hfin : BoxO ((wx.setCell ⟨g + 1, 0, none⟩ (.slice pq' A.length cq')).setCell ⟨g + 1, 1, none⟩ (.slice pr' B.length cr')) (g + 1) (.slice pq' A.length cq') (.slice pr' B.length cr') ∧ ObjAt ((wx.setCell ⟨g + 1, 0, none⟩ (.slice pq' A.length cq')).setCell ⟨g + 1, 1, none⟩ (.slice pr' B.length cr')) w.heap.size ((wx.setCell ⟨g + 1, 0, none⟩ (.slice pq' A.length cq')).setCell ⟨g + 1, 1, none⟩ (.slice pr' B.length cr')).heap.size pq' A.length pr' B.length A B ∧ LegsAt ((wx.setCell ⟨g + 1, 0, none⟩ (.slice pq' A.length cq')).setCell ⟨g + 1, 1, none⟩ (.slice pr' B.length cr')) w.heap.size ((wx.setCell ⟨g + 1, 0, none⟩ (.slice pq' A.length cq')).setCell ⟨g + 1, 1, none⟩ (.slice pr' B.length cr')).heap.size pl j ((List.range j).map (legD Ns J)) ∧ w.grownBy ((wx.setCell ⟨g + 1, 0, none⟩ (.slice pq' A.length cq')).setCell ⟨g + 1, 1, none⟩ (.slice pr' B.length cr')) none :=
                    ⟨(htw.2.2.set0 _).set1 _, ((hq.set (a := ⟨g + 1, 0, none⟩) hlb.2.2 _).set (a := ⟨g + 1, 1, none⟩) hlb.2.2 _).wider (by omega) (Nat.le_trans (by omega) (Nat.le_trans q1.size q2.size)) (Nat.le_refl _), ((hl.apart k1 (.inr (by omega))).apart k2 (.inr (by omega))).wider (by omega) (Nat.le_trans q1.size q2.size) (Nat.le_refl _), htw.gr2 hg1' _ _⟩
                  have HFIN := Lib.hid hfin
                  have HLL : Hid (Ls = (List.range j).map (legD Ns J) ∧ Ls.length = j) := Lib.hid (by
                    have h1 := F2.out
                    rw [HNL.out] at h1
                    exact ⟨h1, by rw [h1, List.length_map, List.length_range]⟩)
                  clear hl hq hbx q1 q2 k1 k2 hfin hown hgx htw
                  go_wp2
                  obtain ⟨z1', z2', z3', z4'⟩ := HFIN.out
                  generalize ((wx.setCell ⟨g + 1, 0, none⟩ (.slice pq' A.length cq')).setCell ⟨g + 1, 1, none⟩ (.slice pr' B.length cr')) = W9 at *
                  have y0 := z1'.c0
                  have y1 := z1'.c1
                  refine bodyPost_ret (v := .tuple #[.agg #[.slice pq' A.length cq', .slice pr' B.length cr'], .slice pl j cl, .int .i64 0]) (by simp [results, Tryz.results9, go_sem, y0, y1]) rfl ⟨pq', cq', pr', cr', pl, cl, by rw [HLL.out.2], z2', ?_, z4'⟩
                  rw [HLL.out.2]
                  conv => arg 6; rw [HLL.out.1]
                  exact z3'

end Go.Proofs.YthmebbnoicldcaaGreatDoor
