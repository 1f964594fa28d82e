/- The reference's moved, glued; its Push, Sum, Equal where they refuse, Equal where it answers. -/
import Derived.Test.YtemnbkenihldgaaDoorPusf
import Derived.Test.YtemnbkenihldgaaDoorUnir
/-! The reference's package push: moved, glued. -/
namespace Go.Proofs.YtemnbkenihldgaaDoor
open Go.RowKit

theorem shL_next {n k : Nat} {f : List Int} (h : k < f.length) : zcells (shL n (f.take (k + 1))) = zcells (shL n (f.take k)) ++ [.int .i64 (f[k]?.getD 0 + (n : Int))] := by
  have : f.take (k + 1) = f.take k ++ [f[k]?.getD 0] := by rw [List.take_add_one, List.getElem?_eq_getElem h]; rfl
  rw [this]
  simp [shL, zcells, Int.add_comm]

theorem boxEnv_two7 (w : World) (u v u' v' : Value) : BoxEnv w ((w.alloc (.cells #[u, v] 25)).alloc (.cells #[u', v'] 25)) [(u, v), (u', v')] := by
  have g1 := World.grownBy_alloc w (.cells #[u, v] 25) none
  have g2 := World.grownBy_alloc (w.alloc (.cells #[u, v] 25)) (.cells #[u', v'] 25) none
  have b0 := BoxO.new w u v
  have b1 := BoxO.new (w.alloc (.cells #[u, v] 25)) u' v'
  rw [World.size_alloc] at b1
  refine ⟨grownBy_trans g1 g2, fun k x hx => ?_⟩
  match k, hx with
  | 0, hx => cases hx; exact b0.calm g2
  | 1, hx => cases hx; exact b1
  | k + 2, hx => simp at hx
/-- What glued leaves. -/
def GluedPost (N : Nat) (Lb : List ByteArray) (P : List (Int × Int)) (L : List Nat) (w : World) (e : Ending) (w' : World) : Prop :=
  ∃ p c q d g, e = .returned (.tuple #[.agg #[.slice p (labG Lb L).length c, .slice q (gluP L P).length d], .slice (some ⟨g, 0, none⟩) N N]) ∧ ObjAt w' w.heap.size w'.heap.size p (labG Lb L).length q (gluP L P).length (labG Lb L) (gluP L P) ∧ ZsAt w' w.heap.size w'.heap.size (some ⟨g, 0, none⟩) N (atZ L) ∧ w.grownBy w' none

theorem zsAt_rowI {w : World} {base g c : Nat} {l : List Nat} (h : RowI w base g c l) : ZsAt w base w.heap.size (some ⟨g, 0, none⟩) l.length (l.map fun x : Nat => (x : Int)) := by
  refine ⟨by simp, fun hn => ⟨g, 0, rfl, h.lt.1, h.lt.2, Nat.le_refl _, fun k hk => ?_⟩⟩
  rw [Nat.zero_add, h.cell (List.getElem?_eq_getElem hk)]
  simp [List.getElem?_eq_getElem hk]
theorem sgrow {w wr w2 : World} {o : Obj} {v : Value} {n : Nat} {xs : List Value} (h : w.grownBy wr none) (ho : wr.ownsRow w.heap.size 9 1 v n xs) (hg : (wr.alloc o).grownBy w2 v.ownBlock) : w.grownBy w2 none := by
  have h1 := grownBy_trans h (World.grownBy_alloc wr o none)
  cases hob : v.ownBlock with
  | none => rw [hob] at hg; exact grownBy_trans h1 hg
  | some r => rw [hob] at hg; exact grownBy_new h1 hg (ho.lt r hob).1

set_option maxRecDepth 20000 in
set_option maxHeartbeats 4000000 in
theorem glued_c (p q : Option Addr) (N c m d lo0 hi0 lo hi b : Nat) (Lb : List ByteArray) (P : List (Int × Int)) (L : List Nat) (w : World) (h : ObjAt w lo0 hi0 p N q m Lb P) (hu : IsRn w lo hi b L) (his : isL L) (hLN : L.length = N) (hN : N ≤ 40) (hm : m ≤ 2000000) (hin : allIn N P = true) :
    Calls Tryd.prog 19 #[.agg #[.slice p N c, .slice q m d], .pointer (some ⟨b, 0, none⟩)] w (GluedPost N Lb P L w) := by
  obtain ⟨i0, hi0', hz0, hz1, hz2⟩ := info_parts Tryd.info9
  have H := Lib.hid h
  have HU := Lib.hid hu
  have HIS := Lib.hid his
  have HLN := Lib.hid hLN
  have HIN := Lib.hid hin
  have HPL := Lib.hid h.ps.len
  clear h hu his hLN hin
  go_enter Tryd.func19, Tryd.ntmps19
  go_wp2_with fail
  have he := boxEnv_two7 w (.slice p N c) (.slice q m d) (.slice none 0 0) (.slice none 0 0)
  generalize (w.alloc (.cells #[.slice p N c, .slice q m d] 25)).alloc (.cells #[.slice none 0 0, .slice none 0 0] 25) = W2 at *
  refine (placesR_c lo hi b L W2 (HU.out.calm he.1) HIS.out).mono ?_
  rintro e w1 ⟨gp, rfl, hrow, hg1⟩
  have hpl := placesL_len L
  rw [HLN.out] at hpl
  rw [hpl] at hrow ⊢
  have he1 := he.calm hg1
  have HE1 := Lib.hid he1
  have HROW := Lib.hid (hrow.mono (base' := w.heap.size) he.1.size)
  have hs1 := he1.1.size
  clear hg1 he he1 hrow hpl
  go_wp2
  go_loopw [7, 8] (fun out i wr => ∃ (k : Nat) (pl : Option Addr) (cl : Nat), k ≤ N ∧ i = .int .i64 k ∧ out = .slice pl (cntR L k) cl ∧ wr.ownsRow w1.heap.size 9 1 (.slice pl (cntR L k) cl) (cntR L k) (scells ((labG Lb L).take (cntR L k))) ∧ w1.grownBy wr none) (fun _ i _ => N - (intOf i).toNat)
  case atStart => exact ⟨0, none, 0, Nat.zero_le _, rfl, rfl, World.ownsRow_nil _ _ _ _, grownBy_refl _ _⟩
  case round =>
    obtain ⟨k, pl, cl, hk, rfl, rfl, hown, hgr⟩ := hrel
    have HOWN := Lib.hid hown
    have HGR := Lib.hid hgr
    have hsz := hgr.size
    by_cases hkn : k < N
    · have k0 : (0 : Int) ≤ k := by omega
      have k1 : (k : Int) < N := by omega
      have hkl : k < L.length := by rw [HLN.out]; exact hkn
      have hcell := (HROW.out.calm hgr).cell (j := k) (x := plc6 L k) (by rw [nx_get (by rw [placesL_len]; exact hkl), nx_places hkl])
      have hcs := cntR_succ L k
      have hcle := cntR_le L k
      by_cases hlead : nx L k = k
      · have hpk : plc6 L k = cntR L k := plc_root hlead
        rw [if_pos hlead] at hcs
        have hld : (leadL L)[cntR L k]? = some k := by
          have := leads_at HIS.out (Nat.le_refl _) hkl hlead
          rwa [leads_eq HIS.out] at this
        have HST : Hid (scells ((labG Lb L).take (cntR L k + 1)) = scells ((labG Lb L).take (cntR L k)) ++ [.string (Lb[k]?.getD .empty)]) := Lib.hid (by rw [labG_take hld, scells_app]; first | done | rfl)
        have HCS := Lib.hid hcs
        obtain ⟨pb, po, rfl, s1, s2, s3, hcl⟩ := (H.out.ls.calm (grownBy_trans HE1.out.1 hgr)).cell (by omega)
        have c0 := hcl k hkn
        have he2 := HE1.out.calm hgr
        have b0 := (he2.2 0 _ rfl).c0
        have heq : ((plc6 L k : Int) == (cntR L k : Int)) = true := by rw [hpk]; simp
        clear hown hgr hcl he2 hcs hld hpk
        generalize hlb : Lb[k]?.getD .empty = lb at *
        generalize plc6 L k = y at *
        generalize hcc : cntR L k = cc at *
        have b0' : wr.cell? ⟨w.heap.size, 0, none⟩ = some (.slice (some ⟨pb, po, none⟩) N c) := b0
        clear b0
        go_wp2_with (at_builtin; refine wpList_append_own _ rfl _ _ 22 rfl w1.heap.size 9 i0 (.string .empty) 1 16 Tryd.underlying22 hi0' hz0 hz1 hz2 rfl (by decide) (.slice pl cc cl) cc (scells ((labG Lb L).take cc)) rfl (HOWN.out.alloc _) ⟨wr.heap.size, 0, none⟩ 1 1 [.string lb] rfl rfl (World.news_of_block (heap_new wr _)) (by simp [Value.oneCell']) (by unfold maxLen; omega) (by omega) (by simp; omega) ?_; intro v' w2 hown' hgrow _; obtain ⟨g', cap', rfl⟩ := ownsRow_succ hown'; have HO2 := Lib.hid hown'; have HG2 := Lib.hid hgrow; clear hown' hgrow)
        go_wp2
        refine ⟨⟨k + 1, _, cap', by omega, by go_num, by rw [HCS.out], ?_, sgrow HGR.out HOWN.out HG2.out⟩, by simp [intOf]; omega⟩
        rw [HCS.out, HST.out]
        exact HO2.out
      · have hlt : nx L k < k := by have := HIS.out.le k hkl; omega
        have hpk : plc6 L k < cntR L k := cntR_lt hlt (HIS.out.fix k hkl)
        rw [if_neg hlead, Nat.add_zero] at hcs
        have HCS := Lib.hid hcs
        have heq : ((plc6 L k : Int) == (cntR L k : Int)) = false := by simp; omega
        clear hown hgr hcs
        generalize plc6 L k = y at *
        generalize hcc : cntR L k = cc at *
        go_wp2
        refine ⟨⟨k + 1, pl, cl, by omega, by go_num, by rw [HCS.out]; first | done | rfl, ?_, HGR.out⟩, by simp [intOf]; omega⟩
        rw [HCS.out]
        exact HOWN.out
    · obtain rfl : k = N := by omega
      have k1 : ¬ ((k : Int) < k) := by omega
      have hM : cntR L k = cntR L L.length := by rw [HLN.out]
      have hMl : cntR L L.length ≤ 40 := Nat.le_trans (cntR_le L L.length) (by rw [HLN.out]; exact hN)
      have HPL2 : Hid (∀ e, e < k → ∃ y : Nat, (atZ L)[e]?.getD 0 = (y : Int) ∧ y = plc6 L e ∧ y < cntR L L.length) := Lib.hid (fun e he => ⟨_, atZ_get (by rw [HLN.out]; exact he), rfl, plc6_lt HIS.out (by rw [HLN.out]; exact he)⟩)
      have HLG := Lib.hid (labG_len Lb L)
      have HGP : Hid (gluP L P = pairsL (cntR L L.length) (clo (cntR L L.length) (ofL (cntR L L.length) (mapP (atZ L) P))) (cntR L L.length)) := Lib.hid rfl
      rw [hM, List.take_of_length_le (by rw [HLG.out]; exact Nat.le_refl _)] at hown
      rw [hM]
      generalize hMM : cntR L L.length = M at *
      clear hM hMM HOWN
      have HOWN := Lib.hid hown
      clear hown
      go_wp2_with fail
      refine (matNew_c M _ (by omega)).mono ?_
      rintro e wn ⟨rb, rfl, hR0, hgn⟩
      have HR0 := Lib.hid hR0
      have HGN := Lib.hid hgn
      have hrt := hR0.top
      clear hR0
      have HGW := Lib.hid (grownBy_trans HE1.out.1 hgr)
      have hgw2 := grownBy_trans HE1.out.1 (grownBy_trans hgr hgn)
      generalize wr = wo at *
      go_wp2
      go_loopw [10] (fun i wr => ∃ j : Nat, j ≤ m ∧ i = .int .i64 j ∧ IsMat wr wo.heap.size wn.heap.size rb M (ofL M (mapP (atZ L) (P.take j))) ∧ wo.grownBy wr none) (fun i _ => m - (intOf i).toNat)
      case atStart => exact ⟨0, Nat.zero_le _, rfl, HR0.out, HGN.out⟩
      case round =>
        obtain ⟨j, hj, rfl, hrl, hgq⟩ := hrel
        have HRL := Lib.hid hrl
        have HGQ := Lib.hid hgq
        have heq := HE1.out.calm (grownBy_trans hgr hgq)
        have b0 : wr.cell? ⟨w.heap.size, 0, none⟩ = _ := (heq.2 0 _ rfl).c0
        have b1 : wr.cell? ⟨w.heap.size, 1, none⟩ = _ := (heq.2 0 _ rfl).c1
        clear heq
        by_cases hjm : j < m
        · have j0 : (0 : Int) ≤ j := by omega
          have j1 : (j : Int) < m := by omega
          obtain ⟨qb, qo, rfl, y1, y2, y3, hcp⟩ := (H.out.ps.calm (grownBy_trans HGW.out hgq)).cell (by omega)
          obtain ⟨z0, z1⟩ := hcp j hjm
          have HI := Lib.hid (inI_of_all (k := j) HIN.out (by rw [HPL.out]; exact hjm))
          have HTK := Lib.hid (show P.take (j + 1) = P.take j ++ [P[j]?.getD (0, 0)] by rw [List.take_add_one, List.getElem?_eq_getElem (by rw [HPL.out]; exact hjm)]; rfl)
          have hrj := HROW.out.calm (grownBy_trans hgr hgq)
          clear hcp hrl
          obtain ⟨x, hx⟩ : ∃ x, x = P[j]?.getD (0, 0) := ⟨_, rfl⟩
          rw [← hx] at z0 z1 HI HTK
          clear hx
          obtain ⟨xa, xb⟩ := x
          obtain ⟨a0, a1, a2, a3⟩ : 0 ≤ xa ∧ xa < k ∧ 0 ≤ xb ∧ xb < k := by have := HI.out; unfold inI at this; simp only at this; omega
          simp only at z0 z1
          obtain ⟨xa, rfl⟩ := Int.eq_ofNat_of_zero_le a0
          obtain ⟨xb, rfl⟩ := Int.eq_ofNat_of_zero_le a2
          obtain ⟨ya, hya, hya0, hya1⟩ := HPL2.out xa (by omega)
          obtain ⟨yb, hyb, hyb0, hyb1⟩ := HPL2.out xb (by omega)
          have hla : xa < L.length := by rw [HLN.out]; omega
          have hlb : xb < L.length := by rw [HLN.out]; omega
          have cwa := hrj.cell (j := xa) (x := ya) (by rw [hya0, nx_get (by rw [placesL_len]; exact hla), nx_places hla])
          have cwb := hrj.cell (j := xb) (x := yb) (by rw [hyb0, nx_get (by rw [placesL_len]; exact hlb), nx_places hlb])
          have HADD : Hid (ofL M (mapP (atZ L) (P.take (j + 1))) = addR (ofL M (mapP (atZ L) (P.take j))) ya yb) := Lib.hid (by
            rw [HTK.out]
            unfold mapP
            rw [List.map_append, List.map_cons, List.map_nil, ofL_snoc]
            simp only [Int.toNat_natCast, hya, hyb]
            rw [addI_yes ⟨by omega, by omega, by omega, by omega⟩]
            simp only [Int.toNat_natCast])
          obtain ⟨pm, mb, rbb, cap, rfl, hc1, hcm, hcr, hfr, hput⟩ := HRL.out.put (T := addR (ofL M (mapP (atZ L) (P.take j))) ya yb) hya1 hyb1 true (addR_put _ _ _) (addR_supp HRL.out.supp hya1 hyb1)
          have HPUT := Lib.hid (hput (wr.drewN 1) rfl rfl rfl rfl)
          have q0 : (0 : Int) ≤ ya := by omega
          have q1 : (ya : Int) < M := by omega
          have q2 : (0 : Int) ≤ yb := by omega
          have q3 : (yb : Int) < M := by omega
          clear hput hrj hya hyb hya0 hyb0 hgq
          go_wp2
          refine wp_region_still_tail 25 (by kernel_rfl) (by kernel_rfl) ?_
          simp only [List.take_succ_cons, List.take_zero, List.drop_succ_cons, List.drop_zero]
          repeat still_step
          refine wpStill_nil ?_
          change wpList _ _ _ _ _ wr.drew
          go_wp2
          exact ⟨⟨j + 1, by omega, by go_num, by rw [HADD.out]; exact HPUT.out.1, Kept.new HGQ.out HPUT.out.2 (Nat.le_refl _)⟩, by simp [intOf]; omega⟩
        · obtain rfl : j = m := by omega
          have hPj : P.take j = P := List.take_of_length_le (by rw [HPL.out]; exact Nat.le_refl _)
          rw [hPj] at HRL
          have hown := HOWN.out
          have hnil : pl = none → cl = 0 := by
            rintro rfl
            rcases hown.2 with ⟨h5, _⟩ | ⟨g', cap, cur, h5, _⟩
            · injection h5
            · injection h5 with h6; cases h6
          have hst : StrsAt wo w1.heap.size wo.heap.size pl M (labG Lb L) := by
            obtain ⟨p9, c9, e9, hst⟩ := strsAt_own (by rw [HLG.out]; exact hown)
            rw [HLG.out] at e9 hst
            injection e9 with e1 e2 e3
            subst e1
            exact hst
          have hst2 := hst.calm hgq
          have he5 := HE1.out.calm (grownBy_trans hgr hgq)
          have HE5 := Lib.hid he5
          have HRW := Lib.hid (HROW.out.calm (grownBy_trans hgr hgq))
          have hbase : w.heap.size + 1 < wr.heap.size := (he5.2 1 _ rfl).lt
          clear hPj hrl hown hst he5
          go_wp2_with fail
          refine (refMake_c pl M cl _ _ _ _ rb (labG Lb L) _ wr hst2 hnil (by omega) HRL.out).mono ?_
          rintro e w6 ⟨p6, c6, q6, d6, rfl, hob, hg6⟩
          rw [← HGP.out] at hob ⊢
          have he6 := HE5.out.calm hg6
          have b1 := he6.2 1 _ rfl
          have y0 : w6.cell? ⟨w.heap.size + 1, 0, none⟩ = _ := b1.c0
          have y1 : w6.cell? ⟨w.heap.size + 1, 1, none⟩ = _ := b1.c1
          have f0 : w6.frozen? ⟨w.heap.size + 1, 0, none⟩ = _ := b1.free 0
          have f1 : w6.frozen? ⟨w.heap.size + 1, 1, none⟩ = _ := b1.free 1
          have hfin : ∀ W9, W9 = (w6.setCell ⟨w.heap.size + 1, 0, none⟩ (.slice p6 (labG Lb L).length c6)).setCell ⟨w.heap.size + 1, 1, none⟩ (.slice q6 (gluP L P).length d6) →
              W9.cell? ⟨w.heap.size + 1, 0, none⟩ = some (.slice p6 (labG Lb L).length c6) ∧ W9.cell? ⟨w.heap.size + 1, 1, none⟩ = some (.slice q6 (gluP L P).length d6) ∧ GluedPost k Lb P L w (.returned (.tuple #[.agg #[.slice p6 (labG Lb L).length c6, .slice q6 (gluP L P).length d6], .slice (some ⟨gp, 0, none⟩) k k])) W9 := by
            rintro W9 rfl
            have q1 := grownBy_setCell w6 ⟨w.heap.size + 1, 0, none⟩ (.slice p6 (labG Lb L).length c6)
            have q2 := grownBy_setCell (w6.setCell ⟨w.heap.size + 1, 0, none⟩ (.slice p6 (labG Lb L).length c6)) ⟨w.heap.size + 1, 1, none⟩ (.slice q6 (gluP L P).length d6)
            have hb9 := (show BoxO w6 (w.heap.size + 1) _ _ from b1).set0 (.slice p6 (labG Lb L).length c6) |>.set1 (.slice q6 (gluP L P).length d6)
            have hr6 := HRW.out.calm hg6
            have hgne : gp ≠ w.heap.size + 1 := by
              rintro rfl
              obtain ⟨c9, fz, hk⟩ := hr6.kind
              have hb : w6.heap[w.heap.size + 1]? = _ := b1
              rw [hb] at hk
              simp at hk
            have hlt := hr6.lt.2
            have k1 := (q1.block gp hlt (by intro e; injection e with e; exact hgne e))
            have k2 := (q2.block gp (Nat.lt_of_lt_of_le hlt q1.size) (by intro e; injection e with e; exact hgne e))
            have hr9 := hr6.block (k2.trans k1)
            have hz9 := zsAt_rowI hr9
            rw [placesL_len, HLN.out] at hz9
            have ho9 := (hob.set (a := ⟨w.heap.size + 1, 0, none⟩) (by show w.heap.size + 1 < wr.heap.size; exact hbase) (.slice p6 (labG Lb L).length c6)).set (a := ⟨w.heap.size + 1, 1, none⟩) (by show w.heap.size + 1 < wr.heap.size; exact hbase) (.slice q6 (gluP L P).length d6)
            exact ⟨hb9.c0, hb9.c1, p6, c6, q6, d6, gp, rfl, ho9.wider (by omega) (Nat.le_trans q1.size q2.size) (Nat.le_refl _), hz9, grownBy_setCell_new _ (grownBy_setCell_new _ he6.1 (by show _ ≤ w.heap.size + 1; omega)) (by show _ ≤ w.heap.size + 1; omega)⟩
          have HFIN := Lib.hid hfin
          clear hfin hob he6 b1 hg6 hst2 hnil hgw2 hgr hgn hgq
          go_wp2
          obtain ⟨y8, y9, hres⟩ := HFIN.out _ rfl
          exact bodyPost_ret (v := .tuple #[.agg #[.slice p6 (labG Lb L).length c6, .slice q6 (gluP L P).length d6], .slice (some ⟨gp, 0, none⟩) k k]) (by simp [results, Tryd.results19, go_sem, y8, y9]) rfl hres

end Go.Proofs.YtemnbkenihldgaaDoor
/-! The reference's package push: Equal. -/
namespace Go.Proofs.YtemnbkenihldgaaDoor
open Go.RowKit

/-- What the reference hands back. -/
def RRes3 (L : List ByteArray) (P : List (Int × Int)) (I : List Int) (r : Int) (w : World) (e : Ending) (w' : World) : Prop :=
  ∃ p c q d pi ci, e = .returned (.tuple #[.agg #[.slice p L.length c, .slice q P.length d], .slice pi I.length ci, .int .i64 r]) ∧
    ObjAt w' w.heap.size w'.heap.size p L.length q P.length L P ∧ ZsAt w' w.heap.size w'.heap.size pi I.length I ∧ w.grownBy w' none
theorem rres3_nil {r : Int} {w w' : World} (h : w.grownBy w' none) : RRes3 [] [] [] r w (.returned (.tuple #[.agg #[.slice none 0 0, .slice none 0 0], .slice none 0 0, .int .i64 r])) w' :=
  ⟨none, 0, none, 0, none, 0, rfl, ⟨strsAt_nil _ _ _, pairsAt_nil _ _ _⟩, zsAt_nil _ _ _, h⟩

end Go.Proofs.YtemnbkenihldgaaDoor
/-! The reference's package push: Push and Sum where they refuse. -/
namespace Go.Proofs.YtemnbkenihldgaaDoor
open Go.RowKit

def RRes4 (L : List ByteArray) (P : List (Int × Int)) (I J : List Int) (r : Int) (w : World) (e : Ending) (w' : World) : Prop :=
  ∃ p c q d pi ci pj cj, e = .returned (.tuple #[.agg #[.slice p L.length c, .slice q P.length d], .slice pi I.length ci, .slice pj J.length cj, .int .i64 r]) ∧
    ObjAt w' w.heap.size w'.heap.size p L.length q P.length L P ∧ ZsAt w' w.heap.size w'.heap.size pi I.length I ∧ ZsAt w' w.heap.size w'.heap.size pj J.length J ∧ w.grownBy w' none
theorem rres4_nil {r : Int} {w w' : World} (h : w.grownBy w' none) : RRes4 [] [] [] [] r w (.returned (.tuple #[.agg #[.slice none 0 0, .slice none 0 0], .slice none 0 0, .slice none 0 0, .int .i64 r])) w' :=
  ⟨none, 0, none, 0, none, 0, none, 0, rfl, ⟨strsAt_nil _ _ _, pairsAt_nil _ _ _⟩, zsAt_nil _ _ _, zsAt_nil _ _ _, h⟩

set_option maxRecDepth 20000 in
set_option maxHeartbeats 2000000 in
theorem refPush_large1 (p0 q0 p q p' q' pf pg : Option Addr) (n0 c0 m0 d0 n c m d n' c' m' d' nf cf ng cg : Nat) (w : World) (h : 40 < n0) :
    Calls Tryd.prog 8 #[.agg #[.slice p0 n0 c0, .slice q0 m0 d0], .agg #[.slice p n c, .slice q m d], .agg #[.slice p' n' c', .slice q' m' d'], .slice pf nf cf, .slice pg ng cg] w (RRes4 [] [] [] [] 11 w) := by
  have d1 : (40 : Int) < n0 := by omega
  have he := boxEnv_four w (.slice p0 n0 c0) (.slice q0 m0 d0) (.slice p n c) (.slice q m d) (.slice p' n' c') (.slice q' m' d') (.slice none 0 0) (.slice none 0 0)
  obtain ⟨a00, a01, b00, b01, b10, b11⟩ := he.three
  obtain ⟨b20, b21, f20, f21⟩ := he.fourth
  have HE := Lib.hid he
  have HG := Lib.hid (he.gr2 (b := w.heap.size + 1 + 1 + 1) (by omega) (.slice none 0 0) (.slice none 0 0))
  clear he
  go_enter Tryd.func8, Tryd.ntmps8
  go_wp2
  exact bodyPost_ret (v := .tuple #[.agg #[.slice none 0 0, .slice none 0 0], .slice none 0 0, .slice none 0 0, .int .i64 11]) (by simp [results, Tryd.results8, go_sem]) rfl (rres4_nil (by first | exact HG.out | exact HE.out.1))

set_option maxRecDepth 20000 in
set_option maxHeartbeats 2000000 in
theorem refPush_large2 (p0 q0 p q p' q' pf pg : Option Addr) (n0 c0 m0 d0 n c m d n' c' m' d' nf cf ng cg : Nat) (w : World) (h0 : n0 ≤ 40) (h : 40 < n) :
    Calls Tryd.prog 8 #[.agg #[.slice p0 n0 c0, .slice q0 m0 d0], .agg #[.slice p n c, .slice q m d], .agg #[.slice p' n' c', .slice q' m' d'], .slice pf nf cf, .slice pg ng cg] w (RRes4 [] [] [] [] 11 w) := by
  have dd0 : ¬ ((40 : Int) < n0) := by omega
  have d1 : (40 : Int) < n := by omega
  have he := boxEnv_four w (.slice p0 n0 c0) (.slice q0 m0 d0) (.slice p n c) (.slice q m d) (.slice p' n' c') (.slice q' m' d') (.slice none 0 0) (.slice none 0 0)
  obtain ⟨a00, a01, b00, b01, b10, b11⟩ := he.three
  obtain ⟨b20, b21, f20, f21⟩ := he.fourth
  have HE := Lib.hid he
  have HG := Lib.hid (he.gr2 (b := w.heap.size + 1 + 1 + 1) (by omega) (.slice none 0 0) (.slice none 0 0))
  clear he
  go_enter Tryd.func8, Tryd.ntmps8
  go_wp2
  exact bodyPost_ret (v := .tuple #[.agg #[.slice none 0 0, .slice none 0 0], .slice none 0 0, .slice none 0 0, .int .i64 11]) (by simp [results, Tryd.results8, go_sem]) rfl (rres4_nil (by first | exact HG.out | exact HE.out.1))

set_option maxRecDepth 20000 in
set_option maxHeartbeats 2000000 in
theorem refPush_large3 (p0 q0 p q p' q' pf pg : Option Addr) (n0 c0 m0 d0 n c m d n' c' m' d' nf cf ng cg : Nat) (w : World) (h0 : n0 ≤ 40) (h : n ≤ 40) (h' : 40 < n + n') :
    Calls Tryd.prog 8 #[.agg #[.slice p0 n0 c0, .slice q0 m0 d0], .agg #[.slice p n c, .slice q m d], .agg #[.slice p' n' c', .slice q' m' d'], .slice pf nf cf, .slice pg ng cg] w (RRes4 [] [] [] [] 11 w) := by
  have dd0 : ¬ ((40 : Int) < n0) := by omega
  have d1 : ¬ ((40 : Int) < n) := by omega
  have d2 : (40 : Int) - n < n' := by omega
  have he := boxEnv_four w (.slice p0 n0 c0) (.slice q0 m0 d0) (.slice p n c) (.slice q m d) (.slice p' n' c') (.slice q' m' d') (.slice none 0 0) (.slice none 0 0)
  obtain ⟨a00, a01, b00, b01, b10, b11⟩ := he.three
  obtain ⟨b20, b21, f20, f21⟩ := he.fourth
  have HE := Lib.hid he
  have HG := Lib.hid (he.gr2 (b := w.heap.size + 1 + 1 + 1) (by omega) (.slice none 0 0) (.slice none 0 0))
  clear he
  go_enter Tryd.func8, Tryd.ntmps8
  go_wp2
  exact bodyPost_ret (v := .tuple #[.agg #[.slice none 0 0, .slice none 0 0], .slice none 0 0, .slice none 0 0, .int .i64 11]) (by simp [results, Tryd.results8, go_sem]) rfl (rres4_nil (by first | exact HG.out | exact HE.out.1))

set_option maxRecDepth 20000 in
set_option maxHeartbeats 2000000 in
theorem refPush_form (p0 q0 p q p' q' pf pg : Option Addr) (n0 c0 m0 d0 n c m d n' c' m' d' nf cf ng cg : Nat) (lo0 hi0 lo hi lo' hi' lof hif log hig : Nat) (L0 L L' : List ByteArray) (P0 P P' : List (Int × Int)) (f g : List Int) (w : World) (h0 : ObjAt w lo0 hi0 p0 n0 q0 m0 L0 P0) (h : ObjAt w lo hi p n q m L P) (h' : ObjAt w lo' hi' p' n' q' m' L' P') (hf : ZsAt w lof hif pf nf f) (hg : ZsAt w log hig pg ng g) (hm0 : m0 ≤ 400000) (hm : m ≤ 400000) (hm' : m' ≤ 400000) (hnf : nf ≤ 1000000) (hng : ng ≤ 1000000) (hn40 : n0 ≤ 40) (hl : n + n' ≤ 40) (hno : (arB L0 P0 L P f && arB L0 P0 L' P' g) = false) :
    Calls Tryd.prog 8 #[.agg #[.slice p0 n0 c0, .slice q0 m0 d0], .agg #[.slice p n c, .slice q m d], .agg #[.slice p' n' c', .slice q' m' d'], .slice pf nf cf, .slice pg ng cg] w (RRes4 [] [] [] [] 10 w) := by
  have dd0 : ¬ ((40 : Int) < n0) := by omega
  have d1 : ¬ ((40 : Int) < n) := by omega
  have d2 : ¬ ((40 : Int) - n < n') := by omega
  have H0 := Lib.hid h0
  have H := Lib.hid h
  have H' := Lib.hid h'
  have HF := Lib.hid hf
  have HG0 := Lib.hid hg
  have HNO := Lib.hid hno
  clear h0 h h' hf hg hno
  have he := boxEnv_four w (.slice p0 n0 c0) (.slice q0 m0 d0) (.slice p n c) (.slice q m d) (.slice p' n' c') (.slice q' m' d') (.slice none 0 0) (.slice none 0 0)
  obtain ⟨a00, a01, b00, b01, b10, b11⟩ := he.three
  obtain ⟨b20, b21, f20, f21⟩ := he.fourth
  have HE := Lib.hid he
  have HG := Lib.hid (he.gr2 (b := w.heap.size + 1 + 1 + 1) (by omega) (.slice none 0 0) (.slice none 0 0))
  clear he
  go_enter Tryd.func8, Tryd.ntmps8
  go_wp2_with fail
  have he0 := HE.out
  generalize ((((w.alloc (.cells #[.slice p0 n0 c0, .slice q0 m0 d0] 25)).alloc (.cells #[.slice p n c, .slice q m d] 25)).alloc (.cells #[.slice p' n' c', .slice q' m' d'] 25)).alloc (.cells #[.slice none 0 0, .slice none 0 0] 25)) = W0 at *
  have ha := H0.out.calm he0.1
  have ho := H.out.calm he0.1
  have hof := HF.out.calm he0.1
  clear HG he0
  cases hr1 : arB L0 P0 L P f with
  | false =>
    have HR1 := Lib.hid hr1
    clear hr1
    refine (refArrow_r p0 q0 p q pf n0 c0 m0 d0 n c m d nf cf _ _ _ _ _ _ L0 L P0 P f false _ ha ho hof hnf (by omega) (by omega) HR1.out).mono ?_
    rintro e w3 ⟨rfl, hg3⟩
    have he3 := HE.out.calm hg3
    clear ha ho hof hg3
    obtain ⟨b20, b21, f20, f21⟩ := he3.fourth
    have HG := Lib.hid (he3.gr2 (b := w.heap.size + 1 + 1 + 1) (by omega) (.slice none 0 0) (.slice none 0 0))
    clear he3
    go_wp2
    exact bodyPost_ret (v := .tuple #[.agg #[.slice none 0 0, .slice none 0 0], .slice none 0 0, .slice none 0 0, .int .i64 10]) (by simp [results, Tryd.results8, go_sem, b20, b21]) rfl (rres4_nil HG.out)
  | true =>
    have HR1 := Lib.hid hr1
    have HR3 := Lib.hid (show arB L0 P0 L' P' g = false by have := HNO.out; rw [hr1] at this; simpa using this)
    clear hr1
    refine (refArrow_r p0 q0 p q pf n0 c0 m0 d0 n c m d nf cf _ _ _ _ _ _ L0 L P0 P f true _ ha ho hof hnf (by omega) (by omega) HR1.out).mono ?_
    rintro e w3 ⟨rfl, hg3⟩
    have he3 := HE.out.calm hg3
    have HE3 := Lib.hid he3
    have ha := H0.out.calm he3.1
    have ho' := H'.out.calm he3.1
    have hog := HG0.out.calm he3.1
    obtain ⟨a00, a01, b00, b01, b10, b11⟩ := he3.three
    clear hof hg3 he3 ho
    go_wp2_with fail
    refine (refArrow_r p0 q0 p' q' pg n0 c0 m0 d0 n' c' m' d' ng cg _ _ _ _ _ _ L0 L' P0 P' g false _ ha ho' hog hng (by omega) (by omega) HR3.out).mono ?_
    rintro e w4 ⟨rfl, hg4⟩
    have he4 := HE3.out.calm hg4
    clear ha ho' hog hg4
    obtain ⟨b20, b21, f20, f21⟩ := he4.fourth
    have HG := Lib.hid (he4.gr2 (b := w.heap.size + 1 + 1 + 1) (by omega) (.slice none 0 0) (.slice none 0 0))
    clear he4
    go_wp2
    exact bodyPost_ret (v := .tuple #[.agg #[.slice none 0 0, .slice none 0 0], .slice none 0 0, .slice none 0 0, .int .i64 10]) (by simp [results, Tryd.results8, go_sem, b20, b21]) rfl (rres4_nil HG.out)

end Go.Proofs.YtemnbkenihldgaaDoor
