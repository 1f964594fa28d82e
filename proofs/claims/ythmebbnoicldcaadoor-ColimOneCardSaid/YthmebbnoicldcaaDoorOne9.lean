/- The walk of ColimOne. -/
import Derived.Test.YthmebbnoicldcaaDoorKnow9
namespace Go.Proofs.YthmebbnoicldcaaDoor
open Go.RowKit Go.Shelf

/-- Whether a map does as the way out does, at the first k legs. -/
def fitK (A : List ByteArray) (B : List (Int × Int)) (D : List ByteArray) (Q : List (Int × Int)) (Ls Hs : List (List Int)) (X : List Int) (k : Nat) : Bool :=
  arB A B D Q X && (List.range k).all fun j => thenB (lgA Ls j) X.length && decide (thenL (lgA Ls j) X = lgA Hs j)
theorem fitK_zero (A : List ByteArray) (B : List (Int × Int)) (D : List ByteArray) (Q : List (Int × Int)) (Ls Hs : List (List Int)) (X : List Int) : fitK A B D Q Ls Hs X 0 = arB A B D Q X := by simp [fitK]
theorem fitK_succ (A : List ByteArray) (B : List (Int × Int)) (D : List ByteArray) (Q : List (Int × Int)) (Ls Hs : List (List Int)) (X : List Int) (k : Nat) : fitK A B D Q Ls Hs X (k + 1) = (fitK A B D Q Ls Hs X k && (thenB (lgA Ls k) X.length && decide (thenL (lgA Ls k) X = lgA Hs k))) := by
  simp [fitK, List.range_succ, Bool.and_assoc]
theorem fitK_end {Ns : List Nd} {As : List Ar} {A D : List ByteArray} {B Q : List (Int × Int)} {Ls Hs : List (List Int)} {U X : List Int} (hA : ColA Ns As A B Ls) (hU : arB A B D Q U = true) (ht : ∀ k, k < Ns.length → thenL (lgA Ls k) U = lgA Hs k) : fitK A B D Q Ls Hs X Ns.length = decide (X = U) := by
  by_cases e : X = U
  · subst e
    rw [decide_eq_true rfl]
    unfold fitK
    rw [hU, Bool.true_and, List.all_eq_true]
    intro j hj
    have hj' := List.mem_range.1 hj
    rw [ht j hj', decide_eq_true rfl, Bool.and_true, (arB_parts hU).2.2.1]
    exact List.all_eq_true.2 fun z hz => hasZ_iff.2 ((arB_hasZ (hA.legs.arr j hj')).2 z hz)
  · rw [decide_eq_false e]
    cases hf : fitK A B D Q Ls Hs X Ns.length
    · rfl
    · unfold fitK at hf
      simp only [Bool.and_eq_true, List.all_eq_true, List.mem_range, decide_eq_true_eq] at hf
      exact (e (hA.only (arB_parts hf.1).2.2.1 (arB_parts hU).2.2.1 (fun k hk => by rw [(hf.2 k hk).2, ht k hk]))).elim

set_option maxRecDepth 20000 in
set_option maxHeartbeats 4000000 in
theorem colimOne_in (p q pt qt ph po : Option Addr) (n c m d nt ct mt dt nh ch no co lo hi lo' hi' lot hit loh hih lox hix : Nat) (Ns : List Nd) (As : List Ar) (D : List ByteArray) (Q : List (Int × Int)) (Hs : List (List Int)) (X : List Int) (w : World) (hn : NodesAt w lo hi p n Ns) (ha : ArrsAt w lo' hi' q m As) (ho : ObjAt w lot hit pt nt qt mt D Q) (hh : LegsAt w loh hih ph nh Hs) (hx : ZsAt w lox hix po no X) (m1 : n ≤ maxLen) (m2 : m ≤ maxLen) (m3 : nt ≤ maxLen) (m4 : nh ≤ maxLen) (ht : Tab w) :
    Calls Tryd.prog 3 #[.agg #[.slice p n c, .slice q m d], .agg #[.slice pt nt ct, .slice qt mt dt], .slice ph nh ch, .slice po no co] w fun e w' => e = .returned (.bool true) ∧ w.grownBy w' none := by
  have HN := Lib.hid hn
  have HA := Lib.hid ha
  have HO := Lib.hid ho
  have HH := Lib.hid hh
  have HNL := Lib.hid hn.len
  have HAL := Lib.hid ha.len
  have HOL := Lib.hid ho.ls.len
  have HPL := Lib.hid ho.ps.len
  have HHL := Lib.hid hh.len
  have HT := Lib.hid ht
  have M1 := Lib.hid m1
  have M2 := Lib.hid m2
  have M3 := Lib.hid m3
  have M4 := Lib.hid m4
  have he := TwoB.new w (.slice p n c) (.slice q m d) (.slice pt nt ct) (.slice qt mt dt)
  clear hn ha ho hh ht m1 m2 m3 m4
  have HX := Lib.hid hx
  have HXL := Lib.hid hx.len
  clear hx
  go_enter Tryd.func3, Tryd.ntmps3
  go_wp2_with fail
  generalize (w.alloc (.cells #[.slice p n c, .slice q m d] 25)).alloc (.cells #[.slice pt nt ct, .slice qt mt dt] 29) = W0 at *
  generalize w.heap.size = g at *
  refine (known9_c W0 (HT.out.grown he.1 (by simp))).mono ?_
  rintro e w1 ⟨rfl, hg1⟩
  have he1 := he.calm hg1
  have HE1 := Lib.hid he1
  obtain ⟨x0, x1, b0, b1⟩ := he1.cells
  clear he hg1 he1
  go_wp2_with fail
  cases hfw : fewDB Ns As with
  | false =>
    refine (fewAll_r p q n c m d _ _ _ _ Ns As false _ (HN.out.calm HE1.out.1) (HA.out.calm HE1.out.1) M1.out M2.out hfw).mono ?_
    rintro e w2 ⟨rfl, hg⟩
    have HG := Lib.hid (HE1.out.calm hg).1
    clear hg hfw
    go_wp2
    go_ret
    exact ⟨rfl, HG.out⟩
  | true =>
    have HF := Lib.hid (fewD_parts hfw)
    refine (fewAll_r p q n c m d _ _ _ _ Ns As true _ (HN.out.calm HE1.out.1) (HA.out.calm HE1.out.1) M1.out M2.out hfw).mono ?_
    rintro e w2 ⟨rfl, hg⟩
    have he2 := HE1.out.calm hg
    have HE2 := Lib.hid he2
    clear x0 x1 b0 b1
    obtain ⟨x0, x1, b0, b1⟩ := he2.cells
    clear hg hfw he2 HE1
    go_wp2_with fail
    cases hfw : fewB D mt with
    | false =>
      refine (few_r _ _ _ _ _ _ _ _ D Q false _ (HO.out.calm HE2.out.1) M3.out hfw).mono ?_
      rintro e w3 ⟨rfl, hg⟩
      have HG := Lib.hid (HE2.out.calm hg).1
      clear hg hfw
      go_wp2
      go_ret
      exact ⟨rfl, HG.out⟩
    | true =>
      have hsm := few_small hfw
      rw [HOL.out] at hsm
      refine (few_r _ _ _ _ _ _ _ _ D Q true _ (HO.out.calm HE2.out.1) M3.out hfw).mono ?_
      rintro e w3 ⟨rfl, hg⟩
      have he3 := HE2.out.calm hg
      have HE3 := Lib.hid he3
      clear x0 x1 b0 b1
      obtain ⟨x0, x1, b0, b1⟩ := he3.cells
      clear hg hfw he3 HE2
      go_wp2_with fail
      cases hfw : fewLB Hs with
      | false =>
        refine (fewLegs_r ph nh ch _ _ Hs false _ (HH.out.calm HE3.out.1) M4.out hfw).mono ?_
        rintro e w4 ⟨rfl, hg⟩
        have HG := Lib.hid (HE3.out.calm hg).1
        clear hg hfw
        go_wp2
        go_ret
        exact ⟨rfl, HG.out⟩
      | true =>
        have HFL := Lib.hid (fewL_parts hfw)
        refine (fewLegs_r ph nh ch _ _ Hs true _ (HH.out.calm HE3.out.1) M4.out hfw).mono ?_
        rintro e w4 ⟨rfl, hg⟩
        have he4 := HE3.out.calm hg
        have HE4 := Lib.hid he4
        clear x0 x1 b0 b1
        obtain ⟨x0, x1, b0, b1⟩ := he4.cells
        clear hg hfw he4 HE3
        have hnh : nh ≤ 10 := by rw [← HHL.out]; exact HFL.out.2
        have HSL := Lib.hid (fun k (hk : k < nh) => Nat.le_trans (HFL.out.1 k (by rw [HHL.out]; exact hk)) (by decide : 60 ≤ 1000000))
        by_cases h60 : 60 < no
        · have d1 : (60 : Int) < no := by omega
          have HG := Lib.hid HE4.out.1
          go_wp2
          go_ret
          exact ⟨rfl, HG.out⟩
        have d1 : ¬ ((60 : Int) < no) := by omega
        go_wp2_with fail
        obtain ⟨U, r, hv⟩ := medD_ex Ns As D Q Hs
        obtain ⟨A, B, Ls, r', hp⟩ := colV_ex Ns As
        have HCS := Lib.hid (hv.cases hp)
        have HPC := Lib.hid hp.cases
        have HP := Lib.hid hp
        refine (med9_v p q pt qt ph n c m d nt ct mt dt nh ch _ _ _ _ _ _ _ _ Ns As D Q Hs U r _ hv (HN.out.calm HE4.out.1) (HA.out.calm HE4.out.1) HF.out (HO.out.calm HE4.out.1) (by omega) (HH.out.calm HE4.out.1) HSL.out (HT.out.grown HE4.out.1 (by simp))).mono ?_
        rintro e w5 ⟨pu, cu, rfl, hu, hg⟩
        have he5 := HE4.out.calm hg
        have HE5 := Lib.hid he5
        have HU5 := Lib.hid hu
        clear x0 x1 b0 b1
        obtain ⟨x0, x1, b0, b1⟩ := he5.cells
        clear hv hp hu hg he5 HE4
        rcases HCS.out with ⟨hr', rfl, rfl⟩ | ⟨rfl, h40, rfl, rfl⟩ | ⟨rfl, h40, hlb, rfl, rfl⟩ | ⟨rfl, h40, hlb, rfl, hU, hLA, har, hthen⟩
        · have HG := Lib.hid HE5.out.1
          rcases hr' with rfl | rfl
          · go_wp2
            go_ret
            exact ⟨rfl, HG.out⟩
          · go_wp2
            go_ret
            exact ⟨rfl, HG.out⟩
        · have HG := Lib.hid HE5.out.1
          go_wp2
          go_ret
          exact ⟨rfl, HG.out⟩
        · have HG := Lib.hid HE5.out.1
          go_wp2
          go_ret
          exact ⟨rfl, HG.out⟩
        · have HCA := Lib.hid ((HPC.out.resolve_left (fun h => by have := h.1; omega)).2)
          have HAR := Lib.hid har
          have HTH := Lib.hid hthen
          have HLA := Lib.hid hLA
          clear hlb hU hLA har hthen HCS HPC
          go_wp2_with fail
          refine (of9_v p q n c m d _ _ _ _ Ns As A B Ls 0 _ HP.out (HN.out.calm HE5.out.1) (HA.out.calm HE5.out.1) HF.out (HT.out.grown HE5.out.1 (by simp))).mono ?_
          rintro e w6 ⟨u, v, pl, cl, rfl, hob, hlg, hg⟩
          obtain ⟨pa, ca, pb, cb, rfl, rfl, hoat, _, _⟩ := hob.form
          have HLL : Hid (Ls.length = n ∧ nh = n) := Lib.hid ⟨by rw [HCA.out.legs.len, HNL.out], by rw [← HHL.out, HLA.out.len, HNL.out]⟩
          rw [HLL.out.1] at hlg ⊢
          have hga := World.grownBy_alloc w6 (.cells #[.slice pa A.length ca, .slice pb B.length cb] 29) none
          have hbx := BoxO.new w6 (.slice pa A.length ca) (.slice pb B.length cb)
          have he6 := (HE5.out.calm hg).calm hga
          have HE6 := Lib.hid he6
          have HQ6 := Lib.hid (hoat.calm hga)
          have HL6 := Lib.hid (hlg.calm hga)
          have HBX := Lib.hid hbx
          have HU6 := Lib.hid ((HU5.out.calm hg).calm hga)
          have hBl := HCA.out.pairs
          have hAl := HCA.out.small
          clear x0 x1 b0 b1
          obtain ⟨x0, x1, b0, b1⟩ := he6.cells
          have q0 := hbx.c0
          have q1 := hbx.c1
          clear hob hoat hlg hga hbx he6 hg HE5 HU5
          have HUL := Lib.hid (arB_parts HAR.out).2.2.1
          go_upto_region 9 with fail
          generalize w6.alloc (.cells #[.slice pa A.length ca, .slice pb B.length cb] 29) = W6 at *
          generalize w6.heap.size = g6 at *
          go_wp2_with fail
          refine (dLegs_r p q pa pb pl n c m d A.length ca B.length cb n cl _ _ _ _ _ _ _ _ Ns As A B Ls true _ (HN.out.calm HE6.out.1) (HA.out.calm HE6.out.1) HF.out HQ6.out (by omega) HL6.out (fun k hk => by have h1 := (arB_parts (HCA.out.legs.arr k (by rw [HNL.out]; exact hk))).2.2.1; have h2 := stK_fit Ns (show k < Ns.length by rw [HNL.out]; exact hk); have h3 := HCA.out.few; omega) (legs_mk HCA.out.legs)).mono ?_
          rintro e w7 ⟨rfl, hg⟩
          have he7 := HE6.out.calm hg
          have HE7 := Lib.hid he7
          have hbx := HBX.out.calm hg
          have HBX7 := Lib.hid hbx
          have HQ7 := Lib.hid (HQ6.out.calm hg)
          have HL7 := Lib.hid (HL6.out.calm hg)
          have HU7 := Lib.hid (HU6.out.calm hg)
          clear x0 x1 b0 b1 q0 q1
          obtain ⟨x0, x1, b0, b1⟩ := he7.cells
          have q0 := hbx.c0
          have q1 := hbx.c1
          clear hg he7 hbx HE6 HQ6 HL6 HU6 HBX
          go_wp2_with fail
          refine (arIs_r _ _ _ _ _ _ _ _ _ _ _ _ _ _ _ _ _ _ _ _ _ _ _ _ _ _ true _ HQ7.out (HO.out.calm HE7.out.1) HU7.out (by rw [HUL.out]; omega) (by omega) (by omega) HAR.out).mono ?_
          rintro e w8 ⟨rfl, hg⟩
          have he8 := HE7.out.calm hg
          have HE8 := Lib.hid he8
          have hbx := HBX7.out.calm hg
          have HBX8 := Lib.hid hbx
          have HQ8 := Lib.hid (HQ7.out.calm hg)
          have HL8 := Lib.hid (HL7.out.calm hg)
          have HU8 := Lib.hid (HU7.out.calm hg)
          clear x0 x1 b0 b1 q0 q1
          obtain ⟨x0, x1, b0, b1⟩ := he8.cells
          have q0 := hbx.c0
          have q1 := hbx.c1
          clear hg he8 hbx HE7 HQ7 HL7 HU7 HBX7
          go_wp2_with fail
          have hX1 := HX.out.calm HE8.out.1
          obtain ⟨f0, hf0⟩ : ∃ f0, f0 = arB A B D Q X := ⟨_, rfl⟩
          refine (arIs_r _ _ _ _ _ _ _ _ _ _ _ _ _ _ _ _ _ _ _ _ _ _ _ _ _ _ f0 _ HQ8.out (HO.out.calm HE8.out.1) hX1 (by omega) (by omega) (by omega) hf0.symm).mono ?_
          rintro e w9 ⟨rfl, hg⟩
          have HG9 := Lib.hid (grownBy_trans HE8.out.1 hg)
          have HL9 := Lib.hid (HL8.out.calm hg)
          have HU9 := Lib.hid (HU8.out.calm hg)
          have HF0 := Lib.hid hf0
          clear x0 x1 b0 b1 q0 q1 hX1 hf0
          clear hg HE8 HQ8 HL8 HU8 HBX8
          go_wp2
          go_loopw [14, 15] (fun f i wr => ∃ k : Nat, k ≤ n ∧ i = .int .i64 k ∧ f = .bool (fitK A B D Q Ls Hs X k) ∧ w9.grownBy wr none) (fun _ i _ => n - (intOf i).toNat)
          case atStart => exact ⟨0, Nat.zero_le _, rfl, by rw [fitK_zero, HF0.out], grownBy_refl _ _⟩
          case round =>
            obtain ⟨k, hk, rfl, rfl, hgr⟩ := hrel
            by_cases hkn : k < n
            · have k0 : (0 : Int) ≤ k := by omega
              have k1 : (k : Int) < n := by omega
              have k2 : (k : Int) < nh := by rw [HLL.out.2]; exact k1
              obtain ⟨bl, ol, rfl, _, r2, r3, hcl⟩ := HL9.out.cell (by omega)
              obtain ⟨pm, nm, cm, c0, hz⟩ := hcl k hkn
              obtain ⟨bh, oh, rfl, _, s2, s3, hch⟩ := (HH.out.calm HG9.out).cell (by omega)
              obtain ⟨ph', nh', ch', e0, hz2⟩ := hch k (by rw [HLL.out.2]; exact hkn)
              have hzl := hz.len
              have hnm : nm ≤ 1000000 := by
                have h1 := (arB_parts (HCA.out.legs.arr k (by rw [HNL.out]; exact hkn))).2.2.1
                have h2 := stK_fit Ns (show k < Ns.length by rw [HNL.out]; exact hkn)
                have h3 := HCA.out.few
                omega
              have c0' := cell_calm hgr c0 (by omega)
              have HZ := Lib.hid (hz.calm hgr)
              have HZ2 := Lib.hid (hz2.calm hgr)
              have HC0 := Lib.hid c0
              have HD0 := Lib.hid e0
              have hth : thenB (lgA Ls k) U.length = true := by
                rw [HUL.out]
                exact List.all_eq_true.2 fun z hz => hasZ_iff.2 ((arB_hasZ (HCA.out.legs.arr k (by rw [HNL.out]; exact hkn))).2 z hz)
              have HTK := Lib.hid (HTH.out k (by rw [HNL.out]; exact hkn))
              have HSU := Lib.hid (fitK_succ A B D Q Ls Hs X k)
              clear hcl hch hz hz2 c0 e0
              go_wp2_with fail
              refine (then_c _ _ _ _ _ _ _ _ _ _ (lgA Ls k) U _ HZ.out (HU9.out.calm hgr) hnm).mono ?_
              rintro e wa ⟨hga, hpost⟩
              obtain ⟨gb, rfl, hgb, hrow⟩ := (hpost.resolve_right (fun h => by rw [hth] at h; cases h.1)).2
              rw [hzl]
              have hrz := hrow.at (Nat.le_refl _)
              rw [thenL_len, hzl] at hrz
              have HRZ := Lib.hid hrz
              have HGA := Lib.hid (grownBy_trans hgr hga)
              have HGB := Lib.hid hga
              have e0' := cell_calm HGA.out HD0.out (by omega)
              have c0'' := cell_calm HGA.out HC0.out (by omega)
              clear hga hpost hrow hrz c0' hgr hth
              go_wp2_with fail
              refine (arSame_r _ _ _ _ _ _ _ _ _ _ _ _ true _ HRZ.out (HZ2.out.calm HGB.out) hnm (decide_eq_true HTK.out)).mono ?_
              rintro e wb ⟨rfl, hgb'⟩
              have HGC := Lib.hid (grownBy_trans HGA.out hgb')
              have HZB := Lib.hid ((HZ.out.calm HGB.out).calm hgb')
              have HZ2B := Lib.hid ((HZ2.out.calm HGB.out).calm hgb')
              clear e0' c0''
              have e0' := cell_calm HGC.out HD0.out (by omega)
              have c0'' := cell_calm HGC.out HC0.out (by omega)
              clear hgb' HZ HZ2 HRZ HGA HGB
              go_wp2_with fail
              refine (then_c _ _ _ _ _ _ _ _ _ _ (lgA Ls k) X _ HZB.out ((HX.out.calm HG9.out).calm HGC.out) hnm).mono ?_
              rintro e wc ⟨hga, hpost⟩
              have HGD := Lib.hid (grownBy_trans HGC.out hga)
              have HZ2C := Lib.hid (HZ2B.out.calm hga)
              clear e0' c0''
              have e0' := cell_calm HGD.out HD0.out (by omega)
              have c0'' := cell_calm HGD.out HC0.out (by omega)
              rcases hpost with ⟨htx, gc, rfl, hgc, hrow⟩ | ⟨htx, rfl⟩
              · rw [hzl]
                have hrz := hrow.at (Nat.le_refl _)
                rw [thenL_len, hzl] at hrz
                have HRZ := Lib.hid hrz
                clear hrow hrz hga
                cases hfk : fitK A B D Q Ls Hs X k with
                | false =>
                  have HS2 : Hid (fitK A B D Q Ls Hs X (k + 1) = false) := Lib.hid (by rw [HSU.out, hfk]; rfl)
                  clear hfk htx
                  go_wp2
                  exact ⟨⟨k + 1, by omega, by go_num, by rw [HS2.out], HGD.out⟩, by simp [intOf]; omega⟩
                | true =>
                  have HS2 : Hid (fitK A B D Q Ls Hs X (k + 1) = decide (thenL (lgA Ls k) X = lgA Hs k)) := Lib.hid (by rw [HSU.out, hfk, htx]; rfl)
                  clear hfk htx
                  go_wp2_with fail
                  obtain ⟨s, hs⟩ : ∃ s, s = decide (thenL (lgA Ls k) X = lgA Hs k) := ⟨_, rfl⟩
                  rw [← hs] at HS2
                  refine (arSame_r _ _ _ _ _ _ _ _ _ _ _ _ s _ HRZ.out HZ2C.out hnm hs.symm).mono ?_
                  rintro e wd ⟨rfl, hgd⟩
                  have HGE := Lib.hid (grownBy_trans HGD.out hgd)
                  clear hgd hs
                  go_wp2
                  exact ⟨⟨k + 1, by omega, by go_num, by rw [HS2.out], HGE.out⟩, by simp [intOf]; omega⟩
              · have HS2 : Hid (fitK A B D Q Ls Hs X (k + 1) = false) := Lib.hid (by rw [HSU.out, htx]; simp)
                clear hga htx
                generalize fitK A B D Q Ls Hs X k = fk at *
                cases fk
                · go_wp2
                  exact ⟨⟨k + 1, by omega, by go_num, by rw [HS2.out], HGD.out⟩, by simp [intOf]; omega⟩
                · go_wp2
                  exact ⟨⟨k + 1, by omega, by go_num, by rw [HS2.out], HGD.out⟩, by simp [intOf]; omega⟩
            · obtain rfl : k = n := by omega
              have k1 : ¬ ((k : Int) < k) := by omega
              have HEND : Hid (fitK A B D Q Ls Hs X k = decide (X = U)) := Lib.hid (by
                have := fitK_end (X := X) HCA.out HAR.out HTH.out
                rwa [HNL.out] at this)
              rw [HEND.out]
              obtain ⟨s, hs⟩ : ∃ s, s = decide (X = U) := ⟨_, rfl⟩
              rw [← hs]
              have HS := Lib.hid hs
              clear hs
              have HGG := Lib.hid (grownBy_trans HG9.out hgr)
              have HUU := Lib.hid (HU9.out.calm hgr)
              clear hgr
              go_wp2_with fail
              refine (arSame_r _ _ _ _ _ _ _ _ _ _ _ _ s _ (HX.out.calm HGG.out) HUU.out (by omega) HS.out.symm).mono ?_
              rintro e we ⟨rfl, hge⟩
              have HGE := Lib.hid (grownBy_trans HGG.out hge)
              clear hge HS
              cases s
              · go_wp2
                go_ret
                exact ⟨rfl, HGE.out⟩
              · go_wp2
                go_ret
                exact ⟨rfl, HGE.out⟩

end Go.Proofs.YthmebbnoicldcaaDoor
