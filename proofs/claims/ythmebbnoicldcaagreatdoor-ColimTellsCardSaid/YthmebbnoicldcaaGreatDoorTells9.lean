/- The walk of ColimTells. -/
import Derived.Test.YthmebbnoicldcaaGreatDoorKnow9
import Derived.Test.YthmebbnoicldcaaGreatDoorRefJ
namespace Go.Proofs.YthmebbnoicldcaaGreatDoor
open Go.RowKit Go.Shelf

theorem same_self9 (L : List ByteArray) (P : List (Int × Int)) : (decide (L = L) && decide (P = P)) = true := by simp
theorem colV_small {Ns : List Nd} {As : List Ar} {A : List ByteArray} {B : List (Int × Int)} {Ls : List (List Int)} {r : Int} (h : ColV Ns As A B Ls r) : A.length ≤ 40 ∧ B.length ≤ 1600 ∧ Ls.length ≤ 6 ∧ ∀ k, k < Ls.length → (lgA Ls k).length ≤ 40 := by
  rcases h.cases with ⟨_, rfl, rfl, rfl⟩ | ⟨_, hA⟩
  · exact ⟨by simp, by simp, by simp, fun k hk => absurd hk (Nat.not_lt_zero _)⟩
  · refine ⟨hA.small, hA.pairs, by rw [hA.legs.len]; exact hA.legs.dia.n6, fun k hk => ?_⟩
    rw [hA.legs.len] at hk
    have h1 := (arB_parts (hA.legs.arr k hk)).2.2.1
    have h2 := stK_fit Ns hk
    have h3 := hA.few
    omega
theorem medD_small {Ns : List Nd} {As : List Ar} {D : List ByteArray} {Q : List (Int × Int)} {Hs : List (List Int)} {U : List Int} {r : Int} (h : MedD Ns As D Q Hs U r) : U.length ≤ 40 := by
  obtain ⟨A, B, Ls, r', hp⟩ := colV_ex Ns As
  rcases h.cases hp with ⟨_, _, rfl⟩ | ⟨_, _, _, rfl⟩ | ⟨_, _, _, _, rfl⟩ | ⟨h0, _, _, _, _, _, har, _⟩
  · simp
  · simp
  · simp
  · rw [(arB_parts har).2.2.1]
    exact (colV_small hp).1

set_option maxRecDepth 20000 in
set_option maxHeartbeats 4000000 in
theorem colimTells_in (p q pt qt ph : Option Addr) (n c m d nt ct mt dt nh ch lo hi lo' hi' lot hit loh hih : Nat) (Ns : List Nd) (As : List Ar) (D : List ByteArray) (Q : List (Int × Int)) (Hs : List (List Int)) (w : World) (hn : NodesAt w lo hi p n Ns) (ha : ArrsAt w lo' hi' q m As) (ho : ObjAt w lot hit pt nt qt mt D Q) (hh : LegsAt w loh hih ph nh Hs) (m1 : n ≤ maxLen) (m2 : m ≤ maxLen) (m3 : nt ≤ maxLen) (m4 : nh ≤ maxLen) (ht : Tab w) :
    Calls Tryz.prog 3 #[.agg #[.slice p n c, .slice q m d], .agg #[.slice pt nt ct, .slice qt mt dt], .slice ph nh ch] w fun e w' => e = .returned (.bool true) ∧ w.grownBy w' none := by
  have HN := Lib.hid hn
  have HA := Lib.hid ha
  have HO := Lib.hid ho
  have HH := Lib.hid hh
  have HNL := Lib.hid hn.len
  have HAL := Lib.hid ha.len
  have HOL := Lib.hid ho.ls.len
  have HPL := Lib.hid ho.ps.len
  have HHL := Lib.hid hh.len
  have HT := Lib.hid ht
  have M1 := Lib.hid m1
  have M2 := Lib.hid m2
  have M3 := Lib.hid m3
  have M4 := Lib.hid m4
  have he := TwoB.new w (.slice p n c) (.slice q m d) (.slice pt nt ct) (.slice qt mt dt)
  clear hn ha ho hh ht m1 m2 m3 m4
  go_enter Tryz.func3, Tryz.ntmps3
  go_wp2_with fail
  generalize (w.alloc (.cells #[.slice p n c, .slice q m d] 25)).alloc (.cells #[.slice pt nt ct, .slice qt mt dt] 29) = W0 at *
  generalize w.heap.size = g at *
  refine (known9_c W0 (HT.out.grown he.1 (by simp))).mono ?_
  rintro e w1 ⟨rfl, hg1⟩
  have he1 := he.calm hg1
  have HE1 := Lib.hid he1
  obtain ⟨x0, x1, b0, b1⟩ := he1.cells
  clear he hg1 he1
  go_wp2_with fail
  cases hfw : fewDB Ns As with
  | false =>
    refine (fewAll_r p q n c m d _ _ _ _ Ns As false _ (HN.out.calm HE1.out.1) (HA.out.calm HE1.out.1) M1.out M2.out hfw).mono ?_
    rintro e w2 ⟨rfl, hg⟩
    have HG := Lib.hid (HE1.out.calm hg).1
    clear hg hfw
    go_wp2
    go_ret
    exact ⟨rfl, HG.out⟩
  | true =>
    have HF := Lib.hid (fewD_parts hfw)
    refine (fewAll_r p q n c m d _ _ _ _ Ns As true _ (HN.out.calm HE1.out.1) (HA.out.calm HE1.out.1) M1.out M2.out hfw).mono ?_
    rintro e w2 ⟨rfl, hg⟩
    have he2 := HE1.out.calm hg
    have HE2 := Lib.hid he2
    clear x0 x1 b0 b1
    obtain ⟨x0, x1, b0, b1⟩ := he2.cells
    clear hg hfw he2 HE1
    go_wp2_with fail
    cases hfw : fewB D mt with
    | false =>
      refine (few_r _ _ _ _ _ _ _ _ D Q false _ (HO.out.calm HE2.out.1) M3.out hfw).mono ?_
      rintro e w3 ⟨rfl, hg⟩
      have HG := Lib.hid (HE2.out.calm hg).1
      clear hg hfw
      go_wp2
      go_ret
      exact ⟨rfl, HG.out⟩
    | true =>
      have hsm := few_small hfw
      rw [HOL.out] at hsm
      refine (few_r _ _ _ _ _ _ _ _ D Q true _ (HO.out.calm HE2.out.1) M3.out hfw).mono ?_
      rintro e w3 ⟨rfl, hg⟩
      have he3 := HE2.out.calm hg
      have HE3 := Lib.hid he3
      clear x0 x1 b0 b1
      obtain ⟨x0, x1, b0, b1⟩ := he3.cells
      clear hg hfw he3 HE2
      go_wp2_with fail
      cases hfw : fewLB Hs with
      | false =>
        refine (fewLegs_r ph nh ch _ _ Hs false _ (HH.out.calm HE3.out.1) M4.out hfw).mono ?_
        rintro e w4 ⟨rfl, hg⟩
        have HG := Lib.hid (HE3.out.calm hg).1
        clear hg hfw
        go_wp2
        go_ret
        exact ⟨rfl, HG.out⟩
      | true =>
        have HFL := Lib.hid (fewL_parts hfw)
        refine (fewLegs_r ph nh ch _ _ Hs true _ (HH.out.calm HE3.out.1) M4.out hfw).mono ?_
        rintro e w4 ⟨rfl, hg⟩
        have he4 := HE3.out.calm hg
        have HE4 := Lib.hid he4
        clear x0 x1 b0 b1
        obtain ⟨x0, x1, b0, b1⟩ := he4.cells
        clear hg hfw he4 HE3
        have hnh : nh ≤ 10 := by rw [← HHL.out]; exact HFL.out.2
        have HSL := Lib.hid (fun k (hk : k < nh) => Nat.le_trans (HFL.out.1 k (by rw [HHL.out]; exact hk)) (by decide : 60 ≤ 1000000))
        obtain ⟨U, r, hv⟩ := medD_ex Ns As D Q Hs
        obtain ⟨A, B, Ls, r', hp⟩ := colV_ex Ns As
        have HSC := Lib.hid (colV_small hp)
        have HSM := Lib.hid (medD_small hv)
        have HV := Lib.hid hv
        have HP := Lib.hid hp
        clear hv hp
        go_wp2_with fail
        refine (of9_v p q n c m d _ _ _ _ Ns As A B Ls r' _ HP.out (HN.out.calm HE4.out.1) (HA.out.calm HE4.out.1) HF.out (HT.out.grown HE4.out.1 (by simp))).mono ?_
        rintro e w5 ⟨u, v, pl, cl, rfl, hob, hlg, hg⟩
        obtain ⟨pa, ca, pb, cb, rfl, rfl, hoat, _, _⟩ := hob.form
        generalize hLL : Ls.length = nl at *
        have HLL := Lib.hid hLL
        clear hLL
        have hga := World.grownBy_alloc w5 (.cells #[.slice pa A.length ca, .slice pb B.length cb] 29) none
        have hbx := BoxO.new w5 (.slice pa A.length ca) (.slice pb B.length cb)
        have he6 := (HE4.out.calm hg).calm hga
        have HE6 := Lib.hid he6
        have HQ6 := Lib.hid (hoat.calm hga)
        have HL6 := Lib.hid (hlg.calm hga)
        have HBX6 := Lib.hid hbx
        clear x0 x1 b0 b1
        obtain ⟨x0, x1, b0, b1⟩ := he6.cells
        clear hob hoat hlg hga hbx he6 hg HE4
        go_upto_region 6 with fail
        generalize w5.alloc (.cells #[.slice pa A.length ca, .slice pb B.length cb] 29) = w6 at *
        generalize w5.heap.size = g5 at *
        go_wp2_with fail
        refine (refCol_v p q n c m d _ _ _ _ Ns As A B Ls r' _ HP.out (HN.out.calm HE6.out.1) (HA.out.calm HE6.out.1) HF.out).mono ?_
        rintro e w7 ⟨pc, cc, pd, cd, pl2, cl2, rfl, hoat, hlg, hg⟩
        rw [HLL.out] at hlg ⊢
        have hga := World.grownBy_alloc w7 (.cells #[.slice pc A.length cc, .slice pd B.length cd] 29) none
        have hbx := BoxO.new w7 (.slice pc A.length cc) (.slice pd B.length cd)
        have he8 := (HE6.out.calm hg).calm hga
        have HE8 := Lib.hid he8
        have HQ8 := Lib.hid ((HQ6.out.calm hg).calm hga)
        have HL8 := Lib.hid ((HL6.out.calm hg).calm hga)
        have HBX8 := Lib.hid ((HBX6.out.calm hg).calm hga)
        have HR8 := Lib.hid (hoat.calm hga)
        have HM8 := Lib.hid (hlg.calm hga)
        have HBY8 := Lib.hid hbx
        clear x0 x1 b0 b1
        obtain ⟨x0, x1, b0, b1⟩ := he8.cells
        clear hoat hlg hga hbx he8 hg HE6 HQ6 HL6 HBX6
        go_upto_region 7 with fail
        generalize w7.alloc (.cells #[.slice pc A.length cc, .slice pd B.length cd] 29) = w8 at *
        generalize w7.heap.size = g7 at *
        go_wp2_with fail
        refine (med9_v p q pt qt ph n c m d nt ct mt dt nh ch _ _ _ _ _ _ _ _ Ns As D Q Hs U r _ HV.out (HN.out.calm HE8.out.1) (HA.out.calm HE8.out.1) HF.out (HO.out.calm HE8.out.1) (by omega) (HH.out.calm HE8.out.1) HSL.out (HT.out.grown HE8.out.1 (by simp))).mono ?_
        rintro e w9 ⟨pu, cu, rfl, hu, hg⟩
        have he9 := HE8.out.calm hg
        have HE9 := Lib.hid he9
        have HQ9 := Lib.hid (HQ8.out.calm hg)
        have HL9 := Lib.hid (HL8.out.calm hg)
        have HBX9 := Lib.hid (HBX8.out.calm hg)
        have HR9 := Lib.hid (HR8.out.calm hg)
        have HM9 := Lib.hid (HM8.out.calm hg)
        have HBY9 := Lib.hid (HBY8.out.calm hg)
        have HU9 := Lib.hid hu
        clear x0 x1 b0 b1
        obtain ⟨x0, x1, b0, b1⟩ := he9.cells
        clear hu hg he9 HE8 HQ8 HL8 HBX8 HR8 HM8 HBY8
        go_wp2_with fail
        refine (refMedA_v p q pt qt ph n c m d nt ct mt dt nh ch _ _ _ _ _ _ _ _ Ns As D Q Hs U r _ HV.out (HN.out.calm HE9.out.1) (HA.out.calm HE9.out.1) HF.out (HO.out.calm HE9.out.1) (by omega) (HH.out.calm HE9.out.1) HSL.out).mono ?_
        rintro e wa ⟨pv, cv, rfl, hu, hg⟩
        have hea := HE9.out.calm hg
        have HEA := Lib.hid hea
        have HQA := Lib.hid (HQ9.out.calm hg)
        have HLA := Lib.hid (HL9.out.calm hg)
        have HRA := Lib.hid (HR9.out.calm hg)
        have HMA := Lib.hid (HM9.out.calm hg)
        have HUA := Lib.hid (HU9.out.calm hg)
        have HWA := Lib.hid hu
        have hbx := HBX9.out.calm hg
        have hby := HBY9.out.calm hg
        have s0 := hbx.c0
        have s1 := hbx.c1
        have s2 := hby.c0
        have s3 := hby.c1
        clear x0 x1 b0 b1
        clear hu hg hea hbx hby HE9 HQ9 HL9 HBX9 HR9 HM9 HBY9 HU9
        go_wp2_with fail
        refine (refSame_r _ _ _ _ _ _ _ _ _ _ _ _ _ _ _ _ A A B B true _ HQA.out HRA.out (by have := HSC.out.1; omega) (by have := HSC.out.2.1; omega) (same_self9 A B)).mono ?_
        rintro e wb ⟨rfl, hg⟩
        have HGB := Lib.hid hg
        clear hg s0 s1 s2 s3
        go_wp2_with fail
        refine (alike_r _ _ _ _ _ _ _ _ _ _ _ _ true _ (HUA.out.calm HGB.out) (HWA.out.calm HGB.out) (by have := HSM.out; omega) (decide_eq_true rfl)).mono ?_
        rintro e wc ⟨rfl, hg⟩
        have hgc := grownBy_trans HGB.out hg
        have HEC := Lib.hid (HEA.out.calm hgc)
        have HLC := Lib.hid (HLA.out.calm hgc)
        have HMC := Lib.hid (HMA.out.calm hgc)
        clear hg hgc HGB HUA HWA HQA HRA HEA HLA HMA
        have hnl : nl ≤ 6 := HSC.out.2.2.1
        go_wp2
        go_loopw [17] (fun i wr => ∃ k : Nat, k ≤ nl ∧ i = .int .i64 k ∧ wc.grownBy wr none) (fun i _ => nl - (intOf i).toNat)
        case atStart => exact ⟨0, Nat.zero_le _, rfl, grownBy_refl _ _⟩
        case round =>
          obtain ⟨k, hk, rfl, hgr⟩ := hrel
          by_cases hkn : k < nl
          · have k0 : (0 : Int) ≤ k := by omega
            have k1 : (k : Int) < nl := by omega
            obtain ⟨bl, ol, rfl, _, _, _, hcl⟩ := (HLC.out.calm hgr).cell (by omega)
            obtain ⟨pm, nm, cm, l0, z0⟩ := hcl k hkn
            obtain ⟨bm, om, rfl, _, _, _, hcm⟩ := (HMC.out.calm hgr).cell (by omega)
            obtain ⟨pn, nn, cn, l1, z1⟩ := hcm k hkn
            have hnm : nm ≤ 1000000 := by
              have h1 := HSC.out.2.2.2 k hkn
              have h2 := z0.len
              omega
            have hgd := grownBy_drewN wr 1 none
            have HZ0 := Lib.hid (z0.calm hgd)
            have HZ1 := Lib.hid (z1.calm hgd)
            have HGD := Lib.hid (grownBy_trans hgr hgd)
            clear hcl hcm z0 z1 hgd hgr
            go_wp2
            refine wp_region_still_tail 8 (by kernel_rfl) (by kernel_rfl) ?_
            simp only [List.take_succ_cons, List.take_zero, List.drop_succ_cons, List.drop_zero]
            repeat still_step
            refine wpStill_nil ?_
            change wpList _ _ _ _ _ wr.drew
            clear l0 l1
            go_wp2_with fail
            refine (alike_r _ _ _ _ _ _ _ _ _ _ _ _ true _ HZ0.out HZ1.out hnm (decide_eq_true rfl)).mono ?_
            rintro e wd ⟨rfl, hg⟩
            have HGE := Lib.hid (grownBy_trans HGD.out hg)
            clear hg
            go_wp2
            exact ⟨⟨k + 1, by omega, by go_num, HGE.out⟩, by simp [intOf]; omega⟩
          · obtain rfl : k = nl := by omega
            have k1 : ¬ ((k : Int) < k) := by omega
            have hee := HEC.out.calm hgr
            have HEE := Lib.hid hee
            clear hgr hee
            generalize wr = wo at *
            obtain ⟨b1', hb1'⟩ : ∃ b, diagB Ns As = b := ⟨_, rfl⟩
            obtain ⟨b2', hb2'⟩ : ∃ b, legsB Ns As D Q Hs = b := ⟨_, rfl⟩
            have HC1 := Lib.hid (fun z : Later wo => later_call (fun w' hg => dIs_r p q n c m d _ _ _ _ Ns As b1' w' (HN.out.calm (HEE.out.calm hg).1) (HA.out.calm (HEE.out.calm hg).1) HF.out hb1') z)
            have HC2 := Lib.hid (fun z : Later wo => later_call (fun w' hg => refIsD_r p q n c m d _ _ _ _ Ns As b1' w' (HN.out.calm (HEE.out.calm hg).1) (HA.out.calm (HEE.out.calm hg).1) HF.out hb1') z)
            have hmt6 : mt ≤ 1000000 := by omega
            have HC3 := Lib.hid (fun z : Later wo => later_call (fun w' hg => dLegs_r p q pt qt ph n c m d nt ct mt dt nh ch _ _ _ _ _ _ _ _ Ns As D Q Hs b2' w' (HN.out.calm (HEE.out.calm hg).1) (HA.out.calm (HEE.out.calm hg).1) HF.out (HO.out.calm (HEE.out.calm hg).1) hmt6 (HH.out.calm (HEE.out.calm hg).1) HSL.out hb2') z)
            have HC4 := Lib.hid (fun z : Later wo => later_call (fun w' hg => refLegs_r p q pt qt ph n c m d nt ct mt dt nh ch _ _ _ _ _ _ _ _ Ns As D Q Hs b2' w' (HN.out.calm (HEE.out.calm hg).1) (HA.out.calm (HEE.out.calm hg).1) HF.out (HO.out.calm (HEE.out.calm hg).1) hmt6 (HH.out.calm (HEE.out.calm hg).1) HSL.out hb2') z)
            have q0 := fun z : Later wo => later_cell HEE.out.cells.1 z
            have q1 := fun z : Later wo => later_cell HEE.out.cells.2.1 z
            have q2 := fun z : Later wo => later_cell HEE.out.cells.2.2.1 z
            have q3 := fun z : Later wo => later_cell HEE.out.cells.2.2.2 z
            have hne := later_one wo
            clear hb1' hb2'
            cases b1' <;> cases b2'
            all_goals
              as_aux_lemma =>
                go_wp2_with fail
                refine region_quiet_in (C := fun x => ∃ z : Later wo, x = z.at_) (by kernel_rfl) (by kernel_rfl) (later_drew wo) ?_
                repeat (go_big_quiet_step ((first | (go_at_call 14; exact HC1.out _) | (go_at_call 15; exact HC2.out _) | (go_at_call 16; exact HC3.out _) | (go_at_call 17; exact HC4.out _))))
                refine wpQuiet_nil ?_
                intro w' hw'
                obtain ⟨z, hz⟩ := hw'
                subst hz
                have HG := Lib.hid (HEE.out.calm z.ok).1
                go_wp2
                go_ret
                exact ⟨rfl, HG.out⟩

end Go.Proofs.YthmebbnoicldcaaGreatDoor
