/- StatePaths: at every input the call answers true, and each argument reads behind the call as it read before; tied: the table that math/bits reads is what the program's text lays. -/
import Derived.Test.YtnknejokneddbaaGreatDoorArgs
import Derived.Test.YtnknejokneddbaaGreatDoorPthP
import Derived.Test.YtnknejokneddbaaGreatDoorArgS
namespace Go.Proofs.YtnknejokneddbaaGreatDoor.statePaths
open Go.ChangeShapes Go.WideShapes Go.ChangeAt Go.WideMaps Go.WideElems Go.RowKit Go.Deep

set_option maxRecDepth 100000 in
set_option maxHeartbeats 8000000 in
theorem walk (p0 : Option Addr) (L0 c0 : Nat) (l0 : List Pt) (w : World) (h0 : PsArg w p0 L0 c0 l0) (ht : Tab w) :
  Calls Tryz.prog 7 #[.slice p0 L0 c0] w fun e w' => e = .returned (.bool true) ∧ Below w.heap.size w w' := by
 have HA := Lib.hid h0
 have HT := Lib.hid ht
 obtain ⟨q, hq⟩ := bool_of ((∀ x ∈ l0, PFew x) ∧ L0 ≤ 16)
 have HQ := Lib.hid hq
 clear ht h0 hq
 go_enter Tryz.func7, Tryz.ntmps7
 go_wp2_with fail
 refine (known13_c _ HT.out).mono ?_
 rintro e v1 ⟨rfl, hg1⟩
 have HG1 := Lib.hid hg1
 clear hg1
 go_wp2_with fail
 refine (fewAll_c p0 L0 c0 _ _ l0 q v1 (HA.out.at'.calm HG1.out) HA.out.mn (fun x hx => ⟨(HA.out.each x hx).2.2.2.2.1, (HA.out.each x hx).2.2.2.2.2.1, (HA.out.each x hx).2.2.2.2.2.2⟩) HQ.out).mono ?_
 rintro e v2 ⟨rfl, hg2⟩
 have HG2 := Lib.hid (grownBy_trans HG1.out hg2)
 clear hg2 HG1
 cases q with
 | false =>
  go_wp2
  go_ret
  exact ⟨rfl, grownBy_below HG2.out⟩
 | true =>
 have HF := Lib.hid (HQ.out.1 rfl)
 have hL := HF.out.2
 clear HQ
 have HT2 := Lib.hid (HT.out.grown HG2.out (by simp))
 have HPA := Lib.hid (HA.out.at'.calm HG2.out)
 have HW2 : Hid (w.heap.size ≤ v2.heap.size) := Lib.hid HG2.out.size
 have HN0 : Hid (∀ x ∈ l0, NumP x) := Lib.hid fun x hx => ⟨(HA.out.each x hx).1, fun h hh => (HA.out.each x hx).2.2.1 h hh⟩
 have HOF := Lib.hid (of_pts 0 w.heap.size p0 L0 c0 l0 v2 HT2.out HPA.out HF.out.1 hL HW2.out HN0.out)
 obtain ⟨fl, hfl⟩ : ∃ fl, filesL l0 = fl := ⟨_, rfl⟩
 obtain ⟨er, her⟩ : ∃ er, errL l0 = er := ⟨_, rfl⟩
 obtain ⟨fn, hfn⟩ : ∃ fn, fl.length = fn := ⟨_, rfl⟩
 have HFW : Hid (fn ≤ 6 ∧ ∀ f ∈ fl, (fLines f).length ≤ 100000 ∧ (fPairs f).length ≤ 100000) := Lib.hid (by
  rw [← hfn, ← hfl]
  refine ⟨filesL_few.1, fun f hf => ?_⟩
  by_cases e : errL l0 = 0
  ·have h40 := (errL_zero e).2.2.2.2
   rw [filesL_ok e] at hf
   have hc := mem_cnt hf
   rw [cntS_map] at hc
   obtain ⟨s, _, rfl⟩ := List.mem_map.1 hf
   have hl : (fLines (fileL l0 s)).length = (linesOfL l0 s).length := fileOf_len _ _ _
   have hp : (fPairs (fileL l0 s)).length ≤ (linesOfL l0 s).length * (linesOfL l0 s).length := pairsL_few _ _ _
   have hm : (linesOfL l0 s).length * (linesOfL l0 s).length ≤ 40 * 40 := Nat.mul_le_mul (by omega) (by omega)
   omega
  ·rw [filesL_err e] at hf
   cases hf)
 have HER : Hid (er ≠ 0 → fn = 0) := Lib.hid fun h => by
  rw [← hfn, ← hfl, filesL_err (by rw [her]; exact h)]
  rfl
 have HMT : Hid (∀ x ∈ l0, er = 0 → ∀ s ∈ pMakes x, ((findL fl s).isSome = true ↔ ¬ ∃ y ∈ l0, s ∈ pDrops y) ∧ 1 ≤ s.size) := Lib.hid fun x hx h0 s hs => by
  have e0 : errL l0 = 0 := by rw [her]; exact h0
  refine ⟨?_, (((errL_zero e0).1.1 x hx).makes s hs).lo⟩
  rw [← hfl, find_track e0, trackL_mem]
  exact ⟨fun h => h.2, fun h => ⟨⟨x, hx, hs⟩, h⟩⟩
 have HLN : Hid (er = 0 → ∀ i, i < fn → (fLines (fl[i]?.getD fl0)).length = addL (fPath (fl[i]?.getD fl0)) l0 L0) := Lib.hid fun h0 i hi => by
  have e0 : errL l0 = 0 := by rw [her]; exact h0
  have hm : fl[i]?.getD fl0 ∈ fl := get_mem (by omega)
  rw [← hfl, filesL_ok e0] at hm ⊢
  obtain ⟨s, _, es⟩ := List.mem_map.1 hm
  rw [← es, ← HPA.out.len, ← lines_count]
  exact fileOf_len _ _ _
 have HRS : Hid (er = 0 → ∀ i, i + 1 < fn → ltS (fPath (fl[i]?.getD fl0)) (fPath (fl[i + 1]?.getD fl0)) = true) := Lib.hid fun h0 i hi => by
  have e0 : errL l0 = 0 := by rw [her]; exact h0
  have hr := trackL_ris l0
  rw [← hfl, filesL_ok e0, List.length_map] at hfn
  rw [← hfl, filesL_ok e0, List.getElem?_map, List.getElem?_map, List.getElem?_eq_getElem (show i < (trackL l0).length by omega), List.getElem?_eq_getElem (show i + 1 < (trackL l0).length by omega)]
  exact List.pairwise_iff_getElem.1 hr i (i + 1) (by omega) (by omega) (by omega)
 rw [hfl, her, hfn] at HOF
 clear hfl her
 go_wp2_with fail
 refine HOF.out.mono ?_
 rintro e v3 ⟨pa, ca, rfl, hfa, _, _, hg3⟩
 have HFA := Lib.hid hfa
 have HG3 := Lib.hid hg3
 have HG23 := Lib.hid (grownBy_trans HG2.out hg3)
 have HP3 := Lib.hid (HPA.out.calm hg3)
 have HFN := Lib.hid hfn
 clear hfa hg3 HOF HPA HT2 HT hfn
 by_cases he : er = 0
 ·subst he
  have HMT2 := Lib.hid fun x hx => HMT.out x hx rfl
  have HLN2 := Lib.hid (HLN.out rfl)
  have HRS2 := Lib.hid (HRS.out rfl)
  clear HMT HLN HRS HER
  go_wp2
  go_loopw [5] (fun v wr => ∃ i : Nat, i ≤ L0 ∧ v = .int .i64 i ∧ Hid (v3.grownBy wr none)) (fun v _ => L0 - (intOf v).toNat)
  case atStart => exact ⟨0, Nat.zero_le _, rfl, Lib.hid (grownBy_refl _ _)⟩
  case round =>
  obtain ⟨i, hi, rfl, HG⟩ := hrel
  by_cases hin : i < L0
  ·have i0 : (0 : Int) ≤ i := by omega
   have i1 : (i : Int) < L0 := by omega
   obtain ⟨b, o, rfl, _, _, _, hc⟩ := HP3.out.cell (by omega)
   have HC := Lib.hid hc
   obtain ⟨pd, nd, cd, pm, nm, cm, px, nx, cx, ph, nh, ch, _, _, c2, _, _, hp⟩ := hc i hin
   have HM := Lib.hid (get_mem (d := pt0) (show i < l0.length by rw [HP3.out.len]; exact hin))
   have HMI := Lib.hid (HMT2.out _ HM.out)
   have HPM := Lib.hid hp.makes
   have HC2 := Lib.hid c2
   have hnm : nm ≤ 10 := by rw [← hp.makes.len]; exact (HF.out.1 _ HM.out).makes
   clear hc hp c2
   generalize l0[i]?.getD pt0 = x at *
   have a2 := cell_calmQ HG.out HC2.out
   go_wp2
   clear a2
   go_loopw [6] (fun v wr => ∃ k : Nat, k ≤ nm ∧ v = .int .i64 k ∧ Hid (v3.grownBy wr none)) (fun v _ => nm - (intOf v).toNat)
   case atStart => exact ⟨0, Nat.zero_le _, rfl, HG⟩
   case round =>
   clear HG
   obtain ⟨k, hk, rfl, HG⟩ := hrel
   have a2 := cell_calmQ HG.out HC2.out
   by_cases hkn : k < nm
   ·have k0 : (0 : Int) ≤ k := by omega
    have k1 : (k : Int) < nm := by omega
    obtain ⟨bm, om, rfl, _, _, _, hcm⟩ := HPM.out.cell (by omega)
    have HX0 := Lib.hid (hcm k hkn)
    have HM2 := Lib.hid (get_mem (d := ByteArray.empty) (show k < (pMakes x).length by rw [HPM.out.len]; exact hkn))
    have HS := Lib.hid (HMI.out _ HM2.out)
    clear hcm HM2
    generalize (pMakes x)[k]?.getD .empty = s at *
    go_wp2
    clear a2
    go_loopw [7, 8] (fun u v wr => ∃ (f : Bool) (j : Nat), j ≤ L0 ∧ u = .bool f ∧ v = .int .i64 j ∧ Hid (f = true ↔ ∃ q, q < j ∧ s ∈ pDrops (l0[q]?.getD pt0)) ∧ Hid (v3.grownBy wr none)) (fun _ v _ => L0 - (intOf v).toNat)
    case atStart => exact ⟨false, 0, Nat.zero_le _, rfl, rfl, Lib.hid ⟨fun h => (by cases h), fun ⟨q, hq, _⟩ => absurd hq (Nat.not_lt_zero _)⟩, HG⟩
    case round =>
    clear HG
    obtain ⟨f, j, hj, rfl, rfl, HFF, HG⟩ := hrel
    by_cases hjn : j < L0
    ·have j0 : (0 : Int) ≤ j := by omega
     have j1 : (j : Int) < L0 := by omega
     obtain ⟨_, _, _, _, _, _, px, nx, cx, _, _, _, _, _, _, c3, _, hpj⟩ := HC.out j hjn
     have HMJ := Lib.hid (get_mem (d := pt0) (show j < l0.length by rw [HP3.out.len]; exact hjn))
     have hnx : nx ≤ 10 := by rw [← hpj.drops.len]; exact (HF.out.1 _ HMJ.out).drops
     have HPX := Lib.hid (hpj.drops.calm HG.out)
     have q0 := fun z : Later wr => later_cell (cell_calmQ HG.out c3) z
     have q1 := fun z : Later wr => later_cell (cell_calmQ HG.out HC2.out) z
     have q2 := fun z : Later wr => later_cell (cell_calmQ HG.out HX0.out) z
     have hne5 := later_one wr
     have HFS := Lib.hid (show (∃ q, q < j + 1 ∧ s ∈ pDrops (l0[q]?.getD pt0)) ↔ (∃ q, q < j ∧ s ∈ pDrops (l0[q]?.getD pt0)) ∨ s ∈ pDrops (l0[j]?.getD pt0) from ⟨fun ⟨q, hq, e⟩ => by
      by_cases hqj : q = j
      ·subst hqj; exact .inr e
      ·exact .inl ⟨q, by omega, e⟩, fun h => by
      rcases h with ⟨q, hq, e⟩ | e
      ·exact ⟨q, by omega, e⟩
      ·exact ⟨j, by omega, e⟩⟩)
     clear c3 hpj HMJ
     generalize l0[j]?.getD pt0 = y at *
     go_upto_region 18 with fail
     cases f with
     | true =>
      have HF2 : Hid (true = true ↔ ∃ q, q < j + 1 ∧ s ∈ pDrops (l0[q]?.getD pt0)) := Lib.hid ⟨fun _ => HFS.out.2 (.inl (HFF.out.1 rfl)), fun _ => rfl⟩
      refine region_quiet_in (C := fun x => ∃ z : Later wr, x = z.at_) (by kernel_rfl) (by kernel_rfl) (later_drew wr) ?_
      repeat (go_big_quiet_step (fail))
      refine wpQuiet_nil ?_
      intro w' hw'
      obtain ⟨z, hz⟩ := hw'
      subst hz
      have HG9 := Lib.hid (grownBy_trans HG.out z.ok)
      go_wp2
      exact ⟨⟨true, j + 1, by omega, rfl, by go_num, HF2, HG9⟩, by simp [intOf]; omega⟩
     | false =>
      have HN : Hid (¬ ∃ q, q < j ∧ s ∈ pDrops (l0[q]?.getD pt0)) := Lib.hid fun h => by have := HFF.out.2 h; cases this
      obtain ⟨r, hr⟩ := bool_of (s ∈ pDrops y)
      have HR := Lib.hid hr
      have HF2 : Hid (r = true ↔ ∃ q, q < j + 1 ∧ s ∈ pDrops (l0[q]?.getD pt0)) := Lib.hid (by
       rw [HFS.out, hr]
       exact ⟨fun h => .inr h, fun h => h.resolve_left HN.out⟩)
      clear hr
      have hT := Lib.hid (fun z : Later wr => later_call (fun w' hg => (refIn_c px nx cx _ _ (pDrops y) s r w' (HPX.out.calm hg) (by omega) HR.out).mono fun e w9 h9 => ⟨h9.1, by rw [h9.2]; exact grownBy_refl _ _⟩) z)
      refine region_quiet_in (C := fun x => ∃ z : Later wr, x = z.at_) (by kernel_rfl) (by kernel_rfl) (later_drew wr) ?_
      repeat (go_big_quiet_step ((go_at_call 31; with_reducible exact hT.out _)))
      refine wpQuiet_nil ?_
      intro w' hw'
      obtain ⟨z, hz⟩ := hw'
      subst hz
      have HG9 := Lib.hid (grownBy_trans HG.out z.ok)
      go_wp2
      exact ⟨⟨r, j + 1, by omega, rfl, by go_num, HF2, HG9⟩, by simp [intOf]; omega⟩
    obtain rfl : L0 = j := by omega
    have j1 : ¬ ((L0 : Int) < L0) := by omega
    have HIS : Hid ((findL fl s).isSome = !f) := Lib.hid (by
     have h1 := HS.out.1
     have h2 : f = true ↔ ∃ y ∈ l0, s ∈ pDrops y := HFF.out.trans ⟨fun ⟨q, hq, e⟩ => ⟨_, get_mem (d := pt0) (by rw [HP3.out.len]; exact hq), e⟩, fun ⟨y, hy, e⟩ => by
      obtain ⟨q, hq, eq⟩ := mem_get (d := pt0) hy
      exact ⟨q, by rw [← HP3.out.len]; exact hq, by rw [eq]; exact e⟩⟩
     rw [← h2] at h1
     cases f <;> cases hs : (findL fl s).isSome <;> simp [hs] at h1 ⊢)
    have HFD := Lib.hid (findS_c pa fn ca fl s _ _ wr (HFA.out.calm HG.out) (by have := HFW.out.1; omega) HFW.out.2)
    have HFP : Hid (f = false → fPath ((findL fl s).getD fl0) = s) := Lib.hid fun h => by
     have h1 := HIS.out
     rw [h] at h1
     obtain ⟨y, hy⟩ := Option.isSome_iff_exists.1 h1
     rw [hy]
     exact find_path hy
    have HFE : Hid (f = true → fPath ((findL fl s).getD fl0) = .empty) := Lib.hid fun h => by
     have h1 := HIS.out
     rw [h] at h1
     have h2 : findL fl s = none := by
      cases hq : findL fl s with
      | none => rfl
      | some y => rw [hq] at h1; cases h1
     rw [h2]
     rfl
    rw [HIS.out] at HFD
    have a2 := cell_calmQ HG.out HC2.out
    have x0 := cell_calmQ HG.out HX0.out
    have HSZ := Lib.hid HS.out.2
    clear HFF HIS
    generalize (findL fl s).getD fl0 = y at *
    go_wp2_with fail
    refine HFD.out.mono ?_
    rintro e w5 ⟨hg5, pl, nl, cl, pp, np, cp, rfl, _⟩
    have HG5 := Lib.hid (grownBy_trans HG.out hg5)
    clear hg5 HFD a2 x0
    have HGA := Lib.hid (grownBy_trans HG5.out (World.grownBy_alloc w5 (.cells #[.string (fPath y), .slice pl nl cl, .slice pp np cp] 35) none))
    have HBX := Lib.hid (BoxV.new w5 [.string (fPath y), .slice pl nl cl, .slice pp np cp] 35)
    go_upto_region 20 with fail
    generalize w5.alloc _ = w6 at *
    generalize w5.heap.size = g5 at *
    obtain ⟨b0, _, _⟩ := HBX.out.three
    cases f with
    | false =>
     obtain rfl : fPath y = s := HFP.out rfl
     have hse : (fPath y).toList.isEmpty = false := by
      have h1 := HSZ.out
      rw [ByteArray.toList_eq, List.isEmpty_eq_false_iff]
      intro e
      have h2 : (fPath y).size = 0 := by rw [Lib.size_eq, e]; rfl
      omega
     go_wp2
     exact ⟨⟨k + 1, by omega, by go_num, HGA⟩, by simp [intOf]; omega⟩
    | true =>
     have hye := HFE.out rfl
     rw [hye] at b0
     go_wp2
     exact ⟨⟨k + 1, by omega, by go_num, HGA⟩, by simp [intOf]; omega⟩
   obtain rfl : nm = k := by omega
   have k1 : ¬ ((nm : Int) < nm) := by omega
   go_wp2
   exact ⟨⟨i + 1, by omega, by go_num, HG⟩, by simp [intOf]; omega⟩
  obtain rfl : L0 = i := by omega
  have i1 : ¬ ((L0 : Int) < L0) := by omega
  have hfn6 := HFW.out.1
  go_wp2
  go_loopw [11] (fun v wr => ∃ i : Nat, i ≤ fn ∧ v = .int .i64 i ∧ Hid (v3.grownBy wr none)) (fun v _ => fn - (intOf v).toNat)
  case atStart => exact ⟨0, Nat.zero_le _, rfl, HG⟩
  case round =>
  clear HG
  obtain ⟨i, hi, rfl, HG⟩ := hrel
  by_cases hin : i < fn
  ·have i0 : (0 : Int) ≤ i := by omega
   have i1 : (i : Int) < fn := by omega
   obtain ⟨bf, of, rfl, _, _, _, hcf⟩ := HFA.out.cell (by omega)
   have HCF := Lib.hid hcf
   obtain ⟨pl, nl, cl, pp, np, cp, f0, f1, _, hfl⟩ := hcf i hin
   have HF0 := Lib.hid f0
   have HF1 := Lib.hid f1
   have HNL : Hid (addL (fPath (fl[i]?.getD fl0)) l0 L0 = nl) := Lib.hid (by rw [← HLN2.out i hin]; exact hfl.lines.len)
   clear hcf f0 f1 hfl
   generalize hpf : fPath (fl[i]?.getD fl0) = pf at *
   have HPF := Lib.hid hpf
   clear hpf
   go_wp2
   go_loopw [12, 13] (fun u v wr => ∃ k : Nat, k ≤ L0 ∧ u = .int .i64 ((addL pf l0 k : Nat) : Int) ∧ v = .int .i64 k ∧ Hid (addL pf l0 k ≤ k * 400) ∧ Hid (v3.grownBy wr none)) (fun _ v _ => L0 - (intOf v).toNat)
   case atStart => exact ⟨0, Nat.zero_le _, rfl, rfl, Lib.hid (Nat.zero_le _), HG⟩
   case round =>
   clear HG
   obtain ⟨k, hk, rfl, rfl, HBK, HG⟩ := hrel
   by_cases hkn : k < L0
   ·have k0 : (0 : Int) ≤ k := by omega
    have k1 : (k : Int) < L0 := by omega
    obtain ⟨b, o, rfl, _, _, _, hc⟩ := HP3.out.cell (by omega)
    obtain ⟨pd, nd, cd, pm, nm, cm, px, nx, cx, ph, nh, ch, _, _, _, _, c4, hp⟩ := hc k hkn
    have HM := Lib.hid (get_mem (d := pt0) (show k < l0.length by rw [HP3.out.len]; exact hkn))
    have HPH := Lib.hid hp.hunks
    have HC4 := Lib.hid c4
    have hnh : nh ≤ 8 := by rw [← hp.hunks.len]; exact (HF.out.1 _ HM.out).hunks
    have HSK := Lib.hid (addL_succ (path := pf) (show k < l0.length by rw [HP3.out.len]; exact hkn))
    have HHS := Lib.hid (HF.out.1 _ HM.out).hs
    clear hc hp c4
    generalize l0[k]?.getD pt0 = x at *
    rw [HPH.out.len] at HSK
    have hbk := HBK.out
    have hkb : k * 400 ≤ 16 * 400 := Nat.mul_le_mul_right _ (by omega)
    generalize hak : addL pf l0 k = ak at *
    have HAK := Lib.hid hak
    clear hak
    go_wp2
    go_loopw [12, 14] (fun u v wr => ∃ j : Nat, j ≤ nh ∧ u = .int .i64 ((ak + addP pf (pHunks x) j : Nat) : Int) ∧ v = .int .i64 j ∧ Hid (addP pf (pHunks x) j ≤ j * 50) ∧ Hid (v3.grownBy wr none)) (fun _ v _ => nh - (intOf v).toNat)
    case atStart => exact ⟨0, Nat.zero_le _, rfl, rfl, Lib.hid (Nat.zero_le _), HG⟩
    case round =>
    clear HG
    obtain ⟨j, hj, rfl, rfl, HBJ, HG⟩ := hrel
    have a4 := cell_calmQ HG.out HC4.out
    by_cases hjn : j < nh
    ·have j0 : (0 : Int) ≤ j := by omega
     have j1 : (j : Int) < nh := by omega
     have hjl : j < (pHunks x).length := by rw [HPH.out.len]; exact hjn
     obtain ⟨bh, oh, rfl, _, _, _, hch⟩ := HPH.out.cell (by omega)
     obtain ⟨pA, nA, cA, _, _, _, _, _, _, g0, g1, _, _, hh⟩ := hch j hjn
     have HAS := Lib.hid (addP_succ (path := pf) hjl)
     have hna : nA ≤ 50 := by rw [← hh.adds.len]; exact (HHS.out _ (get_mem (d := hk0) hjl)).1
     have HAL := Lib.hid hh.adds.len
     have b0 := cell_calmQ HG.out g0
     have b1 := cell_calmQ HG.out g1
     have e0 := cell_calmQ HG.out HF0.out
     have hbj := HBJ.out
     have hjb : j * 50 ≤ 8 * 50 := Nat.mul_le_mul_right _ (by omega)
     clear hch hh g0 g1
     generalize (pHunks x)[j]?.getD hk0 = y at *
     generalize hap : addP pf (pHunks x) j = ap at *
     clear hap
     by_cases hpe : hPath y = pf
     ·have e1 := toList_eqP hpe
      have HE : Hid (addP pf (pHunks x) (j + 1) = ap + nA) := Lib.hid (by rw [HAS.out, if_pos hpe, HAL.out])
      have hwr : IntKind.i64.wrap (((ak + ap : Nat) : Int) + (nA : Int)) = ((ak + (ap + nA) : Nat) : Int) := by rw [IntWalk.i64_in _ (by omega)]; omega
      clear hpe
      go_wp2
      go_quiet (fail)
      have HG9 := Lib.hid (grownBy_trans HG.out (grownBy_drewN wr nq none))
      go_wp2
      exact ⟨⟨j + 1, by omega, (by rw [HE.out]; simp only [Value.int.injEq, true_and]; omega), by go_num, Lib.hid (by rw [HE.out]; omega), HG9⟩, by simp [intOf]; omega⟩
     ·have e1 := toList_neP hpe
      have HE : Hid (addP pf (pHunks x) (j + 1) = ap) := Lib.hid (by rw [HAS.out, if_neg hpe, Nat.add_zero])
      clear hpe
      go_wp2
      go_quiet (fail)
      have HG9 := Lib.hid (grownBy_trans HG.out (grownBy_drewN wr nq none))
      go_wp2
      exact ⟨⟨j + 1, by omega, by rw [HE.out], by go_num, Lib.hid (by rw [HE.out]; omega), HG9⟩, by simp [intOf]; omega⟩
    obtain rfl : nh = j := by omega
    have j1 : ¬ ((nh : Int) < nh) := by omega
    have HSK2 : Hid (addL pf l0 (k + 1) = ak + addP pf (pHunks x) nh) := Lib.hid (by rw [HSK.out])
    have HB9 : Hid (addL pf l0 (k + 1) ≤ (k + 1) * 400) := Lib.hid (by
     rw [HSK2.out, Nat.succ_mul]
     have := HBJ.out
     have : nh * 50 ≤ 8 * 50 := Nat.mul_le_mul_right _ (by omega)
     omega)
    go_wp2
    exact ⟨⟨k + 1, by omega, by rw [HSK2.out], by go_num, HB9, HG⟩, by simp [intOf]; omega⟩
   obtain rfl : L0 = k := by omega
   have k1 : ¬ ((L0 : Int) < L0) := by omega
   rw [HNL.out]
   have hnn : ((nl : Int) != (nl : Int)) = false := by simp
   have e0 := cell_calmQ HG.out HF0.out
   have e1 := cell_calmQ HG.out HF1.out
   cases i with
   | zero =>
    have e2 : decide ((0 : Int) < ((0 : Nat) : Int)) = false := by decide
    go_wp2
    go_quiet (fail)
    have HG9 := Lib.hid (grownBy_trans HG.out (grownBy_drewN wr nq none))
    go_wp2
    exact ⟨⟨0 + 1, by omega, by go_num, HG9⟩, by simp [intOf]; omega⟩
   | succ K =>
    obtain ⟨_, _, _, _, _, _, g0, _⟩ := HCF.out K (by omega)
    have d0 := cell_calmQ HG.out g0
    have hlt := HRS2.out K hin
    rw [HPF.out] at hlt
    have kw : IntKind.i64.wrap (((K + 1 : Nat) : Int) - 1) = (K : Int) := by rw [IntWalk.i64_in _ (by omega)]; omega
    have K0 : (0 : Int) ≤ K := by omega
    have K1 : (K : Int) < fn := by omega
    have kp : (0 : Int) < ((K + 1 : Nat) : Int) := by omega
    have kpn : 0 < K + 1 := by omega
    clear g0
    generalize fPath (fl[K]?.getD fl0) = pq at *
    generalize hkk : K + 1 = kk at *
    have HKK := Lib.hid hkk
    clear hkk
    have e2 : decide ((0 : Int) < (kk : Int)) = true := decide_eq_true kp
    have e2' : decide (0 < kk) = true := decide_eq_true kpn
    have e3 : Op.bytesLess pf.toList pq.toList = false := linS.not hlt
    have e4 : (pf.toList == pq.toList) = false := toList_neP fun e => by
     rw [e, linS.irr] at hlt
     cases hlt
    clear hlt
    go_wp2
    go_quiet (fail)
    have HG9 := Lib.hid (grownBy_trans HG.out (grownBy_drewN wr nq none))
    clear kw
    go_wp2
    exact ⟨⟨kk + 1, by omega, by go_num, HG9⟩, by have := HKK.out; simp [intOf]; omega⟩
  obtain rfl : fn = i := by omega
  have i1 : ¬ ((fn : Int) < fn) := by omega
  go_wp2
  go_ret
  exact ⟨rfl, grownBy_below (grownBy_trans HG23.out HG.out)⟩
 ·have hf0 : fn = 0 := HER.out he
  subst hf0
  have e1 : ((er : Int) != 0) = true := by simp; omega
  go_wp2
  go_ret
  exact ⟨rfl, grownBy_below HG23.out⟩

set_option maxRecDepth 100000 in
theorem lifted (os : Os) (started : os.Started) (H : Type) (enc : TypeId × Value → H) :
  ReturnsInHanded {} Tryz.checked os 7 .any (fun w args => (Rows.statePathsSpec.pre enc Tryz.prog Tryz.f7 [] false w args ∧ laidMetH Tryz.prog laidL w) ∧ sizedMet enc Tryz.prog Tryz.f7 (OpenSpec.ofChange Rows.statePathsSpec) false w args)
   (Rows.statePathsSpec.post enc Tryz.prog Tryz.f7 false true false false) := by
 refine returnsInHanded_of_change_and (C := Tryz.checked) (X := fun w _ => laidMetH Tryz.prog laidL w) (fun _ _ _ hh h => h.of_heap hh) ownNone started (by kernel_rfl) Tryz.func7
  (ChangeSpec.witness_shaped (enc := enc) (C := Tryz.checked) (os := os) (X := fun w _ => laidMetH Tryz.prog laidL w) false (World.doorLaid Tryz.prog 400 os) #[.slice none 0 0] 8 rfl (World.shaped_of_RefB (by kernel_rfl) (by kernel_rfl)) (by kernel_rfl) (by kernel_rfl) (by kernel_rfl) (door_met os _)) ?_
 intro W base args ds gs before hval0 hW _ _ hL _
 have hval : ∀ (j : Nat) t v, Tryz.f7.params[j]? = some t → args[j]? = some v → Value.okWide Tryz.prog W .any base t v := hval0
 have hW' := hW
 have hlt := hW.lt
 obtain ⟨p, q, hA0, hV, rfl, hfz, hnd⟩ := hW
 have hA : DataW.TrodAll enc Tryz.prog W 0 (fun _ => true) true Tryz.f7.params.toList args.toList ds p := hA0
 rw [Tryz.params7] at hA hval
 obtain ⟨v0, vs0, d0, ds0, q0, r0, hargs, rfl, rfl, t0, s0⟩ := trodAll_cons hA
 obtain ⟨rfl, rfl, rfl⟩ := trodAll_nil s0
 obtain rfl : args = #[v0] := by cases args; simp_all
 obtain ⟨rfl, rfl⟩ := trodVars_none hV
 obtain ⟨a0, L0, c0, l0, rfl, u0⟩ := ptsAt_of (hval 0 22 v0 rfl rfl) t0
 clear hA0 hval0
 simp only [List.append_nil] at hW' hlt
 refine (walk a0 L0 c0 l0 W u0 (tab_of_laid hL)).mono fun e W' ⟨he, hg⟩ => ?_
 subst he
 have z0 := Below.trod laidOut (by kernel_rfl) (of_decide_eq_true (by kernel_rfl)) t0 hg (fun x hx => hlt x (by simp [hx]))
 exact ⟨_, rfl, law_post hW' rfl (fun _ _ _ => (trodAll_cons_mk (shut_bool Tryz.underlying4 _) trodAll_mk0)) (trodAll_cons_mk z0 trodAll_mk0) rfl hg⟩

theorem over : Rows.StatePathsSaid :=
 OpenClaim.holds_of_wide 7 Tryz.f7 rfl rfl rfl rfl rfl rfl rfl ⟨rfl, rfl, rfl, rfl, rfl⟩ rfl rfl rfl rfl rfl (by kernel_rfl) Tryz.func7 (by kernel_rfl)
  (of_decide_eq_true (by kernel_rfl)) (by unfold Func.isWrapper; first | (rw [if_pos (by decide +kernel)]; kernel_rfl) | (rw [if_neg (by decide +kernel)]; exact ⟨rfl, rfl⟩))
  (fun os started H enc _ => lifted os started H enc)

theorem proved : Rows.StatePathsCardSaid :=
 Claim7.holds_tied_plain_at .later [] [.data] true Rows.statePathsCard.stood.harness false
  over (fun _ h => by cases h) (by kernel_rfl) (fun _ h => by cases h) statePaths_row_tie rfl ⟨rfl, rfl⟩ (by kernel_rfl) rfl
  (fun f fn hf hfn => by
   obtain rfl : f = 7 := Option.some.inj ((show Tryz.prog.funcNamed "cento/centolaw13.StatePaths" = some 7 by kernel_rfl).symm.trans hf) |>.symm
   obtain rfl : fn = Tryz.f7 := (Option.some.inj (Tryz.func7.symm.trans hfn)).symm
   exact ⟨by kernel_rfl, fun j t ht => by
    rw [Tryz.params7] at ht
    have hm : t ∈ [22] := by simpa using Array.mem_of_getElem? ht
    have hall : ([22].all fun u => !Tryz.prog.wantsStandIn u) = true := by kernel_rfl
    exact (show Tryz.prog.wantsStandIn t = false by simpa using List.all_eq_true.1 hall t hm)⟩)
  (by kernel_rfl)
#print axioms proved
end Go.Proofs.YtnknejokneddbaaGreatDoor.statePaths
