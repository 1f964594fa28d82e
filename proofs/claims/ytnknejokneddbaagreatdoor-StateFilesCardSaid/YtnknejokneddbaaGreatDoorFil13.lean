/- StateFiles: at every input the call answers true, and each argument reads behind the call as it read before; tied: the table that math/bits reads is what the program's text lays. -/
import Derived.Test.YtnknejokneddbaaGreatDoorArgs
import Derived.Test.YtnknejokneddbaaGreatDoorFilA
import Derived.Test.YtnknejokneddbaaGreatDoorArgS
namespace Go.Proofs.YtnknejokneddbaaGreatDoor.stateFiles
open Go.ChangeShapes Go.WideShapes Go.ChangeAt Go.WideMaps Go.WideElems Go.RowKit Go.Deep

set_option maxRecDepth 100000 in
set_option maxHeartbeats 8000000 in
theorem walk (p0 : Option Addr) (n0 c0 : Nat) (q0 : Option Addr) (m0 d0 : Nat) (F0 : Fl) (p1 : Option Addr) (n1 c1 : Nat) (q1 : Option Addr) (m1 d1 : Nat) (F1 : Fl) (w : World) (h0 : FArg w p0 n0 c0 q0 m0 d0 F0) (h1 : FArg w p1 n1 c1 q1 m1 d1 F1) (ht : Tab w) :
  Calls Tryz.prog 4 #[.agg #[.string (fPath F0), .slice p0 n0 c0, .slice q0 m0 d0], .agg #[.string (fPath F1), .slice p1 n1 c1, .slice q1 m1 d1]] w fun e w' => e = .returned (.bool true) ∧ Below w.heap.size w w' := by
 have HA := Lib.hid h0
 have HB := Lib.hid h1
 have HT := Lib.hid ht
 obtain ⟨ra, hra⟩ := bool_of (RightL (fLines F0))
 obtain ⟨rb, hrb⟩ := bool_of (RightL (fLines F1))
 have HRA := Lib.hid hra
 have HRB := Lib.hid hrb
 have hgr := grownBy_trans (World.grownBy_alloc w (.cells #[.string (fPath F0), .slice p0 n0 c0, .slice q0 m0 d0] 35) none) (World.grownBy_alloc _ (.cells #[.string (fPath F1), .slice p1 n1 c1, .slice q1 m1 d1] 35) none)
 have HE0 : Hid (FilE w ((w.alloc (.cells #[.string (fPath F0), .slice p0 n0 c0, .slice q0 m0 d0] 35)).alloc (.cells #[.string (fPath F1), .slice p1 n1 c1, .slice q1 m1 d1] 35)) w.heap.size p0 n0 c0 q0 m0 d0 F0 p1 n1 c1 q1 m1 d1 F1) :=
  Lib.hid ⟨h0.at'.calm hgr, h1.at'.calm hgr, (BoxV.new w _ _).calm (World.grownBy_alloc _ _ _), BoxV.second w _ _ _ _, hgr⟩
 have HTG := Lib.hid (ht.grown hgr (by simp))
 clear h0 h1 ht hra hrb hgr
 go_enter Tryz.func4, Tryz.ntmps4
 go_upto_region 1 with fail
 generalize World.alloc w _ = wa at *
 generalize World.alloc wa _ = w0 at *
 generalize hgs : w.heap.size = g at *
 have HGS := Lib.hid hgs
 clear hgs
 go_wp2_with fail
 refine (known13_c _ HTG.out).mono ?_
 rintro e v1 ⟨rfl, hg1⟩
 have HE1 := Lib.hid (HE0.out.calm hg1)
 clear hg1 HE0 HTG
 obtain ⟨⟨a0, a1, a2⟩, ⟨b0, b1, b2⟩⟩ := HE1.out.cells
 have HBL := Lib.hid (grownBy_below HE1.out.g)
 have htr : decide ((50 : Int) < 0) = false := rfl
 by_cases hn0 : (50 : Int) < n0
 ·have e1 : decide ((50 : Int) < n0) = true := decide_eq_true hn0
  go_wp2
  go_ret
  exact ⟨rfl, HBL.out⟩
 have hn0' : n0 ≤ 50 := by omega
 by_cases hn1 : (50 : Int) < n1
 ·go_wp2
  go_ret
  exact ⟨rfl, HBL.out⟩
 have hn1' : n1 ≤ 50 := by omega
 by_cases hm0 : (200 : Int) < m0
 ·go_wp2
  go_ret
  exact ⟨rfl, HBL.out⟩
 have hm0' : m0 ≤ 200 := by omega
 by_cases hm1 : (200 : Int) < m1
 ·go_wp2
  go_ret
  exact ⟨rfl, HBL.out⟩
 have hm1' : m1 ≤ 200 := by omega
 go_wp2_with fail
 refine (right_c _ (fLines F0) p0 n0 c0 q0 m0 d0 _ _ ra v1 HE1.out.a.lines (by omega) HRA.out).mono ?_
 rintro e v2 ⟨rfl, hg2⟩
 have HE2 := Lib.hid (HE1.out.calm hg2)
 clear hg2 HE1 a0 a1 a2 b0 b1 b2 HBL
 obtain ⟨⟨a0, a1, a2⟩, ⟨b0, b1, b2⟩⟩ := HE2.out.cells
 have HBL := Lib.hid (grownBy_below HE2.out.g)
 cases ra with
 | false =>
  go_wp2
  go_ret
  exact ⟨rfl, HBL.out⟩
 | true =>
 go_wp2_with fail
 refine (right_c _ (fLines F1) p1 n1 c1 q1 m1 d1 _ _ rb v2 HE2.out.b.lines (by omega) HRB.out).mono ?_
 rintro e v3 ⟨rfl, hg3⟩
 have HE3 := Lib.hid (HE2.out.calm hg3)
 clear hg3 HE2 a0 a1 a2 b0 b1 b2 HBL
 obtain ⟨⟨a0, a1, a2⟩, ⟨b0, b1, b2⟩⟩ := HE3.out.cells
 have HBL := Lib.hid (grownBy_below HE3.out.g)
 cases rb with
 | false =>
  go_wp2
  go_ret
  exact ⟨rfl, HBL.out⟩
 | true =>
 clear HBL HRA HRB
 have HKA : Hid (∀ x ∈ fLines F0, OkK (nID x)) := Lib.hid fun x hx => ⟨(HA.out.num x hx).1, (HA.out.num x hx).2.1, (HA.out.num x hx).2.2⟩
 have HKB : Hid (∀ x ∈ fLines F1, OkK (nID x)) := Lib.hid fun x hx => ⟨(HB.out.num x hx).1, (HB.out.num x hx).2.1, (HB.out.num x hx).2.2⟩
 have HLE : Hid ((legL (fLines F0) (fLines F1)).length ≤ 1000000) := Lib.hid (by
  have := HE3.out.a.lines.len
  unfold legL
  split
  ·rw [legK_len13 (Nat.le_refl _)]; omega
  ·exact Nat.zero_le _)
 have HAE : Hid ((aliveL (fLines F0)).length ≤ 1000000) := Lib.hid (by
  have h1 := HE3.out.a.lines.len
  have h2 := aliveK_len (fLines F0) (fLines F0).length
  unfold aliveL
  omega)
 go_wp2_with fail
 refine (legS_c _ (fLines F0) p0 n0 c0 q0 m0 d0 _ (fLines F1) p1 n1 c1 q1 m1 d1 _ _ _ _ v3 HE3.out.a.lines HE3.out.b.lines (by omega) (by omega) HKA.out HKB.out).mono ?_
 intro e v4 hlg
 obtain ⟨px, cx, rfl, hx, hg4⟩ := leg_fin HE3.out.a.lines.len hlg
 have HE4 := Lib.hid (HE3.out.calm hg4)
 have HX := Lib.hid hx
 clear hlg hx hg4 HE3 a0 a1 a2 b0 b1 b2 HKA HKB
 obtain ⟨⟨a0, a1, a2⟩, ⟨b0, b1, b2⟩⟩ := HE4.out.cells
 go_wp2_with fail
 refine (refLeg_c _ (fLines F0) p0 n0 c0 q0 m0 d0 _ (fLines F1) p1 n1 c1 q1 m1 d1 _ _ _ _ v4 HE4.out.a.lines HE4.out.b.lines (by omega) (by omega)).mono ?_
 intro e v5 hlg
 obtain ⟨py, cy, rfl, hy, hg5⟩ := leg_fin HE4.out.a.lines.len hlg
 have HE5 := Lib.hid (HE4.out.calm hg5)
 have hx := HX.out.calm hg5
 clear hlg hg5 HE4 a0 a1 a2 b0 b1 b2 HX
 have hle := HLE.out
 have hae := HAE.out
 obtain ⟨rs, hrs⟩ := bool_of (F0 = F1)
 have HRS := Lib.hid hrs
 have HRS1 : Hid (rs = true ↔ [F0] = [F1]) := Lib.hid (by rw [hrs]; simp)
 clear hrs HA HB HT
 generalize legL (fLines F0) (fLines F1) = lx at *
 generalize legR (fLines F0) (fLines F1) = rx at *
 generalize hlx : lx.length = nx at *
 have hrr : (rx == rx) = true := by simp
 have hss : (rs == rs) = true := by simp
 have HB1 : Hid (∀ x ∈ [F0], (fLines x).length ≤ 1000000 ∧ (fPairs x).length ≤ 1000000) := Lib.hid fun x hx => by
  obtain rfl := List.mem_singleton.1 hx
  have h1 := HE5.out.a.lines.len
  have h2 := HE5.out.a.pairs.len
  omega
 have HB2 : Hid (∀ x ∈ [F1], (fLines x).length ≤ 1000000 ∧ (fPairs x).length ≤ 1000000) := Lib.hid fun x hx => by
  obtain rfl := List.mem_singleton.1 hx
  have h1 := HE5.out.b.lines.len
  have h2 := HE5.out.b.pairs.len
  omega
 generalize hal : (aliveL (fLines F0)).length = na at *
 have HAL := Lib.hid hal
 clear hal
 obtain ⟨⟨a0, a1, a2⟩, ⟨b0, b1, b2⟩⟩ := HE5.out.cells
 have hgd : v5.grownBy (World.drew v5) none := grownBy_drewN v5 1 none
 have henv := HE5.out.calm hgd
 have hzx := hx.calm hgd
 have hzy := hy.calm hgd
 have hlen0 := HE5.out.a.lines.len
 have hlen1 := HE5.out.a.pairs.len
 have HNA : Hid (na = (aliveL (fLines F0)).length) := Lib.hid HAL.out.symm
 clear hgd hx hy HE5
 go_upto_region 7 with fail
 go_region_held3 (fun W => (W.cell? ⟨g, 0, none⟩ = some (.string (fPath F0)) ∧ W.cell? ⟨g, 1, none⟩ = some (.slice p0 n0 c0) ∧ W.cell? ⟨g, 2, none⟩ = some (.slice q0 m0 d0)) ∧ (W.cell? ⟨g + 1, 0, none⟩ = some (.string (fPath F1)) ∧ W.cell? ⟨g + 1, 1, none⟩ = some (.slice p1 n1 c1) ∧ W.cell? ⟨g + 1, 2, none⟩ = some (.slice q1 m1 d1))) (first | exact henv.cells | go_keep)
  (first
   | (go_at_call 24; (first | (with_reducible refine (alike_r px py nx nx cx cy _ _ _ _ lx lx true _ hzx hzy hle (decide_eq_true rfl)).mono ?_; rintro e w9 ⟨rfl, hg⟩; have henv := henv.calm hg) | (with_reducible refine (alike_r pu pv _ _ cu cv _ _ _ _ (aliveL (fLines F0)) (aliveL (fLines F0)) true _ hzu hzv (by first | exact hae | (rw [← HNA.out]; exact hae)) (decide_eq_true rfl)).mono ?_; rintro e w9 ⟨rfl, hg⟩; have henv := henv.calm hg)))
   | (go_at_call 25; refine (aliveS_c (fPath F0) (fLines F0) p0 n0 c0 q0 m0 d0 _ _ _ henv.a.lines (by omega)).mono ?_; intro e w9 hal; obtain ⟨pu, cu, rfl, hzu, hg⟩ := ali_fin hal; clear hal; have henv := henv.calm hg)
   | (go_at_call 26; refine (refAlive_c (fPath F0) (fLines F0) p0 n0 c0 q0 m0 d0 _ _ _ henv.a.lines (by omega)).mono ?_; intro e w9 hal; obtain ⟨pv, cv, rfl, hzv, hg⟩ := ali_fin hal; clear hal; have henv := henv.calm hg; have hzu := hzu.calm hg)
   | (go_at_call 28; refine (objS_c (fPath F0) (fLines F0) (fPairs F0) p0 n0 c0 q0 m0 d0 _ _ _ henv.a.lines henv.a.pairs henv.a.zp (by omega) (by omega)).mono ?_; rintro e w9 ⟨po, co, qo, do', rfl, hs1, hp1, hg⟩; have hoa := ObjAt.mk hs1 hp1; have henv := henv.calm hg)
   | (go_at_call 29; refine (refObj_c (fPath F0) (fLines F0) (fPairs F0) p0 n0 c0 q0 m0 d0 _ _ _ henv.a.lines henv.a.pairs henv.a.zp (by omega) (by omega)).mono ?_; rintro e w9 ⟨pr, cr, qr, dr, rfl, hs2, hp2, hg⟩; have hob := ObjAt.mk hs2 hp2; have henv := henv.calm hg; have hoa := hoa.calm hg)
   | (go_at_call 27; refine (refSame_r _ _ _ _ _ _ _ _ _ _ _ _ _ _ _ _ ((fLines F0).map nTxt) ((fLines F0).map nTxt) (fPairs F0) (fPairs F0) true _ hoa hob (by omega) (by omega) (by simp)).mono ?_; rintro e w9 ⟨rfl, hg⟩; have henv := henv.calm hg)
   | (go_at_call 16; (first | (with_reducible refine (sameS_c _ _ 1 1 1 1 _ _ _ _ [F0] [F1] rs _ (henv.rows _ rfl).2.1 (henv.rows _ rfl).2.2 (by omega) (by omega) HB1.out HB2.out HRS1.out).mono ?_; rintro e w8 ⟨rfl, hg⟩; have henv := (henv.rows _ rfl).1.calm hg) | (with_reducible refine (sameS_c _ _ 1 1 1 1 _ _ _ _ [F0] [F1] rs _ (henv.rows2 _ rfl).2.1 (henv.rows2 _ rfl).2.2 (by omega) (by omega) HB1.out HB2.out HRS1.out).mono ?_; rintro e w8 ⟨rfl, hg⟩; have henv := (henv.rows2 _ rfl).1.calm hg)))
   | (go_at_call 19; refine (refSameFile_c F0 F1 p0 n0 c0 q0 m0 d0 p1 n1 c1 q1 m1 d1 _ _ _ _ rs _ henv.a henv.b (by omega) HRS.out).mono ?_; rintro e w9 ⟨rfl, hg⟩; have henv := henv.calm hg))
 all_goals
  have HG := Lib.hid (grownBy_below henv.g)
  clear henv
  go_wp2
  go_ret
  exact ⟨rfl, HG.out⟩

set_option maxRecDepth 100000 in
theorem lifted (os : Os) (started : os.Started) (H : Type) (enc : TypeId × Value → H) :
  ReturnsInHanded {} Tryz.checked os 4 .any (fun w args => (Rows.stateFilesSpec.pre enc Tryz.prog Tryz.f4 [] false w args ∧ laidMetH Tryz.prog laidL w) ∧ sizedMet enc Tryz.prog Tryz.f4 (OpenSpec.ofChange Rows.stateFilesSpec) false w args)
   (Rows.stateFilesSpec.post enc Tryz.prog Tryz.f4 false true false false) := by
 refine returnsInHanded_of_change_and (C := Tryz.checked) (X := fun w _ => laidMetH Tryz.prog laidL w) (fun _ _ _ hh h => h.of_heap hh) ownNone started (by kernel_rfl) Tryz.func4
  (ChangeSpec.witness_shaped (enc := enc) (C := Tryz.checked) (os := os) (X := fun w _ => laidMetH Tryz.prog laidL w) false (World.doorLaid Tryz.prog 400 os) #[.agg #[.string .empty, .slice none 0 0, .slice none 0 0], .agg #[.string .empty, .slice none 0 0, .slice none 0 0]] 8 rfl (World.shaped_of_RefB (by kernel_rfl) (by kernel_rfl)) (by kernel_rfl) (by kernel_rfl) (by kernel_rfl) (door_met os _)) ?_
 intro W base args ds gs before hval0 hW _ _ hL _
 have hval : ∀ (j : Nat) t v, Tryz.f4.params[j]? = some t → args[j]? = some v → Value.okWide Tryz.prog W .any base t v := hval0
 have hW' := hW
 have hlt := hW.lt
 obtain ⟨p, q, hA0, hV, rfl, hfz, hnd⟩ := hW
 have hA : DataW.TrodAll enc Tryz.prog W 0 (fun _ => true) true Tryz.f4.params.toList args.toList ds p := hA0
 rw [Tryz.params4] at hA hval
 obtain ⟨v0, vs0, d0, ds0, q0, r0, hargs, rfl, rfl, t0, s0⟩ := trodAll_cons hA
 obtain ⟨v1, vs1, d1, ds1, q1, r1, rfl, rfl, rfl, t1, s1⟩ := trodAll_cons s0
 obtain ⟨rfl, rfl, rfl⟩ := trodAll_nil s1
 obtain rfl : args = #[v0, v1] := by cases args; simp_all
 obtain ⟨rfl, rfl⟩ := trodVars_none hV
 obtain ⟨a0, n0, c0, b0, m0, e0, F0, rfl, u0⟩ := fileAt_of (hval 0 35 v0 rfl rfl) t0
 obtain ⟨a1, n1, c1, b1, m1, e1, F1, rfl, u1⟩ := fileAt_of (hval 1 35 v1 rfl rfl) t1
 clear hA0 hval0
 simp only [List.append_nil] at hW' hlt
 refine (walk a0 n0 c0 b0 m0 e0 F0 a1 n1 c1 b1 m1 e1 F1 W u0 u1 (tab_of_laid hL)).mono fun e W' ⟨he, hg⟩ => ?_
 subst he
 have z0 := Below.trod laidOut (by kernel_rfl) (of_decide_eq_true (by kernel_rfl)) t0 hg (fun x hx => hlt x (by simp [hx]))
 have z1 := Below.trod laidOut (by kernel_rfl) (of_decide_eq_true (by kernel_rfl)) t1 hg (fun x hx => hlt x (by simp [hx]))
 exact ⟨_, rfl, law_post hW' rfl (fun _ _ _ => (trodAll_cons_mk (shut_bool Tryz.underlying4 _) trodAll_mk0)) (trodAll_cons_mk z0 (trodAll_cons_mk z1 trodAll_mk0)) rfl hg⟩

theorem over : Rows.StateFilesSaid :=
 OpenClaim.holds_of_wide 4 Tryz.f4 rfl rfl rfl rfl rfl rfl rfl ⟨rfl, rfl, rfl, rfl, rfl⟩ rfl rfl rfl rfl rfl (by kernel_rfl) Tryz.func4 (by kernel_rfl)
  (of_decide_eq_true (by kernel_rfl)) (by unfold Func.isWrapper; first | (rw [if_pos (by decide +kernel)]; kernel_rfl) | (rw [if_neg (by decide +kernel)]; exact ⟨rfl, rfl⟩))
  (fun os started H enc _ => lifted os started H enc)

theorem proved : Rows.StateFilesCardSaid :=
 Claim7.holds_tied_plain_at .later [] [.data] true Rows.stateFilesCard.stood.harness false
  over (fun _ h => by cases h) (by kernel_rfl) (fun _ h => by cases h) stateFiles_row_tie rfl ⟨rfl, rfl⟩ (by kernel_rfl) rfl
  (fun f fn hf hfn => by
   obtain rfl : f = 4 := Option.some.inj ((show Tryz.prog.funcNamed "cento/centolaw13.StateFiles" = some 4 by kernel_rfl).symm.trans hf) |>.symm
   obtain rfl : fn = Tryz.f4 := (Option.some.inj (Tryz.func4.symm.trans hfn)).symm
   exact ⟨by kernel_rfl, fun j t ht => by
    rw [Tryz.params4] at ht
    have hm : t ∈ [35, 35] := by simpa using Array.mem_of_getElem? ht
    have hall : ([35, 35].all fun u => !Tryz.prog.wantsStandIn u) = true := by kernel_rfl
    exact (show Tryz.prog.wantsStandIn t = false by simpa using List.all_eq_true.1 hall t hm)⟩)
  (by kernel_rfl)
#print axioms proved
end Go.Proofs.YtnknejokneddbaaGreatDoor.stateFiles
