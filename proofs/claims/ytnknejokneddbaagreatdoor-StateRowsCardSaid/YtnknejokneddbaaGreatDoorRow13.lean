/- StateRows: at every input the call answers true, and each argument reads behind the call as it read before; tied: the table that math/bits reads is what the program's text lays. -/
import Derived.Test.YtnknejokneddbaaGreatDoorArgs
import Derived.Test.YtnknejokneddbaaGreatDoorRowM
namespace Go.Proofs.YtnknejokneddbaaGreatDoor.stateRows
open Go.ChangeShapes Go.WideShapes Go.ChangeAt Go.WideMaps Go.WideElems Go.RowKit Go.Deep

set_option maxRecDepth 100000 in
set_option maxHeartbeats 8000000 in
theorem walk (a0 : Int) (a1 : Int) (w : World) (w0 : (Lit.int .u8 a0).wf = true) (w1 : (Lit.int .u8 a1).wf = true) (ht : Tab w) :
  Calls Tryz.prog 8 #[.int .u8 a0, .int .u8 a1] w fun e w' => e = .returned (.bool true) ∧ Below w.heap.size w w' := by
 obtain ⟨n, rfl, hn8⟩ := byte_of w0
 obtain ⟨kl, rfl, hk8⟩ := byte_of w1
 have HT := Lib.hid ht
 clear ht w0 w1
 go_enter Tryz.func8, Tryz.ntmps8
 go_wp2_with fail
 refine (known13_c _ HT.out).mono ?_
 rintro e v1 ⟨rfl, hg1⟩
 have HG1 := Lib.hid hg1
 clear hg1
 obtain ⟨q, hq⟩ : ∃ q, n % 12 = q := ⟨_, rfl⟩
 have hq12 : q < 12 := by omega
 have hmod : ((n : Int)) % 12 = (q : Int) := by omega
 obtain ⟨kk, hkk⟩ : ∃ kk, q + 2 = kk := ⟨_, rfl⟩
 have hw2 : IntKind.i64.wrap ((q : Int) + 2) = (kk : Int) := by rw [IntWalk.i64_in _ (by omega)]; omega
 have HK2 : Hid (2 ≤ kk ∧ kk ≤ 13) := Lib.hid (by omega)
 clear hq hkk
 go_upto_region 5 with fail
 obtain ⟨i0, hi0, hz0, hz1, hz2⟩ := info_parts infoPt13
 clear hmod hw2
 change Code.wp _ _ _ _ (layB v1 (os0 v1.heap.size))
 obtain ⟨hf0, hb0, hgr0⟩ := os0_of v1 _ rfl
 have HR0 := Lib.hid (RwE.start rfl hb0 hf0 hgr0)
 clear hf0 hb0 hgr0
 generalize layB v1 (os0 v1.heap.size) = wB at *
 generalize hv0 : y0H v1.heap.size = y00 at *
 have HY0 : Hid (y00.1 = rw0) := Lib.hid (by rw [← hv0]; rfl)
 clear hv0
 generalize (some (⟨v1.heap.size + 1 + 1 + 1, 0, none⟩ : Addr)) = pv at *
 go_wp2
 go_loopw [6, 7, 8] (fun v i x8 wr => ∃ (i1 : Nat) (ys : List HP), 1 ≤ i1 ∧ i1 ≤ kk ∧ i = .int .i64 ((i1 : Nat) : Int) ∧ Hid (ys.map Prod.fst = rwL (i1 - 1)) ∧ Hid (RwE v1 wr v ys i1)) (fun _ i _ _ => kk - (intOf i).toNat)
 case atStart => exact ⟨1, [y00], by omega, by have := HK2.out; omega, rfl, Lib.hid (by rw [List.map_cons, HY0.out]; rfl), HR0⟩
 case round =>
 obtain ⟨i1, ys, hi1, hik, rfl, HFS, HR⟩ := hrel
 have hkk13 := HK2.out.2
 by_cases hin : i1 < kk
 ·have k1 : (i1 : Int) < kk := by omega
  obtain ⟨i2, hi2⟩ : ∃ i2, i1 + 1 = i2 := ⟨_, rfl⟩
  have e1 : IntKind.i64.wrap ((i1 : Int) + 1) = (i2 : Int) := by rw [IntWalk.i64_in _ (by omega)]; omega
  have e2 : IntKind.u32.wrap (i2 : Int) = (i2 : Int) := IntWalk.u32_in _ (by omega)
  have e3 : IntKind.u32.wrap ((i2 : Int) - 1) = (i1 : Int) := by rw [IntWalk.u32_in _ (by omega)]; omega
  have HI2 := Lib.hid hi2
  clear hi2
  obtain ⟨hfi, hbi, hgi, hei⟩ := osI_of wr wr.heap.size (i1 - 1) (i1 : Int) (i2 : Int) (by omega) (by have := HI2.out; omega) rfl
  have HFI := Lib.hid hfi
  have HGI := Lib.hid hgi
  have HEI := Lib.hid hei
  have hr5 := row_calm HR.out.row hgi
  have HR5 := Lib.hid hr5
  have hsrc := box_srcR hbi
  have hsz : v1.heap.size ≤ wr.heap.size := HR.out.g.size
  clear hfi hgi hei hbi
  set_option maxRecDepth 100000 in
  go_wp2_with (at_builtin; refine wpList_append_own _ rfl _ _ 22 rfl v1.heap.size 56 i0 (.agg #[.int .u32 0, .slice none 0 0, .slice none 0 0, .slice none 0 0, .slice none 0 0]) 5 104 Tryz.underlying22 hi0 hz0 hz1 hz2 rfl (by decide) _ i1 _ rfl hr5 ⟨wr.heap.size + 1 + 1 + 1 + 1, 0, none⟩ 1 1 [.int .u32 (i2 : Int), .slice (some ⟨wr.heap.size, 0, none⟩) 1 1, .slice none 0 0, .slice none 0 0, .slice (some ⟨wr.heap.size + 1 + 1 + 1, 0, none⟩) 1 1] rfl rfl hsrc (by simp [Value.oneCell']) (by unfold maxLen; omega) (by omega) (by simp; omega) ?_; intro v' w3 hown' hgrow _; have HX := Lib.hid (HR.out.app HGI.out HR5.out HFI.out hgrow (by rw [HEI.out]; exact hown')); clear hown' hgrow hr5 hsrc)
  exact ⟨⟨i2, ys ++ [yIH wr.heap.size (i1 - 1)], by have := HI2.out; omega, by have := HI2.out; omega, by go_num, Lib.hid (by
   rw [List.map_append, HFS.out, ← HI2.out, show i1 + 1 - 1 = i1 - 1 + 1 by omega, rwL_succ]
   rfl), by rw [← HI2.out]; exact HX⟩, by have := HI2.out; simp [intOf]; omega⟩
 obtain rfl : kk = i1 := by omega
 have k1 : ¬ ((kk : Int) < kk) := by omega
 obtain ⟨dd, hdd⟩ : ∃ dd, kl % kk = dd := ⟨_, rfl⟩
 have hk2 := HK2.out.1
 have hdk : dd < kk := by rw [← hdd]; exact Nat.mod_lt _ (by omega)
 have hmk : ((kl : Int)) % (kk : Int) = (dd : Int) := by rw [← hdd]; rfl
 have hkz : ((kk : Int) = 0) = False := by simp; omega
 have e5 : IntKind.u32.wrap (dd : Int) = (dd : Int) := IntWalk.u32_in _ (by omega)
 obtain ⟨d1, hd1⟩ : ∃ d1, dd + 1 = d1 := ⟨_, rfl⟩
 have e6 : IntKind.u32.wrap ((dd : Int) + 1) = (d1 : Int) := by rw [IntWalk.u32_in _ (by omega)]; omega
 have HD1 := Lib.hid hd1
 clear hd1 hdd
 obtain ⟨hfi, hbi, hgi⟩ := osK_of wr wr.heap.size d1 rfl
 have HFI := Lib.hid hfi
 have HGI := Lib.hid hgi
 have HEI : Hid (encP (yKH wr.heap.size d1) = [.int .u32 99, .slice (some ⟨wr.heap.size, 0, none⟩) 1 1, .slice none 0 0, .slice none 0 0, .slice (some ⟨wr.heap.size + 1 + 1, 0, none⟩) 1 1]) := Lib.hid rfl
 have hr5 := row_calm HR.out.row hgi
 have HR5 := Lib.hid hr5
 have hsrc := box_srcR hbi
 rw [HEI.out] at hsrc
 have hsz : v1.heap.size ≤ wr.heap.size := HR.out.g.size
 clear hfi hgi hbi
 set_option maxRecDepth 100000 in
 go_wp2_with (at_builtin; refine wpList_append_own _ rfl _ _ 22 rfl v1.heap.size 56 i0 (.agg #[.int .u32 0, .slice none 0 0, .slice none 0 0, .slice none 0 0, .slice none 0 0]) 5 104 Tryz.underlying22 hi0 hz0 hz1 hz2 rfl (by decide) _ kk _ rfl hr5 ⟨wr.heap.size + 1 + 1 + 1, 0, none⟩ 1 1 [.int .u32 99, .slice (some ⟨wr.heap.size, 0, none⟩) 1 1, .slice none 0 0, .slice none 0 0, .slice (some ⟨wr.heap.size + 1 + 1, 0, none⟩) 1 1] rfl rfl hsrc (by simp [Value.oneCell']) (by unfold maxLen; omega) (by omega) (by simp; omega) ?_; intro v' w3 hown' hgrow _; have HX := Lib.hid (HR.out.app HGI.out HR5.out HFI.out hgrow (by rw [HEI.out]; exact hown')); clear hown' hgrow hr5 hsrc; obtain ⟨pm, cm, hv', hpm, hcm⟩ := HX.out.pts; subst hv')
 have HLA : Hid ((ys ++ [yKH wr.heap.size d1]).map Prod.fst = rwA (kk - 1) d1) := Lib.hid (by rw [List.map_append, HFS.out]; rfl)
 rw [HLA.out] at hpm
 have HGX : Hid (w.grownBy w3 none) := Lib.hid (grownBy_trans HG1.out HX.out.g)
 have HTX := Lib.hid (HT.out.grown HGX.out (by simp))
 clear HX HR HR5 HFI HGI HEI HFS HLA e5 hmk hkz hsz
 obtain ⟨km, hkm⟩ : ∃ km, kk - 1 = km := ⟨_, rfl⟩
 have HKM : Hid (kk = km + 1) := Lib.hid (by omega)
 rw [hkm] at hpm
 clear hkm
 have hM : km < 13 := by have := HKM.out; omega
 have hj1 : 1 ≤ d1 := by have := HD1.out; omega
 have hj2 : d1 ≤ km + 1 := by have := HD1.out; have := HKM.out; omega
 have HPM := Lib.hid hpm
 obtain ⟨bp, op, epm, _, _, _, _⟩ := hpm.cell (by omega)
 subst epm
 have hof := of_pts 0 w3.heap.size (some ⟨bp, op, none⟩) (kk + 1) cm (rwA km d1) w3 HTX.out HPM.out rw_few (by omega) (Nat.le_refl _) (rw_num hM (by omega))
 rw [rw_files hM hj1 hj2, rw_err hM hj1 hj2] at hof
 have HOF := Lib.hid hof
 have HCA := Lib.hid (rw_closed hj1 hj2)
 have HCB := Lib.hid (rw_not (m := km) (d := d1) (by have := HKM.out; omega))
 have HMK := Lib.hid (rw_marks hM hj1 hj2)
 have HPR := Lib.hid (rw_pairs (m := km) (d := d1) hM (by omega))
 have HDP := Lib.hid (pts_drop1 HPM.out)
 have HFW : Hid (∀ x ∈ rwA km d1, PFew x) := Lib.hid rw_few
 have HFD : Hid (∀ x ∈ (rwA km d1).drop 1, PFew x) := Lib.hid fun x hx => rw_few x (List.mem_of_mem_drop hx)
 clear hpm hof
 generalize fileL (rwA km d1) rF = F at *
 generalize (rwA km d1).drop 1 = lD at *
 generalize rwA km d1 = lA at *
 go_wp2_with fail
 refine HOF.out.mono ?_
 rintro e w4 ⟨pa, ca, rfl, hfa, _, _, hg4⟩
 obtain ⟨bf, of, epa, _, _, _, hcf⟩ := hfa.cell (by simp)
 obtain ⟨pl, nl, cl, pp, np, cp, x0, x1, x2, hx⟩ := hcf 0 (by simp)
 have HX4 : Hid (FlAt w4 w3.heap.size w4.heap.size pl nl cl pp np cp F) := Lib.hid hx
 obtain rfl : nl = kk := by rw [← hx.lines.len, HKM.out]; exact HMK.out.1
 have HNP : Hid (np = (km + 1) * km / 2) := Lib.hid (by rw [← hx.pairs.len]; exact HPR.out)
 have hhalf := rw_half HKM.out hM HNP.out
 have hbh : ((np : Int) == wrap64 ((wrap64 ((nl : Int) * ((nl : Int) - 1))).tdiv 2)) = true := beq_iff_eq.2 (of_eq_true hhalf)
 subst epa
 rw [Nat.zero_mul, Nat.add_zero] at x0 x1 x2
 replace x0 : w4.cell? ⟨bf, of, none⟩ = some (.string (fPath F)) := x0
 have HX1 := Lib.hid x1
 have HG4 := Lib.hid (grownBy_trans HGX.out hg4)
 have HG34 := Lib.hid hg4
 clear hfa hcf hx hg4 HOF
 go_wp2_with fail
 refine (aliveS_c (fPath F) (fLines F) pl nl cl pp np cp _ _ w4 HX4.out.lines (by omega)).mono ?_
 rintro e w5 ⟨v5, rfl, hrow5, hg5⟩
 obtain ⟨p5, c5, rfl⟩ := ownsRow_sl hrow5
 rw [HMK.out.2.1]
 have hx1 := cell_calmQ hg5 HX1.out
 obtain ⟨bl, ol, epl, _, _, _, hcl⟩ := (HX4.out.lines.calm hg5).cell (by omega)
 obtain ⟨_, _, _, l3⟩ := hcl dd hdk
 have hdt : nDead ((fLines F)[dd]?.getD lne0) = true := by have h := HMK.out.2.2; rwa [show d1 - 1 = dd by have := HD1.out; omega] at h
 rw [hdt] at l3
 rw [epl] at hx1
 have e7 : IntKind.u32.wrap ((d1 : Int) - 1) = (dd : Int) := by rw [IntWalk.u32_in _ (by have := HD1.out; omega)]; have := HD1.out; omega
 have hka : ((km : Int) = (nl : Int) - 1) = True := eq_true (by have := HKM.out; omega)
 have hkb : ((km : Int) == (nl : Int) - 1) = true := beq_iff_eq.2 (of_eq_true hka)
 have hd0 : (0 : Int) ≤ (dd : Int) := by omega
 have hdn : (dd : Int) < nl := by omega
 have HG5 := Lib.hid (grownBy_trans HG4.out hg5)
 have HG35 := Lib.hid (grownBy_trans HG34.out hg5)
 clear hcl hrow5 hg5 x0 x1 x2 hdt
 go_wp2_with fail
 refine (closed_pts 0 w3.heap.size (some ⟨bp, op, none⟩) (nl + 1) cm lA true w5 (HPM.out.calm HG35.out) HFW.out (by omega) HG35.out.size (iff_of_true rfl HCA.out)).mono ?_
 rintro e w6 ⟨rfl, hg6⟩
 have HG6 := Lib.hid (grownBy_trans HG5.out hg6)
 have HG36 := Lib.hid (grownBy_trans HG35.out hg6)
 clear hg6
 go_wp2_with fail
 refine (closed_pts 0 w3.heap.size (some ⟨bp, op + 5, none⟩) nl _ lD false w6 (HDP.out.calm HG36.out) HFD.out (by omega) HG36.out.size (iff_of_false (by decide) HCB.out)).mono ?_
 rintro e w7 ⟨rfl, hg7⟩
 have HG7 := Lib.hid (grownBy_trans HG6.out hg7)
 clear hg7
 go_wp2
 go_ret
 exact ⟨rfl, grownBy_below HG7.out⟩

set_option maxRecDepth 100000 in
theorem lifted (os : Os) (started : os.Started) (H : Type) (enc : TypeId × Value → H) :
  ReturnsInHanded {} Tryz.checked os 8 .any (fun w args => (Rows.stateRowsSpec.pre enc Tryz.prog Tryz.f8 [] false w args ∧ laidMetH Tryz.prog laidL w) ∧ sizedMet enc Tryz.prog Tryz.f8 (OpenSpec.ofChange Rows.stateRowsSpec) false w args)
   (Rows.stateRowsSpec.post enc Tryz.prog Tryz.f8 false true false false) := by
 refine returnsInHanded_of_change_and (C := Tryz.checked) (X := fun w _ => laidMetH Tryz.prog laidL w) (fun _ _ _ hh h => h.of_heap hh) ownNone started (by kernel_rfl) Tryz.func8
  (ChangeSpec.witness_shaped (enc := enc) (C := Tryz.checked) (os := os) (X := fun w _ => laidMetH Tryz.prog laidL w) false (World.doorLaid Tryz.prog 400 os) #[.int .u8 0, .int .u8 0] 8 rfl (World.shaped_of_RefB (by kernel_rfl) (by kernel_rfl)) (by kernel_rfl) (by kernel_rfl) (by kernel_rfl) (door_met os _)) ?_
 intro W base args ds gs before hval0 hW _ _ hL _
 have hval : ∀ (j : Nat) t v, Tryz.f8.params[j]? = some t → args[j]? = some v → Value.okWide Tryz.prog W .any base t v := hval0
 have hW' := hW
 have hlt := hW.lt
 obtain ⟨p, q, hA0, hV, rfl, hfz, hnd⟩ := hW
 have hA : DataW.TrodAll enc Tryz.prog W 0 (fun _ => true) true Tryz.f8.params.toList args.toList ds p := hA0
 rw [Tryz.params8] at hA hval
 obtain ⟨v0, vs0, d0, ds0, q0, r0, hargs, rfl, rfl, t0, s0⟩ := trodAll_cons hA
 obtain ⟨v1, vs1, d1, ds1, q1, r1, rfl, rfl, rfl, t1, s1⟩ := trodAll_cons s0
 obtain ⟨rfl, rfl, rfl⟩ := trodAll_nil s1
 obtain rfl : args = #[v0, v1] := by cases args; simp_all
 obtain ⟨rfl, rfl⟩ := trodVars_none hV
 obtain ⟨a0, rfl, rfl, rfl, u0⟩ := open_int Tryz.underlying5 (hval 0 5 v0 rfl rfl) t0
 obtain ⟨a1, rfl, rfl, rfl, u1⟩ := open_int Tryz.underlying5 (hval 1 5 v1 rfl rfl) t1
 clear hA0 hval0
 simp only [List.append_nil] at hW' hlt
 refine (walk a0 a1 W u0 u1 (tab_of_laid hL)).mono fun e W' ⟨he, hg⟩ => ?_
 subst he
 exact ⟨_, rfl, law_post hW' rfl (fun _ _ _ => (trodAll_cons_mk (shut_bool Tryz.underlying4 _) trodAll_mk0)) (trodAll_cons_mk (shut_int Tryz.underlying5 u0) (trodAll_cons_mk (shut_int Tryz.underlying5 u1) trodAll_mk0)) rfl hg⟩

theorem over : Rows.StateRowsSaid :=
 OpenClaim.holds_of_wide 8 Tryz.f8 rfl rfl rfl rfl rfl rfl rfl ⟨rfl, rfl, rfl, rfl, rfl⟩ rfl rfl rfl rfl rfl (by kernel_rfl) Tryz.func8 (by kernel_rfl)
  (of_decide_eq_true (by kernel_rfl)) (by unfold Func.isWrapper; first | (rw [if_pos (by decide +kernel)]; kernel_rfl) | (rw [if_neg (by decide +kernel)]; exact ⟨rfl, rfl⟩))
  (fun os started H enc _ => lifted os started H enc)

theorem proved : Rows.StateRowsCardSaid :=
 Claim7.holds_tied_plain_at .later [] [.data] true Rows.stateRowsCard.stood.harness false
  over (fun _ h => by cases h) (by kernel_rfl) (fun _ h => by cases h) stateRows_row_tie rfl ⟨rfl, rfl⟩ (by kernel_rfl) rfl
  (fun f fn hf hfn => by
   obtain rfl : f = 8 := Option.some.inj ((show Tryz.prog.funcNamed "cento/centolaw13.StateRows" = some 8 by kernel_rfl).symm.trans hf) |>.symm
   obtain rfl : fn = Tryz.f8 := (Option.some.inj (Tryz.func8.symm.trans hfn)).symm
   exact ⟨by kernel_rfl, fun j t ht => by
    rw [Tryz.params8] at ht
    have hm : t ∈ [5, 5] := by simpa using Array.mem_of_getElem? ht
    have hall : ([5, 5].all fun u => !Tryz.prog.wantsStandIn u) = true := by kernel_rfl
    exact (show Tryz.prog.wantsStandIn t = false by simpa using List.all_eq_true.1 hall t hm)⟩)
  (by kernel_rfl)
#print axioms proved
end Go.Proofs.YtnknejokneddbaaGreatDoor.stateRows
