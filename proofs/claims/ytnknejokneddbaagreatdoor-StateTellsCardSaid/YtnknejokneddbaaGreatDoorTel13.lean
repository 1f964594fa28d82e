/- StateTells: at every input the call answers true, and each argument reads behind the call as it read before; tied: the table that math/bits reads is what the program's text lays. -/
import Derived.Test.YtnknejokneddbaaGreatDoorArgs
import Derived.Test.YtnknejokneddbaaGreatDoorRefW
import Derived.ChangeMaps5
import Derived.Test.YtnknejokneddbaaGreatDoorArgS
namespace Go.Proofs.YtnknejokneddbaaGreatDoor.stateTells
set_option maxRecDepth 100000
set_option maxHeartbeats 8000000
open Go.ChangeShapes Go.WideShapes Go.ChangeAt Go.WideMaps Go.WideElems Go.RowKit Go.Deep
theorem walk (p0 : Option Addr) (L0 c0 : Nat) (l0 : List Pt) (s1 : ByteArray) (w : World) (h0 : PsArg w p0 L0 c0 l0) (ht : Tab w) :
  Calls Tryz.prog 3 #[.slice p0 L0 c0, .string s1] w fun e w' => e = .returned (.bool true) /\ Below w.heap.size w w' := by
 have HA := Za h0
 have HT := Za ht
 obtain ⟨q, hq⟩ := Ym ((∀ x ∈ l0, PFew x) /\ L0 <= 16)
 have HQ := Za hq
 clear ht h0 hq
 go_enter Tryz.func3, Tryz.ntmps3
 go_wp2_with fail
 refine (known13_c _ HT.out).mono ?_
 rintro e v1 ⟨rfl, hg1⟩
 have HG1 := Za hg1
 clear hg1
 go_wp2_with fail
 refine (fewAll_c p0 L0 c0 _ _ l0 q v1 (HA.out.at'.calm HG1.out) HA.out.mn (fun x hx => ⟨(HA.out.each x hx).2.2.2.2.1, (HA.out.each x hx).2.2.2.2.2.1, (HA.out.each x hx).2.2.2.2.2.2⟩) HQ.out).mono ?_
 rintro e v2 ⟨rfl, hg2⟩
 have HG2 := Za (Zb HG1.out hg2)
 clear hg2 HG1
 cases q with
 | false =>
  go_wp2
  go_ret
  exact ⟨rfl, Xo HG2.out⟩
 | true =>
 have HF := Za (HQ.out.1 rfl)
 have hL := HF.out.2
 clear HQ
 by_cases hs40 : (40 : Int) < s1.size
 ·go_wp2
  go_ret
  exact ⟨rfl, Xo HG2.out⟩
 have HT2 := Za (HT.out.grown HG2.out (by simp))
 have HPA := Za (HA.out.at'.calm HG2.out)
 have HW2 : Hid (w.heap.size <= v2.heap.size) := Za HG2.out.size
 have HN0 : Hid (∀ x ∈ l0, NumP x) := Za fun x hx => ⟨(HA.out.each x hx).1, fun h hh => (HA.out.each x hx).2.2.1 h hh⟩
 have HOF := Za (of_pts 0 w.heap.size p0 L0 c0 l0 v2 HT2.out HPA.out HF.out.1 hL HW2.out HN0.out)
 have HOR : Hid (∀ X, v2.grownBy X none -> Calls Tryz.prog 12 #[.slice p0 L0 c0] X fun e w' => ∃ p' c', e = .returned (.tuple #[.slice p' (filesL l0).length c', .int .i64 ((errL l0 : Nat) : Int)]) /\ FlsAt w' 0 w'.heap.size p' (filesL l0).length (filesL l0) /\ X.grownBy w' none) := Za fun X hX => refOf13_c p0 L0 c0 0 w.heap.size l0 X (HPA.out.calm hX) hL HF.out.1
 obtain ⟨rc, hrc⟩ := Ym (ClosedL l0)
 have HRC := Za hrc
 clear hrc
 have HCS : Hid (∀ X, v2.grownBy X none -> Calls Tryz.prog 14 #[.slice p0 L0 c0] X fun e w' => e = .returned (.bool rc) /\ X.grownBy w' none) := Za fun X hX => closed_pts 0 w.heap.size p0 L0 c0 l0 rc X (HPA.out.calm hX) HF.out.1 hL (Zn HW2.out hX.size) HRC.out
 have HCR : Hid (∀ X, v2.grownBy X none -> Calls Tryz.prog 15 #[.slice p0 L0 c0] X fun e w' => e = .returned (.bool rc) /\ X.grownBy w' none) := Za fun X hX => refClosed_c p0 L0 c0 0 w.heap.size l0 rc X (HPA.out.calm hX) (by omega) (fun x hx => by have := (HF.out.1 x hx).deps; omega) HRC.out
 have HFW : Hid ((filesL l0).length <= 6 /\ cntL (filesL l0) <= 40 /\ ∀ f ∈ filesL l0, (fLines f).length <= 100000 /\ (fPairs f).length <= 100000) := Za (by
  refine ⟨filesL_few.1, ?_⟩
  by_cases e : errL l0 = 0
  ·have h40 := (errL_zero e).2.2.2.2
   rw [filesL_ok e, cntS_map]
   refine ⟨h40, fun f hf => ?_⟩
   have hc := mem_cnt hf
   rw [cntS_map] at hc
   obtain ⟨s, _, rfl⟩ := Yi.1 hf
   have hl : (fLines (fileL l0 s)).length = (linesOfL l0 s).length := fileOf_len _ _ _
   have hp : (fPairs (fileL l0 s)).length <= (linesOfL l0 s).length * (linesOfL l0 s).length := pairsL_few _ _ _
   have hm : (linesOfL l0 s).length * (linesOfL l0 s).length <= 40 * 40 := Nat.mul_le_mul (by omega) (by omega)
   omega
  ·rw [filesL_err e]
   exact ⟨Ze _, fun f hf => by cases hf⟩)
 generalize filesL l0 = fl at *
 generalize errL l0 = er at *
 clear HPA HT HT2 HA HRC HN0 HF
 obtain ⟨fn, hfn⟩ : ∃ fn, fl.length = fn := ⟨_, rfl⟩
 have HFN := Za hfn
 rw [hfn] at HOF HOR HFW
 clear hfn
 have hf6 := HFW.out.1
 have HFB : Hid (∀ f ∈ fl, (fLines f).length <= 1000000 /\ (fPairs f).length <= 1000000) := Za fun f hf => by
  have := HFW.out.2.2 f hf
  omega
 go_wp2_with fail
 refine HOF.out.mono ?_
 rintro e v3 ⟨pa, ca, rfl, hfa, _, _, hg3⟩
 have HG3 := Za hg3
 have HFA3 := Za hfa
 clear hfa hg3 HOF
 go_wp2_with fail
 refine (HOR.out v3 HG3.out).mono ?_
 rintro e v4 ⟨pb, cb, rfl, hfb, hg4⟩
 have HFA4 := Za (HFA3.out.calm hg4)
 have HFB4 := Za hfb
 have HG4 := Za (Zb HG3.out hg4)
 clear hfb hg4 HFA3 HOR HG3
 have hee : ((er : Int) != (er : Int)) = false := by simp
 have hcc : (rc != rc) = false := by simp
 go_wp2_with fail
 refine (refSameFiles_c pa fn ca pb fn cb fl fl _ _ _ _ true v4 HFA4.out HFB4.out (by omega) (by omega) HFB.out HFB.out ⟨fun _ => rfl, fun _ => rfl⟩).mono ?_
 rintro e v5 ⟨rfl, hg5⟩
 have HFA5 := Za (HFA4.out.calm hg5)
 have HFB5 := Za (HFB4.out.calm hg5)
 have HG5 := Za (Zb HG4.out hg5)
 clear hg5 HFA4 HFB4 HG4
 go_wp2_with fail
 refine (HCS.out v5 HG5.out).mono ?_
 rintro e v6 ⟨rfl, hg6⟩
 have HFA6 := Za (HFA5.out.calm hg6)
 have HFB6 := Za (HFB5.out.calm hg6)
 have HG6 := Za (Zb HG5.out hg6)
 clear hg6 HFA5 HFB5 HG5 HCS
 go_wp2_with fail
 refine (HCR.out v6 HG6.out).mono ?_
 rintro e v7 ⟨rfl, hg7⟩
 have HFA7 := Za (HFA6.out.calm hg7)
 have HFB7 := Za (HFB6.out.calm hg7)
 have HG7 := Za (Zb HG6.out hg7)
 clear hg7 HFA6 HFB6 HG6 HCR
 go_wp2_with fail
 refine (sameS_c pa pb fn fn ca cb _ _ _ _ fl fl true v7 HFA7.out HFB7.out (by omega) (by omega) HFB.out HFB.out ⟨fun _ => rfl, fun _ => rfl⟩).mono ?_
 rintro e v8 ⟨rfl, hg8⟩
 have HFA8 := Za (HFA7.out.calm hg8)
 have HFB8 := Za (HFB7.out.calm hg8)
 have HG8 := Za (Zb HG7.out hg8)
 clear hg8 HFA7 HFB7 HG7
 have HYB : Hid ((fLines ((findL fl s1).getD fl0)).length <= 1000000 /\ (fPairs ((findL fl s1).getD fl0)).length <= 1000000) := Za (by
  cases hq : findL fl s1 with
  | none => exact ⟨Ze _, Ze _⟩
  | some y => exact HFB.out y (List.mem_of_find?_eq_some hq))
 have HS1 := Za (findS_c pa fn ca fl s1 _ _ v8 HFA8.out (by omega) HFW.out.2.2)
 have HS2 : Hid (∀ X, v8.grownBy X none -> Calls Tryz.prog 18 #[.slice pb fn cb, .string s1] X fun e w' => X.grownBy w' none /\ ∃ pl nl cl pp np cp, e = .returned (.tuple #[.agg #[.string (fPath ((findL fl s1).getD fl0)), .slice pl nl cl, .slice pp np cp], .bool (findL fl s1).isSome]) /\ FlAt w' 0 v4.heap.size pl nl cl pp np cp ((findL fl s1).getD fl0)) := Za fun X hX => refFind_c pb fn cb fl s1 _ _ X (HFB8.out.calm hX) (by omega)
 generalize (findL fl s1).getD fl0 = y at *
 generalize (findL fl s1).isSome = ok at *
 go_wp2_with fail
 refine HS1.out.mono ?_
 rintro e v9 ⟨hg9, xl, nx, cx, xp, mx, dx, rfl, hxf⟩
 have hga := Zd v9 (.cells #[.string (fPath y), .slice xl nx cx, .slice xp mx dx] 35) none
 have HGA := Za (Zb hg9 hga)
 have HXF := Za (hxf.calm hga)
 have HBX := Za (BoxV.new v9 [.string (fPath y), .slice xl nx cx, .slice xp mx dx] 35)
 clear hg9 hga hxf HS1
 go_upto_region 10 with fail
 generalize v9.alloc _ = wa at *
 generalize v9.heap.size = gx at *
 go_wp2_with fail
 refine (HS2.out wa HGA.out).mono ?_
 rintro e v10 ⟨hg10, yl, ny, cy, yp, my, dy, rfl, hyf⟩
 have hgb := Zd v10 (.cells #[.string (fPath y), .slice yl ny cy, .slice yp my dy] 35) none
 have hg1b := Zb hg10 hgb
 have HGB := Za (Zb HGA.out hg1b)
 have HXF2 := Za (HXF.out.calm hg1b)
 have HBX2 := Za (HBX.out.calm hg1b)
 have HYF := Za (hyf.calm hgb)
 have HBY := Za (BoxV.new v10 [.string (fPath y), .slice yl ny cy, .slice yp my dy] 35)
 clear hg10 hgb hg1b hyf HS2 HXF HBX HGA
 go_upto_region 11 with fail
 generalize v10.alloc _ = wb at *
 generalize v10.heap.size = gy at *
 have HFAB := Za (HFA8.out.calm HGB.out)
 have HFBB := Za (HFB8.out.calm HGB.out)
 have HGW := Za (Zb HG2.out (Zb HG8.out HGB.out))
 clear HFA8 HFB8 HGB HG8
 go_wp2
 go_loopw [13, 14] (fun u v wr => ∃ i : Nat, i <= fn /\ u = .int .i64 ((cntF fl i : Nat) : Int) /\ v = .int .i64 i /\ Hid (wb.grownBy wr none)) (fun _ v _ => fn - (intOf v).toNat)
 case atStart => exact ⟨0, Ze _, rfl, rfl, Za (Zi _ _)⟩
 case round =>
 obtain ⟨i, hi, rfl, rfl, HG⟩ := hrel
 have hcl := HFW.out.2.1
 have hci := cntF_le (l := fl) i
 by_cases hin : i < fn
 ·have j0 : (0 : Int) <= i := by omega
  have j1 : (i : Int) < fn := by omega
  obtain ⟨bb, ob, rfl, _, _, _, hcb⟩ := (HFBB.out.calm HG.out).cell (by omega)
  obtain ⟨ul, nu, cu, up, mu, du, c0, c1, c2, hu⟩ := hcb i hin
  have HSU := Za (cntF_succ (l := fl) (k := i) (by rw [HFN.out]; exact hin))
  have hul := hu.lines.len
  have hci2 := cntF_le (l := fl) (i + 1)
  rw [HSU.out] at hci2
  rw [hul] at hci2
  have HSV : Hid (cntF fl (i + 1) = cntF fl i + nu) := Za (by rw [HSU.out, hul])
  clear hcb hu hul HSU c0 c2
  generalize hcf : cntF fl i = cf at *
  clear hcf
  have hw : IntKind.i64.wrap ((cf : Int) + (nu : Int)) = ((cf + nu : Nat) : Int) := by rw [Zf _ (by omega)]; omega
  go_wp2
  exact ⟨⟨i + 1, by omega, (by rw [HSV.out]; first | rfl | (simp only [Value.int.injEq, true_and]; omega)), by go_num, HG⟩, by simp [intOf]; omega⟩
 obtain rfl : fn = i := by omega
 have i1 : ¬ ((fn : Int) < fn) := by omega
 have HCA : Hid (cntF fl fn = cntL fl) := Za (by rw [<- HFN.out]; exact cntF_all fl)
 rw [HCA.out]
 clear hci HCA
 have hoo : (ok == ok) = true := by simp
 have hnn : ((cntL fl : Int) == (cntL fl : Int)) = true := by simp
 have HFAW := Za (HFAB.out.calm HG.out)
 obtain ⟨x0, x1, x2⟩ := (HBX2.out.calm HG.out).three
 obtain ⟨y0, y1, y2⟩ := (HBY.out.calm HG.out).three
 have hlx := HXF2.out.lines.len
 have hpx := HXF2.out.pairs.len
 have hly := HYF.out.lines.len
 have hpy := HYF.out.pairs.len
 have hyb := HYB.out
 have HXW := Za (HXF2.out.calm HG.out)
 have HYW := Za (HYF.out.calm HG.out)
 have HGX := Za (Zb HGW.out HG.out)
 have hxb : nx <= 1000000 /\ mx <= 1000000 /\ ny <= 1000000 /\ my <= 1000000 := by omega
 clear hlx hpx hly hpy hyb HYB
 go_wp2_with fail
 refine (refSameFile_c y y xl nx cx xp mx dx yl ny cy yp my dy _ _ _ _ true wr HXW.out HYW.out hxb ⟨fun _ => rfl, fun _ => rfl⟩).mono ?_
 rintro e v11 ⟨rfl, hg11⟩
 have HFA11 := Za (HFAW.out.calm hg11)
 have HG11 := Za (Zb HGX.out hg11)
 clear hg11
 go_wp2_with fail
 refine (countF_c pa fn ca _ _ fl v11 HFA11.out (by omega) (fun f hf => by have := HFW.out.2.2 f hf; omega)).mono ?_
 rintro e v12 ⟨rfl, hg12⟩
 have HG12 := Za (Zb HG11.out hg12)
 clear hg12
 go_wp2
 go_ret
 exact ⟨rfl, Xo HG12.out⟩
theorem lifted (os : Os) (started : os.Started) (H : Type) (enc : TypeId × Value -> H) :
  ReturnsInHanded {} Tryz.checked os 3 .any (fun w args => (Rows.stateTellsSpec.pre enc Tryz.prog Tryz.f3 [] false w args /\ laidMetH Tryz.prog laidL w) /\ sizedMet enc Tryz.prog Tryz.f3 (OpenSpec.ofChange Rows.stateTellsSpec) false w args)
   (Rows.stateTellsSpec.post enc Tryz.prog Tryz.f3 false true false false) := by
 refine returnsInHanded_of_change_and (C := Tryz.checked) (X := fun w _ => laidMetH Tryz.prog laidL w) (fun _ _ _ hh h => h.of_heap hh) ownNone started (by kernel_rfl) Tryz.func3
  (ChangeSpec.witness_shaped (enc := enc) (C := Tryz.checked) (os := os) (X := fun w _ => laidMetH Tryz.prog laidL w) false (World.doorLaid Tryz.prog 400 os) #[.slice none 0 0, .string .empty] 8 rfl (World.shaped_of_RefB (by kernel_rfl) (by kernel_rfl)) (by kernel_rfl) (by kernel_rfl) (by kernel_rfl) (door_met os _)) ?_
 intro W base args ds gs before hval0 hW _ _ hL _
 have hval : ∀ (j : Nat) t v, Tryz.f3.params[j]? = some t -> args[j]? = some v -> Value.okWide Tryz.prog W .any base t v := hval0
 have hW' := hW
 have hlt := hW.lt
 obtain ⟨p, q, hA0, hV, rfl, hfz, hnd⟩ := hW
 have hA : DataW.TrodAll enc Tryz.prog W 0 (fun _ => true) true Tryz.f3.params.toList args.toList ds p := hA0
 rw [Tryz.params3] at hA hval
 obtain ⟨v0, vs0, d0, ds0, q0, r0, hargs, rfl, rfl, t0, s0⟩ := trodAll_cons hA
 obtain ⟨v1, vs1, d1, ds1, q1, r1, rfl, rfl, rfl, t1, s1⟩ := trodAll_cons s0
 obtain ⟨rfl, rfl, rfl⟩ := trodAll_nil s1
 obtain rfl : args = #[v0, v1] := by cases args; simp_all
 obtain ⟨rfl, rfl⟩ := trodVars_none hV
 obtain ⟨a0, L0, c0, l0, rfl, u0⟩ := ptsAt_of (hval 0 22 v0 rfl rfl) t0
 obtain ⟨a1, rfl, rfl, rfl, u1⟩ := Go.ChangeMaps.open_string Tryz.underlying9 (hval 1 9 v1 rfl rfl) t1
 clear hA0 hval0
 simp only [Xq] at hW' hlt
 refine (walk a0 L0 c0 l0 a1 W u0 (tab_of_laid hL)).mono fun e W' ⟨he, hg⟩ => ?_
 subst he
 have z0 := Below.trod laidOut (by kernel_rfl) (of_decide_eq_true (by kernel_rfl)) t0 hg (fun x hx => hlt x (by simp [hx]))
 exact ⟨_, rfl, law_post hW' rfl (fun _ _ _ => (trodAll_cons_mk (shut_bool Tryz.underlying4 _) trodAll_mk0)) (trodAll_cons_mk z0 (trodAll_cons_mk (Go.ChangeMaps.shut_string Tryz.underlying9 u1) trodAll_mk0)) rfl hg⟩
theorem over : Rows.StateTellsSaid :=
 OpenClaim.holds_of_wide 3 Tryz.f3 rfl rfl rfl rfl rfl rfl rfl ⟨rfl, rfl, rfl, rfl, rfl⟩ rfl rfl rfl rfl rfl (by kernel_rfl) Tryz.func3 (by kernel_rfl)
  (of_decide_eq_true (by kernel_rfl)) (by unfold Func.isWrapper; first | (rw [if_pos (by decide +kernel)]; kernel_rfl) | (rw [if_neg (by decide +kernel)]; exact ⟨rfl, rfl⟩))
  (fun os started H enc _ => lifted os started H enc)
theorem proved : Rows.StateTellsCardSaid :=
 Claim7.holds_tied_plain_at .later [] [.data] true Rows.stateTellsCard.stood.harness false
  over (fun _ h => by cases h) (by kernel_rfl) (fun _ h => by cases h) stateTells_row_tie rfl ⟨rfl, rfl⟩ (by kernel_rfl) rfl
  (fun f fn hf hfn => by
   obtain rfl : f = 3 := Option.some.inj ((show Tryz.prog.funcNamed "cento/centolaw13.StateTells" = some 3 by kernel_rfl).symm.trans hf) |>.symm
   obtain rfl : fn = Tryz.f3 := (Option.some.inj (Tryz.func3.symm.trans hfn)).symm
   exact ⟨by kernel_rfl, fun j t ht => by
    rw [Tryz.params3] at ht
    have hm : t ∈ [22, 9] := by simpa using Array.mem_of_getElem? ht
    have hall : ([22, 9].all fun u => !Tryz.prog.wantsStandIn u) = true := by kernel_rfl
    exact (show Tryz.prog.wantsStandIn t = false by simpa using List.all_eq_true.1 hall t hm)⟩)
  (by kernel_rfl)
#print axioms proved
end Go.Proofs.YtnknejokneddbaaGreatDoor.stateTells
