/- StateGrows: at every input the call answers true, and each argument reads behind the call as it read before; tied: the table that math/bits reads is what the program's text lays. -/
import Derived.Test.YtnknejokneddbaaGreatDoorArgs
import Derived.Test.YtnknejokneddbaaGreatDoorGroP
import Derived.Test.YtnknejokneddbaaGreatDoorArgS
namespace Go.Proofs.YtnknejokneddbaaGreatDoor.stateGrows
open Go.ChangeShapes Go.WideShapes Go.ChangeAt Go.WideMaps Go.WideElems Go.RowKit Go.Deep

set_option maxRecDepth 100000 in
set_option maxHeartbeats 8000000 in
theorem walk (p0 : Option Addr) (L0 c0 : Nat) (l0 : List Pt) (a1 : Int) (w : World) (h0 : PsArg w p0 L0 c0 l0) (w1 : (Lit.int .u8 a1).wf = true) (ht : Tab w) :
  Calls Tryz.prog 6 #[.slice p0 L0 c0, .int .u8 a1] w fun e w' => e = .returned (.bool true) ∧ Below w.heap.size w w' := by
 obtain ⟨t, rfl, ht8⟩ := byte_of w1
 have HA := Lib.hid h0
 have HT := Lib.hid ht
 obtain ⟨q, hq⟩ := bool_of ((∀ x ∈ l0, PFew x) ∧ L0 ≤ 16)
 have HQ := Lib.hid hq
 clear ht h0 hq w1
 go_enter Tryz.func6, Tryz.ntmps6
 go_wp2_with fail
 refine (known13_c _ HT.out).mono ?_
 rintro e v1 ⟨rfl, hg1⟩
 have HG1 := Lib.hid hg1
 clear hg1
 go_wp2_with fail
 refine (fewAll_c p0 L0 c0 _ _ l0 q v1 (HA.out.at'.calm HG1.out) HA.out.mn (fun x hx => ⟨(HA.out.each x hx).2.2.2.2.1, (HA.out.each x hx).2.2.2.2.2.1, (HA.out.each x hx).2.2.2.2.2.2⟩) HQ.out).mono ?_
 rintro e v2 ⟨rfl, hg2⟩
 have HG2 := Lib.hid (grownBy_trans HG1.out hg2)
 clear hg2 HG1
 cases q with
 | false =>
  go_wp2
  go_ret
  exact ⟨rfl, grownBy_below HG2.out⟩
 | true =>
 have HF := Lib.hid (HQ.out.1 rfl)
 have hL := HF.out.2
 clear HQ
 rcases Nat.eq_zero_or_pos L0 with hz | hz
 ·subst hz
  go_wp2
  go_ret
  exact ⟨rfl, grownBy_below HG2.out⟩
 have hL0 : ((L0 : Int) = 0) = False := by simp; omega
 have hL0b : ((L0 : Int) == 0) = false := by simp; omega
 have HT2 := Lib.hid (HT.out.grown HG2.out (by simp))
 have HPA := Lib.hid (HA.out.at'.calm HG2.out)
 have HW2 : Hid (w.heap.size ≤ v2.heap.size) := Lib.hid HG2.out.size
 have HN0 : Hid (∀ x ∈ l0, NumP x) := Lib.hid fun x hx => ⟨(HA.out.each x hx).1, fun h hh => (HA.out.each x hx).2.2.1 h hh⟩
 have hmod : ((t : Int)) % (L0 : Int) = ((t % L0 : Nat) : Int) := rfl
 have hml : t % L0 < L0 := Nat.mod_lt _ hz
 have HMI : Hid (∀ x ∈ l0.take (t % L0), x ∈ l0) := Lib.hid fun x hx => List.mem_of_mem_take hx
 have HOF1 := Lib.hid (of_pts 0 w.heap.size p0 (t % L0) c0 (l0.take (t % L0)) v2 HT2.out (pts_take HPA.out (Nat.le_of_lt hml)) (fun x hx => HF.out.1 x (HMI.out x hx)) (by omega) HW2.out (fun x hx => HN0.out x (HMI.out x hx)))
 have HOF2 : Hid (∀ X, v2.grownBy X none → Calls Tryz.prog 11 #[.slice p0 L0 c0] X fun e w' => ∃ p' c', e = .returned (.tuple #[.slice p' (filesL l0).length c', .int .i64 ((errL l0 : Nat) : Int)]) ∧ FlsAt w' X.heap.size w'.heap.size p' (filesL l0).length (filesL l0) ∧ X.grownBy w' none) := Lib.hid fun X hX =>
  (of_pts 0 w.heap.size p0 L0 c0 l0 X (HT2.out.grown hX (by simp)) (HPA.out.calm hX) HF.out.1 hL (Nat.le_trans HW2.out hX.size) HN0.out).mono fun e w' ⟨p', c', h1, h2, _, _, h3⟩ => ⟨p', c', h1, h2, h3⟩
 have HUP := Lib.hid (grow_up (l := l0) (m := t % L0) HF.out.1 HN0.out)
 have HFA := Lib.hid (filesL_few13 (l := l0.take (t % L0)))
 have HFB := Lib.hid (filesL_few13 (l := l0))
 have hp0 : ∃ b o, p0 = some ⟨b, o, none⟩ := by
  obtain ⟨b, o, e, _⟩ := HPA.out.cell hz
  exact ⟨b, o, e⟩
 obtain ⟨b, o, rfl⟩ := hp0
 have hcap := HA.out.cap
 generalize hm : t % L0 = m at *
 generalize hla : filesL (l0.take m) = la at *
 generalize hlb : filesL l0 = lb at *
 generalize hea : errL (l0.take m) = ea at *
 generalize heb : errL l0 = eb at *
 clear hm hla hlb hea heb HT HT2 HA HPA HF HN0 HMI
 obtain ⟨na, hna⟩ : ∃ na, la.length = na := ⟨_, rfl⟩
 obtain ⟨nb, hnb⟩ : ∃ nb, lb.length = nb := ⟨_, rfl⟩
 rw [hna] at HOF1 HFA
 rw [hnb] at HOF2 HFB
 have HNA := Lib.hid hna
 clear hna hnb
 go_wp2_with fail
 refine HOF1.out.mono ?_
 rintro e v3 ⟨pa, ca, rfl, hfa, _, _, hg3⟩
 have HFA3 := Lib.hid hfa
 have HG3 := Lib.hid hg3
 clear hfa hg3 HOF1
 go_wp2_with fail
 refine (HOF2.out v3 HG3.out).mono ?_
 rintro e v4 ⟨pb, cb, rfl, hfb, hg4⟩
 have HA4 := Lib.hid (HFA3.out.calm hg4)
 have HB4 := Lib.hid hfb
 have HG4 := Lib.hid (grownBy_trans HG2.out (grownBy_trans HG3.out hg4))
 clear hfb hg4 HFA3 HOF2 HG3
 by_cases ha : ea = 0
 ·by_cases hb : eb = 0
  ·subst ha
   subst hb
   have HU := Lib.hid (HUP.out rfl rfl)
   clear HUP hmod hml
   have hna6 := HFA.out.1
   have hnb6 := HFB.out.1
   go_wp2
   go_loopw [9] (fun v wr => ∃ i : Nat, i ≤ na ∧ v = .int .i64 i ∧ Hid (v4.grownBy wr none)) (fun v _ => na - (intOf v).toNat)
   case atStart => exact ⟨0, Nat.zero_le _, rfl, Lib.hid (grownBy_refl _ _)⟩
   case round =>
   obtain ⟨i, hi, rfl, HG⟩ := hrel
   by_cases hin : i < na
   ·have i0 : (0 : Int) ≤ i := by omega
    have i1 : (i : Int) < na := by omega
    obtain ⟨ba, oa, rfl, _, _, _, hca⟩ := HA4.out.cell (by omega)
    obtain ⟨pl, nl, cl, pp, np, cp, x0, x1, x2, hx⟩ := hca i hin
    have HXF := Lib.hid (hx.calm HG.out)
    have hmf : la[i]?.getD fl0 ∈ la := get_mem (by rw [HNA.out]; exact hin)
    have HUF := Lib.hid (HU.out _ hmf)
    have HBF := Lib.hid (HFA.out.2 _ hmf)
    replace x0 := cell_calmQ HG.out x0
    replace x1 := cell_calmQ HG.out x1
    replace x2 := cell_calmQ HG.out x2
    clear hca hx hmf
    generalize la[i]?.getD fl0 = F at *
    have HFD := Lib.hid (findS_c pb nb cb lb (fPath F) _ _ wr (HB4.out.calm HG.out) (by omega) HFB.out.2)
    have HX0 := Lib.hid x0
    have HX1 := Lib.hid x1
    have HX2 := Lib.hid x2
    clear x1 x2
    cases hfd : findL lb (fPath F) with
    | none =>
     rw [hfd] at HFD
     simp only [Option.getD_none, Option.isSome_none] at HFD
     clear hfd
     go_wp2_with fail
     refine HFD.out.mono ?_
     rintro e w5 ⟨hg5, ql, ml, dl, qp, mp, dp, rfl, _⟩
     have HG5 := Lib.hid (grownBy_trans HG.out hg5)
     clear hg5 HFD x0
     go_wp2
     exact ⟨⟨i + 1, by omega, by go_num, Lib.hid (grownBy_trans HG5.out (World.grownBy_alloc w5 _ none))⟩, by simp [intOf]; omega⟩
    | some X =>
     have HUX := Lib.hid (HUF.out X hfd)
     have HBX := Lib.hid (HFB.out.2 X (List.mem_of_find?_eq_some hfd))
     rw [hfd] at HFD
     simp only [Option.getD_some, Option.isSome_some] at HFD
     clear hfd HUF
     go_wp2_with fail
     refine HFD.out.mono ?_
     rintro e w5 ⟨hg5, ql, ml, dl, qp, mp, dp, rfl, hxx⟩
     have hga := World.grownBy_alloc w5 (.cells #[.string (fPath X), .slice ql ml dl, .slice qp mp dp] 35) none
     have hg56 := grownBy_trans hg5 hga
     have hee : GroE v4 (w5.alloc (.cells #[.string (fPath X), .slice ql ml dl, .slice qp mp dp] 35)) ba (oa + i * 3) F v2.heap.size v3.heap.size pl nl cl pp np cp w5.heap.size X wr.heap.size w5.heap.size ql ml dl qp mp dp :=
      ⟨cell_calmQ hg56 HX0.out, cell_calmQ hg56 HX1.out, cell_calmQ hg56 HX2.out, HXF.out.calm hg56, hxx.calm hga, BoxV.new w5 _ _, grownBy_trans HG.out hg56⟩
     have HE := Lib.hid hee
     have hln := hxx.lines.len
     have hlp := hxx.pairs.len
     have hfn := HXF.out.lines.len
     have hfp := HXF.out.pairs.len
     have hbx := HBX.out
     have hbf := HBF.out
     have hnl : nl ≤ 100000 := by omega
     have hml2 : ml ≤ 100000 := by omega
     have hnp : np ≤ 100000 := by omega
     have hmp : mp ≤ 100000 := by omega
     clear hg5 hga hg56 HFD x0 hee hxx HX0 HX1 HX2 HXF hln hlp hbx hbf hfp
     have HNL := Lib.hid hfn
     clear hfn
     go_upto_region 14 with fail
     generalize w5.alloc _ = w6 at *
     generalize w5.heap.size = g5 at *
     generalize hoi : oa + i * 3 = oi at *
     have HD := Lib.hid (HE.out.calm (grownBy_drewN w6 1 none))
     have x0 := HE.out.c0
     have x1 := HE.out.c1
     have x2 := HE.out.c2
     obtain ⟨y0, y1, y2⟩ := HE.out.bx.three
     have henv := HD.out
     clear HD
     go_region_held3 (fun W => (W.cell? ⟨ba, oi, none⟩ = some (.string (fPath F)) ∧ W.cell? ⟨ba, oi + 1, none⟩ = some (.slice pl nl cl) ∧ W.cell? ⟨ba, oi + 2, none⟩ = some (.slice pp np cp)) ∧ W.cell? ⟨g5, 0, none⟩ = some (.string (fPath X)) ∧ W.cell? ⟨g5, 1, none⟩ = some (.slice ql ml dl) ∧ W.cell? ⟨g5, 2, none⟩ = some (.slice qp mp dp)) (first | exact ⟨⟨henv.c0, henv.c1, henv.c2⟩, henv.bx.three⟩ | go_keep)
      (first
       | (go_at_call 22; refine (legS_c (fPath F) (fLines F) pl nl cl pp np cp (fPath X) (fLines X) ql ml dl qp mp dp _ _ _ _ _ henv.f.lines henv.x.lines (by omega) hml2 HUX.out.kf HUX.out.kx).mono ?_; intro e w8 hlg; obtain ⟨pg, cg, rfl, hzg, hg8⟩ := leg_ok HUX.out HNL.out hlg; have henv := henv.calm hg8; clear hlg hg8))
     have HZ := Lib.hid hzg
     have HE8 := Lib.hid henv
     clear hzg henv x0 x1 x2 y0 y1 y2
     have hgd : w8.grownBy (World.drew w8) none := grownBy_drewN w8 1 none
     have henv := HE8.out.calm hgd
     have hzz := HZ.out.calm hgd
     have HAR := Lib.hid HUX.out.ar
     have HARN : Hid (arB ((fLines F).map nTxt) (fPairs F) ((fLines X).map nTxt) (fPairs X) (legK (fLines F) (fLines X) nl) = true) := Lib.hid (by have h := HAR.out; rw [HNL.out] at h; exact h)
     clear hgd HAR
     go_upto_region 15 with fail
     go_region_held3 (fun W => (W.cell? ⟨ba, oi, none⟩ = some (.string (fPath F)) ∧ W.cell? ⟨ba, oi + 1, none⟩ = some (.slice pl nl cl) ∧ W.cell? ⟨ba, oi + 2, none⟩ = some (.slice pp np cp)) ∧ W.cell? ⟨g5, 0, none⟩ = some (.string (fPath X)) ∧ W.cell? ⟨g5, 1, none⟩ = some (.slice ql ml dl) ∧ W.cell? ⟨g5, 2, none⟩ = some (.slice qp mp dp)) (first | exact ⟨⟨henv.c0, henv.c1, henv.c2⟩, henv.bx.three⟩ | go_keep)
      (first
       | (go_at_call 28; (first | (with_reducible refine (objS_c (fPath F) (fLines F) (fPairs F) pl nl cl pp np cp _ _ _ henv.f.lines henv.f.pairs henv.f.zp hnl hnp).mono ?_; rintro e w9 ⟨po, co, qo, do', rfl, hs1, hp1, hg⟩; have hoF := ObjAt.mk hs1 hp1; have henv := henv.calm hg; have hzz := hzz.calm hg) | (with_reducible refine (objS_c (fPath X) (fLines X) (fPairs X) ql ml dl qp mp dp _ _ _ henv.x.lines henv.x.pairs henv.x.zp hml2 hmp).mono ?_; rintro e w9 ⟨pu, cu, qu, du, rfl, hs2, hp2, hg⟩; have hoX := ObjAt.mk hs2 hp2; have hoF := hoF.calm hg; have henv := henv.calm hg; have hzz := hzz.calm hg)))
       | (go_at_call 30; refine (refArrow_r _ _ _ _ _ _ _ _ _ _ _ _ _ _ _ _ _ _ _ _ _ ((fLines F).map nTxt) ((fLines X).map nTxt) (fPairs F) (fPairs X) (legK (fLines F) (fLines X) nl) true _ hoF hoX hzz (by omega) (by omega) (by omega) HARN.out).mono ?_; rintro e w9 ⟨rfl, hg⟩; have henv := henv.calm hg; have hzz := hzz.calm hg))
     have HE9 := Lib.hid henv
     have HZ9 := Lib.hid hzz
     clear henv hzz
     go_wp2
     go_loopw [14] (fun v wq => ∃ k : Nat, k ≤ nl ∧ v = .int .i64 k ∧ Hid (w9.grownBy wq none)) (fun v _ => nl - (intOf v).toNat)
     case atStart => exact ⟨0, Nat.zero_le _, rfl, Lib.hid (grownBy_refl _ _)⟩
     case round =>
     obtain ⟨k, hk, rfl, HGQ⟩ := hrel
     have HEQ := Lib.hid (HE9.out.calm HGQ.out)
     have HZQ := Lib.hid (HZ9.out.calm HGQ.out)
     by_cases hkn : k < nl
     ·have k0 : (0 : Int) ≤ k := by omega
      have k1 : (k : Int) < nl := by omega
      obtain ⟨bl, ol, epl, _, _, _, hcl⟩ := HEQ.out.f.lines.cell (by omega)
      obtain ⟨_, _, l2, l3⟩ := hcl k hkn
      obtain ⟨bg, og, epg, _, _, _, hcg⟩ := HZQ.out.cell (by omega)
      have z0 := hcg k hkn
      obtain ⟨kk, hkk, hat, htx, hdd⟩ := HUX.out.st k (by rw [HNL.out]; exact hkn)
      rw [legK_atG hkn (by rw [HNL.out]; exact Nat.le_refl _), hat] at z0
      have hkm : kk < ml := by rw [← HEQ.out.x.lines.len]; exact hkk
      obtain ⟨bq, oq, eql, _, _, _, hcq⟩ := HEQ.out.x.lines.cell (by omega)
      obtain ⟨_, _, m2, m3⟩ := hcq kk hkm
      have m0 : (0 : Int) ≤ kk := by omega
      have m1 : (kk : Int) < ml := by omega
      have c1 := HEQ.out.c1
      have y1 := HEQ.out.bx.three.2.1
      rw [htx] at m2
      rw [epl] at c1
      rw [eql] at y1
      rw [epg]
      clear hcl hcg hcq hat htx hkk
      generalize nTxt ((fLines F)[k]?.getD lne0) = tx at *
      have e5 : (tx.toList == tx.toList) = true := toList_eqP rfl
      generalize nDead ((fLines F)[k]?.getD lne0) = d1 at *
      generalize nDead ((fLines X)[kk]?.getD lne0) = d2 at *
      clear epl epg eql
      cases d1 with
      | false =>
       go_wp2
       go_quiet (fail)
       have HG9 := Lib.hid (grownBy_trans HGQ.out (grownBy_drewN wr nq none))
       go_wp2
       exact ⟨⟨k + 1, by omega, by go_num, HG9⟩, by simp [intOf]; omega⟩
      | true =>
       obtain rfl : d2 = true := hdd rfl
       go_wp2
       go_quiet (fail)
       have HG9 := Lib.hid (grownBy_trans HGQ.out (grownBy_drewN wr nq none))
       go_wp2
       exact ⟨⟨k + 1, by omega, by go_num, HG9⟩, by simp [intOf]; omega⟩
     obtain rfl : nl = k := by omega
     have k1 : ¬ ((nl : Int) < nl) := by omega
     go_wp2
     exact ⟨⟨i + 1, by omega, by go_num, Lib.hid (grownBy_trans HE9.out.g HGQ.out)⟩, by simp [intOf]; omega⟩
   ·obtain rfl : na = i := by omega
    have i1 : ¬ ((na : Int) < na) := by omega
    go_wp2
    go_ret
    exact ⟨rfl, grownBy_below (grownBy_trans HG4.out HG.out)⟩
  ·have e1 : ((eb : Int) != 0) = true := by simp; omega
   subst ha
   go_wp2
   go_ret
   exact ⟨rfl, grownBy_below HG4.out⟩
 ·have e1 : ((ea : Int) != 0) = true := by simp; omega
  go_wp2
  go_ret
  exact ⟨rfl, grownBy_below HG4.out⟩

set_option maxRecDepth 100000 in
theorem lifted (os : Os) (started : os.Started) (H : Type) (enc : TypeId × Value → H) :
  ReturnsInHanded {} Tryz.checked os 6 .any (fun w args => (Rows.stateGrowsSpec.pre enc Tryz.prog Tryz.f6 [] false w args ∧ laidMetH Tryz.prog laidL w) ∧ sizedMet enc Tryz.prog Tryz.f6 (OpenSpec.ofChange Rows.stateGrowsSpec) false w args)
   (Rows.stateGrowsSpec.post enc Tryz.prog Tryz.f6 false true false false) := by
 refine returnsInHanded_of_change_and (C := Tryz.checked) (X := fun w _ => laidMetH Tryz.prog laidL w) (fun _ _ _ hh h => h.of_heap hh) ownNone started (by kernel_rfl) Tryz.func6
  (ChangeSpec.witness_shaped (enc := enc) (C := Tryz.checked) (os := os) (X := fun w _ => laidMetH Tryz.prog laidL w) false (World.doorLaid Tryz.prog 400 os) #[.slice none 0 0, .int .u8 0] 8 rfl (World.shaped_of_RefB (by kernel_rfl) (by kernel_rfl)) (by kernel_rfl) (by kernel_rfl) (by kernel_rfl) (door_met os _)) ?_
 intro W base args ds gs before hval0 hW _ _ hL _
 have hval : ∀ (j : Nat) t v, Tryz.f6.params[j]? = some t → args[j]? = some v → Value.okWide Tryz.prog W .any base t v := hval0
 have hW' := hW
 have hlt := hW.lt
 obtain ⟨p, q, hA0, hV, rfl, hfz, hnd⟩ := hW
 have hA : DataW.TrodAll enc Tryz.prog W 0 (fun _ => true) true Tryz.f6.params.toList args.toList ds p := hA0
 rw [Tryz.params6] at hA hval
 obtain ⟨v0, vs0, d0, ds0, q0, r0, hargs, rfl, rfl, t0, s0⟩ := trodAll_cons hA
 obtain ⟨v1, vs1, d1, ds1, q1, r1, rfl, rfl, rfl, t1, s1⟩ := trodAll_cons s0
 obtain ⟨rfl, rfl, rfl⟩ := trodAll_nil s1
 obtain rfl : args = #[v0, v1] := by cases args; simp_all
 obtain ⟨rfl, rfl⟩ := trodVars_none hV
 obtain ⟨a0, L0, c0, l0, rfl, u0⟩ := ptsAt_of (hval 0 22 v0 rfl rfl) t0
 obtain ⟨a1, rfl, rfl, rfl, u1⟩ := open_int Tryz.underlying5 (hval 1 5 v1 rfl rfl) t1
 clear hA0 hval0
 simp only [List.append_nil] at hW' hlt
 refine (walk a0 L0 c0 l0 a1 W u0 u1 (tab_of_laid hL)).mono fun e W' ⟨he, hg⟩ => ?_
 subst he
 have z0 := Below.trod laidOut (by kernel_rfl) (of_decide_eq_true (by kernel_rfl)) t0 hg (fun x hx => hlt x (by simp [hx]))
 exact ⟨_, rfl, law_post hW' rfl (fun _ _ _ => (trodAll_cons_mk (shut_bool Tryz.underlying4 _) trodAll_mk0)) (trodAll_cons_mk z0 (trodAll_cons_mk (shut_int Tryz.underlying5 u1) trodAll_mk0)) rfl hg⟩

theorem over : Rows.StateGrowsSaid :=
 OpenClaim.holds_of_wide 6 Tryz.f6 rfl rfl rfl rfl rfl rfl rfl ⟨rfl, rfl, rfl, rfl, rfl⟩ rfl rfl rfl rfl rfl (by kernel_rfl) Tryz.func6 (by kernel_rfl)
  (of_decide_eq_true (by kernel_rfl)) (by unfold Func.isWrapper; first | (rw [if_pos (by decide +kernel)]; kernel_rfl) | (rw [if_neg (by decide +kernel)]; exact ⟨rfl, rfl⟩))
  (fun os started H enc _ => lifted os started H enc)

theorem proved : Rows.StateGrowsCardSaid :=
 Claim7.holds_tied_plain_at .later [] [.data] true Rows.stateGrowsCard.stood.harness false
  over (fun _ h => by cases h) (by kernel_rfl) (fun _ h => by cases h) stateGrows_row_tie rfl ⟨rfl, rfl⟩ (by kernel_rfl) rfl
  (fun f fn hf hfn => by
   obtain rfl : f = 6 := Option.some.inj ((show Tryz.prog.funcNamed "cento/centolaw13.StateGrows" = some 6 by kernel_rfl).symm.trans hf) |>.symm
   obtain rfl : fn = Tryz.f6 := (Option.some.inj (Tryz.func6.symm.trans hfn)).symm
   exact ⟨by kernel_rfl, fun j t ht => by
    rw [Tryz.params6] at ht
    have hm : t ∈ [22, 5] := by simpa using Array.mem_of_getElem? ht
    have hall : ([22, 5].all fun u => !Tryz.prog.wantsStandIn u) = true := by kernel_rfl
    exact (show Tryz.prog.wantsStandIn t = false by simpa using List.all_eq_true.1 hall t hm)⟩)
  (by kernel_rfl)
#print axioms proved
end Go.Proofs.YtnknejokneddbaaGreatDoor.stateGrows
