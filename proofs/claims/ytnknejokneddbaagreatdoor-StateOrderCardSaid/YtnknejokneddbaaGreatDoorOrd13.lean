/- StateOrder: at every input the call answers true, and each argument reads behind the call as it read before; tied: the table that math/bits reads is what the program's text lays. -/
import Derived.Test.YtnknejokneddbaaGreatDoorArgs
import Derived.Test.YtnknejokneddbaaGreatDoorMixA
import Derived.Test.YtnknejokneddbaaGreatDoorArgS
namespace Go.Proofs.YtnknejokneddbaaGreatDoor.stateOrder
open Go.ChangeShapes Go.WideShapes Go.ChangeAt Go.WideMaps Go.WideElems Go.RowKit Go.Deep

theorem walk (p0 : Option Addr) (L0 c0 : Nat) (l0 : List Pt) (a1 : Int) (a2 : Bool) (w : World) (h0 : PsArg w p0 L0 c0 l0) (w1 : (Lit.int .u8 a1).wf = true) (ht : Tab w) :
  Calls Tryz.prog 5 #[.slice p0 L0 c0, .int .u8 a1, .bool a2] w fun e w' => e = .returned (.bool true) ∧ Below w.heap.size w w' := by
 obtain ⟨t, rfl, ht8⟩ := byte_of w1
 have HA := Lib.hid h0
 have HT := Lib.hid ht
 obtain ⟨q, hq⟩ := bool_of ((∀ x ∈ l0, PFew x) ∧ L0 ≤ 16)
 have HQ := Lib.hid hq
 clear ht h0 hq w1
 obtain ⟨i0, hi0, hz0, hz1, hz2⟩ := info_parts infoPt13
 go_enter Tryz.func5, Tryz.ntmps5
 go_wp2_with fail
 refine (known13_c _ HT.out).mono ?_
 rintro e v1 ⟨rfl, hg1⟩
 have HG1 := Lib.hid hg1
 clear hg1
 go_wp2_with fail
 refine (fewAll_c p0 L0 c0 _ _ l0 q v1 (HA.out.at'.calm HG1.out) HA.out.mn (fun x hx => ⟨(HA.out.each x hx).2.2.2.2.1, (HA.out.each x hx).2.2.2.2.2.1, (HA.out.each x hx).2.2.2.2.2.2⟩) HQ.out).mono ?_
 rintro e v2 ⟨rfl, hg2⟩
 have HG2 := Lib.hid (grownBy_trans HG1.out hg2)
 clear hg2 HG1
 cases q with
 | false =>
  go_wp2
  go_ret
  exact ⟨rfl, grownBy_below HG2.out⟩
 | true =>
 have HF := Lib.hid (HQ.out.1 rfl)
 have hL := HF.out.2
 clear HQ
 obtain ⟨xs, hxs, hps, hpe⟩ := (HA.out.at'.calm HG2.out).hps
 have HXS := Lib.hid hxs
 have HPS := Lib.hid hps
 have HPE := Lib.hid hpe
 have HXL := Lib.hid hps.len
 have HT2 := Lib.hid (HT.out.grown HG2.out (by simp))
 have HPA := Lib.hid (HA.out.at'.calm HG2.out)
 have HW2 : Hid (w.heap.size ≤ v2.heap.size) := Lib.hid HG2.out.size
 clear hxs hps hpe
 obtain ⟨Y, hY⟩ : ∃ Y : List HP, Y = if a2 = true then xs.reverse else xs := ⟨_, rfl⟩
 have HYL : Hid (Y.length = L0) := Lib.hid (by rw [hY]; cases a2 <;> simp [HXL.out])
 have HYP : Hid (Y.Perm xs) := Lib.hid (by rw [hY]; cases a2 <;> simp [List.reverse_perm])
 have HYX := Lib.hid hY
 clear hY
 go_wp2
 go_loopw [7, 8, 9] (fun v i x9 wr => ∃ k : Nat, k ≤ L0 ∧ i = .int .i64 k ∧ Hid (wr.ownsRow v2.heap.size 56 5 v k (hpcells (rotK hp0 Y t k))) ∧ Hid (v2.grownBy wr none)) (fun _ i _ _ => L0 - (intOf i).toNat)
 case atStart => exact ⟨0, Nat.zero_le _, rfl, Lib.hid (World.ownsRow_nil _ _ _ _), Lib.hid (grownBy_refl _ _)⟩
 case round =>
  obtain ⟨k, hk, rfl, HROW, HGW⟩ := hrel
  by_cases hkn : k < L0
  ·have k0 : (0 : Int) ≤ k := by omega
   have k1 : (k : Int) < L0 := by omega
   have hsg : (k + t) % L0 < L0 := Nat.mod_lt _ (by omega)
   have hw1 : IntKind.i64.wrap (t : Int) = t := IntWalk.i64_in _ (by omega)
   have hw2 : IntKind.i64.wrap ((k : Int) + (t : Int)) = (k : Int) + (t : Int) := IntWalk.i64_in _ (by omega)
   have hmod : ((k : Int) + (t : Int)) % (L0 : Int) = (((k + t) % L0 : Nat) : Int) := by
    rw [← Int.natCast_add]
    rfl
   have hL0 : ((L0 : Int) = 0) = False := by simp; omega
   have HRK := Lib.hid (rotK_succ hp0 Y t k)
   have HYS : Hid (Y[(k + t) % Y.length]?.getD hp0 = if a2 = true then xs[L0 - 1 - (k + t) % L0]?.getD hp0 else xs[(k + t) % L0]?.getD hp0) := Lib.hid (by
    rw [HYL.out, HYX.out]
    cases a2 with
    | true => rw [if_pos rfl, if_pos rfl, List.getElem?_reverse (by rw [HXL.out]; exact hsg), HXL.out]
    | false => rw [if_neg (by decide), if_neg (by decide)])
   set_option maxRecDepth 100000 in
   go_upto_region 10 with fail
   rw [hmod]
   clear hmod hw1 hw2
   generalize hs : (k + t) % L0 = sg at *
   have hsz : v2.heap.size ≤ wr.heap.size := HGW.out.size
   clear hs
   cases a2 with
   | false =>
    have j0 : (0 : Int) ≤ sg := by omega
    have j1 : (sg : Int) < L0 := by omega
    have HYE : Hid (Y[(k + t) % Y.length]?.getD hp0 = xs[sg]?.getD hp0) := Lib.hid (HYS.out.trans (by simp))
    obtain ⟨b, o, rfl, _, _, _, hc⟩ := (HPS.out.calm HGW.out).cell (by omega)
    obtain ⟨q0, q1, q2, q3, q4⟩ := hc sg (by omega)
    clear hc HYS
    generalize xs[sg]?.getD hp0 = x at *
    obtain ⟨y, ⟨d1, d2, d3⟩, ⟨m1, m2, m3⟩, ⟨x1, x2, x3⟩, ⟨g1, g2, g3⟩⟩ := x
    replace q0 : wr.cell? ⟨b, o + sg * 5, none⟩ = some (.int .u32 ((pID y : Nat) : Int)) := q0
    replace q1 : wr.cell? ⟨b, o + sg * 5 + 1, none⟩ = some (.slice d1 d2 d3) := q1
    replace q2 : wr.cell? ⟨b, o + sg * 5 + 2, none⟩ = some (.slice m1 m2 m3) := q2
    replace q3 : wr.cell? ⟨b, o + sg * 5 + 3, none⟩ = some (.slice x1 x2 x3) := q3
    replace q4 : wr.cell? ⟨b, o + sg * 5 + 4, none⟩ = some (.slice g1 g2 g3) := q4
    set_option maxRecDepth 100000 in
    go_wp2_with (at_builtin; refine wpList_append_own _ rfl _ _ 22 rfl v2.heap.size 56 i0 (.agg #[.int .u32 0, .slice none 0 0, .slice none 0 0, .slice none 0 0, .slice none 0 0]) 5 104 Tryz.underlying22 hi0 hz0 hz1 hz2 rfl (by decide) _ k _ rfl (HROW.out.alloc _) ⟨wr.heap.size, 0, none⟩ 1 1 [.int .u32 ((pID y : Nat) : Int), .slice d1 d2 d3, .slice m1 m2 m3, .slice x1 x2 x3, .slice g1 g2 g3] rfl rfl (cell_new_row wr [.int .u32 ((pID y : Nat) : Int), .slice d1 d2 d3, .slice m1 m2 m3, .slice x1 x2 x3, .slice g1 g2 g3] 56) (by simp [Value.oneCell']) (by unfold maxLen; omega) (by omega) (by simp; omega) ?_; intro v' w3 hown' hgrow _; have HO := Lib.hid hown'; have HG3 := Lib.hid (grownBy_app HGW.out HROW.out hgrow); clear hown' hgrow)
    exact ⟨⟨k + 1, by omega, by go_num, Lib.hid (by rw [HRK.out, HYE.out, hpcells_snoc]; exact HO.out), HG3⟩, by simp [intOf]; omega⟩
   | true =>
    have hw3 : IntKind.i64.wrap ((L0 : Int) - 1) = ((L0 - 1 : Nat) : Int) := by rw [IntWalk.i64_in _ (by omega)]; omega
    have hw4 : IntKind.i64.wrap (((L0 - 1 : Nat) : Int) - (sg : Int)) = ((L0 - 1 - sg : Nat) : Int) := by rw [IntWalk.i64_in _ (by omega)]; omega
    obtain ⟨js, hjs⟩ : ∃ js, L0 - 1 - sg = js := ⟨_, rfl⟩
    have hjl : js < L0 := by omega
    have j0 : (0 : Int) ≤ js := by omega
    have j1 : (js : Int) < L0 := by omega
    rw [hjs] at hw4 HYS
    clear hjs
    have HYE : Hid (Y[(k + t) % Y.length]?.getD hp0 = xs[js]?.getD hp0) := Lib.hid (HYS.out.trans (by simp))
    obtain ⟨b, o, rfl, _, _, _, hc⟩ := (HPS.out.calm HGW.out).cell (by omega)
    obtain ⟨q0, q1, q2, q3, q4⟩ := hc js (by omega)
    clear hc HYS
    generalize xs[js]?.getD hp0 = x at *
    obtain ⟨y, ⟨d1, d2, d3⟩, ⟨m1, m2, m3⟩, ⟨x1, x2, x3⟩, ⟨g1, g2, g3⟩⟩ := x
    replace q0 : wr.cell? ⟨b, o + js * 5, none⟩ = some (.int .u32 ((pID y : Nat) : Int)) := q0
    replace q1 : wr.cell? ⟨b, o + js * 5 + 1, none⟩ = some (.slice d1 d2 d3) := q1
    replace q2 : wr.cell? ⟨b, o + js * 5 + 2, none⟩ = some (.slice m1 m2 m3) := q2
    replace q3 : wr.cell? ⟨b, o + js * 5 + 3, none⟩ = some (.slice x1 x2 x3) := q3
    replace q4 : wr.cell? ⟨b, o + js * 5 + 4, none⟩ = some (.slice g1 g2 g3) := q4
    set_option maxRecDepth 100000 in
    go_wp2_with (at_builtin; refine wpList_append_own _ rfl _ _ 22 rfl v2.heap.size 56 i0 (.agg #[.int .u32 0, .slice none 0 0, .slice none 0 0, .slice none 0 0, .slice none 0 0]) 5 104 Tryz.underlying22 hi0 hz0 hz1 hz2 rfl (by decide) _ k _ rfl (HROW.out.alloc _) ⟨wr.heap.size, 0, none⟩ 1 1 [.int .u32 ((pID y : Nat) : Int), .slice d1 d2 d3, .slice m1 m2 m3, .slice x1 x2 x3, .slice g1 g2 g3] rfl rfl (cell_new_row wr [.int .u32 ((pID y : Nat) : Int), .slice d1 d2 d3, .slice m1 m2 m3, .slice x1 x2 x3, .slice g1 g2 g3] 56) (by simp [Value.oneCell']) (by unfold maxLen; omega) (by omega) (by simp; omega) ?_; intro v' w3 hown' hgrow _; have HO := Lib.hid hown'; have HG3 := Lib.hid (grownBy_app HGW.out HROW.out hgrow); clear hown' hgrow)
    exact ⟨⟨k + 1, by omega, by go_num, Lib.hid (by rw [HRK.out, HYE.out, hpcells_snoc]; exact HO.out), HG3⟩, by simp [intOf]; omega⟩
  ·obtain rfl : L0 = k := by omega
   have k1 : ¬ ((L0 : Int) < L0) := by omega
   have HRL : Hid ((rotK hp0 Y t L0).length = L0) := Lib.hid (rotK_len _ _ _ _)
   have HMX : Hid (∀ y ∈ rotK hp0 Y t L0, HpAt wr 0 wr.heap.size y ∧ y ∈ xs) := Lib.hid fun y hy => by
    have h1 : y ∈ xs := by
     have h2 : y ∈ rotK hp0 Y t Y.length := by rw [HYL.out]; exact hy
     exact HYP.out.mem_iff.1 ((rotK_perm hp0 Y t).mem_iff.1 h2)
    exact ⟨((HPE.out y h1).calm13 HGW.out).wide13, h1⟩
   have HMP : Hid (((rotK hp0 Y t L0).map Prod.fst).Perm l0) := Lib.hid (by
    rw [← HXS.out]
    refine List.Perm.map _ (List.Perm.trans ?_ HYP.out)
    have h2 := rotK_perm hp0 Y t
    rw [HYL.out] at h2
    exact h2)
   obtain ⟨pm, cm, rfl, hpm⟩ := pts_own (ys := rotK hp0 Y t L0) (by rw [HRL.out]; exact HROW.out) (fun y hy => (HMX.out y hy).1)
   have HPM : Hid (PtsAt wr 0 wr.heap.size pm L0 ((rotK hp0 Y t L0).map Prod.fst)) := Lib.hid (by have h2 := hpm; rw [HRL.out] at h2; exact h2)
   rw [HRL.out]
   clear hpm
   generalize (rotK hp0 Y t L0).map Prod.fst = m at *
   have HTW := Lib.hid (HT2.out.grown HGW.out (by simp))
   have HPW := Lib.hid (HPA.out.calm HGW.out)
   have HN0 : Hid (∀ x ∈ l0, NumP x) := Lib.hid fun x hx => ⟨(HA.out.each x hx).1, fun h hh => (HA.out.each x hx).2.2.1 h hh⟩
   have hw4 : w.heap.size ≤ wr.heap.size := Nat.le_trans HW2.out HGW.out.size
   have HOF := Lib.hid (of_pts 0 w.heap.size p0 L0 c0 l0 wr HTW.out HPW.out HF.out.1 hL hw4 HN0.out)
   have HGR := Lib.hid (grownBy_trans HG2.out HGW.out)
   have HOM : Hid (∀ X, wr.grownBy X none → Calls Tryz.prog 11 #[.slice pm L0 cm] X fun e w' => ∃ p' c', e = .returned (.tuple #[.slice p' (filesL l0).length c', .int .i64 ((errL l0 : Nat) : Int)]) ∧ FlsAt w' X.heap.size w'.heap.size p' (filesL l0).length (filesL l0) ∧ X.grownBy w' none) := Lib.hid fun X hX => by
    refine (of_pts 0 wr.heap.size pm L0 cm m X (HTW.out.grown hX (by simp)) (HPM.out.calm hX) (fun x hx => HF.out.1 x (HMP.out.mem_iff.1 hx)) hL hX.size (fun x hx => HN0.out x (HMP.out.mem_iff.1 hx))).mono ?_
    rintro e v4 ⟨p', c', rfl, h1, _, _, h2⟩
    rw [filesL_perm HMP.out] at h1
    exact ⟨p', c', by rw [errL_perm HMP.out, filesL_perm HMP.out], h1, h2⟩
   have hfew := filesL_few (l := l0)
   have HFB := Lib.hid hfew.2
   have hf6 := hfew.1
   clear hfew HROW HPA HPW HTW HT2 HPS HPE HXS HYX HYP HYL HRL HMX
   generalize hfn : filesL l0 = fl at *
   generalize hen : errL l0 = er at *
   clear hfn hen
   obtain ⟨fn, hfn⟩ : ∃ fn, fl.length = fn := ⟨_, rfl⟩
   rw [hfn] at hf6 HOF HOM
   clear hfn
   go_wp2_with fail
   refine HOF.out.mono ?_
   rintro e v3 ⟨pa, ca, rfl, hfa, _, _, hg3⟩
   have HFA := Lib.hid hfa
   have HG3 := Lib.hid hg3
   clear hfa hg3 HOF
   go_wp2_with fail
   refine (HOM.out v3 HG3.out).mono ?_
   rintro e v4 ⟨pb, cb, rfl, hfb, hg4⟩
   have HFA4 := Lib.hid (HFA.out.calm hg4)
   have HFB4 := Lib.hid hfb
   have HG4 := Lib.hid (grownBy_trans HGR.out (grownBy_trans HG3.out hg4))
   clear hfb hg4 HFA HOM HG3
   have hee : ((er : Int) == (er : Int)) = true := by simp
   go_wp2_with fail
   refine (sameS_c pa pb fn fn ca cb _ _ _ _ fl fl true v4 HFA4.out HFB4.out (by omega) (by omega) HFB.out HFB.out ⟨fun _ => rfl, fun _ => rfl⟩).mono ?_
   rintro e v5 ⟨rfl, hg5⟩
   have HG5 := Lib.hid (grownBy_trans HG4.out hg5)
   clear hg5
   go_wp2
   go_ret
   exact ⟨rfl, grownBy_below HG5.out⟩

set_option maxRecDepth 100000 in
theorem lifted (os : Os) (started : os.Started) (H : Type) (enc : TypeId × Value → H) :
  ReturnsInHanded {} Tryz.checked os 5 .any (fun w args => (Rows.stateOrderSpec.pre enc Tryz.prog Tryz.f5 [] false w args ∧ laidMetH Tryz.prog laidL w) ∧ sizedMet enc Tryz.prog Tryz.f5 (OpenSpec.ofChange Rows.stateOrderSpec) false w args)
   (Rows.stateOrderSpec.post enc Tryz.prog Tryz.f5 false true false false) := by
 refine returnsInHanded_of_change_and (C := Tryz.checked) (X := fun w _ => laidMetH Tryz.prog laidL w) (fun _ _ _ hh h => h.of_heap hh) ownNone started (by kernel_rfl) Tryz.func5
  (ChangeSpec.witness_shaped (enc := enc) (C := Tryz.checked) (os := os) (X := fun w _ => laidMetH Tryz.prog laidL w) false (World.doorLaid Tryz.prog 400 os) #[.slice none 0 0, .int .u8 0, .bool false] 8 rfl (World.shaped_of_RefB (by kernel_rfl) (by kernel_rfl)) (by kernel_rfl) (by kernel_rfl) (by kernel_rfl) (door_met os _)) ?_
 intro W base args ds gs before hval0 hW _ _ hL _
 have hval : ∀ (j : Nat) t v, Tryz.f5.params[j]? = some t → args[j]? = some v → Value.okWide Tryz.prog W .any base t v := hval0
 have hW' := hW
 have hlt := hW.lt
 obtain ⟨p, q, hA0, hV, rfl, hfz, hnd⟩ := hW
 have hA : DataW.TrodAll enc Tryz.prog W 0 (fun _ => true) true Tryz.f5.params.toList args.toList ds p := hA0
 rw [Tryz.params5] at hA hval
 obtain ⟨v0, vs0, d0, ds0, q0, r0, hargs, rfl, rfl, t0, s0⟩ := trodAll_cons hA
 obtain ⟨v1, vs1, d1, ds1, q1, r1, rfl, rfl, rfl, t1, s1⟩ := trodAll_cons s0
 obtain ⟨v2, vs2, d2, ds2, q2, r2, rfl, rfl, rfl, t2, s2⟩ := trodAll_cons s1
 obtain ⟨rfl, rfl, rfl⟩ := trodAll_nil s2
 obtain rfl : args = #[v0, v1, v2] := by cases args; simp_all
 obtain ⟨rfl, rfl⟩ := trodVars_none hV
 obtain ⟨a0, L0, c0, l0, rfl, u0⟩ := ptsAt_of (hval 0 22 v0 rfl rfl) t0
 obtain ⟨a1, rfl, rfl, rfl, u1⟩ := open_int Tryz.underlying5 (hval 1 5 v1 rfl rfl) t1
 obtain ⟨a2, rfl, rfl, rfl⟩ := open_bool Tryz.underlying4 (hval 2 4 v2 rfl rfl) t2
 clear hA0 hval0
 simp only [List.append_nil] at hW' hlt
 refine (walk a0 L0 c0 l0 a1 a2 W u0 u1 (tab_of_laid hL)).mono fun e W' ⟨he, hg⟩ => ?_
 subst he
 have z0 := Below.trod laidOut (by kernel_rfl) (of_decide_eq_true (by kernel_rfl)) t0 hg (fun x hx => hlt x (by simp [hx]))
 exact ⟨_, rfl, law_post hW' rfl (fun _ _ _ => (trodAll_cons_mk (shut_bool Tryz.underlying4 _) trodAll_mk0)) (trodAll_cons_mk z0 (trodAll_cons_mk (shut_int Tryz.underlying5 u1) (trodAll_cons_mk (shut_bool Tryz.underlying4 _) trodAll_mk0))) rfl hg⟩

theorem over : Rows.StateOrderSaid :=
 OpenClaim.holds_of_wide 5 Tryz.f5 rfl rfl rfl rfl rfl rfl rfl ⟨rfl, rfl, rfl, rfl, rfl⟩ rfl rfl rfl rfl rfl (by kernel_rfl) Tryz.func5 (by kernel_rfl)
  (of_decide_eq_true (by kernel_rfl)) (by unfold Func.isWrapper; first | (rw [if_pos (by decide +kernel)]; kernel_rfl) | (rw [if_neg (by decide +kernel)]; exact ⟨rfl, rfl⟩))
  (fun os started H enc _ => lifted os started H enc)

theorem proved : Rows.StateOrderCardSaid :=
 Claim7.holds_tied_plain_at .later [] [.data] true Rows.stateOrderCard.stood.harness false
  over (fun _ h => by cases h) (by kernel_rfl) (fun _ h => by cases h) stateOrder_row_tie rfl ⟨rfl, rfl⟩ (by kernel_rfl) rfl
  (fun f fn hf hfn => by
   obtain rfl : f = 5 := Option.some.inj ((show Tryz.prog.funcNamed "cento/centolaw13.StateOrder" = some 5 by kernel_rfl).symm.trans hf) |>.symm
   obtain rfl : fn = Tryz.f5 := (Option.some.inj (Tryz.func5.symm.trans hfn)).symm
   exact ⟨by kernel_rfl, fun j t ht => by
    rw [Tryz.params5] at ht
    have hm : t ∈ [22, 5, 4] := by simpa using Array.mem_of_getElem? ht
    have hall : ([22, 5, 4].all fun u => !Tryz.prog.wantsStandIn u) = true := by kernel_rfl
    exact (show Tryz.prog.wantsStandIn t = false by simpa using List.all_eq_true.1 hall t hm)⟩)
  (by kernel_rfl)
#print axioms proved
end Go.Proofs.YtnknejokneddbaaGreatDoor.stateOrder
