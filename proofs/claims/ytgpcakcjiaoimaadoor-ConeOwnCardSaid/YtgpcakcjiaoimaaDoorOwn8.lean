/- The walk of the statement ConeOwn: at every input it answers true and leaves all that lay as it lay. Condition: the table of the lowest places is in memory. -/
import Derived.Test.YtgpcakcjiaoimaaDoorKnow8
namespace Go.Proofs.YtgpcakcjiaoimaaDoor
open Go.RowKit

/-- append of nothing to nothing, whatever the spare room of nothing. -/
theorem run_append_nil0 {P : Program} (w : World) (t ty e : TypeId) (i : TypeInfo) (c : Nat) (ht : P.underlying t = some (.slice e)) (hi : P.info? e = some i) :
    (Builtin.append_ #[t, t] ty #[.slice none 0 0, .slice none 0 c]).run P w = .ok (.slice none 0 0) w := by
  simp [Builtin.append_, run_underlying ht, sizeOf, typeInfo, hi, Builtin.lenOf, Builtin.firstCells]
theorem wpList_append_nil0 {P : Program} {w : World} {ops : Array Oper} {rest : List Oper} {o : Oper} {a : Act} {Q : Exit → Act → World → Prop} (hgd : o.guard = none) (s x : Operand) (t : TypeId)
    (ho : o.op = .call { callee := .builtin .append, args := #[s, x], argTypes := #[t, t] }) (e : TypeId) (i : TypeInfo) (ht : P.underlying t = some (.slice e)) (hi : P.info? e = some i) (c : Nat)
    (hs : a.eval s = .slice none 0 0) (hx : a.eval x = .slice none 0 c) (h : wpList P ops Q rest (a.put o.dst (.slice none 0 0)) w) : wpList P ops Q (o :: rest) a w := by
  refine wpList_plain hgd fun K hK => ?_
  have hrun := run_append_nil0 (P := P) w t o.type e i c ht hi
  unfold Oper.wp
  simp [execOp, ho, resolve, invoke, builtin, hs, hx, hrun, Result.andThen]
  exact hK _ _ h
theorem zcells_set (l : List Int) (k : Nat) (z : Int) : (zcells l).set k (.int .i64 z) = zcells (l.set k z) := by simp [zcells, List.map_set]

/-- A row of its own, its first place turned. -/
theorem bad_row {w : World} {base n : Nat} {v : Value} {J : List Int} (h : w.ownsRow base 3 1 v n (zcells J)) (hn : J.length = n) (hp : 0 < n) :
    ∃ g c, v = .slice (some ⟨g, 0, none⟩) n c ∧ base ≤ g ∧ w.cell? ⟨g, 0, none⟩ = some (.int .i64 (J[0]?.getD 0)) ∧ w.frozen? ⟨g, 0, none⟩ = false ∧
      ZsAt (w.setCell ⟨g, 0, none⟩ (.int .i64 (-1))) base (w.setCell ⟨g, 0, none⟩ (.int .i64 (-1))).heap.size (some ⟨g, 0, none⟩) n (J.set 0 (-1)) := by
  subst hn
  have h2 := h.2
  rcases h2 with ⟨h3, h4⟩ | ⟨g, c, cur, rfl, h4, h5, h6⟩
  · omega
  · refine ⟨g, c, rfl, h4, ?_, h.frozenAt 0, ?_⟩
    · rw [h.cellAt 0 (by omega), zcells_get hp]
    · have h7 := ownsRow_setAt (k := 0) h (.int .i64 (-1))
      rw [zcells_set, show J.length = (J.set 0 (-1)).length from (List.length_set ..).symm] at h7
      obtain ⟨p, c', e, hz⟩ := zsAt_own h7
      injection e with e1 e2 e3
      subst e1
      rw [List.length_set] at hz
      exact hz

/-- Out of what is put together to itself. -/
theorem own_ex {L0 L L' A : List ByteArray} {P0 P P' B : List (Int × Int)} {f g I J U : List Int} {r r1 : Int} (hp : PushV L0 P0 L P L' P' f g A B I J r) (hv : MedV L0 P0 L P L' P' f g A B I J U r1) :
    ((r = 10 ∨ r = 11) ∧ r1 = r) ∨ (r = 0 ∧ r1 = 0 ∧ PushA L0 L L' A P0 P P' B f g I J ∧ U = idL A.length) := by
  rcases hp.cases with ⟨h1, _⟩ | ⟨h1, hP⟩
  · rcases hv.cases hp with ⟨_, h3, _⟩ | ⟨h2, _⟩ | ⟨h2, _⟩ | ⟨h2, _⟩
    · exact .inl ⟨h1, h3⟩
    · omega
    · omega
    · omega
  · have hc : coneB L0 P0 L P L' P' f g A B I J = true := by
      unfold coneB
      rw [hP.af, hP.ag, hP.squ.ai, hP.squ.aj, decide_eq_true hP.squ.same]
      rfl
    have hs := hP.small
    rcases hv.cases hp with ⟨h2, _⟩ | ⟨_, h2, _⟩ | ⟨_, _, h2, _⟩ | ⟨_, _, _, h2, _, h3, h4, h5⟩
    · omega
    · omega
    · rw [hc] at h2; cases h2
    · refine .inr ⟨h1, h2, hP, way_only hP.reach (arB_parts h3).2.2.1 (idL_len _) ?_ ?_⟩
      · rw [h4, thenL_id2 (hP.thenI rfl).1]
      · rw [h5, thenL_id2 (hP.thenI rfl).2]
/-- With one place off it is no cocone. -/
theorem bad_ex {L0 L L' A : List ByteArray} {P0 P P' B : List (Int × Int)} {f g I J U : List Int} {r1 : Int} (hp : PushV L0 P0 L P L' P' f g A B I J 0) (hv : MedV L0 P0 L P L' P' f g A B I (J.set 0 (-1)) U r1) (hj : 0 < J.length) : r1 = 12 := by
  have hP := (hp.cases.resolve_left (fun h => by have := h.1; omega)).2
  have hc : coneB L0 P0 L P L' P' f g A B I (J.set 0 (-1)) = false := by
    cases h : coneB L0 P0 L P L' P' f g A B I (J.set 0 (-1))
    · rfl
    · have h2 := (coneB_parts h).2.2.2.1
      have h3 := (arB_hasZ h2).2 (-1) (by rw [List.mem_iff_getElem]; exact ⟨0, by rw [List.length_set]; exact hj, by rw [List.getElem_set, if_pos rfl]⟩)
      omega
  have hs := hP.small
  rcases hv.cases hp with ⟨h2, _⟩ | ⟨_, h2, _⟩ | ⟨_, _, _, h2, _⟩ | ⟨_, _, h2, _⟩
  · omega
  · omega
  · exact h2
  · rw [hc] at h2; cases h2

set_option maxRecDepth 20000 in
set_option maxHeartbeats 4000000 in
theorem coneOwn_in (p0 q0 p1 q1 p2 q2 pf pg : Option Addr) (n0 c0 m0 d0 n1 c1 m1 d1 n2 c2 m2 d2 nf cf ng cg : Nat) (lo0 hi0 lo1 hi1 lo2 hi2 lof hif log hig : Nat) (L0 L1 L2 : List ByteArray) (P0 P1 P2 : List (Int × Int)) (f g : List Int) (w : World) (a0 : ObjAt w lo0 hi0 p0 n0 q0 m0 L0 P0) (a1 : ObjAt w lo1 hi1 p1 n1 q1 m1 L1 P1) (a2 : ObjAt w lo2 hi2 p2 n2 q2 m2 L2 P2) (zf : ZsAt w lof hif pf nf f) (zg : ZsAt w log hig pg ng g) (g0 : n0 ≤ maxLen) (g1 : n1 ≤ maxLen) (g2 : n2 ≤ maxLen) (k1 : p1 = none → c1 = 0) (k2 : p2 = none → c2 = 0) (k3 : q1 = none → d1 = 0) (k4 : q2 = none → d2 = 0) (ht : Tab w) :
    Calls Tryd.prog 6 #[.agg #[.slice p0 n0 c0, .slice q0 m0 d0], .agg #[.slice p1 n1 c1, .slice q1 m1 d1], .agg #[.slice p2 n2 c2, .slice q2 m2 d2], .slice pf nf cf, .slice pg ng cg] w fun e w' => e = .returned (.bool true) ∧ w.grownBy w' none := by
  have A0 := Lib.hid a0
  have N0 := Lib.hid g0
  have LL0 := Lib.hid a0.ls.len
  have A1 := Lib.hid a1
  have N1 := Lib.hid g1
  have LL1 := Lib.hid a1.ls.len
  have A2 := Lib.hid a2
  have N2 := Lib.hid g2
  have LL2 := Lib.hid a2.ls.len
  have Zf := Lib.hid zf
  have Zg := Lib.hid zg
  have K1 := Lib.hid k1
  have K2 := Lib.hid k2
  have K3 := Lib.hid k3
  have K4 := Lib.hid k4
  have HT := Lib.hid ht
  clear a0 g0 a1 g1 a2 g2 zf zg k1 k2 k3 k4 ht
  go_enter Tryd.func6, Tryd.ntmps6
  go_wp2_with fail
  have he := boxEnv_three w (.slice p0 n0 c0) (.slice q0 m0 d0) (.slice p1 n1 c1) (.slice q1 m1 d1) (.slice p2 n2 c2) (.slice q2 m2 d2)
  generalize ((w.alloc (.cells #[.slice p0 n0 c0, .slice q0 m0 d0] 25)).alloc (.cells #[.slice p1 n1 c1, .slice q1 m1 d1] 25)).alloc (.cells #[.slice p2 n2 c2, .slice q2 m2 d2] 25) = W0 at *
  refine (known8_c _ (HT.out.grown he.1 (by simp))).mono ?_
  rintro e w1 ⟨rfl, hg1⟩
  have he1 := he.calm hg1
  have HE1 := Lib.hid he1
  obtain ⟨x00, x01, x10, x11, x20, x21⟩ := he1.three
  clear he hg1 he1
  go_wp2_with fail
  cases hfw : fewB L0 m0 with
  | false =>
    have HW := Lib.hid hfw
    clear hfw
    refine (few_r _ _ _ _ _ _ _ _ L0 P0 false _ (A0.out.calm HE1.out.1) N0.out HW.out).mono ?_
    rintro e w2 ⟨rfl, hg⟩
    have HG := Lib.hid (HE1.out.calm hg).1
    clear hg
    go_wp2
    go_ret
    exact ⟨rfl, HG.out⟩
  | true =>
    have HW0 := Lib.hid hfw
    clear hfw
    refine (few_r _ _ _ _ _ _ _ _ L0 P0 true _ (A0.out.calm HE1.out.1) N0.out HW0.out).mono ?_
    rintro e w2 ⟨rfl, hg⟩
    have he2 := HE1.out.calm hg
    have HE2 := Lib.hid he2
    obtain ⟨x00, x01, x10, x11, x20, x21⟩ := he2.three
    clear hg he2 HE1
    go_wp2_with fail
    cases hfw : fewB L1 m1 with
    | false =>
      have HW := Lib.hid hfw
      clear hfw
      refine (few_r _ _ _ _ _ _ _ _ L1 P1 false _ (A1.out.calm HE2.out.1) N1.out HW.out).mono ?_
      rintro e w3 ⟨rfl, hg⟩
      have HG := Lib.hid (HE2.out.calm hg).1
      clear hg
      go_wp2
      go_ret
      exact ⟨rfl, HG.out⟩
    | true =>
      have HW1 := Lib.hid hfw
      clear hfw
      refine (few_r _ _ _ _ _ _ _ _ L1 P1 true _ (A1.out.calm HE2.out.1) N1.out HW1.out).mono ?_
      rintro e w3 ⟨rfl, hg⟩
      have he3 := HE2.out.calm hg
      have HE3 := Lib.hid he3
      obtain ⟨x00, x01, x10, x11, x20, x21⟩ := he3.three
      clear hg he3 HE2
      go_wp2_with fail
      cases hfw : fewB L2 m2 with
      | false =>
        have HW := Lib.hid hfw
        clear hfw
        refine (few_r _ _ _ _ _ _ _ _ L2 P2 false _ (A2.out.calm HE3.out.1) N2.out HW.out).mono ?_
        rintro e w4 ⟨rfl, hg⟩
        have HG := Lib.hid (HE3.out.calm hg).1
        clear hg
        go_wp2
        go_ret
        exact ⟨rfl, HG.out⟩
      | true =>
        have HW2 := Lib.hid hfw
        clear hfw
        refine (few_r _ _ _ _ _ _ _ _ L2 P2 true _ (A2.out.calm HE3.out.1) N2.out HW2.out).mono ?_
        rintro e w4 ⟨rfl, hg⟩
        have he4 := HE3.out.calm hg
        have HE4 := Lib.hid he4
        obtain ⟨x00, x01, x10, x11, x20, x21⟩ := he4.three
        have HG := Lib.hid he4.1
        have HE := Lib.hid he4
        clear hg he4 HE3
        clear HE4
        by_cases h60 : 60 < nf
        · have d1 : (60 : Int) < nf := by omega
          go_wp2
          go_ret
          exact ⟨rfl, HG.out⟩
        have dnf : ¬ ((60 : Int) < nf) := by omega
        have bf : nf ≤ 60 := by omega
        clear h60
        by_cases h60 : 60 < ng
        · have d1 : (60 : Int) < ng := by omega
          go_wp2
          go_ret
          exact ⟨rfl, HG.out⟩
        have dng : ¬ ((60 : Int) < ng) := by omega
        have bg : ng ≤ 60 := by omega
        clear h60
        have kk0 : n0 ≤ 50 ∧ m0 ≤ 200 := by have := few_small HW0.out; rwa [LL0.out] at this
        have kk1 : n1 ≤ 50 ∧ m1 ≤ 200 := by have := few_small HW1.out; rwa [LL1.out] at this
        have kk2 : n2 ≤ 50 ∧ m2 ≤ 200 := by have := few_small HW2.out; rwa [LL2.out] at this
        obtain ⟨A, B, I, J, r, hp⟩ := pushV_ex L0 P0 L1 P1 L2 P2 f g
        obtain ⟨U, r1, hv⟩ := medV_ex L0 P0 L1 P1 L2 P2 f g A B I J
        have HP := Lib.hid hp
        have HV := Lib.hid hv
        have HCS := Lib.hid (own_ex hp hv)
        have HSZ := Lib.hid (show A.length ≤ 40 ∧ B.length ≤ 1600 ∧ I.length ≤ 50 ∧ J.length ≤ 50 by
          rcases hp.cases with ⟨_, h1, h2, h3, h4⟩ | ⟨_, hP⟩
          · rw [h1, h2, h3, h4]; simp
          · have a1 := hP.few
            have a2 := hP.squ.il
            have a3 := hP.squ.jl
            have a4 := hP.small
            have a5 := hP.pairs
            omega)
        clear hp hv
        obtain ⟨NA, hNA⟩ : ∃ NA, A.length = NA := ⟨_, rfl⟩
        obtain ⟨NB, hNB⟩ : ∃ NB, B.length = NB := ⟨_, rfl⟩
        obtain ⟨NI, hNI⟩ : ∃ NI, I.length = NI := ⟨_, rfl⟩
        obtain ⟨NJ, hNJ⟩ : ∃ NJ, J.length = NJ := ⟨_, rfl⟩
        have HNA := Lib.hid hNA
        have HNB := Lib.hid hNB
        have HNI := Lib.hid hNI
        have HNJ := Lib.hid hNJ
        have hs := HSZ.out
        rw [hNA, hNB, hNI, hNJ] at hs
        clear hNA hNB hNI hNJ HSZ
        go_wp2_with fail
        have he := HE.out
        refine (refPush_v p0 q0 p1 q1 p2 q2 pf pg n0 c0 m0 d0 n1 c1 m1 d1 n2 c2 m2 d2 nf cf ng cg _ _ _ _ _ _ _ _ _ _ L0 L1 L2 P0 P1 P2 f g A B I J r _ HP.out (A0.out.calm he.1) (A1.out.calm he.1) (A2.out.calm he.1) (Zf.out.calm he.1) (Zg.out.calm he.1) kk0 kk1 kk2 bf bg K1.out K2.out K3.out).mono ?_
        rintro e v2 ⟨p5, c5, q5, d5, pi, ci, pj, cj, rfl, ho, hi, hj, hg⟩
        rw [HNA.out, HNB.out] at ho ⊢
        rw [HNI.out] at hi ⊢
        rw [HNJ.out] at hj ⊢
        have hga := World.grownBy_alloc v2 (.cells #[.slice p5 NA c5, .slice q5 NB d5] 25) none
        have hbo := BoxO.new v2 (.slice p5 NA c5) (.slice q5 NB d5)
        have hg2 := grownBy_trans hg hga
        have he6 := he.calm hg2
        have HE6 := Lib.hid he6
        have HO6 := Lib.hid (ho.calm hga)
        have HI6 := Lib.hid (hi.calm hga)
        have HJ6 := Lib.hid (hj.calm hga)
        have HB6 := Lib.hid hbo
        have y0 := hbo.c0
        have y1 := hbo.c1
        obtain ⟨x00, x01, x10, x11, x20, x21⟩ := he6.three
        clear he ho hi hj hg hga hbo hg2 he6 HE HG
        rcases HCS.out with ⟨hr, rfl⟩ | ⟨rfl, rfl, hP, hU⟩
        · rcases hr with rfl | rfl
          all_goals
            go_wp2_with fail
            have he7 := HE6.out
            refine (med_v p0 q0 p1 q1 p2 q2 p5 q5 pf pg pi pj n0 c0 m0 d0 n1 c1 m1 d1 n2 c2 m2 d2 NA c5 NB d5 nf cf ng cg NI ci NJ cj _ _ _ _ _ _ _ _ _ _ _ _ _ _ _ _ L0 L1 L2 A P0 P1 P2 B f g I J U _ _ HV.out (A0.out.calm he7.1) (A1.out.calm he7.1) (A2.out.calm he7.1) HO6.out (Zf.out.calm he7.1) (Zg.out.calm he7.1) HI6.out HJ6.out kk0 kk1 kk2 bf bg (by omega) (by omega) (by omega) K1.out K2.out K3.out (HT.out.grown he7.1 (by simp))).mono ?_
            rintro e v3 ⟨pu, cu, rfl, _, hg⟩
            have HF := Lib.hid (he7.calm hg).1
            clear hg he7
            go_wp2
            go_ret
            exact ⟨rfl, HF.out⟩
        · have HUU := Lib.hid hU
          have HCH := Lib.hid (show (chk A B == 0) = true by rw [(arB_chk hP.squ.ai).2]; rfl)
          have hUL : U.length = NA := by rw [hU, idL_len]; exact HNA.out
          clear hU hP
          go_wp2_with fail
          generalize v2.alloc (.cells #[.slice p5 NA c5, .slice q5 NB d5] 25) = v3 at *
          generalize v2.heap.size = gq at *
          have he7 := HE6.out
          refine (med_v p0 q0 p1 q1 p2 q2 p5 q5 pf pg pi pj n0 c0 m0 d0 n1 c1 m1 d1 n2 c2 m2 d2 NA c5 NB d5 nf cf ng cg NI ci NJ cj _ _ _ _ _ _ _ _ _ _ _ _ _ _ _ _ L0 L1 L2 A P0 P1 P2 B f g I J U 0 _ HV.out (A0.out.calm he7.1) (A1.out.calm he7.1) (A2.out.calm he7.1) HO6.out (Zf.out.calm he7.1) (Zg.out.calm he7.1) HI6.out HJ6.out kk0 kk1 kk2 bf bg (by omega) (by omega) (by omega) K1.out K2.out K3.out (HT.out.grown he7.1 (by simp))).mono ?_
          rintro e v4 ⟨pu, cu, rfl, hu, hg⟩
          rw [hUL] at hu ⊢
          have hu' : ZsAt v4 v3.heap.size v4.heap.size pu NA (idL NA) := by have := hu; rwa [HUU.out, HNA.out] at this
          have HU7 := Lib.hid hu'
          have HG7 := Lib.hid hg
          have HJ7 := Lib.hid (HJ6.out.calm hg)
          clear hu hu' hg he7 hUL x00 x01 x10 x11 x20 x21 y0 y1
          obtain ⟨i0, hi0, hz0, hz1, hz2⟩ := info_parts Tryd.infoZ3
          rcases Nat.eq_zero_or_pos NJ with hj0 | hj0
          · subst hj0
            have hJn : J = [] := List.eq_nil_of_length_eq_zero HNJ.out
            have HNZ := Lib.hid (show ∀ W, ZsAt W 0 0 none 0 J from fun W => by rw [hJn]; exact zsAt_nil _ _ _)
            clear hJn
            cases pj with
            | none =>
              go_upto_region 13 with (at_builtin; refine wpList_append_nil0 rfl _ _ 26 rfl 3 i0 Tryd.underlying26 hi0 cj rfl rfl ?_)
              have HGA := Lib.hid HG7.out
              have HUA := Lib.hid HU7.out
              clear HG7 HU7
              have he9 := HE6.out.calm HGA.out
              have hb9 := HB6.out.calm HGA.out
              have y0 := hb9.c0
              have y1 := hb9.c1
              obtain ⟨x00, x01, x10, x11, x20, x21⟩ := he9.three
              clear hb9
              go_wp2_with fail
              refine (med_v p0 q0 p1 q1 p2 q2 p5 q5 pf pg pi none n0 c0 m0 d0 n1 c1 m1 d1 n2 c2 m2 d2 NA c5 NB d5 nf cf ng cg NI ci 0 0 _ _ _ _ _ _ _ _ _ _ _ _ _ _ _ _ L0 L1 L2 A P0 P1 P2 B f g I J U 0 _ HV.out (A0.out.calm he9.1) (A1.out.calm he9.1) (A2.out.calm he9.1) (HO6.out.calm HGA.out) (Zf.out.calm he9.1) (Zg.out.calm he9.1) (HI6.out.calm HGA.out) (HNZ.out _) kk0 kk1 kk2 bf bg (by omega) (by omega) (by omega) K1.out K2.out K3.out (HT.out.grown he9.1 (by simp))).mono ?_
              rintro e vm ⟨pm, cm, rfl, _, hg⟩
              have HGB := Lib.hid (grownBy_trans HGA.out hg)
              have HU9 := Lib.hid (HUA.out.calm hg)
              have hbB := HB6.out.calm HGB.out
              have y0 := hbB.c0
              have y1 := hbB.c1
              clear hg he9 hbB HGA HUA x00 x01 x10 x11 x20 x21
              go_wp2_with fail
              refine (ident_c (NA : Int) NA _ (idN_nat hs.1)).mono ?_
              rintro e vx ⟨g8, rfl, _, hr8, hg⟩
              have HGX := Lib.hid (grownBy_trans HGB.out hg)
              have huX := HU9.out.calm hg
              have hiX := hr8.at1
              rw [idL_len] at hiX ⊢
              clear hg hr8
              go_wp2_with fail
              refine (arSame_r _ _ _ _ _ _ _ _ _ _ (idL NA) (idL NA) true _ huX hiX (by omega) (by simp)).mono ?_
              rintro e vy ⟨rfl, hg⟩
              have HGY := Lib.hid (grownBy_trans HGX.out hg)
              have hby := HB6.out.calm HGY.out
              have y0 := hby.c0
              have y1 := hby.c1
              have hoy := HO6.out.calm HGY.out
              clear hg huX hiX hby HGX
              go_wp2_with fail
              refine (refIs_c p5 q5 NA c5 NB d5 _ _ A B true _ hoy (by omega) HCH.out).mono ?_
              rintro e vz ⟨rfl, hg⟩
              have HF := Lib.hid (HE6.out.calm (grownBy_trans HGY.out hg)).1
              clear hg hoy
              go_wp2
              go_ret
              exact ⟨rfl, HF.out⟩
            | some ad =>
              have HNEWS := Lib.hid (zs_news HJ7.out)
              go_upto_region 13 with (at_builtin; refine wpList_append_own _ rfl _ _ 26 rfl v4.heap.size 3 i0 (.int .i64 0) 1 8 Tryd.underlying26 hi0 hz0 hz1 hz2 rfl (by decide) (.slice none 0 0) 0 [] rfl (World.ownsRow_nil _ _ _ _) ad 0 cj (zcells J) rfl (by rw [zcells_len, HNJ.out]) HNEWS.out (zcells_one J) (by unfold maxLen; omega) (by omega) (Nat.le_refl _) ?_; intro v' w5 hown hgrow hnil; obtain rfl := hnil.2 ⟨rfl, rfl⟩; have HGROW := Lib.hid hgrow; clear hown hgrow hnil)
              have HGA := Lib.hid (grownBy_trans HG7.out (by simpa [Value.ownBlock] using HGROW.out))
              have HUA := Lib.hid (HU7.out.calm (show v4.grownBy w5 none by simpa [Value.ownBlock] using HGROW.out))
              clear HG7 HU7 HGROW
              have he9 := HE6.out.calm HGA.out
              have hb9 := HB6.out.calm HGA.out
              have y0 := hb9.c0
              have y1 := hb9.c1
              obtain ⟨x00, x01, x10, x11, x20, x21⟩ := he9.three
              clear hb9
              go_wp2_with fail
              refine (med_v p0 q0 p1 q1 p2 q2 p5 q5 pf pg pi none n0 c0 m0 d0 n1 c1 m1 d1 n2 c2 m2 d2 NA c5 NB d5 nf cf ng cg NI ci 0 0 _ _ _ _ _ _ _ _ _ _ _ _ _ _ _ _ L0 L1 L2 A P0 P1 P2 B f g I J U 0 _ HV.out (A0.out.calm he9.1) (A1.out.calm he9.1) (A2.out.calm he9.1) (HO6.out.calm HGA.out) (Zf.out.calm he9.1) (Zg.out.calm he9.1) (HI6.out.calm HGA.out) (HNZ.out _) kk0 kk1 kk2 bf bg (by omega) (by omega) (by omega) K1.out K2.out K3.out (HT.out.grown he9.1 (by simp))).mono ?_
              rintro e vm ⟨pm, cm, rfl, _, hg⟩
              have HGB := Lib.hid (grownBy_trans HGA.out hg)
              have HU9 := Lib.hid (HUA.out.calm hg)
              have hbB := HB6.out.calm HGB.out
              have y0 := hbB.c0
              have y1 := hbB.c1
              clear hg he9 hbB HGA HUA x00 x01 x10 x11 x20 x21
              go_wp2_with fail
              refine (ident_c (NA : Int) NA _ (idN_nat hs.1)).mono ?_
              rintro e vx ⟨g8, rfl, _, hr8, hg⟩
              have HGX := Lib.hid (grownBy_trans HGB.out hg)
              have huX := HU9.out.calm hg
              have hiX := hr8.at1
              rw [idL_len] at hiX ⊢
              clear hg hr8
              go_wp2_with fail
              refine (arSame_r _ _ _ _ _ _ _ _ _ _ (idL NA) (idL NA) true _ huX hiX (by omega) (by simp)).mono ?_
              rintro e vy ⟨rfl, hg⟩
              have HGY := Lib.hid (grownBy_trans HGX.out hg)
              have hby := HB6.out.calm HGY.out
              have y0 := hby.c0
              have y1 := hby.c1
              have hoy := HO6.out.calm HGY.out
              clear hg huX hiX hby HGX
              go_wp2_with fail
              refine (refIs_c p5 q5 NA c5 NB d5 _ _ A B true _ hoy (by omega) HCH.out).mono ?_
              rintro e vz ⟨rfl, hg⟩
              have HF := Lib.hid (HE6.out.calm (grownBy_trans HGY.out hg)).1
              clear hg hoy
              go_wp2
              go_ret
              exact ⟨rfl, HF.out⟩
          · obtain ⟨bj, oj, rfl, _, _, _, _⟩ := HJ7.out.cell hj0
            have HNEWS := Lib.hid (zs_news HJ7.out)
            have HBAD := Lib.hid (show ∃ U3 r3, MedV L0 P0 L1 P1 L2 P2 f g A B I (J.set 0 (-1)) U3 r3 ∧ r3 = 12 by
              obtain ⟨U3, r3, h3⟩ := medV_ex L0 P0 L1 P1 L2 P2 f g A B I (J.set 0 (-1))
              exact ⟨U3, r3, h3, bad_ex HP.out h3 (by rw [HNJ.out]; exact hj0)⟩)
            have jj : (0 : Int) < NJ := by omega
            go_upto_region 13 with (at_builtin; refine wpList_append_own _ rfl _ _ 26 rfl v4.heap.size 3 i0 (.int .i64 0) 1 8 Tryd.underlying26 hi0 hz0 hz1 hz2 rfl (by decide) (.slice none 0 0) 0 [] rfl (World.ownsRow_nil _ _ _ _) ⟨bj, oj, none⟩ NJ cj (zcells J) rfl (by rw [zcells_len, HNJ.out]; omega) HNEWS.out (zcells_one J) (by unfold maxLen; omega) (by omega) (Nat.le_refl _) ?_; intro v' w5 hown hgrow _; obtain ⟨gb, cb, rfl, hgb, hcell, hfroz, hset⟩ := bad_row (by rw [Nat.zero_add, List.nil_append] at hown; exact hown) HNJ.out hj0; have HGROW := Lib.hid hgrow; have HSET := Lib.hid hset; have HGBL := Lib.hid hgb; clear hown hgrow hset)
            have HGA0 := Lib.hid (show v4.grownBy w5 none by simpa [Value.ownBlock] using HGROW.out)
            have HGS := Lib.hid (grownBy_setCell w5 ⟨gb, 0, none⟩ (.int .i64 (-1)))
            have HGA1 := Lib.hid (show v4.grownBy (w5.setCell ⟨gb, 0, none⟩ (.int .i64 (-1))) none from grownBy_new HGA0.out HGS.out HGBL.out)
            have HGA := Lib.hid (grownBy_trans HG7.out HGA1.out)
            have HUA := Lib.hid (HU7.out.calm HGA1.out)
            clear HG7 HU7 HGROW HGA0 HGS HGA1 hgb
            obtain ⟨U3, r3, hv3, rfl⟩ := HBAD.out
            have HV3 := Lib.hid hv3
            clear hv3 hcell hfroz HBAD
            generalize w5.setCell ⟨gb, 0, none⟩ (.int .i64 (-1)) = w9 at *
            have he9 := HE6.out.calm HGA.out
            have hb9 := HB6.out.calm HGA.out
            have y0 := hb9.c0
            have y1 := hb9.c1
            obtain ⟨x00, x01, x10, x11, x20, x21⟩ := he9.three
            clear hb9
            go_wp2_with fail
            refine (med_v p0 q0 p1 q1 p2 q2 p5 q5 pf pg pi (some ⟨gb, 0, none⟩) n0 c0 m0 d0 n1 c1 m1 d1 n2 c2 m2 d2 NA c5 NB d5 nf cf ng cg NI ci NJ cb _ _ _ _ _ _ _ _ _ _ _ _ _ _ _ _ L0 L1 L2 A P0 P1 P2 B f g I (J.set 0 (-1)) U3 12 _ HV3.out (A0.out.calm he9.1) (A1.out.calm he9.1) (A2.out.calm he9.1) (HO6.out.calm HGA.out) (Zf.out.calm he9.1) (Zg.out.calm he9.1) (HI6.out.calm HGA.out) HSET.out kk0 kk1 kk2 bf bg (by omega) (by omega) (by omega) K1.out K2.out K3.out (HT.out.grown he9.1 (by simp))).mono ?_
            rintro e vm ⟨pm, cm, rfl, _, hg⟩
            have HGB := Lib.hid (grownBy_trans HGA.out hg)
            have HU9 := Lib.hid (HUA.out.calm hg)
            have hbB := HB6.out.calm HGB.out
            have y0 := hbB.c0
            have y1 := hbB.c1
            clear hg he9 hbB HGA HUA x00 x01 x10 x11 x20 x21
            go_wp2_with fail
            refine (ident_c (NA : Int) NA _ (idN_nat hs.1)).mono ?_
            rintro e vx ⟨g8, rfl, _, hr8, hg⟩
            have HGX := Lib.hid (grownBy_trans HGB.out hg)
            have huX := HU9.out.calm hg
            have hiX := hr8.at1
            rw [idL_len] at hiX ⊢
            clear hg hr8
            go_wp2_with fail
            refine (arSame_r _ _ _ _ _ _ _ _ _ _ (idL NA) (idL NA) true _ huX hiX (by omega) (by simp)).mono ?_
            rintro e vy ⟨rfl, hg⟩
            have HGY := Lib.hid (grownBy_trans HGX.out hg)
            have hby := HB6.out.calm HGY.out
            have y0 := hby.c0
            have y1 := hby.c1
            have hoy := HO6.out.calm HGY.out
            clear hg huX hiX hby HGX
            go_wp2_with fail
            refine (refIs_c p5 q5 NA c5 NB d5 _ _ A B true _ hoy (by omega) HCH.out).mono ?_
            rintro e vz ⟨rfl, hg⟩
            have HF := Lib.hid (HE6.out.calm (grownBy_trans HGY.out hg)).1
            clear hg hoy
            go_wp2
            go_ret
            exact ⟨rfl, HF.out⟩

end Go.Proofs.YtgpcakcjiaoimaaDoor
