/- The walk of the statement PushTells: at every input it answers true and leaves all that lay as it lay. Condition: the table of the lowest places is in memory. -/
import Derived.Test.YtihkjgiaajgkpaaDoorBoth7
import Derived.Test.YtihkjgiaajgkpaaDoorEquals7
namespace Go.Proofs.YtihkjgiaajgkpaaDoor
open Go.RowKit

set_option maxRecDepth 20000 in
set_option maxHeartbeats 4000000 in
theorem pushTells_in (p0 q0 p q p' q' pf pg : Option Addr) (n0 c0 m0 d0 n c m d n' c' m' d' nf cf ng cg : Nat) (lo0 hi0 lo hi lo' hi' lof hif log hig : Nat) (L0 L L' : List ByteArray) (P0 P P' : List (Int × Int)) (f g : List Int) (w : World) (h0 : ObjAt w lo0 hi0 p0 n0 q0 m0 L0 P0) (h : ObjAt w lo hi p n q m L P) (h' : ObjAt w lo' hi' p' n' q' m' L' P') (hf : ZsAt w lof hif pf nf f) (hg : ZsAt w log hig pg ng g) (hn0 : n0 ≤ maxLen) (hn : n ≤ maxLen) (hn' : n' ≤ maxLen) (hp0 : p = none → c = 0) (hp0' : p' = none → c' = 0) (hq0 : q = none → d = 0) (ht : Tab w) :
    Calls Tryd.prog 3 #[.agg #[.slice p0 n0 c0, .slice q0 m0 d0], .agg #[.slice p n c, .slice q m d], .agg #[.slice p' n' c', .slice q' m' d'], .slice pf nf cf, .slice pg ng cg] w fun e w' => e = .returned (.bool true) ∧ w.grownBy w' none := by
  have HB := Lib.hid (fun a b e1 e2 e3 e4 e5 e6 => pushBoth p0 q0 p q p' q' pf pg n0 c0 m0 d0 n c m d n' c' m' d' nf cf ng cg lo0 hi0 lo hi lo' hi' lof hif log hig L0 L L' P0 P P' f g a b e1 e2 e3 e4 e5 e6 h0.ls.len h.ls.len h'.ls.len h.ps.len h'.ps.len hf.len hg.len hp0 hp0' hq0)
  have H0 := Lib.hid h0
  have H := Lib.hid h
  have H' := Lib.hid h'
  have HF := Lib.hid hf
  have HG0 := Lib.hid hg
  have HT := Lib.hid ht
  have HN0 := Lib.hid hn0
  have HN := Lib.hid hn
  have HN' := Lib.hid hn'
  have HLL0 := Lib.hid h0.ls.len
  have HLL := Lib.hid h.ls.len
  have HLL' := Lib.hid h'.ls.len
  clear h0 h h' hf hg ht hn0 hn hn' hp0 hp0' hq0
  go_enter Tryd.func3, Tryd.ntmps3
  go_wp2_with fail
  have he := boxEnv_three w (.slice p0 n0 c0) (.slice q0 m0 d0) (.slice p n c) (.slice q m d) (.slice p' n' c') (.slice q' m' d')
  generalize ((w.alloc (.cells #[.slice p0 n0 c0, .slice q0 m0 d0] 25)).alloc (.cells #[.slice p n c, .slice q m d] 25)).alloc (.cells #[.slice p' n' c', .slice q' m' d'] 25) = W0 at *
  refine (known7_c _ (HT.out.grown he.1 (by simp))).mono ?_
  rintro e w1 ⟨rfl, hg1⟩
  have he1 := he.calm hg1
  have HE1 := Lib.hid he1
  obtain ⟨a00, a01, b00, b01, b10, b11⟩ := he1.three
  clear he hg1 he1
  go_wp2_with fail
  cases hfw : fewB L0 m0 with
  | false =>
    have HW := Lib.hid hfw
    clear hfw
    refine (few7_r _ _ _ _ _ _ _ _ L0 P0 false _ (H0.out.calm HE1.out.1) HN0.out HW.out).mono ?_
    rintro e w2 ⟨rfl, hg2⟩
    have HG := Lib.hid (HE1.out.calm hg2).1
    clear hg2
    go_wp2
    go_ret
    exact ⟨rfl, HG.out⟩
  | true =>
    have HW0 := Lib.hid hfw
    clear hfw
    refine (few7_r _ _ _ _ _ _ _ _ L0 P0 true _ (H0.out.calm HE1.out.1) HN0.out HW0.out).mono ?_
    rintro e w2 ⟨rfl, hg2⟩
    have he2 := HE1.out.calm hg2
    have HE2 := Lib.hid he2
    obtain ⟨a00, a01, b00, b01, b10, b11⟩ := he2.three
    clear hg2 he2 HE1
    go_wp2_with fail
    cases hfw : fewB L m with
    | false =>
      have HW := Lib.hid hfw
      clear hfw
      refine (few7_r _ _ _ _ _ _ _ _ L P false _ (H.out.calm HE2.out.1) HN.out HW.out).mono ?_
      rintro e w3 ⟨rfl, hg3⟩
      have HG := Lib.hid (HE2.out.calm hg3).1
      clear hg3
      go_wp2
      go_ret
      exact ⟨rfl, HG.out⟩
    | true =>
      have HW := Lib.hid hfw
      clear hfw
      refine (few7_r _ _ _ _ _ _ _ _ L P true _ (H.out.calm HE2.out.1) HN.out HW.out).mono ?_
      rintro e w3 ⟨rfl, hg3⟩
      have he3 := HE2.out.calm hg3
      have HE3 := Lib.hid he3
      obtain ⟨a00, a01, b00, b01, b10, b11⟩ := he3.three
      clear hg3 he3 HE2
      go_wp2_with fail
      cases hfw : fewB L' m' with
      | false =>
        have HW' := Lib.hid hfw
        clear hfw
        refine (few7_r _ _ _ _ _ _ _ _ L' P' false _ (H'.out.calm HE3.out.1) HN'.out HW'.out).mono ?_
        rintro e w4 ⟨rfl, hg4⟩
        have HG := Lib.hid (HE3.out.calm hg4).1
        clear hg4
        go_wp2
        go_ret
        exact ⟨rfl, HG.out⟩
      | true =>
        have HW' := Lib.hid hfw
        clear hfw
        refine (few7_r _ _ _ _ _ _ _ _ L' P' true _ (H'.out.calm HE3.out.1) HN'.out HW'.out).mono ?_
        rintro e w4 ⟨rfl, hg4⟩
        have he4 := HE3.out.calm hg4
        have HE4 := Lib.hid he4
        obtain ⟨a00, a01, b00, b01, b10, b11⟩ := he4.three
        have HG := Lib.hid he4.1
        clear hg4 he4 HE3
        by_cases h60 : 60 < nf
        · have d1 : (60 : Int) < nf := by omega
          go_wp2
          go_ret
          exact ⟨rfl, HG.out⟩
        have d1 : ¬ ((60 : Int) < nf) := by omega
        by_cases h61 : 60 < ng
        · have d2 : (60 : Int) < ng := by omega
          go_wp2
          go_ret
          exact ⟨rfl, HG.out⟩
        have d2 : ¬ ((60 : Int) < ng) := by omega
        obtain ⟨A, B, I, J, r, hsz, hpush, href⟩ := by
          have k0 : n0 ≤ 50 ∧ m0 ≤ 200 := by have := few_small HW0.out; rwa [HLL0.out] at this
          have k1 : n ≤ 50 ∧ m ≤ 200 := by have := few_small HW.out; rwa [HLL.out] at this
          have k2 : n' ≤ 50 ∧ m' ≤ 200 := by have := few_small HW'.out; rwa [HLL'.out] at this
          exact HB.out k0.1 k1.1 k2.1 k0.2 k1.2 k2.2 (by omega) (by omega)
        have HSZ := Lib.hid hsz
        have HPU := Lib.hid hpush
        have HRE := Lib.hid href
        clear hsz hpush href HB
        go_wp2_with fail
        have he4 := HE4.out
        refine (HPU.out _ (H0.out.calm he4.1) (H.out.calm he4.1) (H'.out.calm he4.1) (HF.out.calm he4.1) (HG0.out.calm he4.1) (HT.out.grown he4.1 (by simp))).mono ?_
        rintro e w5 ⟨p5, c5, q5, d5, pi, ci, pj, cj, rfl, ho5, hi5, hj5, _, _, hg5⟩
        have he5 := he4.calm hg5
        have hga := World.grownBy_alloc w5 (.cells #[.slice p5 A.length c5, .slice q5 B.length d5] 25) none
        have hbo := BoxO.new w5 (.slice p5 A.length c5) (.slice q5 B.length d5)
        have he6 := he5.calm hga
        have HO6 := Lib.hid (ho5.calm hga)
        have HI6 := Lib.hid (hi5.calm hga)
        have HJ6 := Lib.hid (hj5.calm hga)
        have HE6 := Lib.hid he6
        have HBO := Lib.hid hbo
        obtain ⟨a00, a01, b00, b01, b10, b11⟩ := he6.three
        clear he4 ho5 hi5 hj5 hg5 he5 hga hbo he6 HPU HE4 HG
        go_wp2_with fail
        generalize w5.alloc (.cells #[.slice p5 A.length c5, .slice q5 B.length d5] 25) = w6 at *
        have he6 := HE6.out
        refine (HRE.out _ (H0.out.calm he6.1) (H.out.calm he6.1) (H'.out.calm he6.1) (HF.out.calm he6.1) (HG0.out.calm he6.1)).mono ?_
        rintro e w7 ⟨p7, c7, q7, d7, pk, ck, pl, cl, rfl, ho7, hk7, hl7, hg7⟩
        have he7 := he6.calm hg7
        have hga := World.grownBy_alloc w7 (.cells #[.slice p7 A.length c7, .slice q7 B.length d7] 25) none
        have hbo := BoxO.new w7 (.slice p7 A.length c7) (.slice q7 B.length d7)
        have g78 := grownBy_trans hg7 hga
        have hb6 := HBO.out.calm g78
        have HE8 := Lib.hid (he7.calm hga)
        have HO7 := Lib.hid (ho7.calm hga)
        have HK7 := Lib.hid (hk7.calm hga)
        have HL7 := Lib.hid (hl7.calm hga)
        have HO8 := Lib.hid (HO6.out.calm g78)
        have HI8 := Lib.hid (HI6.out.calm g78)
        have HJ8 := Lib.hid (HJ6.out.calm g78)
        have x0 := hb6.c0
        have x1 := hb6.c1
        have y0 := hbo.c0
        have y1 := hbo.c1
        have hz1 := HSZ.out.1
        have hz2 := HSZ.out.2.1
        have hz3 := HSZ.out.2.2.1
        have hz4 := HSZ.out.2.2.2
        clear he6 ho7 hk7 hl7 hg7 he7 hga hbo g78 hb6 HRE HO6 HI6 HJ6 HE6 HBO a00 a01 b00 b01 b10 b11
        go_wp2_with fail
        generalize w7.alloc (.cells #[.slice p7 A.length c7, .slice q7 B.length d7] 25) = w8 at *
        refine (refSame_r p5 q5 p7 q7 A.length c5 B.length d5 A.length c7 B.length d7 _ _ _ _ A A B B true _ HO8.out HO7.out hz1 hz2 (by simp)).mono ?_
        rintro e w9 ⟨rfl, hg9⟩
        have HE9 := Lib.hid (HE8.out.calm hg9).1
        have hi9 := HI8.out.calm hg9
        have hk9 := HK7.out.calm hg9
        have HJ9 := Lib.hid (HJ8.out.calm hg9)
        have HL9 := Lib.hid (HL7.out.calm hg9)
        clear hg9 x0 x1 y0 y1
        go_wp2_with fail
        refine (alike_r pi pk I.length I.length ci ck _ _ _ _ I I true _ hi9 hk9 hz3 (by simp)).mono ?_
        rintro e wA ⟨rfl, hgA⟩
        have HEA := Lib.hid (grownBy_trans HE9.out hgA)
        have hjA := HJ9.out.calm hgA
        have hlA := HL9.out.calm hgA
        clear hgA hi9 hk9
        go_wp2_with fail
        refine (alike_r pj pl J.length J.length cj cl _ _ _ _ J J true _ hjA hlA hz4 (by simp)).mono ?_
        rintro e wB ⟨rfl, hgB⟩
        have HEB := Lib.hid (grownBy_trans HEA.out hgB)
        clear hgB hjA hlA
        go_wp2
        go_ret
        exact ⟨rfl, HEB.out⟩

end Go.Proofs.YtihkjgiaajgkpaaDoor
