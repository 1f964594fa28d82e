/- The walk of the statement PushSums: at every input it answers true and leaves all that lay as it lay. Condition: the table of the lowest places is in memory. -/
import Derived.Test.YtihkjgiaajgkpaaDoorBoth7
import Derived.Test.YtihkjgiaajgkpaaDoorEquals7
namespace Go.Proofs.YtihkjgiaajgkpaaDoor
open Go.RowKit

set_option maxRecDepth 20000 in
set_option maxHeartbeats 4000000 in
theorem pushSums_in (p q p' q' pf pg : Option Addr) (n c m d n' c' m' d' nf cf ng cg : Nat) (lo hi lo' hi' lof hif log hig : Nat) (L L' : List ByteArray) (P P' : List (Int × Int)) (f g : List Int) (w : World) (h : ObjAt w lo hi p n q m L P) (h' : ObjAt w lo' hi' p' n' q' m' L' P') (hf : ZsAt w lof hif pf nf f) (hg : ZsAt w log hig pg ng g) (hn : n ≤ maxLen) (hn' : n' ≤ maxLen) (hp0 : p = none → c = 0) (hp0' : p' = none → c' = 0) (hq0 : q = none → d = 0) (ht : Tab w) :
    Calls Tryd.prog 4 #[.agg #[.slice p n c, .slice q m d], .agg #[.slice p' n' c', .slice q' m' d'], .slice pf nf cf, .slice pg ng cg] w fun e w' => e = .returned (.bool true) ∧ w.grownBy w' none := by
  have HB := Lib.hid (fun a b e1 e2 => sumBoth p q p' q' n c m d n' c' m' d' lo hi lo' hi' L L' P P' a b e1 e2 h.ls.len h'.ls.len h.ps.len h'.ps.len hp0 hp0' hq0)
  have HC := Lib.hid (fun a b e1 e2 e3 e4 => eqlBoth p q p' q' pf pg n c m d n' c' m' d' nf cf ng cg lo hi lo' hi' lof hif log hig L L' P P' f g a b e1 e2 e3 e4 h.ls.len h'.ls.len hf.len hg.len)
  have H := Lib.hid h
  have H' := Lib.hid h'
  have HF := Lib.hid hf
  have HG0 := Lib.hid hg
  have HT := Lib.hid ht
  have HN := Lib.hid hn
  have HN' := Lib.hid hn'
  have HLL := Lib.hid h.ls.len
  have HLL' := Lib.hid h'.ls.len
  clear h h' hf hg ht hn hn' hp0 hp0' hq0
  go_enter Tryd.func4, Tryd.ntmps4
  go_wp2_with fail
  have he := boxEnv_two w (.slice p n c) (.slice q m d) (.slice p' n' c') (.slice q' m' d')
  generalize (w.alloc (.cells #[.slice p n c, .slice q m d] 25)).alloc (.cells #[.slice p' n' c', .slice q' m' d'] 25) = W0 at *
  refine (known7_c _ (HT.out.grown he.1 (by simp))).mono ?_
  rintro e w2 ⟨rfl, hg2⟩
  have he2 := he.calm hg2
  have HE2 := Lib.hid he2
  obtain ⟨b00, b01, b10, b11⟩ := he2.four
  clear he hg2 he2
  go_wp2_with fail
  cases hfw : fewB L m with
  | false =>
    have HW := Lib.hid hfw
    clear hfw
    refine (few7_r _ _ _ _ _ _ _ _ L P false _ (H.out.calm HE2.out.1) HN.out HW.out).mono ?_
    rintro e w3 ⟨rfl, hg3⟩
    have HG := Lib.hid (HE2.out.calm hg3).1
    clear hg3
    go_wp2
    go_ret
    exact ⟨rfl, HG.out⟩
  | true =>
    have HW := Lib.hid hfw
    clear hfw
    refine (few7_r _ _ _ _ _ _ _ _ L P true _ (H.out.calm HE2.out.1) HN.out HW.out).mono ?_
    rintro e w3 ⟨rfl, hg3⟩
    have he3 := HE2.out.calm hg3
    have HE3 := Lib.hid he3
    obtain ⟨b00, b01, b10, b11⟩ := he3.four
    clear hg3 he3 HE2
    go_wp2_with fail
    cases hfw : fewB L' m' with
    | false =>
      have HW' := Lib.hid hfw
      clear hfw
      refine (few7_r _ _ _ _ _ _ _ _ L' P' false _ (H'.out.calm HE3.out.1) HN'.out HW'.out).mono ?_
      rintro e w4 ⟨rfl, hg4⟩
      have HG := Lib.hid (HE3.out.calm hg4).1
      clear hg4
      go_wp2
      go_ret
      exact ⟨rfl, HG.out⟩
    | true =>
      have HW' := Lib.hid hfw
      clear hfw
      refine (few7_r _ _ _ _ _ _ _ _ L' P' true _ (H'.out.calm HE3.out.1) HN'.out HW'.out).mono ?_
      rintro e w4 ⟨rfl, hg4⟩
      have he4 := HE3.out.calm hg4
      have HE4 := Lib.hid he4
      obtain ⟨b00, b01, b10, b11⟩ := he4.four
      have HG := Lib.hid he4.1
      clear hg4 he4 HE3
      by_cases h60 : 60 < nf
      · have d1 : (60 : Int) < nf := by omega
        go_wp2
        go_ret
        exact ⟨rfl, HG.out⟩
      have d1 : ¬ ((60 : Int) < nf) := by omega
      by_cases h61 : 60 < ng
      · have d2 : (60 : Int) < ng := by omega
        go_wp2
        go_ret
        exact ⟨rfl, HG.out⟩
      have d2 : ¬ ((60 : Int) < ng) := by omega
      obtain ⟨A, B, I, J, r, hsz, hpush, href⟩ := by
        have k1 : n ≤ 50 ∧ m ≤ 200 := by have := few_small HW.out; rwa [HLL.out] at this
        have k2 : n' ≤ 50 ∧ m' ≤ 200 := by have := few_small HW'.out; rwa [HLL'.out] at this
        exact HB.out k1.1 k2.1 k1.2 k2.2
      obtain ⟨A2, B2, I2, r2, hsz2, hpush2, href2⟩ := by
        have k1 : n ≤ 50 ∧ m ≤ 200 := by have := few_small HW.out; rwa [HLL.out] at this
        have k2 : n' ≤ 50 ∧ m' ≤ 200 := by have := few_small HW'.out; rwa [HLL'.out] at this
        exact HC.out k1.1 k2.1 k1.2 k2.2 (by omega) (by omega)
      have HSZ := Lib.hid hsz
      have HPU := Lib.hid hpush
      have HRE := Lib.hid href
      have HSZ2 := Lib.hid hsz2
      have HPU2 := Lib.hid hpush2
      have HRE2 := Lib.hid href2
      clear hsz hpush href hsz2 hpush2 href2 HB HC
      go_wp2_with fail
      have he4 := HE4.out
      refine (HPU.out _ (H.out.calm he4.1) (H'.out.calm he4.1)).mono ?_
      rintro e w5 ⟨p5, c5, q5, d5, pi, ci, pj, cj, rfl, ho5, hi5, hj5, _, _, hg5⟩
      have he5 := he4.calm hg5
      have hga := World.grownBy_alloc w5 (.cells #[.slice p5 A.length c5, .slice q5 B.length d5] 25) none
      have hbo := BoxO.new w5 (.slice p5 A.length c5) (.slice q5 B.length d5)
      have he6 := he5.calm hga
      have HO6 := Lib.hid (ho5.calm hga)
      have HI6 := Lib.hid (hi5.calm hga)
      have HJ6 := Lib.hid (hj5.calm hga)
      have HE6 := Lib.hid he6
      have HBO := Lib.hid hbo
      obtain ⟨b00, b01, b10, b11⟩ := he6.four
      clear he4 ho5 hi5 hj5 hg5 he5 hga hbo he6 HPU HE4 HG
      go_wp2_with fail
      generalize w5.alloc (.cells #[.slice p5 A.length c5, .slice q5 B.length d5] 25) = w6 at *
      have he6 := HE6.out
      refine (HRE.out _ (H.out.calm he6.1) (H'.out.calm he6.1)).mono ?_
      rintro e w7 ⟨p7, c7, q7, d7, pk, ck, pl, cl, rfl, ho7, hk7, hl7, hg7⟩
      have he7 := he6.calm hg7
      have hga := World.grownBy_alloc w7 (.cells #[.slice p7 A.length c7, .slice q7 B.length d7] 25) none
      have hbo := BoxO.new w7 (.slice p7 A.length c7) (.slice q7 B.length d7)
      have g78 := grownBy_trans hg7 hga
      have HB6 := Lib.hid (HBO.out.calm g78)
      have HB7 := Lib.hid hbo
      have he8 := he7.calm hga
      have HE8 := Lib.hid he8
      have HO7 := Lib.hid (ho7.calm hga)
      have HK7 := Lib.hid (hk7.calm hga)
      have HL7 := Lib.hid (hl7.calm hga)
      have HO8 := Lib.hid (HO6.out.calm g78)
      have HI8 := Lib.hid (HI6.out.calm g78)
      have HJ8 := Lib.hid (HJ6.out.calm g78)
      obtain ⟨b00, b01, b10, b11⟩ := he8.four
      clear he6 ho7 hk7 hl7 hg7 he7 hga hbo g78 HRE HO6 HI6 HJ6 HE6 HBO he8
      go_wp2_with fail
      generalize w7.alloc (.cells #[.slice p7 A.length c7, .slice q7 B.length d7] 25) = w8 at *
      have he8 := HE8.out
      refine (HPU2.out _ (H.out.calm he8.1) (H'.out.calm he8.1) (HF.out.calm he8.1) (HG0.out.calm he8.1) (HT.out.grown he8.1 (by simp))).mono ?_
      rintro e w9 ⟨p9, c9, q9, d9, pm, cm, rfl, ho9, hm9, _, _, hg9⟩
      have he9 := he8.calm hg9
      have hga := World.grownBy_alloc w9 (.cells #[.slice p9 A2.length c9, .slice q9 B2.length d9] 25) none
      have hbo := BoxO.new w9 (.slice p9 A2.length c9) (.slice q9 B2.length d9)
      have gga := grownBy_trans hg9 hga
      have heA := he9.calm hga
      have HEA := Lib.hid heA
      have HO9 := Lib.hid (ho9.calm hga)
      have HM9 := Lib.hid (hm9.calm hga)
      have HGA := Lib.hid gga
      have HB9 := Lib.hid hbo
      obtain ⟨b00, b01, b10, b11⟩ := heA.four
      clear he8 ho9 hm9 hg9 he9 hga hbo gga heA HPU2
      go_wp2_with fail
      generalize w9.alloc (.cells #[.slice p9 A2.length c9, .slice q9 B2.length d9] 25) = wA at *
      have heA := HEA.out
      refine (HRE2.out _ (H.out.calm heA.1) (H'.out.calm heA.1) (HF.out.calm heA.1) (HG0.out.calm heA.1)).mono ?_
      rintro e wB ⟨pB, cB, qB, dB, pn, cn, rfl, hoB, hnB, hgB⟩
      have heB := heA.calm hgB
      have hga := World.grownBy_alloc wB (.cells #[.slice pB A2.length cB, .slice qB B2.length dB] 25) none
      have hbo := BoxO.new wB (.slice pB A2.length cB) (.slice qB B2.length dB)
      have gBC := grownBy_trans hgB hga
      have gAC := grownBy_trans HGA.out gBC
      have HGC := Lib.hid (heB.calm hga).1
      have HOB := Lib.hid (hoB.calm hga)
      have HNB := Lib.hid (hnB.calm hga)
      have HO9 := Lib.hid (HO9.out.calm gBC)
      have HM9 := Lib.hid (HM9.out.calm gBC)
      have HO7 := Lib.hid (HO7.out.calm gAC)
      have HK7 := Lib.hid (HK7.out.calm gAC)
      have HL7 := Lib.hid (HL7.out.calm gAC)
      have HO8 := Lib.hid (HO8.out.calm gAC)
      have HI8 := Lib.hid (HI8.out.calm gAC)
      have HJ8 := Lib.hid (HJ8.out.calm gAC)
      have hx6 := HB6.out.calm gAC
      have hx7 := HB7.out.calm gAC
      have HX9 := Lib.hid (HB9.out.calm gBC)
      have HXB := Lib.hid hbo
      have x60 := hx6.c0
      have x61 := hx6.c1
      have x70 := hx7.c0
      have x71 := hx7.c1
      have hz1 := HSZ.out.1
      have hz2 := HSZ.out.2.1
      have hz3 := HSZ.out.2.2.1
      have hz4 := HSZ.out.2.2.2
      have hy1 := HSZ2.out.1
      have hy2 := HSZ2.out.2.1
      have hy3 := HSZ2.out.2.2
      clear heA hoB hnB hgB heB hga hbo gBC gAC hx6 hx7 HB6 HB7 HB9 HGA HEA HE8 HRE2 HSZ HSZ2 b00 b01 b10 b11
      go_wp2_with fail
      generalize wB.alloc (.cells #[.slice pB A2.length cB, .slice qB B2.length dB] 25) = wC at *
      refine (refSame_r p5 q5 p7 q7 A.length c5 B.length d5 A.length c7 B.length d7 _ _ _ _ A A B B true _ HO8.out HO7.out hz1 hz2 (by simp)).mono ?_
      rintro e wD ⟨rfl, hgD⟩
      have hi9 := HI8.out.calm hgD
      have hk9 := HK7.out.calm hgD
      have HGD := Lib.hid hgD
      clear hgD x60 x61 x70 x71
      go_wp2_with fail
      refine (alike_r pi pk I.length I.length ci ck _ _ _ _ I I true _ hi9 hk9 hz3 (by simp)).mono ?_
      rintro e wE ⟨rfl, hgE⟩
      have HGE := Lib.hid (grownBy_trans HGD.out hgE)
      have hj9 := HJ8.out.calm HGE.out
      have hl9 := HL7.out.calm HGE.out
      clear hgE hi9 hk9
      go_wp2_with fail
      refine (alike_r pj pl J.length J.length cj cl _ _ _ _ J J true _ hj9 hl9 hz4 (by simp)).mono ?_
      rintro e wF ⟨rfl, hgF⟩
      have hgF := grownBy_trans HGE.out hgF
      have HGF := Lib.hid hgF
      have hx9 := HX9.out.calm hgF
      have hxB := HXB.out.calm hgF
      have x90 := hx9.c0
      have x91 := hx9.c1
      have xB0 := hxB.c0
      have xB1 := hxB.c1
      have HOF := Lib.hid (HO9.out.calm hgF)
      have HOG := Lib.hid (HOB.out.calm hgF)
      clear hgF hj9 hl9 hx9 hxB
      go_wp2_with fail
      refine (refSame_r p9 q9 pB qB A2.length c9 B2.length d9 A2.length cB B2.length dB _ _ _ _ A2 A2 B2 B2 true _ HOF.out HOG.out hy1 hy2 (by simp)).mono ?_
      rintro e wG ⟨rfl, hgG⟩
      have hgG := grownBy_trans HGF.out hgG
      have hm9 := HM9.out.calm hgG
      have hn9 := HNB.out.calm hgG
      have HGG := Lib.hid hgG
      clear hgG x90 x91 xB0 xB1
      go_wp2_with fail
      refine (alike_r pm pn I2.length I2.length cm cn _ _ _ _ I2 I2 true _ hm9 hn9 hy3 (by simp)).mono ?_
      rintro e wH ⟨rfl, hgH⟩
      have HEND := Lib.hid (grownBy_trans HGC.out (grownBy_trans HGG.out hgH))
      clear hgH hm9 hn9
      go_wp2
      go_ret
      exact ⟨rfl, HEND.out⟩

end Go.Proofs.YtihkjgiaajgkpaaDoor
