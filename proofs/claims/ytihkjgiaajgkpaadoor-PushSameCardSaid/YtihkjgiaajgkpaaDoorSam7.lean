/- The walk of the statement PushSame: at every input it answers true and leaves all that lay as it lay. Condition: the table of the lowest places is in memory. -/
import Derived.Test.YtihkjgiaajgkpaaDoorSamA
namespace Go.Proofs.YtihkjgiaajgkpaaDoor
open Go.RowKit

set_option maxRecDepth 20000 in
set_option maxHeartbeats 4000000 in
theorem pushSame_in (p q p' q' pf : Option Addr) (n c m d n' c' m' d' nf cf : Nat) (lo hi lo' hi' lof hif : Nat) (L L' : List ByteArray) (P P' : List (Int × Int)) (f : List Int) (w : World) (h : ObjAt w lo hi p n q m L P) (h' : ObjAt w lo' hi' p' n' q' m' L' P') (hf : ZsAt w lof hif pf nf f) (hn : n ≤ maxLen) (hn' : n' ≤ maxLen) (hp0 : p = none → c = 0) (hp0' : p' = none → c' = 0) (hq0 : q = none → d = 0) (hq0' : q' = none → d' = 0) (ht : Tab w) :
    Calls Tryd.prog 6 #[.agg #[.slice p n c, .slice q m d], .agg #[.slice p' n' c', .slice q' m' d'], .slice pf nf cf] w fun e w' => e = .returned (.bool true) ∧ w.grownBy w' none := by
  have H := Lib.hid h
  have H' := Lib.hid h'
  have HF := Lib.hid hf
  have HT := Lib.hid ht
  have HN := Lib.hid hn
  have HN' := Lib.hid hn'
  have HLL := Lib.hid h.ls.len
  have HLL' := Lib.hid h'.ls.len
  have HPL := Lib.hid h.ps.len
  have HPL' := Lib.hid h'.ps.len
  have HP0 := Lib.hid hp0
  have HP0' := Lib.hid hp0'
  have HQ0 := Lib.hid hq0
  have HQ0' := Lib.hid hq0'
  clear h h' hf ht hn hn' hp0 hp0' hq0 hq0'
  go_enter Tryd.func6, Tryd.ntmps6
  go_wp2_with fail
  have he := boxEnv_two w (.slice p n c) (.slice q m d) (.slice p' n' c') (.slice q' m' d')
  generalize (w.alloc (.cells #[.slice p n c, .slice q m d] 25)).alloc (.cells #[.slice p' n' c', .slice q' m' d'] 25) = W0 at *
  refine (known7_c _ (HT.out.grown he.1 (by simp))).mono ?_
  rintro e w2 ⟨rfl, hg2⟩
  have he2 := he.calm hg2
  have HE2 := Lib.hid he2
  obtain ⟨b00, b01, b10, b11⟩ := he2.four
  clear he hg2 he2
  go_wp2_with fail
  cases hfw : fewB L m with
  | false =>
    have HW := Lib.hid hfw
    clear hfw
    refine (few7_r _ _ _ _ _ _ _ _ L P false _ (H.out.calm HE2.out.1) HN.out HW.out).mono ?_
    rintro e w3 ⟨rfl, hg3⟩
    have HG := Lib.hid (HE2.out.calm hg3).1
    clear hg3
    go_wp2
    go_ret
    exact ⟨rfl, HG.out⟩
  | true =>
    have HW := Lib.hid hfw
    clear hfw
    refine (few7_r _ _ _ _ _ _ _ _ L P true _ (H.out.calm HE2.out.1) HN.out HW.out).mono ?_
    rintro e w3 ⟨rfl, hg3⟩
    have he3 := HE2.out.calm hg3
    have HE3 := Lib.hid he3
    obtain ⟨b00, b01, b10, b11⟩ := he3.four
    clear hg3 he3 HE2
    go_wp2_with fail
    cases hfw : fewB L' m' with
    | false =>
      have HW' := Lib.hid hfw
      clear hfw
      refine (few7_r _ _ _ _ _ _ _ _ L' P' false _ (H'.out.calm HE3.out.1) HN'.out HW'.out).mono ?_
      rintro e w4 ⟨rfl, hg4⟩
      have HG := Lib.hid (HE3.out.calm hg4).1
      clear hg4
      go_wp2
      go_ret
      exact ⟨rfl, HG.out⟩
    | true =>
      have HW' := Lib.hid hfw
      clear hfw
      refine (few7_r _ _ _ _ _ _ _ _ L' P' true _ (H'.out.calm HE3.out.1) HN'.out HW'.out).mono ?_
      rintro e w4 ⟨rfl, hg4⟩
      have he4 := HE3.out.calm hg4
      have HE4 := Lib.hid he4
      obtain ⟨b00, b01, b10, b11⟩ := he4.four
      have HG := Lib.hid he4.1
      have hb1 : n ≤ 50 ∧ m ≤ 200 := by have := few_small HW.out; rwa [HLL.out] at this
      have hb2 : n' ≤ 50 ∧ m' ≤ 200 := by have := few_small HW'.out; rwa [HLL'.out] at this
      clear hg4 he4 HE3
      by_cases h60 : 60 < nf
      · have d1 : (60 : Int) < nf := by omega
        go_wp2
        go_ret
        exact ⟨rfl, HG.out⟩
      have d1 : ¬ ((60 : Int) < nf) := by omega
      by_cases h40 : 40 < n + n'
      · have d2 : (40 : Int) < (n : Int) + n' := by omega
        go_wp2
        go_ret
        exact ⟨rfl, HG.out⟩
      have d2 : ¬ ((40 : Int) < (n : Int) + n') := by omega
      have hnf : nf ≤ 1000000 := by omega
      go_wp2_with fail
      have ho := H.out.calm HE4.out.1
      have ho' := H'.out.calm HE4.out.1
      have hof := HF.out.calm HE4.out.1
      cases har : arB L P L' P' f with
      | false =>
        have HA := Lib.hid har
        clear har
        refine (arIs_r p q p' q' pf n c m d n' c' m' d' nf cf _ _ _ _ _ _ L L' P P' f false _ ho ho' hof hnf (by omega) (by omega) HA.out).mono ?_
        rintro e w5 ⟨rfl, hg5⟩
        have HG5 := Lib.hid (HE4.out.calm hg5).1
        clear hg5 ho ho' hof
        go_wp2
        go_ret
        exact ⟨rfl, HG5.out⟩
      | true =>
        have HA := Lib.hid har
        clear har
        refine (arIs_r p q p' q' pf n c m d n' c' m' d' nf cf _ _ _ _ _ _ L L' P P' f true _ ho ho' hof hnf (by omega) (by omega) HA.out).mono ?_
        rintro e w5 ⟨rfl, hg5⟩
        have he5 := HE4.out.calm hg5
        have HE5 := Lib.hid he5
        obtain ⟨b00, b01, b10, b11⟩ := he5.four
        have HC := Lib.hid (arB_chk HA.out).1
        have HC' := Lib.hid (arB_chk HA.out).2
        have HID := Lib.hid (idN_nat (n := n) (by omega))
        have HFL := Lib.hid HF.out.len
        have HPA := Lib.hid (fun W gB (hw : w.grownBy W none) (hz : RowZ W gB (idL n)) => (samePush p q p' q' pf (some ⟨gB, 0, none⟩) n c m d n' c' m' d' nf cf n _ _ _ _ _ _ gB (gB + 1) L L' P P' f W (H.out.calm hw) (H'.out.calm hw) (HF.out.calm hw) (by have := hz.at1; rwa [idL_len] at this) (by omega) (by omega) (by omega) HA.out (HT.out.grown hw (by simp)) HP0.out HP0'.out HQ0'.out).mono fun e w' h => resN_of h HLL'.out HPL'.out (idL_len n') HFL.out)
        clear hg5 ho ho' hof HE4 HG he5
        go_wp2_with fail
        go_cut [7, 8, 9, 10] (fun s7 s8 s9 s10 wy => ∃ g7 p5 c5 q5 d5 pi ci pj cj, s7 = .pointer (some ⟨g7, 0, none⟩) ∧ s8 = .slice pi n' ci ∧ s9 = .slice pj nf cj ∧ s10 = .int .i64 0 ∧ SD w5 wy g7 p5 c5 q5 d5 pi pj n' m' n' nf L' P' (idL n') f)
        case first =>
          have hse2 := SE.start2 w5 n
          have hse := SE.start w5 n
          have hg05 : w.grownBy w5 none := HE5.out.1
          have hbx := (HE5.out.calm hse.gr).four
          go_region_held3 (fun w' => w'.cell? ⟨w.heap.size, 0, none⟩ = some (.slice p n c) ∧ w'.cell? ⟨w.heap.size, 1, none⟩ = some (.slice q m d) ∧ w'.cell? ⟨w.heap.size + 1, 0, none⟩ = some (.slice p' n' c') ∧ w'.cell? ⟨w.heap.size + 1, 1, none⟩ = some (.slice q' m' d')) (first | exact (HE5.out.calm hse.gr).four | exact (HE5.out.calm hse.alloc.gr).four | exact (HE5.out.calm (grownBy_trans hse.gr (World.grownBy_alloc _ _ none))).four | exact (HE5.out.calm (grownBy_setCell_new _ (grownBy_setCell_new _ hse.gr (hse.bx _ rfl).1) (hse.bx _ rfl).1)).four | go_keep)
            (first
              | (go_at_call 23
                 (first
                  | ((with_reducible refine (hse.ident HID.out).mono ?_); rintro e wI ⟨gI, rfl, hse⟩; try (have hbD := (hse.bx _ rfl).2; have x60 := hbD.c0; have x61 := hbD.c1; have y60 := hbD.free 0; have y61 := hbD.free 1))
                  | ((with_reducible refine (hse2.ident HID.out).mono ?_); rintro e wI ⟨gI, rfl, hse⟩; try (have hbD := (hse.bx _ rfl).2; have x60 := hbD.c0; have x61 := hbD.c1; have y60 := hbD.free 0; have y61 := hbD.free 1))))
              | (go_at_call 12
                 (first
                  | ((with_reducible refine (HPA.out _ gI (grownBy_trans hg05 hse.gr) (hse.zr gI rfl)).mono ?_); rintro e wP ⟨p5, c5, q5, d5, pi, ci, pj, cj, l5, h5, rfl, hlo, ho5, hi5, hj5, hg5⟩; have hlt := fun g e => Nat.lt_of_lt_of_le (hse.bx g e).2.lt hlo; have hse := hse.calm hg5; try (have hbD := (hse.bx _ rfl).2; have x60 := hbD.c0; have x61 := hbD.c1; have y60 := hbD.free 0; have y61 := hbD.free 1))
                  | ((with_reducible refine (HPA.out _ gI (grownBy_trans hg05 hse.alloc.gr) (hse.alloc.zr gI rfl)).mono ?_); rintro e wP ⟨p5, c5, q5, d5, pi, ci, pj, cj, l5, h5, rfl, hlo, ho5, hi5, hj5, hg5⟩; have hlt := fun g e => Nat.lt_of_lt_of_le (hse.alloc.bx g e).2.lt hlo; have hse := hse.alloc.calm hg5; try (have hbD := (hse.bx _ rfl).2; have x60 := hbD.c0; have x61 := hbD.c1; have y60 := hbD.free 0; have y61 := hbD.free 1)))))
          all_goals
            try go_wp2
            go_meet
            first
              | exact ⟨_, _, _, _, _, _, _, _, _, rfl, rfl, rfl, rfl, hse.last ho5 hi5 hj5⟩
              | exact ⟨_, _, _, _, _, _, _, _, _, rfl, rfl, rfl, rfl, hse.set (hlt _ rfl) ho5 hi5 hj5⟩
        case rest =>
          obtain ⟨g7, p5, c5, q5, d5, pi, ci, pj, cj, rfl, rfl, rfl, rfl, hsd⟩ := hcut
          obtain ⟨g1, hbo7, l7, h7, ho7, hi7, hj7⟩ := hsd
          have he7 := HE5.out.calm g1
          have HE7 := Lib.hid he7
          have HB7 := Lib.hid hbo7
          have HO7 := Lib.hid ho7
          have HI7 := Lib.hid hi7
          have HJ7 := Lib.hid hj7
          obtain ⟨NS, hNS⟩ : ∃ NS, (L ++ L').length = NS := ⟨_, rfl⟩
          obtain ⟨MS, hMS⟩ : ∃ MS, (P ++ shP n P').length = MS := ⟨_, rfl⟩
          have hsb : NS ≤ 1000000 ∧ MS ≤ 1000000 := by
            have := HLL.out; have := HLL'.out; have := HPL.out; have := HPL'.out
            rw [List.length_append] at hNS
            rw [List.length_append, shP_len] at hMS
            omega
          have HSU := Lib.hid (fun W (hw : w.grownBy W none) => (sum_ok p q p' q' n c m d n' c' m' d' _ _ _ _ L L' P P' W (H.out.calm hw) (H'.out.calm hw) (by omega) (by omega) (by omega) (by omega) (by omega) HC.out HC'.out HP0.out HP0'.out HQ0.out).mono fun e w' h => resN_of h hNS hMS (idL_len n) (show (shL n (idL n')).length = n' by rw [shL_len, idL_len]))
          have HEM := Lib.hid (fun W (hw : w.grownBy W none) => (emptyPush p q p' q' n c m d n' c' m' d' _ _ _ _ L L' P P' W (H.out.calm hw) (H'.out.calm hw) (by omega) (by omega) (by omega) HC.out HC'.out (HT.out.grown hw (by simp)) HP0.out HP0'.out HQ0.out).mono fun e w' h => resN_of h hNS hMS (idL_len n) (show (shL n (idL n')).length = n' by rw [shL_len, idL_len]))
          obtain ⟨b00, b01, b10, b11⟩ := he7.four
          clear g1 hbo7 ho7 hi7 hj7 he7 HPA HE5 hNS hMS
          go_wp2_with fail
          have he7 := HE7.out
          refine (HSU.out _ he7.1).mono ?_
          rintro e wS ⟨ps, cs, qs, ds, pk, ck, pl, cl, lS, hS, rfl, _, hoS, hkS, hlS, hgS⟩
          have hga := World.grownBy_alloc wS (.cells #[.slice ps NS cs, .slice qs MS ds] 25) none
          have hboS := BoxO.new wS (.slice ps NS cs) (.slice qs MS ds)
          have g9 := grownBy_trans hgS hga
          have he9 := he7.calm g9
          have HE9 := Lib.hid he9
          have HBS := Lib.hid hboS
          have HOS := Lib.hid (hoS.calm hga)
          have HKS := Lib.hid (hkS.calm hga)
          have HLS := Lib.hid (hlS.calm hga)
          have HB7 := Lib.hid (HB7.out.calm g9)
          have HO7 := Lib.hid (HO7.out.calm g9)
          have HI7 := Lib.hid (HI7.out.calm g9)
          have HJ7 := Lib.hid (HJ7.out.calm g9)
          obtain ⟨b00, b01, b10, b11⟩ := he9.four
          clear he7 hga hboS g9 he9 hoS hkS hlS hgS HSU HE7
          go_wp2_with fail
          generalize wS.alloc (.cells #[.slice ps NS cs, .slice qs MS ds] 25) = wS2 at *
          have he9 := HE9.out
          refine (HEM.out _ he9.1).mono ?_
          rintro e wT ⟨pp, cp, qp, dp, pm, cm, pn, cn, lT, hT, rfl, _, hoT, hmT, hnT, hgT⟩
          have hga := World.grownBy_alloc wT (.cells #[.slice pp NS cp, .slice qp MS dp] 25) none
          have hboT := BoxO.new wT (.slice pp NS cp) (.slice qp MS dp)
          have g9 := grownBy_trans hgT hga
          have heZ := he9.calm g9
          have HEZ := Lib.hid heZ
          have HOT := Lib.hid (hoT.calm hga)
          have HMT := Lib.hid (hmT.calm hga)
          have HNT := Lib.hid (hnT.calm hga)
          have hbS := HBS.out.calm g9
          have hb7 := HB7.out.calm g9
          have HOS := Lib.hid (HOS.out.calm g9)
          have HKS := Lib.hid (HKS.out.calm g9)
          have HLS := Lib.hid (HLS.out.calm g9)
          have HO7 := Lib.hid (HO7.out.calm g9)
          have HI7 := Lib.hid (HI7.out.calm g9)
          have HJ7 := Lib.hid (HJ7.out.calm g9)
          have hbB : BoxO _ (w.heap.size + 1) (.slice p' n' c') (.slice q' m' d') := heZ.2 1 _ rfl
          clear he9 hga g9 heZ hoT hmT hnT hgT HEM HE9 b00 b01 b10 b11 HB7 HBS
          obtain ⟨gS, hgS⟩ : ∃ gS, wS.heap.size = gS := ⟨_, rfl⟩
          obtain ⟨gT, hgT⟩ : ∃ gT, wT.heap.size = gT := ⟨_, rfl⟩
          rw [hgS] at hbS ⊢
          rw [hgT] at hboT
          go_wp2_with fail
          try rw [hgT]
          clear hgS hgT
          generalize wT.alloc (.cells #[.slice pp NS cp, .slice qp MS dp] 25) = wZ at *
          have HS := Lib.hid (fun W (hg : wZ.grownBy W none) => (show (W.cell? ⟨g7, 0, none⟩ = some (.slice p5 n' c5) ∧ W.cell? ⟨g7, 1, none⟩ = some (.slice q5 m' d5)) ∧ (W.cell? ⟨gS, 0, none⟩ = some (.slice ps NS cs) ∧ W.cell? ⟨gS, 1, none⟩ = some (.slice qs MS ds)) ∧ (W.cell? ⟨gT, 0, none⟩ = some (.slice pp NS cp) ∧ W.cell? ⟨gT, 1, none⟩ = some (.slice qp MS dp)) ∧ W.cell? ⟨w.heap.size + 1, 0, none⟩ = some (.slice p' n' c') ∧ W.cell? ⟨w.heap.size + 1, 1, none⟩ = some (.slice q' m' d') from
            ⟨⟨(hb7.calm hg).c0, (hb7.calm hg).c1⟩, ⟨(hbS.calm hg).c0, (hbS.calm hg).c1⟩, ⟨(hboT.calm hg).c0, (hboT.calm hg).c1⟩, (hbB.calm hg).c0, (hbB.calm hg).c1⟩))
          clear hb7 hbS hboT hbB
          have hE := grownBy_drewN wZ 1 none
          have hbx := HS.out _ hE
          have hn1 : n ≤ 1000000 := by omega
          have hn2 : n' ≤ 1000000 := by omega
          have hm2 : m' ≤ 1000000 := by omega
          have hn40 : n' ≤ 40 := by omega
          have HFB := Lib.hid (show thenB f (idL n').length = true by rw [idL_len, ← HLL'.out]; exact lab_has (arB_parts HA.out).2.2.2.1)
          have HFT := Lib.hid (show thenL f (idL n') = f from thenL_id2 (by have := HFB.out; rwa [idL_len] at this))
          have HINV := Lib.hid (show invB L' P' L' P' (idL n') (idL n') = true from by
            have h1 : arB L' P' L' P' (idL n') = true := by have := arB_id HC'.out; rwa [HLL'.out] at this
            have h2 : stillB (idL n') (idL n') = true := by
              unfold stillB
              rw [idL_len, idN_nat hn40, thenB_id (Nat.le_refl _), thenL_id2 (thenB_id (Nat.le_refl _))]
              simp
            unfold invB
            rw [h1, h2]
            rfl)
          go_region_held3 (fun W => (W.cell? ⟨g7, 0, none⟩ = some (.slice p5 n' c5) ∧ W.cell? ⟨g7, 1, none⟩ = some (.slice q5 m' d5)) ∧ (W.cell? ⟨gS, 0, none⟩ = some (.slice ps NS cs) ∧ W.cell? ⟨gS, 1, none⟩ = some (.slice qs MS ds)) ∧ (W.cell? ⟨gT, 0, none⟩ = some (.slice pp NS cp) ∧ W.cell? ⟨gT, 1, none⟩ = some (.slice qp MS dp)) ∧ W.cell? ⟨w.heap.size + 1, 0, none⟩ = some (.slice p' n' c') ∧ W.cell? ⟨w.heap.size + 1, 1, none⟩ = some (.slice q' m' d')) (first | exact HS.out _ hE | go_keep)
            (first
              | (go_at_call 14; refine (refSame_r ps qs pp qp NS cs MS ds NS cp MS dp _ _ _ _ (L ++ L') (L ++ L') (P ++ shP n P') (P ++ shP n P') true _ (HOS.out.calm hE) (HOT.out.calm hE) hsb.1 hsb.2 (by simp)).mono ?_; rintro e wE ⟨rfl, hgE⟩; have hE := grownBy_trans hE hgE; have hbx := HS.out _ hE)
              | (go_at_call 21
                 (first
                  | ((with_reducible refine (arSame_r pk pm n n ck cm _ _ _ _ (idL n) (idL n) true _ (HKS.out.calm hE) (HMT.out.calm hE) hn1 (by simp)).mono ?_); rintro e wE ⟨rfl, hgE⟩; have hE := grownBy_trans hE hgE; have hbx := HS.out _ hE)
                  | ((with_reducible refine (arSame_r pl pn n' n' cl cn _ _ _ _ (shL n (idL n')) (shL n (idL n')) true _ (HLS.out.calm hE) (HNT.out.calm hE) hn2 (by simp)).mono ?_); rintro e wE ⟨rfl, hgE⟩; have hE := grownBy_trans hE hgE; have hbx := HS.out _ hE)
                  | ((with_reducible refine (arSame_r pj (some ⟨gB, 0, none⟩) nf nf cj nf _ _ _ _ f f true _ (HJ7.out.calm hE) hzB hnf (by simp)).mono ?_); rintro e wE ⟨rfl, hgE⟩; have hE := grownBy_trans hE hgE; have hbx := HS.out _ hE)))
              | (go_at_call 25; refine (invId_c pi n' ci _ _ _ (HI7.out.calm hE) hn40).mono ?_; rintro e wI hI; obtain ⟨gI, rfl, hzI, hgI⟩ := rowN_of hI (idL_len n'); have hE := grownBy_trans hE hgI; have hbx := HS.out _ hE)
              | (go_at_call 26; refine (behind7_c pf pi nf cf n' ci _ _ _ _ f (idL n') _ (HF.out.calm (grownBy_trans HEZ.out.1 hE)) (HI7.out.calm hE) hnf HFB.out).mono ?_; rintro e wB hB; rw [HFT.out] at hB; obtain ⟨gB, rfl, hzB, hgB⟩ := rowN_of hB HFL.out; have hE := grownBy_trans hE hgB; have hbx := HS.out _ hE)
              | (go_at_call 24; refine (arInv_r p' q' p5 q5 pi (some ⟨gI, 0, none⟩) n' c' m' d' n' c5 m' d5 n' ci n' n' _ _ _ _ _ _ _ _ L' L' P' P' (idL n') (idL n') true _ (H'.out.calm (grownBy_trans HEZ.out.1 hE)) (HO7.out.calm hE) (HI7.out.calm hE) hzI hn2 hn2 hm2 hm2 HINV.out).mono ?_; rintro e wV ⟨rfl, hgV⟩; have hE := grownBy_trans hE hgV; have hbx := HS.out _ hE))
          all_goals
            have HEND := Lib.hid (grownBy_trans HEZ.out.1 hE)
            clear hE hbx hzI hzB
            go_wp2
            go_ret
            exact ⟨rfl, HEND.out⟩

end Go.Proofs.YtihkjgiaajgkpaaDoor
