/- The walk of the statement PushEquals: at every input it answers true and leaves all that lay as it lay. Condition: the table of the lowest places is in memory. -/
import Derived.Test.YtihkjgiaajgkpaaDoorEqlP
import Derived.Test.YtihkjgiaajgkpaaDoorKnow7
namespace Go.Proofs.YtihkjgiaajgkpaaDoor
open Go.RowKit

theorem boxEnv_two (w : World) (u v u' v' : Value) : BoxEnv w ((w.alloc (.cells #[u, v] 25)).alloc (.cells #[u', v'] 25)) [(u, v), (u', v')] := by
  have g1 := World.grownBy_alloc w (.cells #[u, v] 25) none
  have g2 := World.grownBy_alloc (w.alloc (.cells #[u, v] 25)) (.cells #[u', v'] 25) none
  have b0 := BoxO.new w u v
  have b1 := BoxO.new (w.alloc (.cells #[u, v] 25)) u' v'
  rw [World.size_alloc] at b1
  refine ⟨grownBy_trans g1 g2, fun k x hx => ?_⟩
  match k, hx with
  | 0, hx => cases hx; exact b0.calm g2
  | 1, hx => cases hx; exact b1
  | k + 2, hx => simp at hx
theorem BoxEnv.four {w W : World} {x0 x1 : Value × Value} {l : List (Value × Value)} (h : BoxEnv w W (x0 :: x1 :: l)) : W.cell? ⟨w.heap.size, 0, none⟩ = some x0.1 ∧ W.cell? ⟨w.heap.size, 1, none⟩ = some x0.2 ∧ W.cell? ⟨w.heap.size + 1, 0, none⟩ = some x1.1 ∧ W.cell? ⟨w.heap.size + 1, 1, none⟩ = some x1.2 :=
  ⟨(h.2 0 _ rfl).c0, (h.2 0 _ rfl).c1, (h.2 1 _ rfl).c0, (h.2 1 _ rfl).c1⟩
theorem few_small {L : List ByteArray} {m : Nat} (h : fewB L m = true) : L.length ≤ 50 ∧ m ≤ 200 := by
  unfold fewB at h
  simp only [Bool.and_eq_true, decide_eq_true_eq] at h
  exact h.2

set_option maxRecDepth 20000 in
set_option maxHeartbeats 4000000 in
theorem pushEquals_in (p q p' q' pf : Option Addr) (n c m d n' c' m' d' nf cf lo hi lo' hi' lof hif : Nat) (L L' : List ByteArray) (P P' : List (Int × Int)) (f : List Int) (w : World) (h : ObjAt w lo hi p n q m L P) (h' : ObjAt w lo' hi' p' n' q' m' L' P') (hf : ZsAt w lof hif pf nf f) (hn : n ≤ maxLen) (hn' : n' ≤ maxLen) (ht : Tab w) :
    Calls Tryd.prog 9 #[.agg #[.slice p n c, .slice q m d], .agg #[.slice p' n' c', .slice q' m' d'], .slice pf nf cf] w fun e w' => e = .returned (.bool true) ∧ w.grownBy w' none := by
  have H := Lib.hid h
  have H' := Lib.hid h'
  have HF := Lib.hid hf
  have HT := Lib.hid ht
  have HN := Lib.hid hn
  have HN' := Lib.hid hn'
  have HLL := Lib.hid h.ls.len
  have HLL' := Lib.hid h'.ls.len
  clear h h' hf ht hn hn'
  go_enter Tryd.func9, Tryd.ntmps9
  go_wp2_with fail
  have he := boxEnv_two w (.slice p n c) (.slice q m d) (.slice p' n' c') (.slice q' m' d')
  generalize (w.alloc (.cells #[.slice p n c, .slice q m d] 25)).alloc (.cells #[.slice p' n' c', .slice q' m' d'] 25) = W0 at *
  refine (known7_c _ (HT.out.grown he.1 (by simp))).mono ?_
  rintro e w1 ⟨rfl, hg1⟩
  have he1 := he.calm hg1
  have HE1 := Lib.hid he1
  obtain ⟨a0, a1, b0, b1⟩ := he1.four
  clear he hg1 he1
  go_wp2_with fail
  cases hfw : fewB L m with
  | false =>
    have HW := Lib.hid hfw
    clear hfw
    refine (few7_r _ _ _ _ _ _ _ _ L P false _ (H.out.calm HE1.out.1) HN.out HW.out).mono ?_
    rintro e w2 ⟨rfl, hg2⟩
    have HG := Lib.hid (HE1.out.calm hg2).1
    clear hg2
    go_wp2
    go_ret
    exact ⟨rfl, HG.out⟩
  | true =>
    have HW := Lib.hid hfw
    clear hfw
    refine (few7_r _ _ _ _ _ _ _ _ L P true _ (H.out.calm HE1.out.1) HN.out HW.out).mono ?_
    rintro e w2 ⟨rfl, hg2⟩
    have he2 := HE1.out.calm hg2
    have HE2 := Lib.hid he2
    obtain ⟨a0, a1, b0, b1⟩ := he2.four
    clear hg2 he2 HE1
    go_wp2_with fail
    cases hfw : fewB L' m' with
    | false =>
      have HW' := Lib.hid hfw
      clear hfw
      refine (few7_r _ _ _ _ _ _ _ _ L' P' false _ (H'.out.calm HE2.out.1) HN'.out HW'.out).mono ?_
      rintro e w3 ⟨rfl, hg3⟩
      have HG := Lib.hid (HE2.out.calm hg3).1
      clear hg3
      go_wp2
      go_ret
      exact ⟨rfl, HG.out⟩
    | true =>
      have HW' := Lib.hid hfw
      clear hfw
      refine (few7_r _ _ _ _ _ _ _ _ L' P' true _ (H'.out.calm HE2.out.1) HN'.out HW'.out).mono ?_
      rintro e w3 ⟨rfl, hg3⟩
      have he3 := HE2.out.calm hg3
      have HE3 := Lib.hid he3
      obtain ⟨a0, a1, b0, b1⟩ := he3.four
      have ho := H.out.calm he3.1
      have ho' := H'.out.calm he3.1
      have hof := HF.out.calm he3.1
      have hb1 : n ≤ 50 ∧ m ≤ 200 := by have := few_small HW.out; rwa [HLL.out] at this
      have hb2 : n' ≤ 50 ∧ m' ≤ 200 := by have := few_small HW'.out; rwa [HLL'.out] at this
      have HG := Lib.hid he3.1
      clear hg3 he3 HE2
      by_cases h60 : 60 < nf
      · have d1 : (60 : Int) < nf := by omega
        clear ho ho' hof
        go_wp2
        go_ret
        exact ⟨rfl, HG.out⟩
      · have d1 : ¬ ((60 : Int) < nf) := by omega
        have hnf : nf ≤ 1000000 := by omega
        go_wp2_with fail
        cases har : arB L P L' P' f with
        | false =>
          have HA := Lib.hid har
          clear har
          refine (arIs_r p q p' q' pf n c m d n' c' m' d' nf cf _ _ _ _ _ _ L L' P P' f false _ ho ho' hof hnf (by omega) (by omega) HA.out).mono ?_
          rintro e w4 ⟨rfl, hg4⟩
          have HG4 := Lib.hid (HE3.out.calm hg4).1
          clear hg4 ho ho' hof
          go_wp2
          go_ret
          exact ⟨rfl, HG4.out⟩
        | true =>
          have HA := Lib.hid har
          have hc := arB_chk har
          have HCH := Lib.hid hc.2
          have hs1 := lab_small (chk_in hc.1).1
          have hs2 := lab_small (chk_in hc.2).1
          rw [HLL.out] at hs1
          rw [HLL'.out] at hs2
          clear har hc
          refine (arIs_r p q p' q' pf n c m d n' c' m' d' nf cf _ _ _ _ _ _ L L' P P' f true _ ho ho' hof hnf (by omega) (by omega) HA.out).mono ?_
          rintro e w4 ⟨rfl, hg4⟩
          have he4 := HE3.out.calm hg4
          have HE4 := Lib.hid he4
          obtain ⟨a0, a1, b0, b1⟩ := he4.four
          have ho := H.out.calm he4.1
          have ho' := H'.out.calm he4.1
          have hof := HF.out.calm he4.1
          have ht4 := HT.out.grown he4.1 (by simp)
          clear hg4 he4 HE3
          go_wp2_with fail
          refine (eql_ok p q p' q' pf pf n c m d n' c' m' d' nf cf nf cf _ _ _ _ _ _ _ _ L L' P P' f f _ ho ho' hof hof (by omega) (by omega) hnf hnf hs1 hs2 HA.out HA.out rfl ht4).mono ?_
          rw [joins_same, ← HLL'.out, labG_range, gluP_range HCH.out, atZ_range, HLL'.out]
          rintro e w5 ⟨p5, c5, q5, d5, pi, ci, rfl, ho5, hi5, _, _, hg5⟩
          have hil : (idL n').length = n' := idL_len n'
          rw [HLL'.out, hil] at *
          have hpl := ho5.ps.len
          generalize hm5 : P'.length = m5 at *
          have he5 := HE4.out.calm hg5
          have hga := World.grownBy_alloc w5 (.cells #[.slice p5 n' c5, .slice q5 m5 d5] 25) none
          have hbo := BoxO.new w5 (.slice p5 n' c5) (.slice q5 m5 d5)
          have he6 := he5.calm hga
          have HO6 := Lib.hid (ho5.calm hga)
          have HI6 := Lib.hid (hi5.calm hga)
          obtain ⟨a0, a1, b0, b1⟩ := he6.four
          have x0 := hbo.c0
          have x1 := hbo.c1
          have hm2 : m5 ≤ 1000000 := by have := (H'.out.ps).len; omega
          have HID := Lib.hid (idN_nat (n := n') hs2)
          clear ho hof ho' ht4 ho5 hi5 hg5 he5 hpl
          go_wp2_with fail
          have hn6 : n' ≤ 1000000 := by omega
          refine (refSame_r p5 q5 p' q' n' c5 m5 d5 n' c' m' d' _ _ _ _ L' L' P' P' true _ HO6.out (H'.out.calm he6.1) hn6 hm2 (by simp)).mono ?_
          rintro e w7 ⟨rfl, hg7⟩
          have he7 := he6.calm hg7
          have HE7 := Lib.hid he7
          have HI7 := Lib.hid (HI6.out.calm hg7)
          obtain ⟨a0, a1, b0, b1⟩ := he7.four
          clear hg7 he7 he6 hga hbo x0 x1
          go_wp2_with fail
          refine (ident_c (n' : Int) n' _ HID.out).mono ?_
          rintro e w8 ⟨g8, rfl, _, hr8, hg8⟩
          have HG8 := Lib.hid (HE7.out.calm hg8).1
          have HI8 := Lib.hid (HI7.out.calm hg8)
          have hrz := hr8.at1
          have hiz := HI8.out
          rw [idL_len] at hrz hiz ⊢
          clear hg8 hr8
          go_wp2_with fail
          refine (arSame_r _ _ _ _ _ _ _ _ _ _ (idL n') (idL n') true _ hiz hrz hn6 (by simp)).mono ?_
          rintro e w9 ⟨rfl, hg9⟩
          have HG9 := Lib.hid (grownBy_trans HG8.out hg9)
          clear hg9 hrz hiz
          go_wp2
          go_ret
          exact ⟨rfl, HG9.out⟩

end Go.Proofs.YtihkjgiaajgkpaaDoor
