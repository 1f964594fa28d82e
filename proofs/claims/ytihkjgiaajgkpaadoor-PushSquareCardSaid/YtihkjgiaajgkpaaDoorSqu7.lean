/- The walk of the statement PushSquare: at every input it answers true and leaves all that lay as it lay. Condition: the table of the lowest places is in memory. -/
import Derived.Test.YtihkjgiaajgkpaaDoorSquP
import Derived.Test.YtihkjgiaajgkpaaDoorBoth7
import Derived.Test.YtihkjgiaajgkpaaDoorEquals7
namespace Go.Proofs.YtihkjgiaajgkpaaDoor
open Go.RowKit

/-- What Push answers, and what is true of it. -/
theorem pushOne (p0 q0 p q p' q' pf pg : Option Addr) (n0 c0 m0 d0 n c m d n' c' m' d' nf cf ng cg : Nat) (lo0 hi0 lo hi lo' hi' lof hif log hig : Nat) (L0 L L' : List ByteArray) (P0 P P' : List (Int × Int)) (f g : List Int) (hn0 : n0 ≤ 50) (hn : n ≤ 50) (hn' : n' ≤ 50) (hm0 : m0 ≤ 200) (hm : m ≤ 200) (hm' : m' ≤ 200) (hnf : nf ≤ 60) (hng : ng ≤ 60) (hl0 : L0.length = n0) (hl : L.length = n) (hl' : L'.length = n') (hmm : P.length = m) (hmm' : P'.length = m') (hfl : f.length = nf) (hgl : g.length = ng) (hp0 : p = none → c = 0) (hp0' : p' = none → c' = 0) (hq0 : q = none → d = 0) :
    ∃ (A : List ByteArray) (B : List (Int × Int)) (I J : List Int) (r : Int), (A.length ≤ 1000000 ∧ B.length ≤ 1000000 ∧ I.length ≤ 1000000 ∧ J.length ≤ 1000000) ∧
      (∀ w, ObjAt w lo0 hi0 p0 n0 q0 m0 L0 P0 → ObjAt w lo hi p n q m L P → ObjAt w lo' hi' p' n' q' m' L' P' → ZsAt w lof hif pf nf f → ZsAt w log hig pg ng g → Tab w →
        Calls Tryd.prog 12 #[.agg #[.slice p0 n0 c0, .slice q0 m0 d0], .agg #[.slice p n c, .slice q m d], .agg #[.slice p' n' c', .slice q' m' d'], .slice pf nf cf, .slice pg ng cg] w (Res4 A B I J r w)) ∧
      (((r = 10 ∨ r = 11) ∧ A = [] ∧ B = [] ∧ I = [] ∧ J = []) ∨ (r = 0 ∧ SquA L0 L L' A P P' B f g I J)) := by
  by_cases h1 : 40 < n0
  · exact ⟨[], [], [], [], 11, ⟨by simp, by simp, by simp, by simp⟩, fun w _ _ _ _ _ _ => push_large1 p0 q0 p q p' q' pf pg n0 c0 m0 d0 n c m d n' c' m' d' nf cf ng cg w (by omega) h1, .inl ⟨.inr rfl, rfl, rfl, rfl, rfl⟩⟩
  by_cases h2 : 40 < n + n'
  · exact ⟨[], [], [], [], 11, ⟨by simp, by simp, by simp, by simp⟩, fun w _ _ _ _ _ _ => push_large2 p0 q0 p q p' q' pf pg n0 c0 m0 d0 n c m d n' c' m' d' nf cf ng cg w (by omega) (by omega) (by omega) h2, .inl ⟨.inr rfl, rfl, rfl, rfl, rfl⟩⟩
  cases har : (arB L0 P0 L P f && arB L0 P0 L' P' g) with
  | false =>
    exact ⟨[], [], [], [], 10, ⟨by simp, by simp, by simp, by simp⟩, fun w a b c9 d9 e9 _ => push_form p0 q0 p q p' q' pf pg n0 c0 m0 d0 n c m d n' c' m' d' nf cf ng cg lo0 hi0 lo hi lo' hi' lof hif log hig L0 L L' P0 P P' f g w a b c9 d9 e9 (by omega) (by omega) (by omega) (by omega) (by omega) (by omega) (by omega) har, .inl ⟨.inl rfl, rfl, rfl, rfl, rfl⟩⟩
  | true =>
    rw [Bool.and_eq_true] at har
    obtain ⟨ha, hb⟩ := har
    have e1 := (arB_hasZ ha).1
    have e2 := (arB_hasZ hb).1
    obtain rfl : ng = nf := by omega
    have hJ : (joinsL (n + n') f (shL n g)).length ≤ 40 := by rw [joinsL_len]; omega
    refine ⟨labG (L ++ L') (joinsL (n + n') f (shL n g)), gluP (joinsL (n + n') f (shL n g)) (P ++ shP n P'), (atZ (joinsL (n + n') f (shL n g))).take n, (atZ (joinsL (n + n') f (shL n g))).drop n, 0, ⟨?_, ?_, ?_, ?_⟩, fun w a b c9 d9 e9 t9 => push_ok p0 q0 p q p' q' pf pg n0 c0 m0 d0 n c m d n' c' m' d' _ cf cg lo0 hi0 lo hi lo' hi' lof hif log hig L0 L L' P0 P P' f g w a b c9 d9 e9 (by omega) (by omega) (by omega) (by omega) (by omega) (by omega) ha hb t9 hp0 hp0' hq0, .inr ⟨rfl, square hl hl' (by omega) ha hb⟩⟩
    · exact Nat.le_trans (labG_len7 _ _ hJ) (by omega)
    · exact Nat.le_trans (gluP_len7 _ _ hJ) (by omega)
    · rw [List.length_take, atZ_len]; omega
    · rw [List.length_drop, atZ_len]; omega

/-- Whether x is among l. -/
def hitB (l : List Int) (x : Nat) : Bool := decide ((x : Int) ∈ l)
theorem hitB_nil : hitB [] = fun _ => false := by funext x; simp [hitB]
theorem hitB_snoc {l : List Int} {x : Nat} (j : Nat) : (if j = x then true else hitB l j) = hitB (l ++ [(x : Int)]) j := by
  unfold hitB
  by_cases h : j = x
  · subst h; simp
  · have : ¬ ((j : Int) = (x : Int)) := by omega
    simp [h, this]
theorem take_snocZ {l : List Int} {k : Nat} (h : k < l.length) : l.take (k + 1) = l.take k ++ [l[k]?.getD 0] := by
  rw [List.take_add_one, List.getElem?_eq_getElem h]
  rfl

set_option maxRecDepth 20000 in
set_option maxHeartbeats 4000000 in
theorem pushSquare_in (p0 q0 p q p' q' pf pg : Option Addr) (n0 c0 m0 d0 n c m d n' c' m' d' nf cf ng cg : Nat) (lo0 hi0 lo hi lo' hi' lof hif log hig : Nat) (L0 L L' : List ByteArray) (P0 P P' : List (Int × Int)) (f g : List Int) (w : World) (h0 : ObjAt w lo0 hi0 p0 n0 q0 m0 L0 P0) (h : ObjAt w lo hi p n q m L P) (h' : ObjAt w lo' hi' p' n' q' m' L' P') (hf : ZsAt w lof hif pf nf f) (hg : ZsAt w log hig pg ng g) (hn0 : n0 ≤ maxLen) (hn : n ≤ maxLen) (hn' : n' ≤ maxLen) (hp0 : p = none → c = 0) (hp0' : p' = none → c' = 0) (hq0 : q = none → d = 0) (ht : Tab w) :
    Calls Tryd.prog 5 #[.agg #[.slice p0 n0 c0, .slice q0 m0 d0], .agg #[.slice p n c, .slice q m d], .agg #[.slice p' n' c', .slice q' m' d'], .slice pf nf cf, .slice pg ng cg] w fun e w' => e = .returned (.bool true) ∧ w.grownBy w' none := by
  have HB := Lib.hid (fun a b e1 e2 e3 e4 e5 e6 => pushOne p0 q0 p q p' q' pf pg n0 c0 m0 d0 n c m d n' c' m' d' nf cf ng cg lo0 hi0 lo hi lo' hi' lof hif log hig L0 L L' P0 P P' f g a b e1 e2 e3 e4 e5 e6 h0.ls.len h.ls.len h'.ls.len h.ps.len h'.ps.len hf.len hg.len hp0 hp0' hq0)
  have H0 := Lib.hid h0
  have H := Lib.hid h
  have H' := Lib.hid h'
  have HF := Lib.hid hf
  have HG0 := Lib.hid hg
  have HT := Lib.hid ht
  have HN0 := Lib.hid hn0
  have HN := Lib.hid hn
  have HN' := Lib.hid hn'
  have HLL0 := Lib.hid h0.ls.len
  have HLL := Lib.hid h.ls.len
  have HLL' := Lib.hid h'.ls.len
  clear h0 h h' hf hg ht hn0 hn hn' hp0 hp0' hq0
  go_enter Tryd.func5, Tryd.ntmps5
  go_wp2_with fail
  have he := boxEnv_three w (.slice p0 n0 c0) (.slice q0 m0 d0) (.slice p n c) (.slice q m d) (.slice p' n' c') (.slice q' m' d')
  generalize ((w.alloc (.cells #[.slice p0 n0 c0, .slice q0 m0 d0] 25)).alloc (.cells #[.slice p n c, .slice q m d] 25)).alloc (.cells #[.slice p' n' c', .slice q' m' d'] 25) = W0 at *
  refine (known7_c _ (HT.out.grown he.1 (by simp))).mono ?_
  rintro e w1 ⟨rfl, hg1⟩
  have he1 := he.calm hg1
  have HE1 := Lib.hid he1
  obtain ⟨a00, a01, b00, b01, b10, b11⟩ := he1.three
  clear he hg1 he1
  go_wp2_with fail
  cases hfw : fewB L0 m0 with
  | false =>
    have HW := Lib.hid hfw
    clear hfw
    refine (few7_r _ _ _ _ _ _ _ _ L0 P0 false _ (H0.out.calm HE1.out.1) HN0.out HW.out).mono ?_
    rintro e w2 ⟨rfl, hg2⟩
    have HG := Lib.hid (HE1.out.calm hg2).1
    clear hg2
    go_wp2
    go_ret
    exact ⟨rfl, HG.out⟩
  | true =>
    have HW0 := Lib.hid hfw
    clear hfw
    refine (few7_r _ _ _ _ _ _ _ _ L0 P0 true _ (H0.out.calm HE1.out.1) HN0.out HW0.out).mono ?_
    rintro e w2 ⟨rfl, hg2⟩
    have he2 := HE1.out.calm hg2
    have HE2 := Lib.hid he2
    obtain ⟨a00, a01, b00, b01, b10, b11⟩ := he2.three
    clear hg2 he2 HE1
    go_wp2_with fail
    cases hfw : fewB L m with
    | false =>
      have HW := Lib.hid hfw
      clear hfw
      refine (few7_r _ _ _ _ _ _ _ _ L P false _ (H.out.calm HE2.out.1) HN.out HW.out).mono ?_
      rintro e w3 ⟨rfl, hg3⟩
      have HG := Lib.hid (HE2.out.calm hg3).1
      clear hg3
      go_wp2
      go_ret
      exact ⟨rfl, HG.out⟩
    | true =>
      have HW := Lib.hid hfw
      clear hfw
      refine (few7_r _ _ _ _ _ _ _ _ L P true _ (H.out.calm HE2.out.1) HN.out HW.out).mono ?_
      rintro e w3 ⟨rfl, hg3⟩
      have he3 := HE2.out.calm hg3
      have HE3 := Lib.hid he3
      obtain ⟨a00, a01, b00, b01, b10, b11⟩ := he3.three
      clear hg3 he3 HE2
      go_wp2_with fail
      cases hfw : fewB L' m' with
      | false =>
        have HW' := Lib.hid hfw
        clear hfw
        refine (few7_r _ _ _ _ _ _ _ _ L' P' false _ (H'.out.calm HE3.out.1) HN'.out HW'.out).mono ?_
        rintro e w4 ⟨rfl, hg4⟩
        have HG := Lib.hid (HE3.out.calm hg4).1
        clear hg4
        go_wp2
        go_ret
        exact ⟨rfl, HG.out⟩
      | true =>
        have HW' := Lib.hid hfw
        clear hfw
        refine (few7_r _ _ _ _ _ _ _ _ L' P' true _ (H'.out.calm HE3.out.1) HN'.out HW'.out).mono ?_
        rintro e w4 ⟨rfl, hg4⟩
        have he4 := HE3.out.calm hg4
        have HE4 := Lib.hid he4
        obtain ⟨a00, a01, b00, b01, b10, b11⟩ := he4.three
        have HG := Lib.hid he4.1
        clear hg4 he4 HE3
        by_cases h60 : 60 < nf
        · have d1 : (60 : Int) < nf := by omega
          go_wp2
          go_ret
          exact ⟨rfl, HG.out⟩
        have d1 : ¬ ((60 : Int) < nf) := by omega
        by_cases h61 : 60 < ng
        · have d2 : (60 : Int) < ng := by omega
          go_wp2
          go_ret
          exact ⟨rfl, HG.out⟩
        have d2 : ¬ ((60 : Int) < ng) := by omega
        obtain ⟨A, B, I, J, r, hsz, hpush, hcase⟩ := by
          have k0 : n0 ≤ 50 ∧ m0 ≤ 200 := by have := few_small HW0.out; rwa [HLL0.out] at this
          have k1 : n ≤ 50 ∧ m ≤ 200 := by have := few_small HW.out; rwa [HLL.out] at this
          have k2 : n' ≤ 50 ∧ m' ≤ 200 := by have := few_small HW'.out; rwa [HLL'.out] at this
          exact HB.out k0.1 k1.1 k2.1 k0.2 k1.2 k2.2 (by omega) (by omega)
        have hmb : m ≤ 1000000 ∧ m' ≤ 1000000 := by
          have k1 : n ≤ 50 ∧ m ≤ 200 := by have := few_small HW.out; rwa [HLL.out] at this
          have k2 : n' ≤ 50 ∧ m' ≤ 200 := by have := few_small HW'.out; rwa [HLL'.out] at this
          omega
        have HSZ := Lib.hid hsz
        have HPU := Lib.hid hpush
        clear hsz hpush HB
        rcases hcase with ⟨hr, rfl, rfl, rfl, rfl⟩ | ⟨rfl, hsq⟩
        · go_wp2_with fail
          have he4 := HE4.out
          refine (HPU.out _ (H0.out.calm he4.1) (H.out.calm he4.1) (H'.out.calm he4.1) (HF.out.calm he4.1) (HG0.out.calm he4.1) (HT.out.grown he4.1 (by simp))).mono ?_
          rintro e w5 ⟨p5, c5, q5, d5, pi, ci, pj, cj, rfl, ho5, hi5, hj5, _, _, hg5⟩
          have hga := World.grownBy_alloc w5 (.cells #[.slice p5 0 c5, .slice q5 0 d5] 25) none
          have hbo := BoxO.new w5 (.slice p5 0 c5) (.slice q5 0 d5)
          have HEND := Lib.hid (grownBy_trans (he4.calm hg5).1 hga)
          have x0 := hbo.c0
          have x1 := hbo.c1
          clear he4 ho5 hi5 hj5 hg5 hga hbo HPU HE4 HG
          simp only [List.length_nil]
          rcases hr with rfl | rfl
          all_goals
            go_wp2
            go_ret
            exact ⟨rfl, HEND.out⟩
        · have HSQ := Lib.hid hsq
          have HIL := Lib.hid (show I.length = n from hsq.il.trans HLL.out)
          have HJL := Lib.hid (show J.length = n' from hsq.jl.trans HLL'.out)
          clear hsq
          go_wp2_with fail
          have he4 := HE4.out
          refine (HPU.out _ (H0.out.calm he4.1) (H.out.calm he4.1) (H'.out.calm he4.1) (HF.out.calm he4.1) (HG0.out.calm he4.1) (HT.out.grown he4.1 (by simp))).mono ?_
          rintro e w5 ⟨p5, c5, q5, d5, pi, ci, pj, cj, rfl, ho5, hi5, hj5, _, _, hg5⟩
          have he5 := he4.calm hg5
          have hga := World.grownBy_alloc w5 (.cells #[.slice p5 A.length c5, .slice q5 B.length d5] 25) none
          have hbo := BoxO.new w5 (.slice p5 A.length c5) (.slice q5 B.length d5)
          have he6 := he5.calm hga
          have HO6 := Lib.hid (ho5.calm hga)
          have hi6 := hi5.calm hga
          have hj6 := hj5.calm hga
          have HE6 := Lib.hid he6
          have HBO := Lib.hid hbo
          have hz1 := HSZ.out.1
          have hz2 := HSZ.out.2.1
          have hz3 := HSZ.out.2.2.1
          have hz4 := HSZ.out.2.2.2
          rw [HIL.out] at hi6 hz3 ⊢
          rw [HJL.out] at hj6 hz4 ⊢
          have HI6 := Lib.hid hi6
          have HJ6 := Lib.hid hj6
          have HAL := Lib.hid (HO6.out.ls.len)
          obtain ⟨NA, hNA⟩ : ∃ NA, A.length = NA := ⟨_, rfl⟩
          obtain ⟨NB, hNB⟩ : ∃ NB, B.length = NB := ⟨_, rfl⟩
          rw [hNA, hNB] at HO6 HBO he6 HE6 hga hbo HI6 HJ6
          have hs56 := hga.size
          rw [hNA] at hz1
          rw [hNB] at hz2
          rw [hNA, hNB]
          have HNA := Lib.hid hNA
          have hnf : nf ≤ 1000000 := by omega
          have hng : ng ≤ 1000000 := by omega
          clear he4 he5 he6 ho5 hi5 hj5 hi6 hj6 hg5 hga hbo HPU HE4 HG a00 a01 b00 b01 b10 b11 HAL hNA hNB
          go_wp2_with fail
          generalize w5.alloc (.cells #[.slice p5 NA c5, .slice q5 NB d5] 25) = w6 at *
          refine (then_c pf pi nf cf n ci _ _ _ _ f I _ (HF.out.calm HE6.out.1) HI6.out hnf).mono ?_
          rintro e w7 ⟨hg7, ⟨h1, gx, rfl, hgx, hrx⟩ | ⟨h1, rfl⟩⟩
          rotate_left
          · exact absurd h1 (by rw [HSQ.out.fb]; decide)
          have HRX := Lib.hid hrx
          have HG7 := Lib.hid hg7
          have hfl : f.length = nf := HF.out.len
          rw [hfl]
          clear h1 hrx hg7
          go_wp2_with fail
          refine (then_c pg pj ng cg n' cj _ _ _ _ g J _ ((HG0.out.calm HE6.out.1).calm HG7.out) (HJ6.out.calm HG7.out) hng).mono ?_
          rintro e w8 ⟨hg8, ⟨h1, gy, rfl, hgy, hry⟩ | ⟨h1, rfl⟩⟩
          rotate_left
          · exact absurd h1 (by rw [HSQ.out.gb]; decide)
          have hgl : g.length = ng := HG0.out.len
          rw [hgl]
          have hxx := (HRX.out.calm hg8).at1
          have hyy := hry.at1
          rw [thenL_len, hfl] at hxx
          rw [thenL_len, hgl] at hyy
          have HG8 := Lib.hid (grownBy_trans HG7.out hg8)
          clear h1 hry hg8 hgx hgy HRX HG7
          go_wp2_with fail
          refine (arSame_r _ _ _ _ _ _ _ _ _ _ (thenL f I) (thenL g J) true _ hxx hyy hnf (by rw [HSQ.out.same]; simp)).mono ?_
          rintro e w9 ⟨rfl, hg9⟩
          have hg9 := grownBy_trans HG8.out hg9
          have HG9 := Lib.hid hg9
          have he9 := HE6.out.calm hg9
          have HE9 := Lib.hid he9
          obtain ⟨a00, a01, b00, b01, b10, b11⟩ := he9.three
          have hbx := HBO.out.calm hg9
          have x0 := hbx.c0
          have x1 := hbx.c1
          have ho9 := HO6.out.calm hg9
          have hi9 := HI6.out.calm hg9
          clear hxx hyy hg9 he9 hbx HG8
          go_wp2_with fail
          refine (arIs_r p q p5 q5 pi n c m d NA c5 NB d5 n ci _ _ _ _ _ _ L A P B I true _ (H.out.calm HE9.out.1) ho9 hi9 hz3 hmb.1 hz2 HSQ.out.ai).mono ?_
          rintro e wA ⟨rfl, hgA⟩
          have hgA := grownBy_trans HG9.out hgA
          have HGA := Lib.hid hgA
          have heA := HE6.out.calm hgA
          have HEA := Lib.hid heA
          obtain ⟨a00, a01, b00, b01, b10, b11⟩ := heA.three
          have hbx := HBO.out.calm hgA
          have x0 := hbx.c0
          have x1 := hbx.c1
          have hoA := HO6.out.calm hgA
          have hjA := HJ6.out.calm hgA
          clear ho9 hi9 hgA heA hbx HG9 HE9
          go_wp2_with fail
          refine (arIs_r p' q' p5 q5 pj n' c' m' d' NA c5 NB d5 n' cj _ _ _ _ _ _ L' A P' B J true _ (H'.out.calm HEA.out.1) hoA hjA hz4 hmb.2 hz2 HSQ.out.aj).mono ?_
          rintro e wB ⟨rfl, hgB⟩
          have hgB := grownBy_trans HGA.out hgB
          have hbx := HBO.out.calm hgB
          have x0 := hbx.c0
          have x1 := hbx.c1
          have hs6B := hgB.size
          have HIB := Lib.hid ((HI6.out.calm hgB).wider (hi' := wB.heap.size) (Nat.le_refl _) (by omega) (Nat.le_refl _))
          have HJB := Lib.hid ((HJ6.out.calm hgB).wider (hi' := wB.heap.size) (Nat.le_refl _) (by omega) (Nat.le_refl _))
          have HGB := Lib.hid (HE6.out.calm hgB).1
          clear hoA hjA hgB hbx HGA HEA a00 a01 b00 b01 b10 b11 HO6 HI6 HJ6 HBO HE6
          have hmk := run_make_row' (P := Tryd.prog) 47 4 (.bool false) 1 Tryd.underlying47 Tryd.infoB4 rfl .i64 .i64 NA (by omega) (by omega)
          have hga := World.grownBy_alloc wB (.cells (madeCells #[.bool false] NA) 4) none
          have hnew := boolRow_new wB NA
          go_wp2_with fail
          generalize wB.alloc (.cells (madeCells #[.bool false] NA) 4) = wC at *
          have HIC := Lib.hid (HIB.out.calm hga)
          have HJC := Lib.hid (HJB.out.calm hga)
          have HGC := Lib.hid (grownBy_trans HGB.out hga)
          have hsB := HGB.out.size
          have HNEW := Lib.hid (show BoolRow wC wB.heap.size NA (hitB (I.take 0)) by rw [List.take_zero, hitB_nil]; exact hnew)
          obtain ⟨gb, hgb⟩ : ∃ gb, gb = wB.heap.size := ⟨_, rfl⟩
          rw [← hgb] at HNEW ⊢
          have hgw : w.heap.size ≤ gb := by omega
          have HIA := Lib.hid (show ∀ k, k < n → ∃ x : Nat, I[k]?.getD 0 = (x : Int) ∧ x < NA from fun k hk => by
            have h1 := hasZ_iff.1 (lab1_of (arB_parts HSQ.out.ai).2.2.2.1 (i := k) (by rw [HIL.out]; exact hk)).1
            obtain ⟨x, hx⟩ := Int.eq_ofNat_of_zero_le h1.1
            exact ⟨x, hx, by have := HNA.out; omega⟩)
          have HJA := Lib.hid (show ∀ k, k < n' → ∃ x : Nat, J[k]?.getD 0 = (x : Int) ∧ x < NA from fun k hk => by
            have h1 := hasZ_iff.1 (lab1_of (arB_parts HSQ.out.aj).2.2.2.1 (i := k) (by rw [HJL.out]; exact hk)).1
            obtain ⟨x, hx⟩ := Int.eq_ofNat_of_zero_le h1.1
            exact ⟨x, hx, by have := HNA.out; omega⟩)
          have HALL := Lib.hid (show ∀ k, k < NA → hitB (I ++ J) k = true from fun k hk => by
            rcases HSQ.out.all k (by rw [HNA.out]; exact hk) with ⟨e, h1, h2⟩ | ⟨e, h1, h2⟩
            · refine decide_eq_true (List.mem_append.2 (.inl ?_))
              rw [← h2, List.getElem?_eq_getElem h1]
              exact List.getElem_mem h1
            · refine decide_eq_true (List.mem_append.2 (.inr ?_))
              rw [← h2, List.getElem?_eq_getElem h1]
              exact List.getElem_mem h1)
          rw [← hgb] at HIC HJC
          clear hga hnew x0 x1 hmk hgb HIB HJB HGB HSQ hs56 hs6B hsB
          go_wp2
          go_loopw [20] (fun i wr => ∃ k : Nat, k ≤ n ∧ i = .int .i64 k ∧ BoolRow wr gb NA (hitB (I.take k)) ∧ Kept gb (gb + 1) wC wr) (fun i _ => n - (intOf i).toNat)
          case atStart => exact ⟨0, Nat.zero_le _, rfl, HNEW.out, Kept.refl _ _ _⟩
          case round =>
            obtain ⟨k, hk, rfl, hrow, hkp⟩ := hrel
            have HROW := Lib.hid hrow
            have HKP := Lib.hid hkp
            by_cases hkn : k < n
            · have k0 : (0 : Int) ≤ k := by omega
              have k1 : (k : Int) < n := by omega
              obtain ⟨bf, of', rfl, f1, f2, f3, hcf⟩ := (HIC.out.apart hkp (.inl (Nat.le_refl _))).cell (by omega)
              have cf9 := hcf k hkn
              obtain ⟨x, hx, hxN⟩ := HIA.out k hkn
              have HTK := Lib.hid (take_snocZ (l := I) (k := k) (by rw [HIL.out]; exact hkn))
              rw [hx] at cf9 HTK
              have hc := hrow.cell hxN
              have hfz := hrow.free x
              have x0 : (0 : Int) ≤ x := by omega
              have x1 : (x : Int) < NA := by omega
              have HR2 := Lib.hid (show BoolRow (wr.setCell ⟨gb, x, none⟩ (.bool true)) gb NA (hitB (I.take (k + 1))) from by
                rw [HTK.out]
                exact (hrow.set hxN true).congr fun j _ => hitB_snoc j)
              have HK2 := Lib.hid (hkp.trans (Kept.row (grownBy_setCell wr ⟨gb, x, none⟩ (.bool true)) (Nat.le_refl _) (Nat.lt_succ_self _)))
              clear hcf hrow hkp hx
              generalize hitB (I.take k) = S at *
              go_wp2
              exact ⟨⟨k + 1, by omega, by go_num, HR2.out, HK2.out⟩, by simp [intOf]; omega⟩
            · obtain rfl : k = n := by omega
              have k1 : ¬ ((k : Int) < k) := by omega
              rw [List.take_of_length_le (by rw [HIL.out]; exact Nat.le_refl _), ← List.append_nil I] at HROW
              have HJD := Lib.hid (HJC.out.apart hkp (.inl (Nat.le_refl _)))
              have HGD := Lib.hid (Kept.new HGC.out hkp hgw)
              clear hrow hkp HKP
              generalize wr = wD at *
              go_wp2
              go_loopw [21] (fun i wr => ∃ k : Nat, k ≤ n' ∧ i = .int .i64 k ∧ BoolRow wr gb NA (hitB (I ++ J.take k)) ∧ Kept gb (gb + 1) wD wr) (fun i _ => n' - (intOf i).toNat)
              case atStart => exact ⟨0, Nat.zero_le _, rfl, HROW.out, Kept.refl _ _ _⟩
              case round =>
                obtain ⟨l, hl, rfl, hrow, hkp⟩ := hrel
                have HROW := Lib.hid hrow
                by_cases hln : l < n'
                · have l0 : (0 : Int) ≤ l := by omega
                  have l1 : (l : Int) < n' := by omega
                  obtain ⟨bf, of', rfl, f1, f2, f3, hcf⟩ := (HJD.out.apart hkp (.inl (Nat.le_refl _))).cell (by omega)
                  have cf9 := hcf l hln
                  obtain ⟨x, hx, hxN⟩ := HJA.out l hln
                  have HTK := Lib.hid (take_snocZ (l := J) (k := l) (by rw [HJL.out]; exact hln))
                  rw [hx] at cf9 HTK
                  have hc := hrow.cell hxN
                  have hfz := hrow.free x
                  have x0 : (0 : Int) ≤ x := by omega
                  have x1 : (x : Int) < NA := by omega
                  have HR2 := Lib.hid (show BoolRow (wr.setCell ⟨gb, x, none⟩ (.bool true)) gb NA (hitB (I ++ J.take (l + 1))) from by
                    rw [HTK.out, ← List.append_assoc]
                    exact (hrow.set hxN true).congr fun j _ => hitB_snoc j)
                  have HK2 := Lib.hid (hkp.trans (Kept.row (grownBy_setCell wr ⟨gb, x, none⟩ (.bool true)) (Nat.le_refl _) (Nat.lt_succ_self _)))
                  clear hcf hrow hkp hx HROW
                  generalize hitB (I ++ J.take l) = S at *
                  go_wp2
                  exact ⟨⟨l + 1, by omega, by go_num, HR2.out, HK2.out⟩, by simp [intOf]; omega⟩
                · obtain rfl : l = n' := by omega
                  have l1 : ¬ ((l : Int) < l) := by omega
                  rw [List.take_of_length_le (by rw [HJL.out]; exact Nat.le_refl _)] at HROW
                  have HGE := Lib.hid (Kept.new HGD.out hkp hgw)
                  clear hrow hkp
                  generalize wr = wE at *
                  go_wp2
                  go_loopw [22] (fun i wr => ∃ k : Nat, k ≤ NA ∧ i = .int .i64 k ∧ BoolRow wr gb NA (hitB (I ++ J)) ∧ w.grownBy wr none) (fun i _ => NA - (intOf i).toNat)
                  case atStart => exact ⟨0, Nat.zero_le _, rfl, HROW.out, HGE.out⟩
                  case round =>
                    obtain ⟨z, hz, rfl, hrow, hgr⟩ := hrel
                    have HR3 := Lib.hid hrow
                    have HG3 := Lib.hid hgr
                    by_cases hzn : z < NA
                    · have z0 : (0 : Int) ≤ z := by omega
                      have z1 : (z : Int) < NA := by omega
                      have hc := hrow.cell hzn
                      rw [HALL.out z hzn] at hc
                      clear hrow hgr
                      go_wp2
                      exact ⟨⟨z + 1, by omega, by go_num, HR3.out, HG3.out⟩, by simp [intOf]; omega⟩
                    · obtain rfl : z = NA := by omega
                      have z1 : ¬ ((z : Int) < z) := by omega
                      clear hrow hgr
                      go_wp2
                      go_ret
                      exact ⟨rfl, HG3.out⟩

end Go.Proofs.YtihkjgiaajgkpaaDoor
