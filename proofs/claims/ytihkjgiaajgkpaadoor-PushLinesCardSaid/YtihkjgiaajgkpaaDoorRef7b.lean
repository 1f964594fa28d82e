/- The reference's package push: Equal. -/
import Derived.Test.YtihkjgiaajgkpaaDoorRef7a
namespace Go.Proofs.YtihkjgiaajgkpaaDoor
open Go.RowKit

/-- What the reference hands back. -/
def RRes3 (L : List ByteArray) (P : List (Int × Int)) (I : List Int) (r : Int) (w : World) (e : Ending) (w' : World) : Prop :=
  ∃ p c q d pi ci, e = .returned (.tuple #[.agg #[.slice p L.length c, .slice q P.length d], .slice pi I.length ci, .int .i64 r]) ∧
    ObjAt w' w.heap.size w'.heap.size p L.length q P.length L P ∧ ZsAt w' w.heap.size w'.heap.size pi I.length I ∧ w.grownBy w' none
theorem rres3_nil {r : Int} {w w' : World} (h : w.grownBy w' none) : RRes3 [] [] [] r w (.returned (.tuple #[.agg #[.slice none 0 0, .slice none 0 0], .slice none 0 0, .int .i64 r])) w' :=
  ⟨none, 0, none, 0, none, 0, rfl, ⟨strsAt_nil _ _ _, pairsAt_nil _ _ _⟩, zsAt_nil _ _ _, h⟩

set_option maxRecDepth 20000 in
set_option maxHeartbeats 2000000 in
theorem refEql_large1 (p q p' q' pf pg : Option Addr) (n c m d n' c' m' d' nf cf ng cg : Nat) (w : World) (h : 40 < n) :
    Calls Tryd.prog 19 #[.agg #[.slice p n c, .slice q m d], .agg #[.slice p' n' c', .slice q' m' d'], .slice pf nf cf, .slice pg ng cg] w (RRes3 [] [] [] 11 w) := by
  have d1 : (40 : Int) < n := by omega
  have he := boxEnv_three w (.slice p n c) (.slice q m d) (.slice p' n' c') (.slice q' m' d') (.slice none 0 0) (.slice none 0 0)
  obtain ⟨b00, b01, b10, b11⟩ := he.two
  obtain ⟨b20, b21, f20, f21⟩ := he.third
  have HE := Lib.hid he
  have HG := Lib.hid (he.gr2 (b := w.heap.size + 1 + 1) (by omega) (.slice none 0 0) (.slice none 0 0))
  clear he
  go_enter Tryd.func19, Tryd.ntmps19
  go_wp2
  exact bodyPost_ret (v := .tuple #[.agg #[.slice none 0 0, .slice none 0 0], .slice none 0 0, .int .i64 11]) (by simp [results, Tryd.results19, go_sem]) rfl (rres3_nil (by first | exact HG.out | exact HE.out.1))

set_option maxRecDepth 20000 in
set_option maxHeartbeats 2000000 in
theorem refEql_large2 (p q p' q' pf pg : Option Addr) (n c m d n' c' m' d' nf cf ng cg : Nat) (w : World) (h0 : n ≤ 40) (h : 40 < n') :
    Calls Tryd.prog 19 #[.agg #[.slice p n c, .slice q m d], .agg #[.slice p' n' c', .slice q' m' d'], .slice pf nf cf, .slice pg ng cg] w (RRes3 [] [] [] 11 w) := by
  have d0 : ¬ ((40 : Int) < n) := by omega
  have d1 : (40 : Int) < n' := by omega
  have he := boxEnv_three w (.slice p n c) (.slice q m d) (.slice p' n' c') (.slice q' m' d') (.slice none 0 0) (.slice none 0 0)
  obtain ⟨b00, b01, b10, b11⟩ := he.two
  obtain ⟨b20, b21, f20, f21⟩ := he.third
  have HE := Lib.hid he
  have HG := Lib.hid (he.gr2 (b := w.heap.size + 1 + 1) (by omega) (.slice none 0 0) (.slice none 0 0))
  clear he
  go_enter Tryd.func19, Tryd.ntmps19
  go_wp2
  exact bodyPost_ret (v := .tuple #[.agg #[.slice none 0 0, .slice none 0 0], .slice none 0 0, .int .i64 11]) (by simp [results, Tryd.results19, go_sem]) rfl (rres3_nil (by first | exact HG.out | exact HE.out.1))

set_option maxRecDepth 20000 in
set_option maxHeartbeats 2000000 in
theorem refEql_form (p q p' q' pf pg : Option Addr) (n c m d n' c' m' d' nf cf ng cg lo hi lo' hi' lof hif log hig : Nat) (L L' : List ByteArray) (P P' : List (Int × Int)) (f g : List Int) (w : World) (h : ObjAt w lo hi p n q m L P) (h' : ObjAt w lo' hi' p' n' q' m' L' P') (hf : ZsAt w lof hif pf nf f) (hg : ZsAt w log hig pg ng g) (hm : m ≤ 400000) (hm' : m' ≤ 400000) (hnf : nf ≤ 1000000) (hng : ng ≤ 1000000) (hn40 : n ≤ 40) (hn40' : n' ≤ 40) (hno : (arB L P L' P' f && arB L P L' P' g) = false) :
    Calls Tryd.prog 19 #[.agg #[.slice p n c, .slice q m d], .agg #[.slice p' n' c', .slice q' m' d'], .slice pf nf cf, .slice pg ng cg] w (RRes3 [] [] [] 10 w) := by
  have d0 : ¬ ((40 : Int) < n) := by omega
  have d1 : ¬ ((40 : Int) < n') := by omega
  have H := Lib.hid h
  have H' := Lib.hid h'
  have HF := Lib.hid hf
  have HG0 := Lib.hid hg
  have HNO := Lib.hid hno
  clear h h' hf hg hno
  have he := boxEnv_three w (.slice p n c) (.slice q m d) (.slice p' n' c') (.slice q' m' d') (.slice none 0 0) (.slice none 0 0)
  obtain ⟨b00, b01, b10, b11⟩ := he.two
  obtain ⟨b20, b21, f20, f21⟩ := he.third
  have HE := Lib.hid he
  have HG := Lib.hid (he.gr2 (b := w.heap.size + 1 + 1) (by omega) (.slice none 0 0) (.slice none 0 0))
  clear he
  go_enter Tryd.func19, Tryd.ntmps19
  go_wp2_with fail
  have he0 := HE.out
  generalize (((w.alloc (.cells #[.slice p n c, .slice q m d] 25)).alloc (.cells #[.slice p' n' c', .slice q' m' d'] 25)).alloc (.cells #[.slice none 0 0, .slice none 0 0] 25)) = W0 at *
  have ho := H.out.calm he0.1
  have ho' := H'.out.calm he0.1
  have hof := HF.out.calm he0.1
  clear HG he0
  cases hr1 : arB L P L' P' f with
  | false =>
    have HR1 := Lib.hid hr1
    clear hr1
    refine (refArrow_r p q p' q' pf n c m d n' c' m' d' nf cf _ _ _ _ _ _ L L' P P' f false _ ho ho' hof hnf (by omega) (by omega) HR1.out).mono ?_
    rintro e w3 ⟨rfl, hg3⟩
    have he3 := HE.out.calm hg3
    clear ho ho' hof hg3
    obtain ⟨b20, b21, f20, f21⟩ := he3.third
    have HG := Lib.hid (he3.gr2 (b := w.heap.size + 1 + 1) (by omega) (.slice none 0 0) (.slice none 0 0))
    clear he3
    go_wp2
    refine bodyPost_ret (v := .tuple #[.agg #[.slice none 0 0, .slice none 0 0], .slice none 0 0, .int .i64 10]) (by simp [results, Tryd.results19, go_sem, b20, b21]) rfl (rres3_nil HG.out)
  | true =>
    have HR1 := Lib.hid hr1
    have HR3 := Lib.hid (show arB L P L' P' g = false by have := HNO.out; rw [hr1] at this; simpa using this)
    clear hr1
    refine (refArrow_r p q p' q' pf n c m d n' c' m' d' nf cf _ _ _ _ _ _ L L' P P' f true _ ho ho' hof hnf (by omega) (by omega) HR1.out).mono ?_
    rintro e w3 ⟨rfl, hg3⟩
    have he3 := HE.out.calm hg3
    have HE3 := Lib.hid he3
    have ho := H.out.calm he3.1
    have ho' := H'.out.calm he3.1
    have hog := HG0.out.calm he3.1
    obtain ⟨b00, b01, b10, b11⟩ := he3.two
    clear hof hg3 he3
    go_wp2_with fail
    refine (refArrow_r p q p' q' pg n c m d n' c' m' d' ng cg _ _ _ _ _ _ L L' P P' g false _ ho ho' hog hng (by omega) (by omega) HR3.out).mono ?_
    rintro e w4 ⟨rfl, hg4⟩
    have he4 := HE3.out.calm hg4
    clear ho ho' hog hg4
    obtain ⟨b20, b21, f20, f21⟩ := he4.third
    have HG := Lib.hid (he4.gr2 (b := w.heap.size + 1 + 1) (by omega) (.slice none 0 0) (.slice none 0 0))
    clear he4
    go_wp2
    refine bodyPost_ret (v := .tuple #[.agg #[.slice none 0 0, .slice none 0 0], .slice none 0 0, .int .i64 10]) (by simp [results, Tryd.results19, go_sem, b20, b21]) rfl (rres3_nil HG.out)

set_option maxRecDepth 20000 in
set_option maxHeartbeats 4000000 in
theorem refEql_ok (p q p' q' pf pg : Option Addr) (n c m d n' c' m' d' nf cf cg lo hi lo' hi' lof hif log hig : Nat) (L L' : List ByteArray) (P P' : List (Int × Int)) (f g : List Int) (w : World) (h : ObjAt w lo hi p n q m L P) (h' : ObjAt w lo' hi' p' n' q' m' L' P') (hf : ZsAt w lof hif pf nf f) (hg : ZsAt w log hig pg nf g) (hm : m ≤ 400000) (hm' : m' ≤ 400000) (hnf : nf ≤ 1000000) (hn40 : n ≤ 40) (hn40' : n' ≤ 40) (hq1 : arB L P L' P' f = true) (hq2 : arB L P L' P' g = true) :
    Calls Tryd.prog 19 #[.agg #[.slice p n c, .slice q m d], .agg #[.slice p' n' c', .slice q' m' d'], .slice pf nf cf, .slice pg nf cg] w (RRes3 (labG L' (joinsL n' f g)) (gluP (joinsL n' f g) P') (atZ (joinsL n' f g)) 0 w) := by
  have hchk : chk L' P' = 0 := (arB_chk hq1).2
  have HIN := Lib.hid (show allIn n' P' = true by have := (chk_in hchk).2.2.1; rwa [h'.ls.len] at this)
  have d0 : ¬ ((40 : Int) < n) := by omega
  have d1 : ¬ ((40 : Int) < n') := by omega
  have H := Lib.hid h
  have H' := Lib.hid h'
  have HF := Lib.hid hf
  have HG0 := Lib.hid hg
  have HR1 := Lib.hid hq1
  have HR3 := Lib.hid hq2
  clear h h' hf hg hq1 hq2 hchk
  have he := boxEnv_three w (.slice p n c) (.slice q m d) (.slice p' n' c') (.slice q' m' d') (.slice none 0 0) (.slice none 0 0)
  obtain ⟨b00, b01, b10, b11⟩ := he.two
  obtain ⟨b20, b21, f20, f21⟩ := he.third
  have HE := Lib.hid he
  have HG := Lib.hid (he.gr2 (b := w.heap.size + 1 + 1) (by omega) (.slice none 0 0) (.slice none 0 0))
  clear he
  go_enter Tryd.func19, Tryd.ntmps19
  go_wp2_with fail
  have he0 := HE.out
  generalize (((w.alloc (.cells #[.slice p n c, .slice q m d] 25)).alloc (.cells #[.slice p' n' c', .slice q' m' d'] 25)).alloc (.cells #[.slice none 0 0, .slice none 0 0] 25)) = W0 at *
  have ho := H.out.calm he0.1
  have ho' := H'.out.calm he0.1
  have hof := HF.out.calm he0.1
  clear HG he0
  refine (refArrow_r p q p' q' pf n c m d n' c' m' d' nf cf _ _ _ _ _ _ L L' P P' f true _ ho ho' hof hnf (by omega) (by omega) HR1.out).mono ?_
  rintro e w3 ⟨rfl, hg3⟩
  have he3 := HE.out.calm hg3
  have HE3 := Lib.hid he3
  have ho := H.out.calm he3.1
  have ho' := H'.out.calm he3.1
  have hog := HG0.out.calm he3.1
  obtain ⟨b00, b01, b10, b11⟩ := he3.two
  clear hof hg3 he3
  go_wp2_with fail
  refine (refArrow_r p q p' q' pg n c m d n' c' m' d' nf cg _ _ _ _ _ _ L L' P P' g true _ ho ho' hog hnf (by omega) (by omega) HR3.out).mono ?_
  rintro e w4 ⟨rfl, hg4⟩
  have he4 := HE3.out.calm hg4
  have HE4 := Lib.hid he4
  obtain ⟨b00, b01, b10, b11⟩ := he4.two
  clear ho ho' hog hg4 he4 HE3
  go_wp2_with fail
  refine (newR_c n' w4 (by omega)).mono ?_
  rintro e w5 ⟨ub, rfl, hu, hg5⟩
  have HU := Lib.hid hu
  have HG5 := Lib.hid hg5
  have htop := hu.top
  clear hu hg5
  generalize hlo : w4.heap.size = lo9 at *
  have HLO := Lib.hid hlo
  clear hlo
  generalize hhi : w5.heap.size = hi9 at *
  clear hhi
  go_wp2
  go_loopw [12] (fun i wr => ∃ k : Nat, k ≤ nf ∧ i = .int .i64 k ∧ IsRn wr lo9 hi9 ub (joinsK (List.range n') f g k) ∧ w4.grownBy wr none) (fun i _ => nf - (intOf i).toNat)
  case atStart => exact ⟨0, Nat.zero_le _, rfl, HU.out, HG5.out⟩
  case round =>
    obtain ⟨k, hk, rfl, hu, hgr⟩ := hrel
    have HUK := Lib.hid hu
    have HGR := Lib.hid hgr
    have hek := HE4.out.calm hgr
    by_cases hka : k < nf
    · have k0 : (0 : Int) ≤ k := by omega
      have k1 : (k : Int) < nf := by omega
      obtain ⟨bf, of', rfl, f1, f2, f3, hcf⟩ := (HF.out.calm hek.1).cell (by omega)
      obtain ⟨bg, og', rfl, q1, q2, q3, hcg⟩ := (HG0.out.calm hek.1).cell (by omega)
      have cf9 := hcf k hka
      have cg9 := hcg k hka
      have HS : Hid (joinsK (List.range n') f g (k + 1) = joinZ (joinsK (List.range n') f g k) (f[k]?.getD 0) (g[k]?.getD 0)) := Lib.hid rfl
      clear hcf hcg hu hgr hek
      generalize f[k]?.getD 0 = x at *
      generalize g[k]?.getD 0 = y at *
      go_wp2_with fail
      refine wp_region_still_tail 9 (by kernel_rfl) (by kernel_rfl) ?_
      simp only [List.take_succ_cons, List.take_zero, List.drop_succ_cons, List.drop_zero]
      repeat still_step
      refine wpStill_nil ?_
      change wpList _ _ _ _ _ wr.drew
      go_wp2_with fail
      refine (joinR_c lo9 hi9 ub _ x y _ (HUK.out.calm (grownBy_drewN wr 1 none))).mono ?_
      rintro e w6 ⟨rfl, h6, hk6⟩
      have HA6 := Lib.hid (show IsRn w6 lo9 hi9 ub (joinsK (List.range n') f g (k + 1)) by rw [HS.out]; exact h6)
      have HG6 := Lib.hid (Kept.new (grownBy_trans HGR.out (grownBy_drewN wr 1 none)) hk6 (by rw [HLO.out]; exact Nat.le_refl _))
      clear h6 hk6
      go_wp2
      exact ⟨⟨k + 1, by omega, by go_num, HA6.out, HG6.out⟩, by simp [intOf]; omega⟩
    · obtain rfl : k = nf := by omega
      have hJ : joinsK (List.range n') f g k = joinsL n' f g := by unfold joinsL; rw [HF.out.len]
      rw [hJ] at HUK
      have HEK := Lib.hid hek
      obtain ⟨b00, b01, b10, b11⟩ := hek.two
      have ho' := H'.out.calm hek.1
      have HJI := Lib.hid (joinsL_is n' f g)
      have HJL := Lib.hid (joinsL_len n' f g)
      clear hJ hu hgr hek
      go_wp2_with fail
      refine (glued_c p' q' n' c' m' d' _ _ lo9 hi9 ub L' P' (joinsL n' f g) _ ho' HUK.out HJI.out HJL.out hn40' (by omega) HIN.out).mono ?_
      rintro e w7 ⟨p7, c7, q7, d7, g7, rfl, ho7, hz7, hg7⟩
      have he7 := HEK.out.calm hg7
      have hbase : w.heap.size + 1 + 1 < wr.heap.size := (HEK.out.2 2 _ rfl).lt
      have hga := World.grownBy_alloc w7 (.cells #[.slice p7 (labG L' (joinsL n' f g)).length c7, .slice q7 (gluP (joinsL n' f g) P').length d7] 25) none
      have hbo := BoxO.new w7 (.slice p7 (labG L' (joinsL n' f g)).length c7) (.slice q7 (gluP (joinsL n' f g) P').length d7)
      have he8 := he7.calm hga
      have ho8 := ho7.calm hga
      have hz8 := hz7.calm hga
      have hza : (atZ (joinsL n' f g)).length = n' := by rw [atZ_len, HJL.out]
      obtain ⟨b20, b21, f20, f21⟩ := he8.third
      have x0 := hbo.c0
      have x1 := hbo.c1
      have HFIN : Hid (∀ W8, W8 = ((w7.alloc (.cells #[.slice p7 (labG L' (joinsL n' f g)).length c7, .slice q7 (gluP (joinsL n' f g) P').length d7] 25)).setCell ⟨w.heap.size + 1 + 1, 0, none⟩ (.slice p7 (labG L' (joinsL n' f g)).length c7)).setCell ⟨w.heap.size + 1 + 1, 1, none⟩ (.slice q7 (gluP (joinsL n' f g) P').length d7) →
          W8.cell? ⟨w.heap.size + 1 + 1, 0, none⟩ = some (.slice p7 (labG L' (joinsL n' f g)).length c7) ∧ W8.cell? ⟨w.heap.size + 1 + 1, 1, none⟩ = some (.slice q7 (gluP (joinsL n' f g) P').length d7) ∧
          RRes3 (labG L' (joinsL n' f g)) (gluP (joinsL n' f g) P') (atZ (joinsL n' f g)) 0 w (.returned (.tuple #[.agg #[.slice p7 (labG L' (joinsL n' f g)).length c7, .slice q7 (gluP (joinsL n' f g) P').length d7], .slice (some ⟨g7, 0, none⟩) n' n', .int .i64 0])) W8) := Lib.hid (by
        rintro W8 rfl
        generalize hX : Value.slice p7 (labG L' (joinsL n' f g)).length c7 = X at *
        generalize hY : Value.slice q7 (gluP (joinsL n' f g) P').length d7 = Y at *
        generalize w7.alloc (.cells #[X, Y] 25) = w8 at *
        have heF := he8.set3 X Y
        obtain ⟨c0, c1, _, _⟩ := heF.third
        have q1 := grownBy_setCell w8 ⟨w.heap.size + 1 + 1, 0, none⟩ X
        have q2 := grownBy_setCell (w8.setCell ⟨w.heap.size + 1 + 1, 0, none⟩ X) ⟨w.heap.size + 1 + 1, 1, none⟩ Y
        have k1 := Kept.row q1 (Nat.le_refl _) (Nat.lt_succ_self _)
        have k2 := Kept.row q2 (Nat.le_refl _) (Nat.lt_succ_self _)
        have hobF := (ho8.set (a := ⟨w.heap.size + 1 + 1, 0, none⟩) (by show w.heap.size + 1 + 1 < wr.heap.size; exact hbase) X).set (a := ⟨w.heap.size + 1 + 1, 1, none⟩) (by show w.heap.size + 1 + 1 < wr.heap.size; exact hbase) Y
        have hzF := (hz8.apart k1 (.inr (by show w.heap.size + 1 + 1 + 1 ≤ wr.heap.size; omega))).apart k2 (.inr (by show w.heap.size + 1 + 1 + 1 ≤ wr.heap.size; omega))
        have z1 := q1.size
        have z2 := q2.size
        have z3 := hga.size
        subst hX hY
        refine ⟨c0, c1, p7, c7, q7, d7, some ⟨g7, 0, none⟩, n', by rw [hza], hobF.wider (by omega) (by omega) (Nat.le_refl _), ?_, heF.1⟩
        rw [hza]
        exact hzF.wider (by omega) (by omega) (Nat.le_refl _))
      clear he7 hga hbo he8 ho8 hz8 ho7 hz7 hg7 ho' hza
      go_wp2
      obtain ⟨c8, c9, hres⟩ := HFIN.out _ rfl
      exact bodyPost_ret (v := .tuple #[.agg #[.slice p7 (labG L' (joinsL n' f g)).length c7, .slice q7 (gluP (joinsL n' f g) P').length d7], .slice (some ⟨g7, 0, none⟩) n' n', .int .i64 0]) (by simp [results, Tryd.results19, go_sem, c8, c9]) rfl hres

end Go.Proofs.YtihkjgiaajgkpaaDoor
