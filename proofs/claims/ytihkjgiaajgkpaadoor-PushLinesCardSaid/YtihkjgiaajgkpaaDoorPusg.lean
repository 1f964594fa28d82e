/- Package push: the contract of Equal. -/
import Derived.Test.YtihkjgiaajgkpaaDoorPusf
namespace Go.Proofs.YtihkjgiaajgkpaaDoor
open Go.RowKit Go.Shelf

theorem objAt_wide {w : World} {p q : Option Addr} {n m lo hi : Nat} {L : List ByteArray} {P : List (Int × Int)} (h : ObjAt w lo hi p n q m L P) : ObjAt w 0 w.heap.size p n q m L P := by
  refine ⟨⟨h.ls.len, fun hn => ?_⟩, ⟨h.ps.len, fun hn => ?_⟩⟩
  · obtain ⟨b, off, e, q1, q2, q3, hc⟩ := h.ls.cell hn
    exact ⟨b, off, e, Nat.zero_le _, by omega, Nat.le_refl _, hc⟩
  · obtain ⟨b, off, e, q1, q2, q3, hc⟩ := h.ps.cell hn
    exact ⟨b, off, e, Nat.zero_le _, by omega, Nat.le_refl _, hc⟩

set_option maxRecDepth 20000 in
set_option maxHeartbeats 2000000 in
theorem eql_large1 (p q p' q' pf pg : Option Addr) (n c m d n' c' m' d' nf cf ng cg : Nat) (w : World) (hn : n ≤ 1000) (h : 40 < n) :
    Calls Tryd.prog 18 #[.agg #[.slice p n c, .slice q m d], .agg #[.slice p' n' c', .slice q' m' d'], .slice pf nf cf, .slice pg ng cg] w (Res3 [] [] [] 11 w) := by
  have HR := Lib.hid (show decide (40 < n) = true by simpa using h)
  clear h
  go_enter Tryd.func18, Tryd.ntmps18
  go_wp2_with fail
  have he := boxEnv_three w (.slice p n c) (.slice q m d) (.slice p' n' c') (.slice q' m' d') (.slice none 0 0) (.slice none 0 0)
  have hs : (((w.alloc (.cells #[.slice p n c, .slice q m d] 25)).alloc (.cells #[.slice p' n' c', .slice q' m' d'] 25)).alloc (.cells #[.slice none 0 0, .slice none 0 0] 25)).heap.size = w.heap.size + 1 + 1 + 1 := by simp
  generalize ((w.alloc (.cells #[.slice p n c, .slice q m d] 25)).alloc (.cells #[.slice p' n' c', .slice q' m' d'] 25)).alloc (.cells #[.slice none 0 0, .slice none 0 0] 25) = W3 at *
  have hb := heap_alloc_new W3 (.cells #[.slice p n c, .slice q m d] 25)
  rw [hs] at hb
  have he4 := he.calm (World.grownBy_alloc W3 (.cells #[.slice p n c, .slice q m d] 25) none)
  refine (large_one _ p q n c m d true _ hn hb HR.out).mono ?_
  rintro e w1 ⟨rfl, hg1⟩
  have he1 := he4.calm hg1
  have HE1 := Lib.hid he1
  clear he he4 hg1 hb hs
  obtain ⟨b20, b21, f20, f21⟩ := he1.third
  have HG := Lib.hid (he1.gr2 (b := w.heap.size + 1 + 1) (by omega) (.slice none 0 0) (.slice none 0 0))
  clear he1
  go_wp2
  refine bodyPost_ret (v := .tuple #[.agg #[.slice none 0 0, .slice none 0 0], .slice none 0 0, .int .i64 11]) (by simp [results, Tryd.results18, go_sem, b20, b21]) rfl (res3_nil HG.out)

set_option maxRecDepth 20000 in
set_option maxHeartbeats 2000000 in
theorem eql_large2 (p q p' q' pf pg : Option Addr) (n c m d n' c' m' d' nf cf ng cg : Nat) (w : World) (hn40 : n ≤ 40) (hn' : n' ≤ 1000) (h : 40 < n') :
    Calls Tryd.prog 18 #[.agg #[.slice p n c, .slice q m d], .agg #[.slice p' n' c', .slice q' m' d'], .slice pf nf cf, .slice pg ng cg] w (Res3 [] [] [] 11 w) := by
  have hn : n ≤ 1000 := by omega
  have HR := Lib.hid (show decide (40 < n) = false by simp; omega)
  have HR2 := Lib.hid (show decide (40 < n') = true by simpa using h)
  clear h
  go_enter Tryd.func18, Tryd.ntmps18
  go_wp2_with fail
  have he := boxEnv_three w (.slice p n c) (.slice q m d) (.slice p' n' c') (.slice q' m' d') (.slice none 0 0) (.slice none 0 0)
  have hs : (((w.alloc (.cells #[.slice p n c, .slice q m d] 25)).alloc (.cells #[.slice p' n' c', .slice q' m' d'] 25)).alloc (.cells #[.slice none 0 0, .slice none 0 0] 25)).heap.size = w.heap.size + 1 + 1 + 1 := by simp
  generalize ((w.alloc (.cells #[.slice p n c, .slice q m d] 25)).alloc (.cells #[.slice p' n' c', .slice q' m' d'] 25)).alloc (.cells #[.slice none 0 0, .slice none 0 0] 25) = W3 at *
  have hb := heap_alloc_new W3 (.cells #[.slice p n c, .slice q m d] 25)
  rw [hs] at hb
  have he4 := he.calm (World.grownBy_alloc W3 (.cells #[.slice p n c, .slice q m d] 25) none)
  refine (large_one _ p q n c m d false _ hn hb HR.out).mono ?_
  rintro e w1 ⟨rfl, hg1⟩
  have he1 := he4.calm hg1
  have HE1 := Lib.hid he1
  clear he he4 hg1 hb hs
  obtain ⟨b00, b01, b10, b11⟩ := he1.two
  clear he1
  go_wp2_with fail
  have hb2 := heap_alloc_new w1 (.cells #[.slice p' n' c', .slice q' m' d'] 25)
  have he5 := HE1.out.calm (World.grownBy_alloc w1 (.cells #[.slice p' n' c', .slice q' m' d'] 25) none)
  refine (large_one _ p' q' n' c' m' d' true _ hn' hb2 HR2.out).mono ?_
  rintro e w2 ⟨rfl, hg2⟩
  have he2 := he5.calm hg2
  have HE2 := Lib.hid he2
  clear he5 hg2 hb2 HE1
  obtain ⟨b20, b21, f20, f21⟩ := he2.third
  have HG := Lib.hid (he2.gr2 (b := w.heap.size + 1 + 1) (by omega) (.slice none 0 0) (.slice none 0 0))
  clear he2
  go_wp2
  refine bodyPost_ret (v := .tuple #[.agg #[.slice none 0 0, .slice none 0 0], .slice none 0 0, .int .i64 11]) (by simp [results, Tryd.results18, go_sem, b20, b21]) rfl (res3_nil HG.out)

set_option maxRecDepth 20000 in
set_option maxHeartbeats 2000000 in
theorem eql_form (p q p' q' pf pg : Option Addr) (n c m d n' c' m' d' nf cf ng cg lo hi lo' hi' lof hif log hig : Nat) (L L' : List ByteArray) (P P' : List (Int × Int)) (f g : List Int) (w : World) (h : ObjAt w lo hi p n q m L P) (h' : ObjAt w lo' hi' p' n' q' m' L' P') (hf : ZsAt w lof hif pf nf f) (hg : ZsAt w log hig pg ng g) (hm : m ≤ 1000000) (hm' : m' ≤ 1000000) (hnf : nf ≤ 1000000) (hng : ng ≤ 1000000) (hn40 : n ≤ 40) (hn40' : n' ≤ 40) (hno : (arB L P L' P' f && arB L P L' P' g) = false) :
    Calls Tryd.prog 18 #[.agg #[.slice p n c, .slice q m d], .agg #[.slice p' n' c', .slice q' m' d'], .slice pf nf cf, .slice pg ng cg] w (Res3 [] [] [] 10 w) := by
  have hn : n ≤ 1000 := by omega
  have hn' : n' ≤ 1000 := by omega
  have HR := Lib.hid (show decide (40 < n) = false by simp; omega)
  have HR2 := Lib.hid (show decide (40 < n') = false by simp; omega)
  have H := Lib.hid h
  have H' := Lib.hid h'
  have HF := Lib.hid hf
  have HG0 := Lib.hid hg
  have HNO := Lib.hid hno
  clear h h' hf hg hno
  go_enter Tryd.func18, Tryd.ntmps18
  go_wp2_with fail
  have he := boxEnv_three w (.slice p n c) (.slice q m d) (.slice p' n' c') (.slice q' m' d') (.slice none 0 0) (.slice none 0 0)
  have hs : (((w.alloc (.cells #[.slice p n c, .slice q m d] 25)).alloc (.cells #[.slice p' n' c', .slice q' m' d'] 25)).alloc (.cells #[.slice none 0 0, .slice none 0 0] 25)).heap.size = w.heap.size + 1 + 1 + 1 := by simp
  generalize ((w.alloc (.cells #[.slice p n c, .slice q m d] 25)).alloc (.cells #[.slice p' n' c', .slice q' m' d'] 25)).alloc (.cells #[.slice none 0 0, .slice none 0 0] 25) = W3 at *
  have hb := heap_alloc_new W3 (.cells #[.slice p n c, .slice q m d] 25)
  rw [hs] at hb
  have he4 := he.calm (World.grownBy_alloc W3 (.cells #[.slice p n c, .slice q m d] 25) none)
  refine (large_one _ p q n c m d false _ hn hb HR.out).mono ?_
  rintro e w1 ⟨rfl, hg1⟩
  have he1 := he4.calm hg1
  have HE1 := Lib.hid he1
  clear he he4 hg1 hb hs
  obtain ⟨b00, b01, b10, b11⟩ := he1.two
  clear he1
  go_wp2_with fail
  have hb2 := heap_alloc_new w1 (.cells #[.slice p' n' c', .slice q' m' d'] 25)
  have he5 := HE1.out.calm (World.grownBy_alloc w1 (.cells #[.slice p' n' c', .slice q' m' d'] 25) none)
  refine (large_one _ p' q' n' c' m' d' false _ hn' hb2 HR2.out).mono ?_
  rintro e w2 ⟨rfl, hg2⟩
  have he2 := he5.calm hg2
  have HE2 := Lib.hid he2
  clear he5 hg2 hb2 HE1
  have ho := H.out.calm he2.1
  have ho' := H'.out.calm he2.1
  have hof := HF.out.calm he2.1
  obtain ⟨b00, b01, b10, b11⟩ := he2.two
  clear he2
  go_wp2_with fail
  cases hr1 : arB L P L' P' f with
  | false =>
    have HR1 := Lib.hid hr1
    clear hr1
    refine (arIs_r p q p' q' pf n c m d n' c' m' d' nf cf _ _ _ _ _ _ L L' P P' f false _ ho ho' hof hnf hm hm' HR1.out).mono ?_
    rintro e w3 ⟨rfl, hg3⟩
    have he3 := HE2.out.calm hg3
    clear ho ho' hof hg3
    obtain ⟨b20, b21, f20, f21⟩ := he3.third
    have HG := Lib.hid (he3.gr2 (b := w.heap.size + 1 + 1) (by omega) (.slice none 0 0) (.slice none 0 0))
    clear he3
    go_wp2
    refine bodyPost_ret (v := .tuple #[.agg #[.slice none 0 0, .slice none 0 0], .slice none 0 0, .int .i64 10]) (by simp [results, Tryd.results18, go_sem, b20, b21]) rfl (res3_nil HG.out)
  | true =>
    have HR1 := Lib.hid hr1
    have HR3 := Lib.hid (show arB L P L' P' g = false by have := HNO.out; rw [hr1] at this; simpa using this)
    clear hr1
    refine (arIs_r p q p' q' pf n c m d n' c' m' d' nf cf _ _ _ _ _ _ L L' P P' f true _ ho ho' hof hnf hm hm' HR1.out).mono ?_
    rintro e w3 ⟨rfl, hg3⟩
    have he3 := HE2.out.calm hg3
    have HE3 := Lib.hid he3
    have ho := H.out.calm he3.1
    have ho' := H'.out.calm he3.1
    have hog := HG0.out.calm he3.1
    obtain ⟨b00, b01, b10, b11⟩ := he3.two
    clear hof hg3 he3
    go_wp2_with fail
    refine (arIs_r p q p' q' pg n c m d n' c' m' d' ng cg _ _ _ _ _ _ L L' P P' g false _ ho ho' hog hng hm hm' HR3.out).mono ?_
    rintro e w4 ⟨rfl, hg4⟩
    have he4 := HE3.out.calm hg4
    clear ho ho' hog hg4
    obtain ⟨b20, b21, f20, f21⟩ := he4.third
    have HG := Lib.hid (he4.gr2 (b := w.heap.size + 1 + 1) (by omega) (.slice none 0 0) (.slice none 0 0))
    clear he4
    go_wp2
    refine bodyPost_ret (v := .tuple #[.agg #[.slice none 0 0, .slice none 0 0], .slice none 0 0, .int .i64 10]) (by simp [results, Tryd.results18, go_sem, b20, b21]) rfl (res3_nil HG.out)

set_option maxRecDepth 20000 in
set_option maxHeartbeats 4000000 in
theorem eql_ok (p q p' q' pf pg : Option Addr) (n c m d n' c' m' d' nf cf ng cg lo hi lo' hi' lof hif log hig : Nat) (L L' : List ByteArray) (P P' : List (Int × Int)) (f g : List Int) (w : World) (h : ObjAt w lo hi p n q m L P) (h' : ObjAt w lo' hi' p' n' q' m' L' P') (hf : ZsAt w lof hif pf nf f) (hg : ZsAt w log hig pg ng g) (hm : m ≤ 1000000) (hm' : m' ≤ 1000000) (hnf : nf ≤ 1000000) (hng : ng ≤ 1000000) (hn40 : n ≤ 40) (hn40' : n' ≤ 40) (hq1 : arB L P L' P' f = true) (hq2 : arB L P L' P' g = true) (hnn : nf = ng) (ht : Tab w) :
    Calls Tryd.prog 18 #[.agg #[.slice p n c, .slice q m d], .agg #[.slice p' n' c', .slice q' m' d'], .slice pf nf cf, .slice pg ng cg] w (Res3 (labG L' (joinsL n' f g)) (gluP (joinsL n' f g) P') (atZ (joinsL n' f g)) 0 w) := by
  subst hnn
  have hchk : chk L' P' = 0 := by
    unfold arB at hq1
    simp only [Bool.and_eq_true, beq_iff_eq] at hq1
    exact hq1.2.1
  have HLE := Lib.hid (chk_in hchk).1
  have HIN := Lib.hid (show allIn n' P' = true by have := (chk_in hchk).2.2.1; rwa [h'.ls.len] at this)
  have HT := Lib.hid ht
  have hn : n ≤ 1000 := by omega
  have hn' : n' ≤ 1000 := by omega
  have HR := Lib.hid (show decide (40 < n) = false by simp; omega)
  have HR2 := Lib.hid (show decide (40 < n') = false by simp; omega)
  have H := Lib.hid h
  have H' := Lib.hid h'
  have HF := Lib.hid hf
  have HG0 := Lib.hid hg
  have HR1 := Lib.hid hq1
  have HR3 := Lib.hid hq2
  clear h h' hf hg hq1 hq2 hchk ht
  go_enter Tryd.func18, Tryd.ntmps18
  go_wp2_with fail
  have he := boxEnv_three w (.slice p n c) (.slice q m d) (.slice p' n' c') (.slice q' m' d') (.slice none 0 0) (.slice none 0 0)
  have hs : (((w.alloc (.cells #[.slice p n c, .slice q m d] 25)).alloc (.cells #[.slice p' n' c', .slice q' m' d'] 25)).alloc (.cells #[.slice none 0 0, .slice none 0 0] 25)).heap.size = w.heap.size + 1 + 1 + 1 := by simp
  generalize ((w.alloc (.cells #[.slice p n c, .slice q m d] 25)).alloc (.cells #[.slice p' n' c', .slice q' m' d'] 25)).alloc (.cells #[.slice none 0 0, .slice none 0 0] 25) = W3 at *
  have hb := heap_alloc_new W3 (.cells #[.slice p n c, .slice q m d] 25)
  rw [hs] at hb
  have he4 := he.calm (World.grownBy_alloc W3 (.cells #[.slice p n c, .slice q m d] 25) none)
  refine (large_one _ p q n c m d false _ hn hb HR.out).mono ?_
  rintro e w1 ⟨rfl, hg1⟩
  have he1 := he4.calm hg1
  have HE1 := Lib.hid he1
  clear he he4 hg1 hb hs
  obtain ⟨b00, b01, b10, b11⟩ := he1.two
  clear he1
  go_wp2_with fail
  have hb2 := heap_alloc_new w1 (.cells #[.slice p' n' c', .slice q' m' d'] 25)
  have he5 := HE1.out.calm (World.grownBy_alloc w1 (.cells #[.slice p' n' c', .slice q' m' d'] 25) none)
  refine (large_one _ p' q' n' c' m' d' false _ hn' hb2 HR2.out).mono ?_
  rintro e w2 ⟨rfl, hg2⟩
  have he2 := he5.calm hg2
  have HE2 := Lib.hid he2
  clear he5 hg2 hb2 HE1
  have ho := H.out.calm he2.1
  have ho' := H'.out.calm he2.1
  have hof := HF.out.calm he2.1
  obtain ⟨b00, b01, b10, b11⟩ := he2.two
  clear he2
  go_wp2_with fail
  refine (arIs_r p q p' q' pf n c m d n' c' m' d' nf cf _ _ _ _ _ _ L L' P P' f true _ ho ho' hof hnf hm hm' HR1.out).mono ?_
  rintro e w3 ⟨rfl, hg3⟩
  have he3 := HE2.out.calm hg3
  have HE3 := Lib.hid he3
  have ho := H.out.calm he3.1
  have ho' := H'.out.calm he3.1
  have hog := HG0.out.calm he3.1
  obtain ⟨b00, b01, b10, b11⟩ := he3.two
  clear hof hg3 he3
  go_wp2_with fail
  refine (arIs_r p q p' q' pg n c m d n' c' m' d' nf cg _ _ _ _ _ _ L L' P P' g true _ ho ho' hog hnf hm hm' HR3.out).mono ?_
  rintro e w4 ⟨rfl, hg4⟩
  have he4 := HE3.out.calm hg4
  have HE4 := Lib.hid he4
  have ho' := H'.out.calm he4.1
  have hof := HF.out.calm he4.1
  have hog := HG0.out.calm he4.1
  have ht4 := HT.out.grown he4.1 (by simp)
  obtain ⟨b00, b01, b10, b11⟩ := he4.two
  clear ho he4 hg4
  go_wp2_with fail
  refine (fold_c p' q' pf pg n' c' m' d' nf cf cg _ _ _ _ _ _ L' P' f g _ ho' hof hog HLE.out hm' hnf HIN.out ht4).mono ?_
  rintro e w5 ⟨u, v, gb, rfl, hown, hgb, hrow, hg5⟩
  obtain ⟨pu, cu, pv, cv, rfl, rfl, hob, hn1, hn2⟩ := hown.form
  have HJL := Lib.hid (joinsL_len n' f g)
  have he5 := HE4.out.calm hg5
  have hga := World.grownBy_alloc w5 (.cells #[.slice pu (labG L' (joinsL n' f g)).length cu, .slice pv (gluP (joinsL n' f g) P').length cv] 25) none
  have he6 := he5.calm hga
  have hs45 := HE4.out.1.size
  have hob6 := hob.calm hga
  have hrow6 := hrow.calm hga
  have hbase : w.heap.size + 1 + 1 < w4.heap.size := (HE4.out.2 2 _ rfl).lt
  obtain ⟨b20, b21, f20, f21⟩ := he6.third
  have x0 : (w5.alloc (.cells #[.slice pu (labG L' (joinsL n' f g)).length cu, .slice pv (gluP (joinsL n' f g) P').length cv] 25)).cell? ⟨w5.heap.size, 0, none⟩ = _ := (BoxO.new w5 (.slice pu (labG L' (joinsL n' f g)).length cu) (.slice pv (gluP (joinsL n' f g) P').length cv)).c0
  have x1 : (w5.alloc (.cells #[.slice pu (labG L' (joinsL n' f g)).length cu, .slice pv (gluP (joinsL n' f g) P').length cv] 25)).cell? ⟨w5.heap.size, 1, none⟩ = _ := (BoxO.new w5 (.slice pu (labG L' (joinsL n' f g)).length cu) (.slice pv (gluP (joinsL n' f g) P').length cv)).c1
  have HFIN : Hid (∀ W8, W8 = ((w5.alloc (.cells #[.slice pu (labG L' (joinsL n' f g)).length cu, .slice pv (gluP (joinsL n' f g) P').length cv] 25)).setCell ⟨w.heap.size + 1 + 1, 0, none⟩ (.slice pu (labG L' (joinsL n' f g)).length cu)).setCell ⟨w.heap.size + 1 + 1, 1, none⟩ (.slice pv (gluP (joinsL n' f g) P').length cv) →
      W8.cell? ⟨w.heap.size + 1 + 1, 0, none⟩ = some (.slice pu (labG L' (joinsL n' f g)).length cu) ∧ W8.cell? ⟨w.heap.size + 1 + 1, 1, none⟩ = some (.slice pv (gluP (joinsL n' f g) P').length cv) ∧
      Res3 (labG L' (joinsL n' f g)) (gluP (joinsL n' f g) P') (atZ (joinsL n' f g)) 0 w (.returned (.tuple #[.agg #[.slice pu (labG L' (joinsL n' f g)).length cu, .slice pv (gluP (joinsL n' f g) P').length cv], .slice (some ⟨gb, 0, none⟩) n' n', .int .i64 0])) W8) := Lib.hid (by
    rintro W8 rfl
    generalize hX : Value.slice pu (labG L' (joinsL n' f g)).length cu = X at *
    generalize hY : Value.slice pv (gluP (joinsL n' f g) P').length cv = Y at *
    generalize w5.alloc (.cells #[X, Y] 25) = w6 at *
    have heF := he6.set3 X Y
    obtain ⟨c0, c1, _, _⟩ := heF.third
    have q1 := grownBy_setCell w6 ⟨w.heap.size + 1 + 1, 0, none⟩ X
    have q2 := grownBy_setCell (w6.setCell ⟨w.heap.size + 1 + 1, 0, none⟩ X) ⟨w.heap.size + 1 + 1, 1, none⟩ Y
    have hobF := (hob6.set (a := ⟨w.heap.size + 1 + 1, 0, none⟩) (by show w.heap.size + 1 + 1 < w4.heap.size; exact hbase) X).set (a := ⟨w.heap.size + 1 + 1, 1, none⟩) (by show w.heap.size + 1 + 1 < w4.heap.size; exact hbase) Y
    have hrowF := (hrow6.other q1 (by show w.heap.size + 1 + 1 ≠ gb; omega)).other q2 (by show w.heap.size + 1 + 1 ≠ gb; omega)
    have z1 := q1.size
    have z2 := q2.size
    have z3 := hga.size
    subst hX hY
    refine ⟨c0, c1, pu, cu, pv, cv, some ⟨gb, 0, none⟩, n', by rw [atZ_len, HJL.out], hobF.wider (by omega) (by omega) (Nat.le_refl _), hrowF.at (by omega), hn1, hn2, heF.1⟩)
  clear ho' hof hog hown hgb hrow hob hob6 hrow6 he5 he6 hga hg5 ht4 hn1 hn2 HE4
  go_wp2
  obtain ⟨c0, c1, hres⟩ := HFIN.out _ rfl
  refine bodyPost_ret (v := .tuple #[.agg #[.slice pu (labG L' (joinsL n' f g)).length cu, .slice pv (gluP (joinsL n' f g) P').length cv], .slice (some ⟨gb, 0, none⟩) n' n', .int .i64 0]) (by simp [results, Tryd.results18, go_sem, c0, c1]) rfl hres

end Go.Proofs.YtihkjgiaajgkpaaDoor
