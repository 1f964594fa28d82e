/- Package push: the contract of Push. -/
import Derived.Test.YtihkjgiaajgkpaaDoorPush
namespace Go.Proofs.YtihkjgiaajgkpaaDoor
open Go.RowKit Go.Shelf

set_option maxRecDepth 20000 in
set_option maxHeartbeats 2000000 in
theorem push_large1 (p0 q0 p q p' q' pf pg : Option Addr) (n0 c0 m0 d0 n c m d n' c' m' d' nf cf ng cg : Nat) (w : World) (hn0 : n0 ≤ 1000) (h : 40 < n0) :
    Calls Tryd.prog 12 #[.agg #[.slice p0 n0 c0, .slice q0 m0 d0], .agg #[.slice p n c, .slice q m d], .agg #[.slice p' n' c', .slice q' m' d'], .slice pf nf cf, .slice pg ng cg] w (Res4 [] [] [] [] 11 w) := by
  have HR := Lib.hid (show decide (40 < n0) = true by simpa using h)
  clear h
  go_enter Tryd.func12, Tryd.ntmps12
  go_wp2_with fail
  have he := boxEnv_four w (.slice p0 n0 c0) (.slice q0 m0 d0) (.slice p n c) (.slice q m d) (.slice p' n' c') (.slice q' m' d') (.slice none 0 0) (.slice none 0 0)
  have hs : ((((w.alloc (.cells #[.slice p0 n0 c0, .slice q0 m0 d0] 25)).alloc (.cells #[.slice p n c, .slice q m d] 25)).alloc (.cells #[.slice p' n' c', .slice q' m' d'] 25)).alloc (.cells #[.slice none 0 0, .slice none 0 0] 25)).heap.size = w.heap.size + 1 + 1 + 1 + 1 := by simp
  generalize (((w.alloc (.cells #[.slice p0 n0 c0, .slice q0 m0 d0] 25)).alloc (.cells #[.slice p n c, .slice q m d] 25)).alloc (.cells #[.slice p' n' c', .slice q' m' d'] 25)).alloc (.cells #[.slice none 0 0, .slice none 0 0] 25) = W3 at *
  have hb := heap_alloc_new W3 (.cells #[.slice p0 n0 c0, .slice q0 m0 d0] 25)
  rw [hs] at hb
  have he4 := he.calm (World.grownBy_alloc W3 (.cells #[.slice p0 n0 c0, .slice q0 m0 d0] 25) none)
  refine (large_one _ p0 q0 n0 c0 m0 d0 true _ hn0 hb HR.out).mono ?_
  rintro e w1 ⟨rfl, hg1⟩
  have he1 := he4.calm hg1
  have HE1 := Lib.hid he1
  clear he he4 hg1 hb hs
  obtain ⟨b20, b21, f20, f21⟩ := he1.fourth
  have HG := Lib.hid (he1.gr2 (b := w.heap.size + 1 + 1 + 1) (by omega) (.slice none 0 0) (.slice none 0 0))
  clear he1
  go_wp2
  refine bodyPost_ret (v := .tuple #[.agg #[.slice none 0 0, .slice none 0 0], .slice none 0 0, .slice none 0 0, .int .i64 11]) (by simp [results, Tryd.results12, go_sem, b20, b21]) rfl (res4_nil HG.out)

set_option maxRecDepth 20000 in
set_option maxHeartbeats 2000000 in
theorem push_large2 (p0 q0 p q p' q' pf pg : Option Addr) (n0 c0 m0 d0 n c m d n' c' m' d' nf cf ng cg : Nat) (w : World) (hn40 : n0 ≤ 40) (hn : n ≤ 1000) (hn' : n' ≤ 1000) (h : 40 < n + n') :
    Calls Tryd.prog 12 #[.agg #[.slice p0 n0 c0, .slice q0 m0 d0], .agg #[.slice p n c, .slice q m d], .agg #[.slice p' n' c', .slice q' m' d'], .slice pf nf cf, .slice pg ng cg] w (Res4 [] [] [] [] 11 w) := by
  have hn0 : n0 ≤ 1000 := by omega
  have HR := Lib.hid (show decide (40 < n0) = false by simp; omega)
  have HR2 := Lib.hid (show decide (40 < n + n') = true by simpa using h)
  clear h
  go_enter Tryd.func12, Tryd.ntmps12
  go_wp2_with fail
  have he := boxEnv_four w (.slice p0 n0 c0) (.slice q0 m0 d0) (.slice p n c) (.slice q m d) (.slice p' n' c') (.slice q' m' d') (.slice none 0 0) (.slice none 0 0)
  have hs : ((((w.alloc (.cells #[.slice p0 n0 c0, .slice q0 m0 d0] 25)).alloc (.cells #[.slice p n c, .slice q m d] 25)).alloc (.cells #[.slice p' n' c', .slice q' m' d'] 25)).alloc (.cells #[.slice none 0 0, .slice none 0 0] 25)).heap.size = w.heap.size + 1 + 1 + 1 + 1 := by simp
  generalize (((w.alloc (.cells #[.slice p0 n0 c0, .slice q0 m0 d0] 25)).alloc (.cells #[.slice p n c, .slice q m d] 25)).alloc (.cells #[.slice p' n' c', .slice q' m' d'] 25)).alloc (.cells #[.slice none 0 0, .slice none 0 0] 25) = W3 at *
  have hb := heap_alloc_new W3 (.cells #[.slice p0 n0 c0, .slice q0 m0 d0] 25)
  rw [hs] at hb
  have he4 := he.calm (World.grownBy_alloc W3 (.cells #[.slice p0 n0 c0, .slice q0 m0 d0] 25) none)
  refine (large_one _ p0 q0 n0 c0 m0 d0 false _ hn0 hb HR.out).mono ?_
  rintro e w1 ⟨rfl, hg1⟩
  have he1 := he4.calm hg1
  have HE1 := Lib.hid he1
  clear he he4 hg1 hb hs
  obtain ⟨a00, a01, b00, b01, b10, b11⟩ := he1.three
  clear he1
  go_wp2_with fail
  have hb2 := heap_alloc_new w1 (.cells #[.slice p n c, .slice q m d, .slice p' n' c', .slice q' m' d'] 25)
  have he5 := HE1.out.calm (World.grownBy_alloc w1 (.cells #[.slice p n c, .slice q m d, .slice p' n' c', .slice q' m' d'] 25) none)
  refine (large_two _ p q p' q' n c m d n' c' m' d' true _ hn hn' hb2 HR2.out).mono ?_
  rintro e w2 ⟨rfl, hg2⟩
  have he2 := he5.calm hg2
  have HE2 := Lib.hid he2
  clear he5 hg2 hb2 HE1
  obtain ⟨b20, b21, f20, f21⟩ := he2.fourth
  have HG := Lib.hid (he2.gr2 (b := w.heap.size + 1 + 1 + 1) (by omega) (.slice none 0 0) (.slice none 0 0))
  clear he2
  go_wp2
  refine bodyPost_ret (v := .tuple #[.agg #[.slice none 0 0, .slice none 0 0], .slice none 0 0, .slice none 0 0, .int .i64 11]) (by simp [results, Tryd.results12, go_sem, b20, b21]) rfl (res4_nil HG.out)

set_option maxRecDepth 20000 in
set_option maxHeartbeats 2000000 in
theorem push_form (p0 q0 p q p' q' pf pg : Option Addr) (n0 c0 m0 d0 n c m d n' c' m' d' nf cf ng cg : Nat) (lo0 hi0 lo hi lo' hi' lof hif log hig : Nat) (L0 L L' : List ByteArray) (P0 P P' : List (Int × Int)) (f g : List Int) (w : World) (h0 : ObjAt w lo0 hi0 p0 n0 q0 m0 L0 P0) (h : ObjAt w lo hi p n q m L P) (h' : ObjAt w lo' hi' p' n' q' m' L' P') (hf : ZsAt w lof hif pf nf f) (hg : ZsAt w log hig pg ng g) (hm0 : m0 ≤ 400000) (hm : m ≤ 400000) (hm' : m' ≤ 400000) (hnf : nf ≤ 1000000) (hng : ng ≤ 1000000) (hn40 : n0 ≤ 40) (hl : n + n' ≤ 40) (hno : (arB L0 P0 L P f && arB L0 P0 L' P' g) = false) :
    Calls Tryd.prog 12 #[.agg #[.slice p0 n0 c0, .slice q0 m0 d0], .agg #[.slice p n c, .slice q m d], .agg #[.slice p' n' c', .slice q' m' d'], .slice pf nf cf, .slice pg ng cg] w (Res4 [] [] [] [] 10 w) := by
  have hn0 : n0 ≤ 1000 := by omega
  have hn : n ≤ 1000 := by omega
  have hn' : n' ≤ 1000 := by omega
  have HR := Lib.hid (show decide (40 < n0) = false by simp; omega)
  have HR2 := Lib.hid (show decide (40 < n + n') = false by simp; omega)
  have H0 := Lib.hid h0
  have H := Lib.hid (objAt_wide h)
  have H' := Lib.hid (objAt_wide h')
  have HF := Lib.hid hf
  have HG0 := Lib.hid hg
  have HNO := Lib.hid hno
  clear h0 h h' hf hg hno
  go_enter Tryd.func12, Tryd.ntmps12
  go_wp2_with fail
  have he := boxEnv_four w (.slice p0 n0 c0) (.slice q0 m0 d0) (.slice p n c) (.slice q m d) (.slice p' n' c') (.slice q' m' d') (.slice none 0 0) (.slice none 0 0)
  have hs : ((((w.alloc (.cells #[.slice p0 n0 c0, .slice q0 m0 d0] 25)).alloc (.cells #[.slice p n c, .slice q m d] 25)).alloc (.cells #[.slice p' n' c', .slice q' m' d'] 25)).alloc (.cells #[.slice none 0 0, .slice none 0 0] 25)).heap.size = w.heap.size + 1 + 1 + 1 + 1 := by simp
  generalize (((w.alloc (.cells #[.slice p0 n0 c0, .slice q0 m0 d0] 25)).alloc (.cells #[.slice p n c, .slice q m d] 25)).alloc (.cells #[.slice p' n' c', .slice q' m' d'] 25)).alloc (.cells #[.slice none 0 0, .slice none 0 0] 25) = W3 at *
  have hb := heap_alloc_new W3 (.cells #[.slice p0 n0 c0, .slice q0 m0 d0] 25)
  rw [hs] at hb
  have he4 := he.calm (World.grownBy_alloc W3 (.cells #[.slice p0 n0 c0, .slice q0 m0 d0] 25) none)
  refine (large_one _ p0 q0 n0 c0 m0 d0 false _ hn0 hb HR.out).mono ?_
  rintro e w1 ⟨rfl, hg1⟩
  have he1 := he4.calm hg1
  have HE1 := Lib.hid he1
  clear he he4 hg1 hb hs
  obtain ⟨a00, a01, b00, b01, b10, b11⟩ := he1.three
  clear he1
  go_wp2_with fail
  have hb2 := heap_alloc_new w1 (.cells #[.slice p n c, .slice q m d, .slice p' n' c', .slice q' m' d'] 25)
  have he5 := HE1.out.calm (World.grownBy_alloc w1 (.cells #[.slice p n c, .slice q m d, .slice p' n' c', .slice q' m' d'] 25) none)
  refine (large_two _ p q p' q' n c m d n' c' m' d' false _ hn hn' hb2 HR2.out).mono ?_
  rintro e w2 ⟨rfl, hg2⟩
  have he2 := he5.calm hg2
  have HE2 := Lib.hid he2
  clear he5 hg2 hb2 HE1
  have ha := H0.out.calm he2.1
  have ho := H.out.calm he2.1
  have hof := HF.out.calm he2.1
  obtain ⟨a00, a01, b00, b01, b10, b11⟩ := he2.three
  clear he2
  go_wp2_with fail
  cases hr1 : arB L0 P0 L P f with
  | false =>
    have HR1 := Lib.hid hr1
    clear hr1
    refine (arIs_r p0 q0 p q pf n0 c0 m0 d0 n c m d nf cf _ _ _ _ _ _ L0 L P0 P f false _ ha ho hof hnf (by omega) (by omega) HR1.out).mono ?_
    rintro e w3 ⟨rfl, hg3⟩
    have he3 := HE2.out.calm hg3
    clear ha ho hof hg3
    obtain ⟨b20, b21, f20, f21⟩ := he3.fourth
    have HG := Lib.hid (he3.gr2 (b := w.heap.size + 1 + 1 + 1) (by omega) (.slice none 0 0) (.slice none 0 0))
    clear he3
    go_wp2
    refine bodyPost_ret (v := .tuple #[.agg #[.slice none 0 0, .slice none 0 0], .slice none 0 0, .slice none 0 0, .int .i64 10]) (by simp [results, Tryd.results12, go_sem, b20, b21]) rfl (res4_nil HG.out)
  | true =>
    have HR1 := Lib.hid hr1
    have HR3 := Lib.hid (show arB L0 P0 L' P' g = false by have := HNO.out; rw [hr1] at this; simpa using this)
    clear hr1
    refine (arIs_r p0 q0 p q pf n0 c0 m0 d0 n c m d nf cf _ _ _ _ _ _ L0 L P0 P f true _ ha ho hof hnf (by omega) (by omega) HR1.out).mono ?_
    rintro e w3 ⟨rfl, hg3⟩
    have he3 := HE2.out.calm hg3
    have HE3 := Lib.hid he3
    have ha := H0.out.calm he3.1
    have ho' := H'.out.calm he3.1
    have hog := HG0.out.calm he3.1
    obtain ⟨a00, a01, b00, b01, b10, b11⟩ := he3.three
    clear hof hg3 he3 ho
    go_wp2_with fail
    refine (arIs_r p0 q0 p' q' pg n0 c0 m0 d0 n' c' m' d' ng cg _ _ _ _ _ _ L0 L' P0 P' g false _ ha ho' hog hng (by omega) (by omega) HR3.out).mono ?_
    rintro e w4 ⟨rfl, hg4⟩
    have he4 := HE3.out.calm hg4
    clear ha ho' hog hg4
    obtain ⟨b20, b21, f20, f21⟩ := he4.fourth
    have HG := Lib.hid (he4.gr2 (b := w.heap.size + 1 + 1 + 1) (by omega) (.slice none 0 0) (.slice none 0 0))
    clear he4
    go_wp2
    refine bodyPost_ret (v := .tuple #[.agg #[.slice none 0 0, .slice none 0 0], .slice none 0 0, .slice none 0 0, .int .i64 10]) (by simp [results, Tryd.results12, go_sem, b20, b21]) rfl (res4_nil HG.out)

set_option maxRecDepth 20000 in
set_option maxHeartbeats 4000000 in
theorem push_ok (p0 q0 p q p' q' pf pg : Option Addr) (n0 c0 m0 d0 n c m d n' c' m' d' nf cf cg : Nat) (lo0 hi0 lo hi lo' hi' lof hif log hig : Nat) (L0 L L' : List ByteArray) (P0 P P' : List (Int × Int)) (f g : List Int) (w : World) (h0 : ObjAt w lo0 hi0 p0 n0 q0 m0 L0 P0) (h : ObjAt w lo hi p n q m L P) (h' : ObjAt w lo' hi' p' n' q' m' L' P') (hf : ZsAt w lof hif pf nf f) (hg : ZsAt w log hig pg nf g) (hm0 : m0 ≤ 400000) (hm : m ≤ 400000) (hm' : m' ≤ 400000) (hnf : nf ≤ 1000000) (hn40 : n0 ≤ 40) (hl : n + n' ≤ 40) (hq1 : arB L0 P0 L P f = true) (hq2 : arB L0 P0 L' P' g = true) (ht : Tab w) (hp0 : p = none → c = 0) (hp0' : p' = none → c' = 0) (hq0 : q = none → d = 0) :
    Calls Tryd.prog 12 #[.agg #[.slice p0 n0 c0, .slice q0 m0 d0], .agg #[.slice p n c, .slice q m d], .agg #[.slice p' n' c', .slice q' m' d'], .slice pf nf cf, .slice pg nf cg] w (Res4 (labG (L ++ L') (joinsL (n + n') f (shL n g))) (gluP (joinsL (n + n') f (shL n g)) (P ++ shP n P')) ((atZ (joinsL (n + n') f (shL n g))).take n) ((atZ (joinsL (n + n') f (shL n g))).drop n) 0 w) := by
  have HLS := Lib.hid (show labErr (L ++ L') = 0 from lab_app (chk_in (arB_chk hq1).2).1 (chk_in (arB_chk hq2).2).1 (by rw [h.ls.len, h'.ls.len]; exact hl))
  have HINb := Lib.hid (show allIn n' P' = true by have := (chk_in (arB_chk hq2).2).2.2.1; rwa [h'.ls.len] at this)
  have HIN := Lib.hid (show allIn (n + n') (P ++ shP n P') = true from allIn_app (by have := (chk_in (arB_chk hq1).2).2.2.1; rwa [h.ls.len] at this) HINb.out)
  have HTM := Lib.hid (show tameL g from arB_tame hq2 (by rw [h'.ls.len]; omega))
  have HLA := Lib.hid (show (L ++ L').length = n + n' by rw [List.length_append, h.ls.len, h'.ls.len])
  have HPA := Lib.hid (show (P ++ shP n P').length = m + m' by rw [List.length_append, shP_len, h.ps.len, h'.ps.len])
  have HT := Lib.hid ht
  have HP0 := Lib.hid hp0
  have HP0' := Lib.hid hp0'
  have HQ0 := Lib.hid hq0
  have hn0 : n0 ≤ 1000 := by omega
  have hn : n ≤ 1000 := by omega
  have hn' : n' ≤ 1000 := by omega
  have HR := Lib.hid (show decide (40 < n0) = false by simp; omega)
  have HR2 := Lib.hid (show decide (40 < n + n') = false by simp; omega)
  have H0 := Lib.hid h0
  have H := Lib.hid (objAt_wide h)
  have H' := Lib.hid (objAt_wide h')
  have HF := Lib.hid hf
  have HG0 := Lib.hid hg
  have HR1 := Lib.hid hq1
  have HR3 := Lib.hid hq2
  have hm2 : m + m' ≤ 2000000 := by omega
  clear h0 h h' hf hg hq1 hq2 ht hp0 hp0' hq0
  go_enter Tryd.func12, Tryd.ntmps12
  go_wp2_with fail
  have he := boxEnv_four w (.slice p0 n0 c0) (.slice q0 m0 d0) (.slice p n c) (.slice q m d) (.slice p' n' c') (.slice q' m' d') (.slice none 0 0) (.slice none 0 0)
  have hs : ((((w.alloc (.cells #[.slice p0 n0 c0, .slice q0 m0 d0] 25)).alloc (.cells #[.slice p n c, .slice q m d] 25)).alloc (.cells #[.slice p' n' c', .slice q' m' d'] 25)).alloc (.cells #[.slice none 0 0, .slice none 0 0] 25)).heap.size = w.heap.size + 1 + 1 + 1 + 1 := by simp
  generalize (((w.alloc (.cells #[.slice p0 n0 c0, .slice q0 m0 d0] 25)).alloc (.cells #[.slice p n c, .slice q m d] 25)).alloc (.cells #[.slice p' n' c', .slice q' m' d'] 25)).alloc (.cells #[.slice none 0 0, .slice none 0 0] 25) = W3 at *
  have hb := heap_alloc_new W3 (.cells #[.slice p0 n0 c0, .slice q0 m0 d0] 25)
  rw [hs] at hb
  have he4 := he.calm (World.grownBy_alloc W3 (.cells #[.slice p0 n0 c0, .slice q0 m0 d0] 25) none)
  refine (large_one _ p0 q0 n0 c0 m0 d0 false _ hn0 hb HR.out).mono ?_
  rintro e w1 ⟨rfl, hg1⟩
  have he1 := he4.calm hg1
  have HE1 := Lib.hid he1
  clear he he4 hg1 hb hs
  obtain ⟨a00, a01, b00, b01, b10, b11⟩ := he1.three
  clear he1
  go_wp2_with fail
  have hb2 := heap_alloc_new w1 (.cells #[.slice p n c, .slice q m d, .slice p' n' c', .slice q' m' d'] 25)
  have he5 := HE1.out.calm (World.grownBy_alloc w1 (.cells #[.slice p n c, .slice q m d, .slice p' n' c', .slice q' m' d'] 25) none)
  refine (large_two _ p q p' q' n c m d n' c' m' d' false _ hn hn' hb2 HR2.out).mono ?_
  rintro e w2 ⟨rfl, hg2⟩
  have he2 := he5.calm hg2
  have HE2 := Lib.hid he2
  clear he5 hg2 hb2 HE1
  have ha := H0.out.calm he2.1
  have ho := H.out.calm he2.1
  have hof := HF.out.calm he2.1
  obtain ⟨a00, a01, b00, b01, b10, b11⟩ := he2.three
  clear he2
  go_wp2_with fail
  refine (arIs_r p0 q0 p q pf n0 c0 m0 d0 n c m d nf cf _ _ _ _ _ _ L0 L P0 P f true _ ha ho hof hnf (by omega) (by omega) HR1.out).mono ?_
  rintro e w3 ⟨rfl, hg3⟩
  have he3 := HE2.out.calm hg3
  have HE3 := Lib.hid he3
  have ha := H0.out.calm he3.1
  have ho' := H'.out.calm he3.1
  have hog := HG0.out.calm he3.1
  obtain ⟨a00, a01, b00, b01, b10, b11⟩ := he3.three
  clear hof hg3 he3 ho
  go_wp2_with fail
  refine (arIs_r p0 q0 p' q' pg n0 c0 m0 d0 n' c' m' d' nf cg _ _ _ _ _ _ L0 L' P0 P' g true _ ha ho' hog hnf (by omega) (by omega) HR3.out).mono ?_
  rintro e w4 ⟨rfl, hg4⟩
  have he4 := HE3.out.calm hg4
  have HE4 := Lib.hid he4
  have ho := H.out.calm he4.1
  have ho' := H'.out.calm he4.1
  obtain ⟨a00, a01, b00, b01, b10, b11⟩ := he4.three
  clear ha hog he4 hg4 HE2 HE3
  have hn6 : n ≤ 1000000 := by omega
  have hn6' : n' ≤ 1000000 := by omega
  go_wp2_with fail
  refine (beside_c p q p' q' n c m d n' c' m' d' 0 w.heap.size L L' P P' _ ho ho' hn6 hn6' (by omega) (by omega) HP0.out HP0'.out HQ0.out HINb.out).mono ?_
  rintro e w5 ⟨uA, vA, rfl, hoA, hg5⟩
  obtain ⟨pu, cu, pv, cv, rfl, rfl, hobA, _, _⟩ := hoA.form
  rw [HLA.out, HPA.out] at hobA ⊢
  have he5 := HE4.out.calm hg5
  have HE5 := Lib.hid he5
  have hog := HG0.out.calm he5.1
  have HOA := Lib.hid hobA
  clear ho ho' he5 hg5 hoA hobA HE4
  go_wp2_with fail
  refine (behind_c n pg nf cg _ _ g _ hog hn6 hnf HTM.out).mono ?_
  rintro e w6 ⟨gD, rfl, hgD0, hrD, hg6⟩
  have hsl : (shL n g).length = nf := by rw [shL_len]; exact hog.len
  rw [hsl]
  have HSL := Lib.hid hsl
  have he6 := HE5.out.calm hg6
  have HE6 := Lib.hid he6
  have ht6 := HT.out.grown he6.1 (by simp)
  have hof := HF.out.calm he6.1
  have hobA := HOA.out.calm hg6
  have hrD' := hrD.at1
  rw [hsl] at hrD'
  clear hog he6 hg6 hrD hsl HE5
  go_wp2_with fail
  refine (fold_c pu pv pf (some ⟨gD, 0, none⟩) (n + n') cu (m + m') cv nf cf nf _ _ _ _ _ _ (L ++ L') (P ++ shP n P') f (shL n g) _ hobA hof hrD' HLS.out (by omega) hnf HIN.out ht6).mono ?_
  rintro e w7 ⟨u, v, gb, rfl, hown, hgb, hrow, hg7⟩
  obtain ⟨pu2, cu2, pv2, cv2, rfl, rfl, hob, hx1, hx2⟩ := hown.form
  have HJL := Lib.hid (joinsL_len (n + n') f (shL n g))
  have he7 := HE6.out.calm hg7
  have hbase : w.heap.size + 1 + 1 + 1 < w6.heap.size := (HE6.out.2 3 _ rfl).lt
  clear ht6 hof hobA hrD' hown HE6
  generalize hJ : joinsL (n + n') f (shL n g) = J at hob hrow he7 HJL
  have HJ := Lib.hid hJ
  clear hJ
  go_wp2_with fail
  rw [HJ.out]
  have hbo := BoxO.new w7 (.slice pu2 (labG (L ++ L') J).length cu2) (.slice pv2 (gluP J (P ++ shP n P')).length cv2)
  have hga := World.grownBy_alloc w7 (.cells #[.slice pu2 (labG (L ++ L') J).length cu2, .slice pv2 (gluP J (P ++ shP n P')).length cv2] 25) none
  have hb7 := (he7.2 3 _ rfl).lt
  have hne7 : w.heap.size + 1 + 1 + 1 ≠ w7.heap.size := by
    have h9 : w.heap.size + 1 + 1 + 1 < w7.heap.size := hb7
    omega
  have hatl : (atZ J).length = n + n' := by rw [atZ_len, HJL.out]
  generalize hX : (labG (L ++ L') J).length = lX at *
  generalize hY : (gluP J (P ++ shP n P')).length = lY at *
  have HXY := Lib.hid (And.intro hX hY)
  clear hX hY
  generalize hw8 : w7.alloc (.cells #[.slice pu2 lX cu2, .slice pv2 lY cv2] 25) = w8 at *
  clear hw8
  have hd : w8.grownBy w8.drew none := grownBy_drewN w8 1 none
  have g8 := grownBy_trans hga hd
  have henv := he7.calm g8
  have hbs := hbo.calm hd
  have hrw := hrow.calm g8
  have HG8 := Lib.hid (show w7.heap.size ≤ w8.drew.heap.size from g8.size)
  have HOB := Lib.hid (hob.calm g8)
  have hbx := And.intro hbs.c0 hbs.c1
  have hszw : w6.heap.size ≤ w8.drew.heap.size := Nat.le_trans hg7.size g8.size
  have HATL := Lib.hid hatl
  have nn0 : (0 : Int) ≤ n := by omega
  have nn1 : (n : Int) ≤ (n : Int) + n' := by omega
  have HX12 := Lib.hid (And.intro hx1 hx2)
  have hn3 : n ≤ n + n' := by omega
  have HTK := Lib.hid (show ∀ W, RowZ W gb (atZ J) → ZsAt W gb (gb + 1) (some ⟨gb, 0, none⟩) n ((atZ J).take n) from fun W h => h.takeZ (by omega))
  have HDR := Lib.hid (show ∀ W, RowZ W gb (atZ J) → ZsAt W gb (gb + 1) (some ⟨gb, n, none⟩) n' ((atZ J).drop n) from fun W h => h.dropZ (by omega))
  have HTKL := Lib.hid (show ((atZ J).take n).length = n by rw [List.length_take, hatl]; omega)
  have HDRL := Lib.hid (show ((atZ J).drop n).length = n' by rw [List.length_drop, hatl]; omega)
  generalize hTKE : (atZ J).take n = TK at *
  generalize hDRE : (atZ J).drop n = DR at *
  have HTKE := Lib.hid hTKE
  have HDRE := Lib.hid hDRE
  clear hTKE hDRE
  clear hbo hga he7 hob hrow hatl hg7 g8 hx1 hx2
  obtain ⟨ad, hzz, HDR2⟩ : ∃ ad : Addr, ((n' = 0) = True ∧ ad = ⟨gb, 0, none⟩ ∨ (n' = 0) = False ∧ ad = ⟨gb, n, none⟩) ∧ Hid (∀ W, RowZ W gb (atZ J) → ZsAt W gb (gb + 1) (some ad) n' DR) := by
    rcases Nat.eq_zero_or_pos n' with hz | hz
    · exact ⟨⟨gb, 0, none⟩, .inl ⟨by simp [hz], rfl⟩, Lib.hid (fun W h => ⟨HDRL.out, fun hp => by omega⟩)⟩
    · exact ⟨⟨gb, n, none⟩, .inr ⟨by simp; omega, rfl⟩, HDR⟩
  clear HDR
  rcases hzz with ⟨hzz, rfl⟩ | ⟨hzz, rfl⟩
  all_goals
    go_region_held3 (fun w' => w'.cell? ⟨w7.heap.size, 0, none⟩ = some (.slice pu2 lX cu2) ∧ w'.cell? ⟨w7.heap.size, 1, none⟩ = some (.slice pv2 lY cv2)) (first | exact hbx | exact hbs.far hne7 _ _ | go_keep)
      (first
        | (go_at_call 34
           (first
            | ((with_reducible refine (cloneZ_c ⟨gb, 0, none⟩ n (n + n') gb (gb + 1) TK _ (HTK.out _ hrw) hn).mono ?_); rintro e wA ⟨pA, cA, rfl, hzA, hgA⟩; have henv := henv.calm hgA; have hbs := hbs.calm hgA; have hrw := hrw.calm hgA; have hbx := And.intro hbs.c0 hbs.c1; obtain ⟨b20, b21, f20, f21⟩ := henv.fourth)
            | ((with_reducible refine (cloneZ_c _ n' n' gb (gb + 1) DR _ (HDR2.out _ hrw) hn').mono ?_); rintro e wB ⟨pB, cB, rfl, hzB, hgB⟩; have henv := henv.calm hgB; have hbs := hbs.calm hgB; have hrw := hrw.calm hgB; have hbx := And.intro hbs.c0 hbs.c1; obtain ⟨b20, b21, f20, f21⟩ := henv.fourth))))
    all_goals
      have henvF := henv.set4 (.slice pu2 lX cu2) (.slice pv2 lY cv2)
      have q1 := grownBy_setCell wB ⟨w.heap.size + 1 + 1 + 1, 0, none⟩ (.slice pu2 lX cu2)
      have q2 := grownBy_setCell (wB.setCell ⟨w.heap.size + 1 + 1 + 1, 0, none⟩ (.slice pu2 lX cu2)) ⟨w.heap.size + 1 + 1 + 1, 1, none⟩ (.slice pv2 lY cv2)
      have k1 := Kept.row q1 (Nat.le_refl _) (Nat.lt_succ_self _)
      have k2 := Kept.row q2 (Nat.le_refl _) (Nat.lt_succ_self _)
      have hobF := (((HOB.out.calm hgA).calm hgB).set (a := ⟨w.heap.size + 1 + 1 + 1, 0, none⟩) (by show w.heap.size + 1 + 1 + 1 < w6.heap.size; exact hbase) (.slice pu2 lX cu2)).set (a := ⟨w.heap.size + 1 + 1 + 1, 1, none⟩) (by show w.heap.size + 1 + 1 + 1 < w6.heap.size; exact hbase) (.slice pv2 lY cv2)
      have hszA := hgA.size
      have hzAF := ((hzA.calm hgB).apart k1 (.inr (by show w.heap.size + 1 + 1 + 1 + 1 ≤ w8.drew.heap.size; omega))).apart k2 (.inr (by show w.heap.size + 1 + 1 + 1 + 1 ≤ w8.drew.heap.size; omega))
      have hzBF := (hzB.apart k1 (.inr (by show w.heap.size + 1 + 1 + 1 + 1 ≤ wA.heap.size; omega))).apart k2 (.inr (by show w.heap.size + 1 + 1 + 1 + 1 ≤ wA.heap.size; omega))
      have s1 := q1.size
      have s2 := q2.size
      have sB := hgB.size
      have s7 : w7.heap.size ≤ w8.drew.heap.size := HG8.out
      have HOF := Lib.hid (hobF.wider (lo' := w.heap.size) (by omega) (Nat.le_trans s7 (Nat.le_trans hszA (Nat.le_trans sB (Nat.le_trans s1 s2)))) (Nat.le_refl _))
      have HZA := Lib.hid (hzAF.wider (lo' := w.heap.size) (by omega) (Nat.le_trans sB (Nat.le_trans s1 s2)) (Nat.le_refl _))
      have HZB := Lib.hid (hzBF.wider (lo' := w.heap.size) (by omega) (Nat.le_trans s1 s2) (Nat.le_refl _))
      obtain ⟨c20, c21, _, _⟩ := henvF.fourth
      have HGF := Lib.hid henvF.1
      clear henv henvF q1 q2 k1 k2 hobF hzAF hzBF hzA hzB hgA hgB hbs hrw hbx b20 b21 f20 f21 s1 s2 sB s7
      generalize hWF : (wB.setCell ⟨w.heap.size + 1 + 1 + 1, 0, none⟩ (.slice pu2 lX cu2)).setCell ⟨w.heap.size + 1 + 1 + 1, 1, none⟩ (.slice pv2 lY cv2) = WF at *
      clear hWF
      go_wp2
      refine bodyPost_ret (v := .tuple #[.agg #[.slice pu2 lX cu2, .slice pv2 lY cv2], .slice pA TK.length cA, .slice pB DR.length cB, .int .i64 0]) (by simp [results, Tryd.results12, go_sem, c20, c21]) rfl ?_
      obtain ⟨rfl, rfl⟩ := HXY.out
      rw [HJ.out, HTKE.out, HDRE.out]
      exact ⟨pu2, cu2, pv2, cv2, pA, cA, pB, cB, rfl, HOF.out, HZA.out, HZB.out, HX12.out.1, HX12.out.2, HGF.out⟩

end Go.Proofs.YtihkjgiaajgkpaaDoor
