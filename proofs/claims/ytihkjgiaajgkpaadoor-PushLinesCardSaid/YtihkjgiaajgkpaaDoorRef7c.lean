/- The reference's package push: Push and Sum where they refuse. -/
import Derived.Test.YtihkjgiaajgkpaaDoorRef7b
namespace Go.Proofs.YtihkjgiaajgkpaaDoor
open Go.RowKit

def RRes4 (L : List ByteArray) (P : List (Int × Int)) (I J : List Int) (r : Int) (w : World) (e : Ending) (w' : World) : Prop :=
  ∃ p c q d pi ci pj cj, e = .returned (.tuple #[.agg #[.slice p L.length c, .slice q P.length d], .slice pi I.length ci, .slice pj J.length cj, .int .i64 r]) ∧
    ObjAt w' w.heap.size w'.heap.size p L.length q P.length L P ∧ ZsAt w' w.heap.size w'.heap.size pi I.length I ∧ ZsAt w' w.heap.size w'.heap.size pj J.length J ∧ w.grownBy w' none
theorem rres4_nil {r : Int} {w w' : World} (h : w.grownBy w' none) : RRes4 [] [] [] [] r w (.returned (.tuple #[.agg #[.slice none 0 0, .slice none 0 0], .slice none 0 0, .slice none 0 0, .int .i64 r])) w' :=
  ⟨none, 0, none, 0, none, 0, none, 0, rfl, ⟨strsAt_nil _ _ _, pairsAt_nil _ _ _⟩, zsAt_nil _ _ _, zsAt_nil _ _ _, h⟩

set_option maxRecDepth 20000 in
set_option maxHeartbeats 2000000 in
theorem refPush_large1 (p0 q0 p q p' q' pf pg : Option Addr) (n0 c0 m0 d0 n c m d n' c' m' d' nf cf ng cg : Nat) (w : World) (h : 40 < n0) :
    Calls Tryd.prog 13 #[.agg #[.slice p0 n0 c0, .slice q0 m0 d0], .agg #[.slice p n c, .slice q m d], .agg #[.slice p' n' c', .slice q' m' d'], .slice pf nf cf, .slice pg ng cg] w (RRes4 [] [] [] [] 11 w) := by
  have d1 : (40 : Int) < n0 := by omega
  have he := boxEnv_four w (.slice p0 n0 c0) (.slice q0 m0 d0) (.slice p n c) (.slice q m d) (.slice p' n' c') (.slice q' m' d') (.slice none 0 0) (.slice none 0 0)
  obtain ⟨a00, a01, b00, b01, b10, b11⟩ := he.three
  obtain ⟨b20, b21, f20, f21⟩ := he.fourth
  have HE := Lib.hid he
  have HG := Lib.hid (he.gr2 (b := w.heap.size + 1 + 1 + 1) (by omega) (.slice none 0 0) (.slice none 0 0))
  clear he
  go_enter Tryd.func13, Tryd.ntmps13
  go_wp2
  exact bodyPost_ret (v := .tuple #[.agg #[.slice none 0 0, .slice none 0 0], .slice none 0 0, .slice none 0 0, .int .i64 11]) (by simp [results, Tryd.results13, go_sem]) rfl (rres4_nil (by first | exact HG.out | exact HE.out.1))

set_option maxRecDepth 20000 in
set_option maxHeartbeats 2000000 in
theorem refPush_large2 (p0 q0 p q p' q' pf pg : Option Addr) (n0 c0 m0 d0 n c m d n' c' m' d' nf cf ng cg : Nat) (w : World) (h0 : n0 ≤ 40) (h : 40 < n) :
    Calls Tryd.prog 13 #[.agg #[.slice p0 n0 c0, .slice q0 m0 d0], .agg #[.slice p n c, .slice q m d], .agg #[.slice p' n' c', .slice q' m' d'], .slice pf nf cf, .slice pg ng cg] w (RRes4 [] [] [] [] 11 w) := by
  have dd0 : ¬ ((40 : Int) < n0) := by omega
  have d1 : (40 : Int) < n := by omega
  have he := boxEnv_four w (.slice p0 n0 c0) (.slice q0 m0 d0) (.slice p n c) (.slice q m d) (.slice p' n' c') (.slice q' m' d') (.slice none 0 0) (.slice none 0 0)
  obtain ⟨a00, a01, b00, b01, b10, b11⟩ := he.three
  obtain ⟨b20, b21, f20, f21⟩ := he.fourth
  have HE := Lib.hid he
  have HG := Lib.hid (he.gr2 (b := w.heap.size + 1 + 1 + 1) (by omega) (.slice none 0 0) (.slice none 0 0))
  clear he
  go_enter Tryd.func13, Tryd.ntmps13
  go_wp2
  exact bodyPost_ret (v := .tuple #[.agg #[.slice none 0 0, .slice none 0 0], .slice none 0 0, .slice none 0 0, .int .i64 11]) (by simp [results, Tryd.results13, go_sem]) rfl (rres4_nil (by first | exact HG.out | exact HE.out.1))

set_option maxRecDepth 20000 in
set_option maxHeartbeats 2000000 in
theorem refPush_large3 (p0 q0 p q p' q' pf pg : Option Addr) (n0 c0 m0 d0 n c m d n' c' m' d' nf cf ng cg : Nat) (w : World) (h0 : n0 ≤ 40) (h : n ≤ 40) (h' : 40 < n + n') :
    Calls Tryd.prog 13 #[.agg #[.slice p0 n0 c0, .slice q0 m0 d0], .agg #[.slice p n c, .slice q m d], .agg #[.slice p' n' c', .slice q' m' d'], .slice pf nf cf, .slice pg ng cg] w (RRes4 [] [] [] [] 11 w) := by
  have dd0 : ¬ ((40 : Int) < n0) := by omega
  have d1 : ¬ ((40 : Int) < n) := by omega
  have d2 : (40 : Int) - n < n' := by omega
  have he := boxEnv_four w (.slice p0 n0 c0) (.slice q0 m0 d0) (.slice p n c) (.slice q m d) (.slice p' n' c') (.slice q' m' d') (.slice none 0 0) (.slice none 0 0)
  obtain ⟨a00, a01, b00, b01, b10, b11⟩ := he.three
  obtain ⟨b20, b21, f20, f21⟩ := he.fourth
  have HE := Lib.hid he
  have HG := Lib.hid (he.gr2 (b := w.heap.size + 1 + 1 + 1) (by omega) (.slice none 0 0) (.slice none 0 0))
  clear he
  go_enter Tryd.func13, Tryd.ntmps13
  go_wp2
  exact bodyPost_ret (v := .tuple #[.agg #[.slice none 0 0, .slice none 0 0], .slice none 0 0, .slice none 0 0, .int .i64 11]) (by simp [results, Tryd.results13, go_sem]) rfl (rres4_nil (by first | exact HG.out | exact HE.out.1))

set_option maxRecDepth 20000 in
set_option maxHeartbeats 2000000 in
theorem refSum_large1 (p q p' q' : Option Addr) (n c m d n' c' m' d' : Nat) (w : World) (h : 40 < n) :
    Calls Tryd.prog 17 #[.agg #[.slice p n c, .slice q m d], .agg #[.slice p' n' c', .slice q' m' d']] w (RRes4 [] [] [] [] 11 w) := by
  have d1 : (40 : Int) < n := by omega
  have he := boxEnv_three w (.slice p n c) (.slice q m d) (.slice p' n' c') (.slice q' m' d') (.slice none 0 0) (.slice none 0 0)
  obtain ⟨b00, b01, b10, b11⟩ := he.two
  obtain ⟨b20, b21, f20, f21⟩ := he.third
  have HE := Lib.hid he
  have HG := Lib.hid (he.gr2 (b := w.heap.size + 1 + 1) (by omega) (.slice none 0 0) (.slice none 0 0))
  clear he
  go_enter Tryd.func17, Tryd.ntmps17
  go_wp2
  exact bodyPost_ret (v := .tuple #[.agg #[.slice none 0 0, .slice none 0 0], .slice none 0 0, .slice none 0 0, .int .i64 11]) (by simp [results, Tryd.results17, go_sem]) rfl (rres4_nil (by first | exact HG.out | exact HE.out.1))

set_option maxRecDepth 20000 in
set_option maxHeartbeats 2000000 in
theorem refSum_large2 (p q p' q' : Option Addr) (n c m d n' c' m' d' : Nat) (w : World) (h : n ≤ 40) (h' : 40 < n + n') :
    Calls Tryd.prog 17 #[.agg #[.slice p n c, .slice q m d], .agg #[.slice p' n' c', .slice q' m' d']] w (RRes4 [] [] [] [] 11 w) := by
  have d1 : ¬ ((40 : Int) < n) := by omega
  have d2 : (40 : Int) - n < n' := by omega
  have he := boxEnv_three w (.slice p n c) (.slice q m d) (.slice p' n' c') (.slice q' m' d') (.slice none 0 0) (.slice none 0 0)
  obtain ⟨b00, b01, b10, b11⟩ := he.two
  obtain ⟨b20, b21, f20, f21⟩ := he.third
  have HE := Lib.hid he
  have HG := Lib.hid (he.gr2 (b := w.heap.size + 1 + 1) (by omega) (.slice none 0 0) (.slice none 0 0))
  clear he
  go_enter Tryd.func17, Tryd.ntmps17
  go_wp2
  exact bodyPost_ret (v := .tuple #[.agg #[.slice none 0 0, .slice none 0 0], .slice none 0 0, .slice none 0 0, .int .i64 11]) (by simp [results, Tryd.results17, go_sem]) rfl (rres4_nil (by first | exact HG.out | exact HE.out.1))

set_option maxRecDepth 20000 in
set_option maxHeartbeats 2000000 in
theorem refPush_form (p0 q0 p q p' q' pf pg : Option Addr) (n0 c0 m0 d0 n c m d n' c' m' d' nf cf ng cg : Nat) (lo0 hi0 lo hi lo' hi' lof hif log hig : Nat) (L0 L L' : List ByteArray) (P0 P P' : List (Int × Int)) (f g : List Int) (w : World) (h0 : ObjAt w lo0 hi0 p0 n0 q0 m0 L0 P0) (h : ObjAt w lo hi p n q m L P) (h' : ObjAt w lo' hi' p' n' q' m' L' P') (hf : ZsAt w lof hif pf nf f) (hg : ZsAt w log hig pg ng g) (hm0 : m0 ≤ 400000) (hm : m ≤ 400000) (hm' : m' ≤ 400000) (hnf : nf ≤ 1000000) (hng : ng ≤ 1000000) (hn40 : n0 ≤ 40) (hl : n + n' ≤ 40) (hno : (arB L0 P0 L P f && arB L0 P0 L' P' g) = false) :
    Calls Tryd.prog 13 #[.agg #[.slice p0 n0 c0, .slice q0 m0 d0], .agg #[.slice p n c, .slice q m d], .agg #[.slice p' n' c', .slice q' m' d'], .slice pf nf cf, .slice pg ng cg] w (RRes4 [] [] [] [] 10 w) := by
  have dd0 : ¬ ((40 : Int) < n0) := by omega
  have d1 : ¬ ((40 : Int) < n) := by omega
  have d2 : ¬ ((40 : Int) - n < n') := by omega
  have H0 := Lib.hid h0
  have H := Lib.hid h
  have H' := Lib.hid h'
  have HF := Lib.hid hf
  have HG0 := Lib.hid hg
  have HNO := Lib.hid hno
  clear h0 h h' hf hg hno
  have he := boxEnv_four w (.slice p0 n0 c0) (.slice q0 m0 d0) (.slice p n c) (.slice q m d) (.slice p' n' c') (.slice q' m' d') (.slice none 0 0) (.slice none 0 0)
  obtain ⟨a00, a01, b00, b01, b10, b11⟩ := he.three
  obtain ⟨b20, b21, f20, f21⟩ := he.fourth
  have HE := Lib.hid he
  have HG := Lib.hid (he.gr2 (b := w.heap.size + 1 + 1 + 1) (by omega) (.slice none 0 0) (.slice none 0 0))
  clear he
  go_enter Tryd.func13, Tryd.ntmps13
  go_wp2_with fail
  have he0 := HE.out
  generalize ((((w.alloc (.cells #[.slice p0 n0 c0, .slice q0 m0 d0] 25)).alloc (.cells #[.slice p n c, .slice q m d] 25)).alloc (.cells #[.slice p' n' c', .slice q' m' d'] 25)).alloc (.cells #[.slice none 0 0, .slice none 0 0] 25)) = W0 at *
  have ha := H0.out.calm he0.1
  have ho := H.out.calm he0.1
  have hof := HF.out.calm he0.1
  clear HG he0
  cases hr1 : arB L0 P0 L P f with
  | false =>
    have HR1 := Lib.hid hr1
    clear hr1
    refine (refArrow_r p0 q0 p q pf n0 c0 m0 d0 n c m d nf cf _ _ _ _ _ _ L0 L P0 P f false _ ha ho hof hnf (by omega) (by omega) HR1.out).mono ?_
    rintro e w3 ⟨rfl, hg3⟩
    have he3 := HE.out.calm hg3
    clear ha ho hof hg3
    obtain ⟨b20, b21, f20, f21⟩ := he3.fourth
    have HG := Lib.hid (he3.gr2 (b := w.heap.size + 1 + 1 + 1) (by omega) (.slice none 0 0) (.slice none 0 0))
    clear he3
    go_wp2
    exact bodyPost_ret (v := .tuple #[.agg #[.slice none 0 0, .slice none 0 0], .slice none 0 0, .slice none 0 0, .int .i64 10]) (by simp [results, Tryd.results13, go_sem, b20, b21]) rfl (rres4_nil HG.out)
  | true =>
    have HR1 := Lib.hid hr1
    have HR3 := Lib.hid (show arB L0 P0 L' P' g = false by have := HNO.out; rw [hr1] at this; simpa using this)
    clear hr1
    refine (refArrow_r p0 q0 p q pf n0 c0 m0 d0 n c m d nf cf _ _ _ _ _ _ L0 L P0 P f true _ ha ho hof hnf (by omega) (by omega) HR1.out).mono ?_
    rintro e w3 ⟨rfl, hg3⟩
    have he3 := HE.out.calm hg3
    have HE3 := Lib.hid he3
    have ha := H0.out.calm he3.1
    have ho' := H'.out.calm he3.1
    have hog := HG0.out.calm he3.1
    obtain ⟨a00, a01, b00, b01, b10, b11⟩ := he3.three
    clear hof hg3 he3 ho
    go_wp2_with fail
    refine (refArrow_r p0 q0 p' q' pg n0 c0 m0 d0 n' c' m' d' ng cg _ _ _ _ _ _ L0 L' P0 P' g false _ ha ho' hog hng (by omega) (by omega) HR3.out).mono ?_
    rintro e w4 ⟨rfl, hg4⟩
    have he4 := HE3.out.calm hg4
    clear ha ho' hog hg4
    obtain ⟨b20, b21, f20, f21⟩ := he4.fourth
    have HG := Lib.hid (he4.gr2 (b := w.heap.size + 1 + 1 + 1) (by omega) (.slice none 0 0) (.slice none 0 0))
    clear he4
    go_wp2
    exact bodyPost_ret (v := .tuple #[.agg #[.slice none 0 0, .slice none 0 0], .slice none 0 0, .slice none 0 0, .int .i64 10]) (by simp [results, Tryd.results13, go_sem, b20, b21]) rfl (rres4_nil HG.out)

set_option maxRecDepth 20000 in
set_option maxHeartbeats 2000000 in
theorem refSum_form (p q p' q' : Option Addr) (n c m d n' c' m' d' : Nat) (lo hi lo' hi' : Nat) (L L' : List ByteArray) (P P' : List (Int × Int)) (w : World) (h : ObjAt w lo hi p n q m L P) (h' : ObjAt w lo' hi' p' n' q' m' L' P') (hm : m ≤ 400000) (hm' : m' ≤ 400000) (hl : n + n' ≤ 40) (hno : (chk L P == 0 && chk L' P' == 0) = false) :
    Calls Tryd.prog 17 #[.agg #[.slice p n c, .slice q m d], .agg #[.slice p' n' c', .slice q' m' d']] w (RRes4 [] [] [] [] 10 w) := by
  have d1 : ¬ ((40 : Int) < n) := by omega
  have d2 : ¬ ((40 : Int) - n < n') := by omega
  have H := Lib.hid h
  have H' := Lib.hid h'
  have HNO := Lib.hid hno
  clear h h' hno
  have he := boxEnv_three w (.slice p n c) (.slice q m d) (.slice p' n' c') (.slice q' m' d') (.slice none 0 0) (.slice none 0 0)
  obtain ⟨b00, b01, b10, b11⟩ := he.two
  obtain ⟨b20, b21, f20, f21⟩ := he.third
  have HE := Lib.hid he
  have HG := Lib.hid (he.gr2 (b := w.heap.size + 1 + 1) (by omega) (.slice none 0 0) (.slice none 0 0))
  clear he
  go_enter Tryd.func17, Tryd.ntmps17
  go_wp2_with fail
  have he0 := HE.out
  generalize (((w.alloc (.cells #[.slice p n c, .slice q m d] 25)).alloc (.cells #[.slice p' n' c', .slice q' m' d'] 25)).alloc (.cells #[.slice none 0 0, .slice none 0 0] 25)) = W0 at *
  have ho := H.out.calm he0.1
  clear HG he0
  cases hr1 : (chk L P == 0) with
  | false =>
    have HR1 := Lib.hid hr1
    clear hr1
    refine (refIs_c p q n c m d _ _ L P false _ ho (by omega) HR1.out).mono ?_
    rintro e w3 ⟨rfl, hg3⟩
    have he3 := HE.out.calm hg3
    clear ho hg3
    obtain ⟨b20, b21, f20, f21⟩ := he3.third
    have HG := Lib.hid (he3.gr2 (b := w.heap.size + 1 + 1) (by omega) (.slice none 0 0) (.slice none 0 0))
    clear he3
    go_wp2
    exact bodyPost_ret (v := .tuple #[.agg #[.slice none 0 0, .slice none 0 0], .slice none 0 0, .slice none 0 0, .int .i64 10]) (by simp [results, Tryd.results17, go_sem, b20, b21]) rfl (rres4_nil HG.out)
  | true =>
    have HR1 := Lib.hid hr1
    have HR3 := Lib.hid (show (chk L' P' == 0) = false by have := HNO.out; rw [hr1] at this; simpa using this)
    clear hr1
    refine (refIs_c p q n c m d _ _ L P true _ ho (by omega) HR1.out).mono ?_
    rintro e w3 ⟨rfl, hg3⟩
    have he3 := HE.out.calm hg3
    have HE3 := Lib.hid he3
    have ho' := H'.out.calm he3.1
    obtain ⟨b00, b01, b10, b11⟩ := he3.two
    clear hg3 he3 ho
    go_wp2_with fail
    refine (refIs_c p' q' n' c' m' d' _ _ L' P' false _ ho' (by omega) HR3.out).mono ?_
    rintro e w4 ⟨rfl, hg4⟩
    have he4 := HE3.out.calm hg4
    clear ho' hg4
    obtain ⟨b20, b21, f20, f21⟩ := he4.third
    have HG := Lib.hid (he4.gr2 (b := w.heap.size + 1 + 1) (by omega) (.slice none 0 0) (.slice none 0 0))
    clear he4
    go_wp2
    exact bodyPost_ret (v := .tuple #[.agg #[.slice none 0 0, .slice none 0 0], .slice none 0 0, .slice none 0 0, .int .i64 10]) (by simp [results, Tryd.results17, go_sem, b20, b21]) rfl (rres4_nil HG.out)

end Go.Proofs.YtihkjgiaajgkpaaDoor
