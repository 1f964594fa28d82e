/- The reference's package push: Sum where it answers. -/
import Derived.Test.YtihkjgiaajgkpaaDoorRef7d
namespace Go.Proofs.YtihkjgiaajgkpaaDoor
open Go.RowKit

set_option maxRecDepth 20000 in
set_option maxHeartbeats 4000000 in
theorem refSum_ok (p q p' q' : Option Addr) (n c m d n' c' m' d' : Nat) (lo hi lo' hi' : Nat) (L L' : List ByteArray) (P P' : List (Int × Int)) (w : World) (h : ObjAt w lo hi p n q m L P) (h' : ObjAt w lo' hi' p' n' q' m' L' P') (hm : m ≤ 400000) (hm' : m' ≤ 400000) (hl : n + n' ≤ 40) (h1 : chk L P = 0) (h2 : chk L' P' = 0)
    (hp0 : p = none → c = 0) (hp0' : p' = none → c' = 0) (hq0 : q = none → d = 0) :
    Calls Tryd.prog 17 #[.agg #[.slice p n c, .slice q m d], .agg #[.slice p' n' c', .slice q' m' d']] w (RRes4 (L ++ L') (P ++ shP n P') (idL n) (shL n (idL n')) 0 w) := by
  have d1 : ¬ ((40 : Int) < n) := by omega
  have d2 : ¬ ((40 : Int) - n < n') := by omega
  have HIN : Hid (allIn n' P' = true) := Lib.hid (by have := (chk_in h2).2.2.1; rwa [h'.ls.len] at this)
  have HC := Lib.hid (show (chk L P == 0) = true by simpa using h1)
  have HC' := Lib.hid (show (chk L' P' == 0) = true by simpa using h2)
  have HP0 := Lib.hid hp0
  have HP0' := Lib.hid hp0'
  have HQ0 := Lib.hid hq0
  have H := Lib.hid h
  have H' := Lib.hid h'
  clear h h' h1 h2 hp0 hp0' hq0
  have he := boxEnv_three w (.slice p n c) (.slice q m d) (.slice p' n' c') (.slice q' m' d') (.slice none 0 0) (.slice none 0 0)
  obtain ⟨b00, b01, b10, b11⟩ := he.two
  have HE := Lib.hid he
  clear he
  go_enter Tryd.func17, Tryd.ntmps17
  go_wp2_with fail
  have he0 := HE.out
  generalize (((w.alloc (.cells #[.slice p n c, .slice q m d] 25)).alloc (.cells #[.slice p' n' c', .slice q' m' d'] 25)).alloc (.cells #[.slice none 0 0, .slice none 0 0] 25)) = W0 at *
  have ho := H.out.calm he0.1
  clear he0
  refine (refIs_c p q n c m d _ _ L P true _ ho (by omega) HC.out).mono ?_
  rintro e w3 ⟨rfl, hg3⟩
  have he3 := HE.out.calm hg3
  have HE3 := Lib.hid he3
  have ho' := H'.out.calm he3.1
  obtain ⟨b00, b01, b10, b11⟩ := he3.two
  clear hg3 he3 ho
  go_wp2_with fail
  refine (refIs_c p' q' n' c' m' d' _ _ L' P' true _ ho' (by omega) HC'.out).mono ?_
  rintro e w4 ⟨rfl, hg4⟩
  have he4 := HE3.out.calm hg4
  have HE4 := Lib.hid he4
  obtain ⟨b00, b01, b10, b11⟩ := he4.two
  clear ho' hg4 he4 HE3 HE
  go_wp2_with fail
  have henv := HE4.out.calm (grownBy_drewN w4 1 none)
  have hbx := henv.two
  have hn6 : n ≤ 1000000 := by omega
  have hn6' : n' ≤ 1000000 := by omega
  have hm6 : m ≤ 1000000 := by omega
  have hm6' : m' ≤ 1000000 := by omega
  have hn40' : n' ≤ 1000 := by omega
  have hid1 := Lib.hid (idN_nat (n := n) (by omega))
  have hid2 := Lib.hid (idN_nat (n := n') (by omega))
  go_region_held3 (fun w' => w'.cell? ⟨w.heap.size, 0, none⟩ = some (.slice p n c) ∧ w'.cell? ⟨w.heap.size, 1, none⟩ = some (.slice q m d) ∧ w'.cell? ⟨w.heap.size + 1, 0, none⟩ = some (.slice p' n' c') ∧ w'.cell? ⟨w.heap.size + 1, 1, none⟩ = some (.slice q' m' d')) (first | exact hbx | exact (henv.set3 _ _).two | go_keep)
    (first
      | (go_at_call 39; refine (refBeside_c p q p' q' n c m d n' c' m' d' _ _ _ _ L L' P P' _ (H.out.calm henv.1) (H'.out.calm henv.1) hn6 hn6' hm6 hm6' HP0.out HP0'.out HQ0.out HIN.out).mono ?_; rintro e wA ⟨pu, cu, pv, cv, rfl, hobA, hgA⟩; have hszA := hgA.size; have henv := henv.calm hgA; have hbx := henv.two; obtain ⟨b20, b21, f20, f21⟩ := henv.third)
      | (go_at_call 41
         (first
          | ((with_reducible refine (refIdent_c (n : Int) n _ hid1.out).mono ?_); rintro e wB ⟨pB, cB, rfl, hzB, hgB⟩; have hszB := hgB.size; have henv := henv.calm hgB; have hbx := henv.two; obtain ⟨b20, b21, f20, f21⟩ := henv.third)
          | ((with_reducible refine (refIdent_c (n' : Int) n' _ hid2.out).mono ?_); rintro e wC ⟨pC, cC, rfl, hzC, hgC⟩; have hszC := hgC.size; have henv := henv.calm hgC; have hbx := henv.two; obtain ⟨b20, b21, f20, f21⟩ := henv.third)))
      | (go_at_call 42; refine (moved_c n pC (idL n').length cC _ _ (idL n') _ hzC (by omega) (by rw [idL_len]; omega) (idL_tame hn40')).mono ?_; rintro e wD ⟨pD, cD, rfl, hzD, hgD⟩; have hszD := hgD.size; have henv := henv.calm hgD; have hbx := henv.two; obtain ⟨b20, b21, f20, f21⟩ := henv.third))
  all_goals
    have hbase : w.heap.size + 1 + 1 < w4.heap.size := (HE4.out.2 2 _ rfl).lt
    have henvF := henv.set3 (.slice pu (L ++ L').length cu) (.slice pv (P ++ shP n P').length cv)
    have q1 := grownBy_setCell wD ⟨w.heap.size + 1 + 1, 0, none⟩ (.slice pu (L ++ L').length cu)
    have q2 := grownBy_setCell (wD.setCell ⟨w.heap.size + 1 + 1, 0, none⟩ (.slice pu (L ++ L').length cu)) ⟨w.heap.size + 1 + 1, 1, none⟩ (.slice pv (P ++ shP n P').length cv)
    have k1 := Kept.row q1 (Nat.le_refl _) (Nat.lt_succ_self _)
    have k2 := Kept.row q2 (Nat.le_refl _) (Nat.lt_succ_self _)
    have hobD := (((hobA.calm hgB).calm hgC).calm hgD)
    have hobF := (hobD.set (a := ⟨w.heap.size + 1 + 1, 0, none⟩) (by show w.heap.size + 1 + 1 < w4.drew.heap.size; exact hbase) (.slice pu (L ++ L').length cu)).set (a := ⟨w.heap.size + 1 + 1, 1, none⟩) (by show w.heap.size + 1 + 1 < w4.drew.heap.size; exact hbase) (.slice pv (P ++ shP n P').length cv)
    have hszA2 : w4.heap.size ≤ wA.heap.size := hgA.size
    have hzBF := ((((hzB.calm hgC).calm hgD).apart k1 (.inr (by show w.heap.size + 1 + 1 + 1 ≤ wA.heap.size; omega))).apart k2 (.inr (by show w.heap.size + 1 + 1 + 1 ≤ wA.heap.size; omega)))
    have hzDF := (hzD.apart k1 (.inr (by show w.heap.size + 1 + 1 + 1 ≤ wC.heap.size; omega))).apart k2 (.inr (by show w.heap.size + 1 + 1 + 1 ≤ wC.heap.size; omega))
    have hszF := q2.size
    have hszF1 := q1.size
    have HOB := Lib.hid (hobF.wider (lo' := w.heap.size) (by show w.heap.size ≤ w4.heap.size; omega) (Nat.le_trans (by omega) (Nat.le_trans hszF1 hszF)) (Nat.le_refl _))
    have HRB := Lib.hid (hzBF.wider (lo' := w.heap.size) (by omega) (Nat.le_trans (by omega) (Nat.le_trans hszF1 hszF)) (Nat.le_refl _))
    have HRD := Lib.hid (hzDF.wider (lo' := w.heap.size) (by omega) (Nat.le_trans (by omega) (Nat.le_trans hszF1 hszF)) (Nat.le_refl _))
    obtain ⟨c20, c21, _, _⟩ := henvF.third
    have HGF := Lib.hid henvF.1
    have HLA := Lib.hid (show (L ++ L').length = L.length + L'.length by simp)
    have HPA := Lib.hid (show (P ++ shP n P').length = P.length + (shP n P').length by simp)
    rw [HLA.out, HPA.out] at c20 c21 HOB HGF HRB HRD
    clear hobA hobD hobF hzB hzC hzD hzBF hzDF henv henvF q1 q2 k1 k2 hbx b20 b21 f20 f21 hgA hgB hgC hgD hszF hszF1
    generalize hWF : (wD.setCell ⟨w.heap.size + 1 + 1, 0, none⟩ (.slice pu (L.length + L'.length) cu)).setCell ⟨w.heap.size + 1 + 1, 1, none⟩ (.slice pv (P.length + (shP n P').length) cv) = WF at *
    go_wp2
    refine bodyPost_ret (v := .tuple #[.agg #[.slice pu (L.length + L'.length) cu, .slice pv (P.length + (shP n P').length) cv], .slice pB (idL n).length cB, .slice pD (shL n (idL n')).length cD, .int .i64 0]) (by simp [results, Tryd.results17, go_sem, c20, c21]) rfl ?_
    refine ⟨pu, cu, pv, cv, _, _, _, _, by rw [HLA.out, HPA.out], ?_, HRB.out, HRD.out, HGF.out⟩
    rw [HLA.out, HPA.out]
    exact HOB.out

end Go.Proofs.YtihkjgiaajgkpaaDoor
