/- The reference's Sum and Push where they answer; one contract for the package and the reference each. -/
import Derived.Test.YtemnbkenihldgaaDoorRef7d
/-! The reference's package push: Sum where it answers. -/
namespace Go.Proofs.YtemnbkenihldgaaDoor
open Go.RowKit

end Go.Proofs.YtemnbkenihldgaaDoor
/-! The reference's package push: Push where it answers. -/
namespace Go.Proofs.YtemnbkenihldgaaDoor
open Go.RowKit

theorem ZsAt.takeZ {w : World} {lo hi n m : Nat} {g : Nat} {l : List Int} (h : ZsAt w lo hi (some ⟨g, 0, none⟩) n l) (hm : m ≤ n) : ZsAt w lo hi (some ⟨g, 0, none⟩) m (l.take m) := by
  refine ⟨by rw [List.length_take, h.len]; omega, fun hp => ?_⟩
  obtain ⟨b, off, e, q1, q2, q3, hc⟩ := h.cell (by omega)
  refine ⟨b, off, e, q1, q2, q3, fun k hk => ?_⟩
  have := hc k (by omega)
  rwa [List.getElem?_take_of_lt hk]
theorem ZsAt.dropZ {w : World} {lo hi n m s : Nat} {g : Nat} {l : List Int} (h : ZsAt w lo hi (some ⟨g, 0, none⟩) s l) (hm : n + m = s) : ZsAt w lo hi (some ⟨g, n, none⟩) m (l.drop n) := by
  refine ⟨by rw [List.length_drop, h.len]; omega, fun hp => ?_⟩
  obtain ⟨b, off, e, q1, q2, q3, hc⟩ := h.cell (by omega)
  cases e
  refine ⟨g, n, rfl, q1, q2, q3, fun k hk => ?_⟩
  have := hc (n + k) (by omega)
  rw [List.getElem?_drop]
  rwa [Nat.zero_add] at this

theorem shL_get {n k : Nat} {f : List Int} (h : k < f.length) : (shL n f)[k]?.getD 0 = (n : Int) + f[k]?.getD 0 := by
  unfold shL
  rw [List.getElem?_map, List.getElem?_eq_getElem h]
  rfl

set_option maxRecDepth 20000 in
set_option maxHeartbeats 4000000 in
theorem refPush_ok (p0 q0 p q p' q' pf pg : Option Addr) (n0 c0 m0 d0 n c m d n' c' m' d' nf cf cg : Nat) (lo0 hi0 lo hi lo' hi' lof hif log hig : Nat) (L0 L L' : List ByteArray) (P0 P P' : List (Int × Int)) (f g : List Int) (w : World) (h0 : ObjAt w lo0 hi0 p0 n0 q0 m0 L0 P0) (h : ObjAt w lo hi p n q m L P) (h' : ObjAt w lo' hi' p' n' q' m' L' P') (hf : ZsAt w lof hif pf nf f) (hg : ZsAt w log hig pg nf g) (hm0 : m0 ≤ 400000) (hm : m ≤ 400000) (hm' : m' ≤ 400000) (hnf : nf ≤ 1000000) (hn40 : n0 ≤ 40) (hl : n + n' ≤ 40) (hq1 : arB L0 P0 L P f = true) (hq2 : arB L0 P0 L' P' g = true) (hp0 : p = none → c = 0) (hp0' : p' = none → c' = 0) (hq0 : q = none → d = 0) :
    Calls Tryd.prog 8 #[.agg #[.slice p0 n0 c0, .slice q0 m0 d0], .agg #[.slice p n c, .slice q m d], .agg #[.slice p' n' c', .slice q' m' d'], .slice pf nf cf, .slice pg nf cg] w (RRes4 (labG (L ++ L') (joinsL (n + n') f (shL n g))) (gluP (joinsL (n + n') f (shL n g)) (P ++ shP n P')) ((atZ (joinsL (n + n') f (shL n g))).take n) ((atZ (joinsL (n + n') f (shL n g))).drop n) 0 w) := by
  have HINb := Lib.hid (show allIn n' P' = true by have := (chk_in (arB_chk hq2).2).2.2.1; rwa [h'.ls.len] at this)
  have HIN := Lib.hid (show allIn (n + n') (P ++ shP n P') = true from allIn_app (by have := (chk_in (arB_chk hq1).2).2.2.1; rwa [h.ls.len] at this) HINb.out)
  have HGB := Lib.hid (show ∀ k, k < nf → 0 ≤ g[k]?.getD 0 ∧ g[k]?.getD 0 < n' from fun k hk => by
    have h1 := (arB_hasZ hq2).2 (g[k]?.getD 0) (by rw [List.getElem?_eq_getElem (by rw [hg.len]; exact hk)]; exact List.getElem_mem _)
    rwa [h'.ls.len] at h1)
  have HLA := Lib.hid (show (L ++ L').length = n + n' by rw [List.length_append, h.ls.len, h'.ls.len])
  have HPA := Lib.hid (show (P ++ shP n P').length = m + m' by rw [List.length_append, shP_len, h.ps.len, h'.ps.len])
  have dd0 : ¬ ((40 : Int) < n0) := by omega
  have d1 : ¬ ((40 : Int) < n) := by omega
  have d2 : ¬ ((40 : Int) - n < n') := by omega
  have HP0 := Lib.hid hp0
  have HP0' := Lib.hid hp0'
  have HQ0 := Lib.hid hq0
  have H0 := Lib.hid h0
  have H := Lib.hid h
  have H' := Lib.hid h'
  have HF := Lib.hid hf
  have HG0 := Lib.hid hg
  have HR1 := Lib.hid hq1
  have HR3 := Lib.hid hq2
  have HGL := Lib.hid hg.len
  clear h0 h h' hf hg hq1 hq2 hp0 hp0' hq0
  have he := boxEnv_four w (.slice p0 n0 c0) (.slice q0 m0 d0) (.slice p n c) (.slice q m d) (.slice p' n' c') (.slice q' m' d') (.slice none 0 0) (.slice none 0 0)
  obtain ⟨a00, a01, b00, b01, b10, b11⟩ := he.three
  have HE := Lib.hid he
  clear he
  go_enter Tryd.func8, Tryd.ntmps8
  go_wp2_with fail
  have he0 := HE.out
  generalize ((((w.alloc (.cells #[.slice p0 n0 c0, .slice q0 m0 d0] 25)).alloc (.cells #[.slice p n c, .slice q m d] 25)).alloc (.cells #[.slice p' n' c', .slice q' m' d'] 25)).alloc (.cells #[.slice none 0 0, .slice none 0 0] 25)) = W0 at *
  have ha := H0.out.calm he0.1
  have ho := H.out.calm he0.1
  have hof := HF.out.calm he0.1
  clear he0
  refine (refArrow_r p0 q0 p q pf n0 c0 m0 d0 n c m d nf cf _ _ _ _ _ _ L0 L P0 P f true _ ha ho hof hnf (by omega) (by omega) HR1.out).mono ?_
  rintro e w3 ⟨rfl, hg3⟩
  have he3 := HE.out.calm hg3
  have HE3 := Lib.hid he3
  have ha := H0.out.calm he3.1
  have ho' := H'.out.calm he3.1
  have hog := HG0.out.calm he3.1
  obtain ⟨a00, a01, b00, b01, b10, b11⟩ := he3.three
  clear hof hg3 he3 ho
  go_wp2_with fail
  refine (refArrow_r p0 q0 p' q' pg n0 c0 m0 d0 n' c' m' d' nf cg _ _ _ _ _ _ L0 L' P0 P' g true _ ha ho' hog hnf (by omega) (by omega) HR3.out).mono ?_
  rintro e w4 ⟨rfl, hg4⟩
  have he4 := HE3.out.calm hg4
  have HE4 := Lib.hid he4
  obtain ⟨a00, a01, b00, b01, b10, b11⟩ := he4.three
  clear ha ho' hog hg4 he4 HE3 HE
  go_wp2_with fail
  rw [show (n : Int) + (n' : Int) = ((n + n' : Nat) : Int) from by omega]
  refine (newR_c (n + n') w4 (by omega)).mono ?_
  rintro e w5 ⟨ub, rfl, hu, hg5⟩
  have HU := Lib.hid hu
  have HG5 := Lib.hid hg5
  have htop := hu.top
  clear hu hg5
  generalize hlo : w4.heap.size = lo9 at *
  have HLO := Lib.hid hlo
  clear hlo
  generalize hhi : w5.heap.size = hi9 at *
  clear hhi
  go_wp2
  go_loopw [16] (fun i wr => ∃ k : Nat, k ≤ nf ∧ i = .int .i64 k ∧ IsRn wr lo9 hi9 ub (joinsK (List.range (n + n')) f (shL n g) k) ∧ w4.grownBy wr none) (fun i _ => nf - (intOf i).toNat)
  case atStart => exact ⟨0, Nat.zero_le _, rfl, HU.out, HG5.out⟩
  case round =>
    obtain ⟨k, hk, rfl, hu, hgr⟩ := hrel
    have HUK := Lib.hid hu
    have HGR := Lib.hid hgr
    have hek := HE4.out.calm hgr
    by_cases hka : k < nf
    · have k0 : (0 : Int) ≤ k := by omega
      have k1 : (k : Int) < nf := by omega
      obtain ⟨bf, of', rfl, f1, f2, f3, hcf⟩ := (HF.out.calm hek.1).cell (by omega)
      obtain ⟨bg, og', rfl, q1, q2, q3, hcg⟩ := (HG0.out.calm hek.1).cell (by omega)
      have cf9 := hcf k hka
      have cg9 := hcg k hka
      have HS : Hid (joinsK (List.range (n + n')) f (shL n g) (k + 1) = joinZ (joinsK (List.range (n + n')) f (shL n g) k) (f[k]?.getD 0) (g[k]?.getD 0 + (n : Int))) := Lib.hid (by
        rw [joinsK]
        congr 1
        rw [shL_get (by rw [HGL.out]; exact hka)]
        omega)
      have hgb := HGB.out k hka
      clear hcf hcg hu hgr hek
      generalize f[k]?.getD 0 = x at *
      generalize g[k]?.getD 0 = y at *
      have hw0 := wrap_few (y + (n : Int)) (by omega) (by omega)
      generalize hyn : y + (n : Int) = yn at hw0 HS
      have hw : IntKind.i64.wrap (y + (n : Int)) = yn := by rw [hyn]; exact hw0
      clear hw0 hyn hgb
      go_wp2_with fail
      refine wp_region_still_tail 11 (by kernel_rfl) (by kernel_rfl) ?_
      simp only [List.take_succ_cons, List.take_zero, List.drop_succ_cons, List.drop_zero]
      repeat still_step
      refine wpStill_nil ?_
      change wpList _ _ _ _ _ wr.drew
      go_wp2_with fail
      refine (joinR_c lo9 hi9 ub _ x yn _ (HUK.out.calm (grownBy_drewN wr 1 none))).mono ?_
      rintro e w6 ⟨rfl, h6, hk6⟩
      have HA6 := Lib.hid (show IsRn w6 lo9 hi9 ub (joinsK (List.range (n + n')) f (shL n g) (k + 1)) by rw [HS.out]; exact h6)
      have HG6 := Lib.hid (Kept.new (grownBy_trans HGR.out (grownBy_drewN wr 1 none)) hk6 (by rw [HLO.out]; exact Nat.le_refl _))
      clear h6 hk6
      go_wp2
      exact ⟨⟨k + 1, by omega, by go_num, HA6.out, HG6.out⟩, by simp [intOf]; omega⟩
    · obtain rfl : k = nf := by omega
      have k9 : ¬ ((k : Int) < k) := by omega
      have hJ : joinsK (List.range (n + n')) f (shL n g) k = joinsL (n + n') f (shL n g) := by unfold joinsL; rw [HF.out.len]
      rw [hJ] at HUK
      have HEK := Lib.hid hek
      obtain ⟨a00, a01, b00, b01, b10, b11⟩ := hek.three
      have ho := H.out.calm hek.1
      have ho' := H'.out.calm hek.1
      have HJI := Lib.hid (joinsL_is (n + n') f (shL n g))
      have HJL := Lib.hid (joinsL_len (n + n') f (shL n g))
      generalize joinsL (n + n') f (shL n g) = J at *
      clear hJ hu hgr hek
      go_wp2_with fail
      refine (refBeside_c p q p' q' n c m d n' c' m' d' _ _ _ _ L L' P P' _ ho ho' (by omega) (by omega) (by omega) (by omega) HP0.out HP0'.out HQ0.out HINb.out).mono ?_
      rintro e w6 ⟨p6, c6, q6, d6, rfl, ho6, hg6⟩
      rw [HLA.out, HPA.out] at ho6 ⊢
      have he6 := HEK.out.calm hg6
      have HE6 := Lib.hid he6
      have hu6 := HUK.out.calm hg6
      clear ho ho' hg6 he6 a00 a01 b00 b01 b10 b11
      go_wp2_with fail
      refine (glued_c p6 q6 (n + n') c6 (m + m') d6 _ _ lo9 hi9 ub (L ++ L') (P ++ shP n P') J _ ho6 hu6 HJI.out HJL.out hl (by omega) HIN.out).mono ?_
      rintro e w7 ⟨p7, c7, q7, d7, g7, rfl, ho7, hz7, hg7⟩
      have he7 := HE6.out.calm hg7
      have hbase : w.heap.size + 1 + 1 + 1 < w6.heap.size := (HE6.out.2 3 _ rfl).lt
      generalize hX : (labG (L ++ L') J).length = lX at *
      generalize hY : (gluP J (P ++ shP n P')).length = lY at *
      have HXY := Lib.hid (And.intro hX hY)
      have hga := World.grownBy_alloc w7 (.cells #[.slice p7 lX c7, .slice q7 lY d7] 25) none
      have hbo := BoxO.new w7 (.slice p7 lX c7) (.slice q7 lY d7)
      have hza : (atZ J).length = n + n' := by rw [atZ_len, HJL.out]
      clear hX hY hu6 ho6 HE6
      go_wp2_with fail
      generalize hw8 : w7.alloc (.cells #[.slice p7 lX c7, .slice q7 lY d7] 25) = w8 at *
      clear hw8
      have hd : w8.grownBy w8.drew none := grownBy_drewN w8 1 none
      have g8 := grownBy_trans hga hd
      have he8 := he7.calm g8
      have hb8 := hbo.calm hd
      have ho8 := ho7.calm g8
      have hz8 := hz7.calm g8
      have nn0 : (0 : Int) ≤ n := by omega
      have nn1 : (n : Int) ≤ (n : Int) + n' := by omega
      have hzT := hz8.takeZ (m := n) (by omega)
      have hzD := hz8.dropZ (n := n) (m := n') rfl
      obtain ⟨ad, hzz, hzE⟩ : ∃ ad : Addr, ((n' = 0) = True ∧ ad = ⟨g7, 0, none⟩ ∨ (n' = 0) = False ∧ ad = ⟨g7, n, none⟩) ∧ ZsAt w8.drew w6.heap.size w7.heap.size (some ad) n' ((atZ J).drop n) := by
        rcases Nat.eq_zero_or_pos n' with hz | hz
        · exact ⟨⟨g7, 0, none⟩, .inl ⟨by simp [hz], rfl⟩, ⟨hzD.len, fun hp => by omega⟩⟩
        · exact ⟨⟨g7, n, none⟩, .inr ⟨by simp; omega, rfl⟩, hzD⟩
      have HTKL := Lib.hid hzT.len
      have HDRL := Lib.hid hzE.len
      have b80 := hb8.c0
      have b81 := hb8.c1
      obtain ⟨b20, b21, f20, f21⟩ := he8.fourth
      have e20 : w8.cell? ⟨w.heap.size + 1 + 1 + 1, 0, none⟩ = some (.slice none 0 0) := b20
      have e21 : w8.cell? ⟨w.heap.size + 1 + 1 + 1, 1, none⟩ = some (.slice none 0 0) := b21
      have e22 : w8.frozen? ⟨w.heap.size + 1 + 1 + 1, 0, none⟩ = false := f20
      have e23 : w8.frozen? ⟨w.heap.size + 1 + 1 + 1, 1, none⟩ = false := f21
      have HFIN : Hid (∀ W8, W8 = (w8.drew.setCell ⟨w.heap.size + 1 + 1 + 1, 0, none⟩ (.slice p7 lX c7)).setCell ⟨w.heap.size + 1 + 1 + 1, 1, none⟩ (.slice q7 lY d7) →
          W8.cell? ⟨w.heap.size + 1 + 1 + 1, 0, none⟩ = some (.slice p7 lX c7) ∧ W8.cell? ⟨w.heap.size + 1 + 1 + 1, 1, none⟩ = some (.slice q7 lY d7) ∧
          RRes4 (labG (L ++ L') J) (gluP J (P ++ shP n P')) ((atZ J).take n) ((atZ J).drop n) 0 w (.returned (.tuple #[.agg #[.slice p7 lX c7, .slice q7 lY d7], .slice (some ⟨g7, 0, none⟩) n (n + n'), .slice (some ad) n' n', .int .i64 0])) W8) := Lib.hid (by
        rintro W8 rfl
        generalize hXX : Value.slice p7 lX c7 = X at *
        generalize hYY : Value.slice q7 lY d7 = Y at *
        have heF := he8.set4 X Y
        obtain ⟨c0, c1, _, _⟩ := heF.fourth
        have q1 := grownBy_setCell w8.drew ⟨w.heap.size + 1 + 1 + 1, 0, none⟩ X
        have q2 := grownBy_setCell (w8.drew.setCell ⟨w.heap.size + 1 + 1 + 1, 0, none⟩ X) ⟨w.heap.size + 1 + 1 + 1, 1, none⟩ Y
        have k1 := Kept.row q1 (Nat.le_refl _) (Nat.lt_succ_self _)
        have k2 := Kept.row q2 (Nat.le_refl _) (Nat.lt_succ_self _)
        have hobF := (ho8.set (a := ⟨w.heap.size + 1 + 1 + 1, 0, none⟩) (by show w.heap.size + 1 + 1 + 1 < w6.heap.size; exact hbase) X).set (a := ⟨w.heap.size + 1 + 1 + 1, 1, none⟩) (by show w.heap.size + 1 + 1 + 1 < w6.heap.size; exact hbase) Y
        have hzTF := (hzT.apart k1 (.inr (by show w.heap.size + 1 + 1 + 1 + 1 ≤ w6.heap.size; omega))).apart k2 (.inr (by show w.heap.size + 1 + 1 + 1 + 1 ≤ w6.heap.size; omega))
        have hzEF := (hzE.apart k1 (.inr (by show w.heap.size + 1 + 1 + 1 + 1 ≤ w6.heap.size; omega))).apart k2 (.inr (by show w.heap.size + 1 + 1 + 1 + 1 ≤ w6.heap.size; omega))
        have z1 := q1.size
        have z2 := q2.size
        have z3 := g8.size
        obtain ⟨hX, hY⟩ := HXY.out
        subst hXX hYY hX hY
        refine ⟨c0, c1, p7, c7, q7, d7, some ⟨g7, 0, none⟩, n + n', some ad, n', by rw [HTKL.out, HDRL.out], hobF.wider (by omega) (by omega) (Nat.le_refl _), ?_, ?_, heF.1⟩
        · rw [HTKL.out]
          exact hzTF.wider (by omega) (by omega) (Nat.le_refl _)
        · rw [HDRL.out]
          exact hzEF.wider (by omega) (by omega) (Nat.le_refl _))
      have hn3 : n ≤ n + n' := by omega
      have hsub : n + n' - n = n' := by omega
      have hne7 : w.heap.size + 1 + 1 + 1 ≠ w7.heap.size := by
        have h9 : w6.heap.size ≤ w7.heap.size := hg7.size
        omega
      have hbs := hb8
      have hbx := And.intro hbs.c0 hbs.c1
      clear he7 hga hbo he8 ho8 hz8 ho7 hz7 hg7 hza hzT hzD hzE g8 hb8
      rcases hzz with ⟨hzz, rfl⟩ | ⟨hzz, rfl⟩
      all_goals
        go_region_held3 (fun w' => w'.cell? ⟨w7.heap.size, 0, none⟩ = some (.slice p7 lX c7) ∧ w'.cell? ⟨w7.heap.size, 1, none⟩ = some (.slice q7 lY d7)) (first | exact hbx | exact hbs.far hne7 _ _ | go_keep)
          (first
            | (go_at_call 20; fail))
        obtain ⟨c8, c9, hres⟩ := HFIN.out (((w8.setCell ⟨w.heap.size + 1 + 1 + 1, 0, none⟩ (.slice p7 lX c7)).setCell ⟨w.heap.size + 1 + 1 + 1, 1, none⟩ (.slice q7 lY d7)).drew) rfl
        clear hbx hbs e20 e21 e22 e23 b20 b21 f20 f21 b80 b81 hd HFIN
        generalize ((w8.setCell ⟨w.heap.size + 1 + 1 + 1, 0, none⟩ (.slice p7 lX c7)).setCell ⟨w.heap.size + 1 + 1 + 1, 1, none⟩ (.slice q7 lY d7)).drew = w9 at *
        go_wp2
        exact bodyPost_ret (v := .tuple #[.agg #[.slice p7 lX c7, .slice q7 lY d7], .slice (some ⟨g7, 0, none⟩) n (n + n'), .slice (some _) n' n', .int .i64 0]) (by simp [results, Tryd.results8, go_sem, c8, c9]) rfl hres

end Go.Proofs.YtemnbkenihldgaaDoor
/-! Package push and the document's gluing hand back the same: Push, Sum, Equal, each in one contract for both. -/
namespace Go.Proofs.YtemnbkenihldgaaDoor
open Go.RowKit

theorem gluP_len7 (J : List Nat) (P : List (Int × Int)) (h : J.length ≤ 40) : (gluP J P).length ≤ 1600 := by
  have h1 := cntR_le J J.length
  have h2 : cntR J J.length * cntR J J.length ≤ 40 * 40 := Nat.mul_le_mul (by omega) (by omega)
  have := pairsL_len (cntR J J.length) (clo (cntR J J.length) (gluR J P)) (cntR J J.length)
  unfold gluP
  omega
theorem labG_len7 (Lb : List ByteArray) (J : List Nat) (h : J.length ≤ 40) : (labG Lb J).length ≤ 40 := by
  rw [labG_len]
  have h1 := cntR_le J J.length
  omega

end Go.Proofs.YtemnbkenihldgaaDoor
