/- The reference's large, IsDiagram. -/
import Derived.Test.YthmebbnoicldcaaGreatDoorColA
import Derived.Test.YthmebbnoicldcaaGreatDoorQuie
import Derived.Test.YthmebbnoicldcaaGreatDoorRefar
namespace Go.Proofs.YthmebbnoicldcaaGreatDoor
open Go.RowKit Go.Shelf

set_option maxRecDepth 20000 in
set_option maxHeartbeats 4000000 in
theorem refLarge_r (p q : Option Addr) (n c m d lo hi lo' hi' : Nat) (Ns : List Nd) (As : List Ar) (r : Bool) (w : World) (hn : NodesAt w lo hi p n Ns) (ha : ArrsAt w lo' hi' q m As) (hf : DFew Ns As) (hr : (manyB Ns As || decide (40 < stK Ns Ns.length)) = r) :
    Calls Tryz.prog 26 #[.agg #[.slice p n c, .slice q m d]] w fun e w' => e = .returned (.bool r) ∧ w.grownBy w' none := by
  have HN := Lib.hid hn
  have HF := Lib.hid hf
  have HR := Lib.hid hr
  have HNL := Lib.hid hn.len
  have HAL := Lib.hid ha.len
  have hb := Blk.new w #[.slice p n c, .slice q m d] 25
  have hg := World.grownBy_alloc w (.cells #[.slice p n c, .slice q m d] 25) none
  have hn10 : n ≤ 10 := by rw [← hn.len]; exact hf.nn
  have hm12 : m ≤ 12 := by rw [← ha.len]; exact hf.aa
  clear hn ha hr hf
  go_enter Tryz.func26, Tryz.ntmps26
  go_upto_region 1 with fail
  generalize w.alloc (.cells #[.slice p n c, .slice q m d] 25) = W0 at *
  have HB0 := Lib.hid hb
  have HG0 := Lib.hid hg
  have x0 := hb.c0
  have x1 := hb.c1
  clear hb hg
  generalize w.heap.size = g at *
  by_cases h1 : 6 < n
  · have d1 : (6 : Int) < n := by omega
    obtain rfl : r = true := by rw [← HR.out]; unfold manyB; rw [HNL.out, decide_eq_true h1]; rfl
    go_wp2
    go_ret
    exact ⟨rfl, HG0.out⟩
  have d1 : ¬ ((6 : Int) < n) := by omega
  by_cases h2 : 8 < m
  · have d2 : (8 : Int) < m := by omega
    obtain rfl : r = true := by rw [← HR.out]; unfold manyB; rw [HAL.out, decide_eq_true h2, Bool.or_true]; rfl
    go_wp2
    go_ret
    exact ⟨rfl, HG0.out⟩
  have d2 : ¬ ((8 : Int) < m) := by omega
  have HMY : Hid (manyB Ns As = false) := Lib.hid (by unfold manyB; rw [HNL.out, HAL.out, decide_eq_false h1, decide_eq_false h2]; rfl)
  go_wp2
  go_loopw [3, 4] (fun s i wr => ∃ k : Nat, k ≤ n ∧ i = .int .i64 k ∧ s = .int .i64 (stK Ns k : Nat) ∧ stK Ns k ≤ 40 ∧ wr = W0) (fun _ i _ => n - (intOf i).toNat)
  case atStart => exact ⟨0, Nat.zero_le _, rfl, rfl, Nat.zero_le _, rfl⟩
  case round =>
    obtain ⟨k, hk, rfl, rfl, hs40, rfl⟩ := hrel
    by_cases hkn : k < n
    · have k0 : (0 : Int) ≤ k := by omega
      have k1 : (k : Int) < n := by omega
      obtain ⟨b, off, rfl, q1, q2, q3, hc⟩ := (HN.out.calm HG0.out).cell (by omega)
      obtain ⟨pl, nl, cl, pq, nq, cq, c0, c1, ho, _, _, _⟩ := hc k hkn
      have hl := ho.ls.len
      have s2 := (HF.out.nod k (by rw [HNL.out]; exact hkn)).1
      rw [hl] at s2
      have HSS : Hid (stK Ns (k + 1) = stK Ns k + nl) := Lib.hid (by rw [stK, hl])
      have HMO := Lib.hid (stK_mono Ns (show k + 1 ≤ Ns.length by rw [HNL.out]; exact hkn))
      clear hc ho hl c1
      by_cases h40 : 40 < stK Ns k + nl
      · obtain rfl : r = true := by
          rw [← HR.out, HMY.out, Bool.false_or]
          exact decide_eq_true (by have := HMO.out; have := HSS.out; omega)
        generalize stK Ns k = s at *
        have e1 : (40 : Int) - s < nl := by omega
        go_wp2
        go_ret
        exact ⟨rfl, HG0.out⟩
      · have HS2 : Hid (stK Ns (k + 1) ≤ 40) := Lib.hid (by rw [HSS.out]; omega)
        generalize stK Ns k = s at *
        have e1 : ¬ ((40 : Int) - s < nl) := by omega
        go_wp2
        exact ⟨⟨k + 1, by omega, by go_num, by rw [HSS.out]; go_num, HS2.out, trivial⟩, by simp [intOf]; omega⟩
    · obtain rfl : k = n := by omega
      have k1 : ¬ ((k : Int) < k) := by omega
      obtain rfl : r = false := by
        rw [← HR.out, HMY.out, Bool.false_or, HNL.out]
        exact decide_eq_false (by omega)
      go_wp2
      go_ret
      exact ⟨rfl, HG0.out⟩

set_option maxRecDepth 20000 in
set_option maxHeartbeats 4000000 in
theorem refIsD_r (p q : Option Addr) (n c m d lo hi lo' hi' : Nat) (Ns : List Nd) (As : List Ar) (r : Bool) (w : World) (hn : NodesAt w lo hi p n Ns) (ha : ArrsAt w lo' hi' q m As) (hf : DFew Ns As) (hr : diagB Ns As = r) :
    Calls Tryz.prog 15 #[.agg #[.slice p n c, .slice q m d]] w fun e w' => e = .returned (.bool r) ∧ w.grownBy w' none := by
  have HN := Lib.hid hn
  have HA := Lib.hid ha
  have HF := Lib.hid hf
  have HR := Lib.hid hr
  have HNL := Lib.hid hn.len
  have HAL := Lib.hid ha.len
  have hb := Blk.new w #[.slice p n c, .slice q m d] 25
  have hg := World.grownBy_alloc w (.cells #[.slice p n c, .slice q m d] 25) none
  have hn10 : n ≤ 10 := by rw [← hn.len]; exact hf.nn
  have hm12 : m ≤ 12 := by rw [← ha.len]; exact hf.aa
  clear hn ha hr hf
  go_enter Tryz.func15, Tryz.ntmps15
  go_upto_region 1 with fail
  generalize w.alloc (.cells #[.slice p n c, .slice q m d] 25) = W0 at *
  have HB0 := Lib.hid hb
  have HG0 := Lib.hid hg
  have x0 := hb.c0
  have x1 := hb.c1
  clear hb hg
  generalize w.heap.size = g at *
  by_cases h1 : 6 < n
  · have d1 : (6 : Int) < n := by omega
    obtain rfl : r = false := by rw [← HR.out]; exact many_no (by unfold manyB; rw [HNL.out, decide_eq_true h1]; rfl)
    go_wp2
    go_ret
    exact ⟨rfl, HG0.out⟩
  have d1 : ¬ ((6 : Int) < n) := by omega
  by_cases h2 : 8 < m
  · have d2 : (8 : Int) < m := by omega
    obtain rfl : r = false := by rw [← HR.out]; exact many_no (by unfold manyB; rw [HAL.out, decide_eq_true h2, Bool.or_true])
    go_wp2
    go_ret
    exact ⟨rfl, HG0.out⟩
  have d2 : ¬ ((8 : Int) < m) := by omega
  have HMY : Hid (manyB Ns As = false) := Lib.hid (by unfold manyB; rw [HNL.out, HAL.out, decide_eq_false h1, decide_eq_false h2]; rfl)
  go_wp2
  clear x0 x1
  go_loopw [3] (fun i wr => ∃ k : Nat, k ≤ n ∧ i = .int .i64 k ∧ Hid (∀ j, j < k → (chk (ndA Ns j).1 (ndA Ns j).2 == 0) = true) ∧ W0.grownBy wr none) (fun i _ => n - (intOf i).toNat)
  case atStart => exact ⟨0, Nat.zero_le _, rfl, Lib.hid (fun j hj => absurd hj (Nat.not_lt_zero _)), grownBy_refl _ _⟩
  case round =>
    obtain ⟨k, hk, rfl, HD, hgr⟩ := hrel
    have hb := HB0.out.calm hgr
    have x0 := hb.c0
    have x1 := hb.c1
    have HGR := Lib.hid hgr
    by_cases hkn : k < n
    · have k0 : (0 : Int) ≤ k := by omega
      have k1 : (k : Int) < n := by omega
      obtain ⟨b, off, rfl, q1, q2, q3, hc⟩ := (HN.out.calm (grownBy_trans HG0.out hgr)).cell (by omega)
      obtain ⟨pl, nl, cl, pq, nq, cq, c0, c1, ho, hnl, _, _⟩ := hc k hkn
      have HO := Lib.hid ho
      have hfm := (HF.out.nod k (by rw [HNL.out]; exact hkn)).2
      rw [ho.ps.len] at hfm
      clear hc ho hgr hb
      go_wp2_with fail
      cases hck : (chk (ndA Ns k).1 (ndA Ns k).2 == 0) with
      | false =>
        obtain rfl : r = false := by rw [← HR.out]; exact nod_no (by rw [HNL.out]; exact hkn) hck
        refine (refIs_c pl pq nl cl nq cq _ _ _ _ false _ HO.out (by omega) hck).mono ?_
        rintro e w2 ⟨rfl, hg2⟩
        have HG2 := Lib.hid (grownBy_trans HG0.out (grownBy_trans HGR.out hg2))
        clear hg2 hck
        go_wp2
        go_ret
        exact ⟨rfl, HG2.out⟩
      | true =>
        refine (refIs_c pl pq nl cl nq cq _ _ _ _ true _ HO.out (by omega) hck).mono ?_
        rintro e w2 ⟨rfl, hg2⟩
        have HG2 := Lib.hid (grownBy_trans HGR.out hg2)
        have HD2 : Hid (∀ j, j < k + 1 → (chk (ndA Ns j).1 (ndA Ns j).2 == 0) = true) := Lib.hid (fun j hj => by
          by_cases e : j = k
          · subst e; exact hck
          · exact HD.out j (by omega))
        clear hg2 hck HD
        go_wp2
        exact ⟨⟨k + 1, by omega, by go_num, HD2, HG2.out⟩, by simp [intOf]; omega⟩
    · obtain rfl : k = n := by omega
      have k1 : ¬ ((k : Int) < k) := by omega
      have HB1 := Lib.hid hb
      have HG1 := Lib.hid (grownBy_trans HG0.out hgr)
      clear hgr hb
      generalize wr = wo at *
      go_wp2
      clear x0 x1
      go_loopw [4] (fun i wr => ∃ a : Nat, a ≤ m ∧ i = .int .i64 a ∧ Hid (∀ j, j < a → arrOK Ns (arA As j) = true) ∧ wo.grownBy wr none) (fun i _ => m - (intOf i).toNat)
      case atStart => exact ⟨0, Nat.zero_le _, rfl, Lib.hid (fun j hj => absurd hj (Nat.not_lt_zero _)), grownBy_refl _ _⟩
      case round =>
        obtain ⟨a, ha, rfl, HC, hgr⟩ := hrel
        have hb := HB1.out.calm hgr
        have x0 := hb.c0
        have x1 := hb.c1
        by_cases ham : a < m
        · have a0 : (0 : Int) ≤ a := by omega
          have a1 : (a : Int) < m := by omega
          have hgw := grownBy_trans HG1.out hgr
          obtain ⟨b, off, rfl, q1, q2, q3, hc⟩ := (HA.out.calm hgw).cell (by omega)
          obtain ⟨pm, nm, cm, c0, c1, c2, hz⟩ := hc a ham
          have hnm := HF.out.arr a (by rw [HAL.out]; exact ham)
          rw [hz.len] at hnm
          obtain ⟨⟨z1, z2, l⟩, hx⟩ : ∃ x : Ar, x = arA As a := ⟨_, rfl⟩
          rw [← hx] at c0 c1 hz
          have HX := Lib.hid hx
          simp only at c0 c1 hz
          clear hx hc
          have hga := World.grownBy_alloc wr (.cells #[.int .i64 z1, .int .i64 z2, .slice pm nm cm] 49) none
          have hbx := Blk.new wr #[.int .i64 z1, .int .i64 z2, .slice pm nm cm] 49
          have HZ := Lib.hid (hz.calm hga)
          have HGA := Lib.hid (grownBy_trans hgr hga)
          have HBA := Lib.hid (hb.calm hga)
          have HBX := Lib.hid hbx
          clear hz hga hgr hb hbx hgw
          go_upto_region 12 with fail
          clear c0 c1 c2 x0 x1
          generalize wr.alloc (.cells #[.int .i64 z1, .int .i64 z2, .slice pm nm cm] 49) = wa at *
          generalize wr.heap.size = ga at *
          have hq0 := Lib.hid (fun z : Later wa => later_cell HBX.out.c0 z)
          have hq1 := Lib.hid (fun z : Later wa => later_cell HBX.out.c1 z)
          have hq2 := Lib.hid (fun z : Later wa => later_cell HBX.out.c2 z)
          have hq3 := Lib.hid (fun z : Later wa => later_cell HBA.out.c0 z)
          have q0 := fun z : Later wa => later_cell HBX.out.c0 z
          have q1 := fun z : Later wa => later_cell HBX.out.c1 z
          have q2 := fun z : Later wa => later_cell HBX.out.c2 z
          have q3 := fun z : Later wa => later_cell HBA.out.c0 z
          clear hq0 hq1 hq2 hq3
          have hne := later_one wa
          by_cases hz0 : z1 < 0
          · have e1 : decide (z1 < (0 : Int)) = true := decide_eq_true hz0
            obtain rfl : r = false := by
              rw [← HR.out]
              refine arr_no (a := a) (by rw [HAL.out]; exact ham) ?_
              rw [← HX.out]
              cases hv : arrOK Ns (z1, z2, l) with | false => rfl | true => exact absurd (arrOK_parts hv).1.1 (by omega)
            as_aux_lemma =>
              go_wp2_with fail
              refine region_quiet_in (C := fun x => ∃ z : Later wa, x = z.at_) (by kernel_rfl) (by kernel_rfl) (later_drew wa) ?_
              repeat (go_big_quiet_step (fail))
              refine wpQuiet_nil ?_
              intro w' hw'
              obtain ⟨z, hz⟩ := hw'
              subst hz
              have HE := Lib.hid (grownBy_trans HG1.out (grownBy_trans HGA.out z.ok))
              go_wp2
              go_ret
              exact ⟨rfl, HE.out⟩
          obtain ⟨fn, rfl⟩ := Int.eq_ofNat_of_zero_le (by omega : 0 ≤ z1)
          have e1 : decide ((fn : Int) < (0 : Int)) = false := by simp
          by_cases hz1 : k ≤ fn
          · have e2 : decide ((k : Int) ≤ (fn : Int)) = true := by simp; omega
            obtain rfl : r = false := by
              rw [← HR.out]
              refine arr_no (a := a) (by rw [HAL.out]; exact ham) ?_
              rw [← HX.out]
              cases hv : arrOK Ns ((fn : Int), z2, l) with | false => rfl | true => exact absurd (arrOK_parts hv).1.2 (by rw [HNL.out]; omega)
            as_aux_lemma =>
              go_wp2_with fail
              refine region_quiet_in (C := fun x => ∃ z : Later wa, x = z.at_) (by kernel_rfl) (by kernel_rfl) (later_drew wa) ?_
              repeat (go_big_quiet_step (fail))
              refine wpQuiet_nil ?_
              intro w' hw'
              obtain ⟨z, hz⟩ := hw'
              subst hz
              have HE := Lib.hid (grownBy_trans HG1.out (grownBy_trans HGA.out z.ok))
              go_wp2
              go_ret
              exact ⟨rfl, HE.out⟩
          have e2 : decide ((k : Int) ≤ (fn : Int)) = false := by simp; omega
          by_cases hz2 : z2 < 0
          · have e3 : decide (z2 < (0 : Int)) = true := decide_eq_true hz2
            obtain rfl : r = false := by
              rw [← HR.out]
              refine arr_no (a := a) (by rw [HAL.out]; exact ham) ?_
              rw [← HX.out]
              cases hv : arrOK Ns ((fn : Int), z2, l) with | false => rfl | true => exact absurd (arrOK_parts hv).2.1.1 (by omega)
            as_aux_lemma =>
              go_wp2_with fail
              refine region_quiet_in (C := fun x => ∃ z : Later wa, x = z.at_) (by kernel_rfl) (by kernel_rfl) (later_drew wa) ?_
              repeat (go_big_quiet_step (fail))
              refine wpQuiet_nil ?_
              intro w' hw'
              obtain ⟨z, hz⟩ := hw'
              subst hz
              have HE := Lib.hid (grownBy_trans HG1.out (grownBy_trans HGA.out z.ok))
              go_wp2
              go_ret
              exact ⟨rfl, HE.out⟩
          obtain ⟨tn, rfl⟩ := Int.eq_ofNat_of_zero_le (by omega : 0 ≤ z2)
          have e3 : decide ((tn : Int) < (0 : Int)) = false := by simp
          by_cases hz3 : k ≤ tn
          · have e4 : decide ((k : Int) ≤ (tn : Int)) = true := by simp; omega
            obtain rfl : r = false := by
              rw [← HR.out]
              refine arr_no (a := a) (by rw [HAL.out]; exact ham) ?_
              rw [← HX.out]
              cases hv : arrOK Ns ((fn : Int), (tn : Int), l) with | false => rfl | true => exact absurd (arrOK_parts hv).2.1.2 (by rw [HNL.out]; omega)
            as_aux_lemma =>
              go_wp2_with fail
              refine region_quiet_in (C := fun x => ∃ z : Later wa, x = z.at_) (by kernel_rfl) (by kernel_rfl) (later_drew wa) ?_
              repeat (go_big_quiet_step (fail))
              refine wpQuiet_nil ?_
              intro w' hw'
              obtain ⟨z, hz⟩ := hw'
              subst hz
              have HE := Lib.hid (grownBy_trans HG1.out (grownBy_trans HGA.out z.ok))
              go_wp2
              go_ret
              exact ⟨rfl, HE.out⟩
          have e4 : decide ((k : Int) ≤ (tn : Int)) = false := by simp; omega
          have hfn : fn < k := by omega
          have htn : tn < k := by omega
          have hgw := grownBy_trans HG1.out HGA.out
          obtain ⟨bn, on, rfl, r1, r2, r3, hc⟩ := (HN.out.calm hgw).cell (by omega)
          obtain ⟨pl, nl, cl, pq, nq, cq, c0, c1, ho, _, _, _⟩ := hc fn hfn
          obtain ⟨pl', nl', cl', pq', nq', cq', c0', c1', ho', _, _, _⟩ := hc tn htn
          have hf1 := (HF.out.nod fn (by rw [HNL.out]; exact hfn)).2
          have hf2 := (HF.out.nod tn (by rw [HNL.out]; exact htn)).2
          rw [ho.ps.len] at hf1
          rw [ho'.ps.len] at hf2
          have HO := Lib.hid ho
          have HO' := Lib.hid ho'
          have q4 := fun z : Later wa => later_cell c0 z
          have q5 := fun z : Later wa => later_cell c1 z
          have q6 := fun z : Later wa => later_cell c0' z
          have q7 := fun z : Later wa => later_cell c1' z
          clear hc ho ho' c0 c1 c0' c1' hgw
          cases hv : arB (ndA Ns fn).1 (ndA Ns fn).2 (ndA Ns tn).1 (ndA Ns tn).2 l with
          | false =>
            have HC9 := Lib.hid (fun z : Later wa => later_call (fun w' hg => refArrow_r pl pq pl' pq' pm nl cl nq cq nl' cl' nq' cq' nm cm _ _ _ _ _ _ _ _ _ _ l false w' (HO.out.calm hg) (HO'.out.calm hg) (HZ.out.calm hg) (by omega) (by omega) (by omega) hv) z)
            obtain rfl : r = false := by
              rw [← HR.out]
              refine arr_no (a := a) (by rw [HAL.out]; exact ham) ?_
              rw [← HX.out]
              cases hw : arrOK Ns ((fn : Int), (tn : Int), l) with
              | false => rfl
              | true =>
                have := (arrOK_parts hw).2.2
                rw [Int.toNat_natCast, Int.toNat_natCast, hv] at this
                cases this
            clear hv
            as_aux_lemma =>
              go_wp2_with fail
              refine region_quiet_in (C := fun x => ∃ z : Later wa, x = z.at_) (by kernel_rfl) (by kernel_rfl) (later_drew wa) ?_
              repeat (go_big_quiet_step ((go_at_call 35; exact HC9.out _)))
              refine wpQuiet_nil ?_
              intro w' hw'
              obtain ⟨z, hz⟩ := hw'
              subst hz
              have HE := Lib.hid (grownBy_trans HG1.out (grownBy_trans HGA.out z.ok))
              go_wp2
              go_ret
              exact ⟨rfl, HE.out⟩
          | true =>
            have HC9 := Lib.hid (fun z : Later wa => later_call (fun w' hg => refArrow_r pl pq pl' pq' pm nl cl nq cq nl' cl' nq' cq' nm cm _ _ _ _ _ _ _ _ _ _ l true w' (HO.out.calm hg) (HO'.out.calm hg) (HZ.out.calm hg) (by omega) (by omega) (by omega) hv) z)
            have HC2 : Hid (∀ j, j < a + 1 → arrOK Ns (arA As j) = true) := Lib.hid (fun j hj => by
              by_cases e : j = a
              · subst e
                rw [← HX.out]
                exact arrOK_mk (by rw [HNL.out]; exact hfn) (by rw [HNL.out]; exact htn) hv
              · exact HC.out j (by omega))
            clear hv
            as_aux_lemma =>
              go_wp2_with fail
              refine region_quiet_in (C := fun x => ∃ z : Later wa, x = z.at_) (by kernel_rfl) (by kernel_rfl) (later_drew wa) ?_
              repeat (go_big_quiet_step ((go_at_call 35; exact HC9.out _)))
              refine wpQuiet_nil ?_
              intro w' hw'
              obtain ⟨z, hz⟩ := hw'
              subst hz
              have HE := Lib.hid (grownBy_trans HGA.out z.ok)
              go_wp2
              exact ⟨⟨a + 1, by omega, by go_num, HC2, HE.out⟩, by simp [intOf]; omega⟩
        · obtain rfl : a = m := by omega
          have a1 : ¬ ((a : Int) < a) := by omega
          obtain rfl : r = true := by
            rw [← HR.out]
            exact diag_yes HMY.out (by rw [HNL.out]; exact HD.out) (by rw [HAL.out]; exact HC.out)
          have HG9 := Lib.hid (grownBy_trans HG1.out hgr)
          clear hgr hb
          go_wp2
          go_ret
          exact ⟨rfl, HG9.out⟩

end Go.Proofs.YthmebbnoicldcaaGreatDoor
