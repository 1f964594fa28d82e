/- Package colim: Legs. -/
import Derived.Test.YtemnbkenihldgaaDoorColA
namespace Go.Proofs.YtemnbkenihldgaaDoor
open Go.RowKit Go.Shelf

/-- A diagram and an object in boxes. -/
def TwoB (w W : World) (g : Nat) (a b u v : Value) : Prop := w.grownBy W none ∧ Blk W g #[a, b] 37 ∧ BoxO W (g + 1) u v
theorem TwoB.calm {w W W' : World} {g : Nat} {a b u v : Value} (h : TwoB w W g a b u v) (hg : W.grownBy W' none) : TwoB w W' g a b u v := ⟨grownBy_trans h.1 hg, h.2.1.calm hg, h.2.2.calm hg⟩
theorem TwoB.new (w : World) (a b u v : Value) : TwoB w ((w.alloc (.cells #[a, b] 37)).alloc (.cells #[u, v] 25)) w.heap.size a b u v := by
  refine ⟨grownBy_trans (World.grownBy_alloc _ _ none) (World.grownBy_alloc _ _ none), (Blk.new w _ _).calm (World.grownBy_alloc _ _ none), ?_⟩
  have := BoxO.new (w.alloc (.cells #[a, b] 37)) u v
  rwa [World.size_alloc] at this
theorem TwoB.cells {w W : World} {g : Nat} {a b u v : Value} (h : TwoB w W g a b u v) : W.cell? ⟨g, 0, none⟩ = some a ∧ W.cell? ⟨g, 1, none⟩ = some b ∧ W.cell? ⟨g + 1, 0, none⟩ = some u ∧ W.cell? ⟨g + 1, 1, none⟩ = some v := ⟨h.2.1.c0, h.2.1.c1, h.2.2.c0, h.2.2.c1⟩

theorem legs_no1 {Ns : List Nd} {As : List Ar} {D : List ByteArray} {Q : List (Int × Int)} {Hs : List (List Int)} (h : diagB Ns As = false) : legsB Ns As D Q Hs = false := by
  unfold legsB; rw [h]; rfl
theorem legs_not {Ns : List Nd} {As : List Ar} {D : List ByteArray} {Q : List (Int × Int)} {Hs : List (List Int)} (h : LegsA Ns As D Q Hs → False) : legsB Ns As D Q Hs = false := by
  cases hl : legsB Ns As D Q Hs
  · rfl
  · exact (h (legs_parts hl)).elim

set_option maxRecDepth 20000 in
set_option maxHeartbeats 4000000 in
theorem dLegs_r (p q pt qt ph : Option Addr) (n c m d nt ct mt dt nh ch lo hi lo' hi' lot hit loh hih : Nat) (Ns : List Nd) (As : List Ar) (D : List ByteArray) (Q : List (Int × Int)) (Hs : List (List Int)) (r : Bool) (w : World)
    (hn : NodesAt w lo hi p n Ns) (ha : ArrsAt w lo' hi' q m As) (hf : DFew Ns As) (ht : ObjAt w lot hit pt nt qt mt D Q) (hmt : mt ≤ 1000000) (hh : LegsAt w loh hih ph nh Hs) (hs : ∀ k, k < nh → (lgA Hs k).length ≤ 1000000) (hr : legsB Ns As D Q Hs = r) :
    Calls Tryd.prog 14 #[.agg #[.slice p n c, .slice q m d], .agg #[.slice pt nt ct, .slice qt mt dt], .slice ph nh ch] w fun e w' => e = .returned (.bool r) ∧ w.grownBy w' none := by
  have HN := Lib.hid hn
  have HA := Lib.hid ha
  have HF := Lib.hid hf
  have HTO := Lib.hid ht
  have HH := Lib.hid hh
  have HS := Lib.hid hs
  have HR := Lib.hid hr
  have HNL := Lib.hid hn.len
  have HAL := Lib.hid ha.len
  have HHL := Lib.hid hh.len
  have hn10 : n ≤ 10 := by rw [← hn.len]; exact hf.nn
  have hm12 : m ≤ 12 := by rw [← ha.len]; exact hf.aa
  have he := TwoB.new w (.slice p n c) (.slice q m d) (.slice pt nt ct) (.slice qt mt dt)
  clear hn ha hr hf hh hs ht
  go_enter Tryd.func14, Tryd.ntmps14
  go_wp2_with fail
  generalize (w.alloc (.cells #[.slice p n c, .slice q m d] 37)).alloc (.cells #[.slice pt nt ct, .slice qt mt dt] 25) = W0 at *
  have HE := Lib.hid he
  clear he
  generalize w.heap.size = g at *
  cases hdg : diagB Ns As with
  | false =>
    obtain rfl : r = false := by rw [← HR.out]; exact legs_no1 hdg
    refine (dIs_r p q n c m d _ _ _ _ Ns As false _ (HN.out.calm HE.out.1) (HA.out.calm HE.out.1) HF.out hdg).mono ?_
    rintro e w1 ⟨rfl, hg1⟩
    have HG := Lib.hid (HE.out.calm hg1).1
    clear hg1 hdg
    go_wp2
    try rw [Exit.noGoto_ret]
    go_ret
    exact ⟨rfl, HG.out⟩
  | true =>
    have HDG := Lib.hid (diag_parts hdg)
    refine (dIs_r p q n c m d _ _ _ _ Ns As true _ (HN.out.calm HE.out.1) (HA.out.calm HE.out.1) HF.out hdg).mono ?_
    rintro e w1 ⟨rfl, hg1⟩
    have he1 := HE.out.calm hg1
    have HE1 := Lib.hid he1
    obtain ⟨x0, x1, b0, b1⟩ := he1.cells
    clear hg1 hdg he1
    go_wp2_with fail
    cases hck : (chk D Q == 0) with
    | false =>
      obtain rfl : r = false := by rw [← HR.out]; exact legs_not (fun h => by rw [h.obj] at hck; cases hck)
      refine (is_c pt qt nt ct mt dt _ _ D Q false _ (HTO.out.calm HE1.out.1) hmt hck).mono ?_
      rintro e w2 ⟨rfl, hg2⟩
      have HG := Lib.hid (HE1.out.calm hg2).1
      clear hg2 hck
      go_wp2
      try rw [Exit.noGoto_ret]
      go_ret
      exact ⟨rfl, HG.out⟩
    | true =>
      have HCK : Hid (chk D Q = 0) := Lib.hid (by simpa using hck)
      refine (is_c pt qt nt ct mt dt _ _ D Q true _ (HTO.out.calm HE1.out.1) hmt hck).mono ?_
      rintro e w2 ⟨rfl, hg2⟩
      have he2 := HE1.out.calm hg2
      have HE2 := Lib.hid he2
      obtain ⟨x0, x1, b0, b1⟩ := he2.cells
      clear hg2 hck he2
      by_cases hnh : nh = n
      · subst hnh
        go_wp2
        go_loopw [32] (fun i wr => ∃ k : Nat, k ≤ nh ∧ i = .int .i64 k ∧ Hid (∀ j, j < k → arB (ndA Ns j).1 (ndA Ns j).2 D Q (lgA Hs j) = true) ∧ w2.grownBy wr none) (fun i _ => nh - (intOf i).toNat)
        case atStart => exact ⟨0, Nat.zero_le _, rfl, Lib.hid (fun j hj => absurd hj (Nat.not_lt_zero _)), grownBy_refl _ _⟩
        case round =>
          obtain ⟨k, hk, rfl, HD, hgr⟩ := hrel
          by_cases hkn : k < nh
          · have k0 : (0 : Int) ≤ k := by omega
            have k1 : (k : Int) < nh := by omega
            have hew := HE2.out.calm hgr
            obtain ⟨b, off, rfl, q1, q2, q3, hc⟩ := (HN.out.calm hew.1).cell (by omega)
            obtain ⟨pl, nl, cl, pq, nq, cq, c0, c1, ho, _, _, _⟩ := hc k hkn
            obtain ⟨bh, oh, rfl, r1, r2, r3, hch⟩ := (HH.out.calm hew.1).cell (by omega)
            obtain ⟨pm, nm, cm, h0, hz⟩ := hch k hkn
            have hnm := HS.out k hkn
            rw [hz.len] at hnm
            have hfm := (HF.out.nod k (by rw [HNL.out]; exact hkn)).2
            rw [ho.ps.len] at hfm
            have hga := World.grownBy_alloc wr (.cells #[.slice pl nl cl, .slice pq nq cq] 25) none
            have hbx := BoxO.new wr (.slice pl nl cl) (.slice pq nq cq)
            have hx0 := hbx.c0
            have hx1 := hbx.c1
            have HO := Lib.hid (ho.calm hga)
            have HZ := Lib.hid (hz.calm hga)
            have hew2 := hew.calm hga
            have HEW := Lib.hid hew2
            obtain ⟨_, _, y0, y1⟩ := hew2.cells
            have hh0 := cell_calm hga h0 (by omega)
            have HGA := Lib.hid (grownBy_trans hgr hga)
            clear hc hch ho hz hga hgr hbx hew hew2
            go_wp2
            clear c0 c1 h0 x0 x1 b0 b1
            generalize wr.alloc (.cells #[.slice pl nl cl, .slice pq nq cq] 25) = wa at *
            generalize wr.heap.size = ga at *
            refine wp_region_still_tail 6 (by kernel_rfl) (by kernel_rfl) ?_
            simp only [List.take_succ_cons, List.take_zero, List.drop_succ_cons, List.drop_zero]
            repeat still_step
            refine wpStill_nil ?_
            change wpList _ _ _ _ _ wa.drew
            have hgd := grownBy_drewN wa 1 none
            have HO2 := Lib.hid (HO.out.calm hgd)
            have HZ2 := Lib.hid (HZ.out.calm hgd)
            have HT2 := Lib.hid ((HTO.out.calm HEW.out.1).calm hgd)
            have HGD := Lib.hid (grownBy_trans HGA.out hgd)
            have HGD2 := Lib.hid (grownBy_trans HEW.out.1 hgd)
            clear hgd hx0 hx1 y0 y1 hh0
            go_wp2_with fail
            cases hv : arB (ndA Ns k).1 (ndA Ns k).2 D Q (lgA Hs k) with
            | true =>
              refine (arIs_r _ _ _ _ _ _ _ _ _ _ _ _ _ _ _ _ _ _ _ _ _ _ _ _ _ _ true _ HO2.out HT2.out HZ2.out hnm (by omega) hmt hv).mono ?_
              rintro e w8 ⟨rfl, hg8⟩
              have HG8 := Lib.hid (grownBy_trans HGD.out hg8)
              have HD2 : Hid (∀ j, j < k + 1 → arB (ndA Ns j).1 (ndA Ns j).2 D Q (lgA Hs j) = true) := Lib.hid (fun j hj => by
                by_cases e : j = k
                · subst e; exact hv
                · exact HD.out j (by omega))
              clear hg8 hv HD
              go_wp2
              exact ⟨⟨k + 1, by omega, by go_num, HD2, HG8.out⟩, by simp [intOf]; omega⟩
            | false =>
              obtain rfl : r = false := by rw [← HR.out]; exact legs_not (fun h => by rw [h.arr k (by rw [HNL.out]; exact hkn)] at hv; cases hv)
              refine (arIs_r _ _ _ _ _ _ _ _ _ _ _ _ _ _ _ _ _ _ _ _ _ _ _ _ _ _ false _ HO2.out HT2.out HZ2.out hnm (by omega) hmt hv).mono ?_
              rintro e w8 ⟨rfl, hg8⟩
              have HG8 := Lib.hid (grownBy_trans HGD2.out hg8)
              clear hg8 hv HD
              go_wp2
              try rw [Exit.noGoto_ret]
              go_ret
              exact ⟨rfl, HG8.out⟩
          · obtain rfl : k = nh := by omega
            have k1 : ¬ ((k : Int) < k) := by omega
            have hew := HE2.out.calm hgr
            have HEO := Lib.hid hew
            clear x0 x1 b0 b1 hgr
            obtain ⟨x0, x1, b0, b1⟩ := hew.cells
            clear hew
            generalize wr = wo at *
            go_wp2
            go_loopw [49] (fun i wr => ∃ a : Nat, a ≤ m ∧ i = .int .i64 a ∧ Hid (∀ j, j < a → thenL (arA As j).2.2 (lgA Hs (arA As j).2.1.toNat) = lgA Hs (arA As j).1.toNat) ∧ wo.grownBy wr none) (fun i _ => m - (intOf i).toNat)
            case atStart => exact ⟨0, Nat.zero_le _, rfl, Lib.hid (fun j hj => absurd hj (Nat.not_lt_zero _)), grownBy_refl _ _⟩
            case round =>
              obtain ⟨a, ha, rfl, HC, hgr⟩ := hrel
              by_cases ham : a < m
              · have a0 : (0 : Int) ≤ a := by omega
                have a1 : (a : Int) < m := by omega
                have hew := HEO.out.calm hgr
                obtain ⟨⟨fa, fb⟩, ⟨ta, tb⟩, hv⟩ := HDG.out.arr a (by rw [HAL.out]; exact ham)
                obtain ⟨bq, oq, rfl, q1, q2, q3, hc⟩ := (HA.out.calm hew.1).cell (by omega)
                obtain ⟨pm, nm, cm, c0, c1, c2, hz⟩ := hc a ham
                have hnm := HF.out.arr a (by rw [HAL.out]; exact ham)
                rw [hz.len] at hnm
                obtain ⟨⟨z1, z2, l⟩, hx⟩ : ∃ x : Ar, x = arA As a := ⟨_, rfl⟩
                rw [← hx] at c0 c1 hz fa fb ta tb hv
                have HX := Lib.hid hx
                simp only at c0 c1 hz fa fb ta tb hv
                clear hx
                rw [HNL.out] at fb tb
                obtain ⟨fn, rfl⟩ := Int.eq_ofNat_of_zero_le fa
                obtain ⟨tn, rfl⟩ := Int.eq_ofNat_of_zero_le ta
                rw [Int.toNat_natCast, Int.toNat_natCast] at hv
                have hfn : fn < k := by omega
                have htn : tn < k := by omega
                obtain ⟨bh, oh, rfl, r1, r2, r3, hch⟩ := (HH.out.calm hew.1).cell (by omega)
                obtain ⟨pf, nf, cf, h0, hz0⟩ := hch fn hfn
                obtain ⟨pt', nt', ct', h1, hz1⟩ := hch tn htn
                have hn0 := HS.out fn hfn
                have hn1 := HS.out tn htn
                rw [hz0.len] at hn0
                rw [hz1.len] at hn1
                have hga := World.grownBy_alloc wr (.cells #[.int .i64 fn, .int .i64 tn, .slice pm nm cm] 45) none
                have hbx := Blk.new wr #[.int .i64 fn, .int .i64 tn, .slice pm nm cm] 45
                have HBX := Lib.hid hbx
                have hlt := hbx.lt
                have y0 := hbx.c0
                have y1 := hbx.c1
                have y2 := hbx.c2
                have HZ := Lib.hid (hz.calm hga)
                have HZ0 := Lib.hid (hz0.calm hga)
                have HZ1 := Lib.hid (hz1.calm hga)
                have hh1 := cell_calm hga h1 (by omega)
                have hh0 := cell_calm hga h0 (by omega)
                have HGA := Lib.hid (grownBy_trans hgr hga)
                have HTB : Hid (thenB l (lgA Hs tn).length = true ∧ thenL (arA As a).2.2 (lgA Hs (arA As a).2.1.toNat) = thenL l (lgA Hs tn) ∧ lgA Hs (arA As a).1.toNat = lgA Hs fn) := Lib.hid (by
                  refine ⟨?_, ?_, ?_⟩
                  · have h5 := (arB_parts (HD.out tn htn)).2.2.1
                    rw [h5]
                    exact List.all_eq_true.2 fun z hz => hasZ_iff.2 ((arB_hasZ hv).2 z hz)
                  · rw [← HX.out]; simp only [Int.toNat_natCast]
                  · rw [← HX.out]; simp only [Int.toNat_natCast])
                have HEW := Lib.hid hew.1
                have fn0 : (0 : Int) ≤ fn := by omega
                have tn0 : (0 : Int) ≤ tn := by omega
                have fn1 : (fn : Int) < k := by omega
                have tn1 : (tn : Int) < k := by omega
                clear hc hch hz hz0 hz1 hga hgr hbx hew hv fa fb ta tb
                go_wp2
                clear c0 c1 c2 h0 h1
                generalize wr.alloc (.cells #[.int .i64 fn, .int .i64 tn, .slice pm nm cm] 45) = wa at *
                generalize wr.heap.size = ga at *
                have hgd := grownBy_drewN wa 1 none
                have HZ2 := Lib.hid (HZ.out.calm hgd)
                have HZ3 := Lib.hid (HZ1.out.calm hgd)
                have HGD := Lib.hid (grownBy_trans HGA.out hgd)
                have HHF := Lib.hid (cell_calm hgd hh0 (by omega))
                have HBD := Lib.hid (HBX.out.calm hgd)
                have HZ4 := Lib.hid (HZ0.out.calm hgd)
                have HWD := Lib.hid (show wo.heap.size ≤ wa.drew.heap.size from HGD.out.size)
                clear hgd hh0
                go_region_with (refine (then_c _ _ _ _ _ _ _ _ _ _ l (lgA Hs tn) _ HZ2.out HZ3.out (by omega)).mono ?_; rintro e w8 ⟨hg8, hpost⟩; obtain ⟨gb, rfl, hgb, hrow⟩ := (hpost.resolve_right (fun h => by rw [HTB.out.1] at h; cases h.1)).2)
                all_goals
                  have hrz := hrow.at (Nat.le_refl _)
                  rw [thenL_len, HZ2.out.len] at hrz
                  have HRZ := Lib.hid hrz
                  have HGX := Lib.hid hg8
                  have HRL := Lib.hid HZ2.out.len
                  rw [HRL.out]
                  obtain ⟨u0, u1, u2⟩ : _ ∧ _ ∧ _ := ⟨(HBD.out.calm hg8).c0, (HBD.out.calm hg8).c1, (HBD.out.calm hg8).c2⟩
                  have hh0 := cell_calm hg8 HHF.out (by show bh < wa.heap.size; omega)
                  clear hg8 hrow hrz hpost
                  go_wp2_with fail
                  cases hsm : decide (thenL l (lgA Hs tn) = lgA Hs fn) with
                  | true =>
                    have HC2 : Hid (∀ j, j < a + 1 → thenL (arA As j).2.2 (lgA Hs (arA As j).2.1.toNat) = lgA Hs (arA As j).1.toNat) := Lib.hid (fun j hj => by
                      by_cases e : j = a
                      · subst e; rw [HTB.out.2.1, HTB.out.2.2]; exact of_decide_eq_true hsm
                      · exact HC.out j (by omega))
                    refine (arSame_r _ _ _ _ _ _ _ _ _ _ _ _ true _ HRZ.out (HZ4.out.calm HGX.out) (by omega) hsm).mono ?_
                    rintro e w9 ⟨rfl, hg9⟩
                    have HG9 := Lib.hid (grownBy_trans HGD.out (grownBy_trans HGX.out hg9))
                    clear hg9 hsm
                    go_wp2
                    exact ⟨⟨a + 1, by omega, by go_num, HC2, HG9.out⟩, by simp [intOf]; omega⟩
                  | false =>
                    obtain rfl : r = false := by
                      rw [← HR.out]
                      refine legs_not (fun h => ?_)
                      have := h.one a (by rw [HAL.out]; exact ham)
                      rw [HTB.out.2.1, HTB.out.2.2] at this
                      rw [decide_eq_true this] at hsm
                      cases hsm
                    refine (arSame_r _ _ _ _ _ _ _ _ _ _ _ _ false _ HRZ.out (HZ4.out.calm HGX.out) (by omega) hsm).mono ?_
                    rintro e w9 ⟨rfl, hg9⟩
                    have HG9 := Lib.hid (grownBy_trans HEO.out.1 (grownBy_trans HGD.out (grownBy_trans HGX.out hg9)))
                    clear hg9 hsm
                    go_wp2
                    try rw [Exit.noGoto_ret]
                    go_ret
                    exact ⟨rfl, HG9.out⟩
              · obtain rfl : a = m := by omega
                have a1 : ¬ ((a : Int) < a) := by omega
                obtain rfl : r = true := by
                  rw [← HR.out]
                  exact legs_mk ⟨HDG.out, HCK.out, by rw [HHL.out, HNL.out], by rw [HNL.out]; exact HD.out, by rw [HAL.out]; exact HC.out⟩
                have HG9 := Lib.hid (grownBy_trans HEO.out.1 hgr)
                clear hgr
                go_wp2
                try rw [Exit.noGoto_ret]
                go_ret
                exact ⟨rfl, HG9.out⟩
      · have e1 : ((nh : Int) == (n : Int)) = false := by simp; omega
        have e2 : ((nh : Int) != (n : Int)) = true := by simp; omega
        obtain rfl : r = false := by rw [← HR.out]; exact legs_not (fun h => hnh (by rw [← HHL.out, ← HNL.out]; exact h.len))
        have HG := Lib.hid HE2.out.1
        go_wp2
        try rw [Exit.noGoto_ret]
        go_ret
        exact ⟨rfl, HG.out⟩

end Go.Proofs.YtemnbkenihldgaaDoor
