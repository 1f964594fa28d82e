/- Package colim: tooMany, tooLarge, Is. -/
import Derived.Test.YtemnbkenihldgaaDoorColM
namespace Go.Proofs.YtemnbkenihldgaaDoor
open Go.RowKit

set_option maxRecDepth 20000 in
set_option maxHeartbeats 1000000 in
theorem tooMany_r (p q : Option Addr) (n c m d : Nat) (r : Bool) (w : World) (hr : (decide (6 < n) || decide (8 < m)) = r) :
    Calls Tryd.prog 22 #[.agg #[.slice p n c, .slice q m d]] w fun e w' => e = .returned (.bool r) ∧ w.grownBy w' none := by
  have HG := Lib.hid (World.grownBy_alloc w (.cells #[.slice p n c, .slice q m d] 37) none)
  have HR := Lib.hid hr
  clear hr
  by_cases h1 : 6 < n
  · have d1 : (6 : Int) < n := by omega
    obtain rfl : r = true := by rw [← HR.out, decide_eq_true h1]; rfl
    go_enter Tryd.func22, Tryd.ntmps22
    go_wp2
    go_ret
    exact ⟨rfl, HG.out⟩
  · have d1 : ¬ ((6 : Int) < n) := by omega
    by_cases h2 : 8 < m
    · have d2 : (8 : Int) < m := by omega
      obtain rfl : r = true := by rw [← HR.out, decide_eq_true h2, Bool.or_true]
      go_enter Tryd.func22, Tryd.ntmps22
      go_wp2
      go_ret
      exact ⟨rfl, HG.out⟩
    · have d2 : ¬ ((8 : Int) < m) := by omega
      obtain rfl : r = false := by rw [← HR.out, decide_eq_false h1, decide_eq_false h2]; rfl
      go_enter Tryd.func22, Tryd.ntmps22
      go_wp2
      go_ret
      exact ⟨rfl, HG.out⟩

theorem st_small {Ns : List Nd} (h : ∀ k, k < Ns.length → (ndA Ns k).1.length ≤ 50) : ∀ k, k ≤ Ns.length → stK Ns k ≤ k * 50
  | 0, _ => Nat.le_refl _
  | k + 1, hk => by
    have h1 := st_small h k (by omega)
    have h2 := h k (by omega)
    rw [stK]
    omega

set_option maxRecDepth 20000 in
set_option maxHeartbeats 1000000 in
theorem tooLarge9_r (p q : Option Addr) (n c m d lo hi : Nat) (Ns : List Nd) (r : Bool) (w : World) (hn : NodesAt w lo hi p n Ns) (h10 : n ≤ 10) (hf : ∀ k, k < Ns.length → (ndA Ns k).1.length ≤ 50) (hr : decide (40 < stK Ns Ns.length) = r) :
    Calls Tryd.prog 23 #[.agg #[.slice p n c, .slice q m d]] w fun e w' => e = .returned (.bool r) ∧ w.grownBy w' none := by
  have HN := Lib.hid hn
  have HL := Lib.hid hn.len
  have HS := Lib.hid (st_small hf)
  have HF := Lib.hid hf
  have HR := Lib.hid hr
  have hg0 := World.grownBy_alloc w (.cells #[.slice p n c, .slice q m d] 37) none
  have HG0 := Lib.hid hg0
  clear hn hf hr hg0
  go_enter Tryd.func23, Tryd.ntmps23
  go_wp2
  go_loopw [3, 9] (fun s i wr => ∃ k : Nat, k ≤ n ∧ i = .int .i64 k ∧ s = .int .i64 (stK Ns k : Nat) ∧ w.grownBy wr none) (fun _ i _ => n - (intOf i).toNat)
  case atStart => exact ⟨0, Nat.zero_le _, rfl, rfl, HG0.out⟩
  case round =>
    obtain ⟨k, hk, rfl, rfl, hgr⟩ := hrel
    have HGR := Lib.hid hgr
    by_cases hkm : k < n
    · have k0 : (0 : Int) ≤ k := by omega
      have k1 : (k : Int) < n := by omega
      obtain ⟨b, off, rfl, q1, q2, q3, hc⟩ := (HN.out.calm hgr).cell (by omega)
      obtain ⟨pl, nl, cl, pq, nq, cq, c0, c1, ho, _, _, _⟩ := hc k hkm
      have hl := ho.ls.len
      have s1 := HS.out k (by rw [HL.out]; exact hk)
      have s2 := HF.out k (by rw [HL.out]; exact hkm)
      have HSS : Hid (stK Ns (k + 1) = stK Ns k + nl) := Lib.hid (by rw [stK, hl])
      rw [hl] at s2
      clear hgr hc ho hl
      generalize stK Ns k = s at *
      go_wp2
      exact ⟨⟨k + 1, by omega, by go_num, by rw [HSS.out]; go_num, grownBy_trans HGR.out (World.grownBy_alloc wr _ none)⟩, by simp [intOf]; omega⟩
    · obtain rfl : k = n := by omega
      have s1 := HS.out k (by rw [HL.out]; exact hk)
      have hrr := HR.out
      rw [HL.out] at hrr
      generalize stK Ns k = s at *
      clear hgr
      cases r
      · have t0 : ¬ ((s : Int) > 40) := by simp at hrr; omega
        go_wp2
        go_ret
        exact ⟨rfl, HGR.out⟩
      · have t0 : (s : Int) > 40 := by simp at hrr; omega
        go_wp2
        go_ret
        exact ⟨rfl, HGR.out⟩

theorem nod_no {Ns : List Nd} {As : List Ar} {k : Nat} (hk : k < Ns.length) (h : (chk (ndA Ns k).1 (ndA Ns k).2 == 0) = false) : diagB Ns As = false := by
  cases hd : diagB Ns As
  · rfl
  · rw [(diag_parts hd).nod k hk] at h
    cases h
theorem arr_no {Ns : List Nd} {As : List Ar} {a : Nat} (ha : a < As.length) (h : arrOK Ns (arA As a) = false) : diagB Ns As = false := by
  cases hd : diagB Ns As
  · rfl
  · have h1 := (diag_parts hd).arr a ha
    unfold arrOK at h
    rw [hasZ_iff.2 h1.1, hasZ_iff.2 h1.2.1, h1.2.2] at h
    cases h
theorem many_no {Ns : List Nd} {As : List Ar} (h : manyB Ns As = true) : diagB Ns As = false := by unfold diagB; rw [h]; rfl
theorem diag_yes {Ns : List Nd} {As : List Ar} (h : manyB Ns As = false) (hn : ∀ k, k < Ns.length → (chk (ndA Ns k).1 (ndA Ns k).2 == 0) = true) (ha : ∀ a, a < As.length → arrOK Ns (arA As a) = true) : diagB Ns As = true := by
  unfold manyB at h
  simp only [Bool.or_eq_false_iff, decide_eq_false_iff_not] at h
  refine diag_mk ⟨by omega, by omega, fun k hk => by simpa using hn k hk, fun a hq => ?_⟩
  have := ha a hq
  unfold arrOK at this
  simp only [Bool.and_eq_true, hasZ_iff] at this
  exact ⟨this.1, this.2.1, this.2.2⟩
theorem arrOK_parts {Ns : List Nd} {z1 z2 : Int} {f : List Int} (h : arrOK Ns (z1, z2, f) = true) : (0 ≤ z1 ∧ z1 < Ns.length) ∧ (0 ≤ z2 ∧ z2 < Ns.length) ∧ arB (ndA Ns z1.toNat).1 (ndA Ns z1.toNat).2 (ndA Ns z2.toNat).1 (ndA Ns z2.toNat).2 f = true := by
  unfold arrOK at h
  simp only [Bool.and_eq_true, hasZ_iff] at h
  exact ⟨h.1, h.2.1, h.2.2⟩
theorem arrOK_mk {Ns : List Nd} {f t : Nat} {l : List Int} (hf : f < Ns.length) (ht : t < Ns.length) (h : arB (ndA Ns f).1 (ndA Ns f).2 (ndA Ns t).1 (ndA Ns t).2 l = true) : arrOK Ns ((f : Int), (t : Int), l) = true := by
  unfold arrOK
  simp only [Bool.and_eq_true, hasZ_iff]
  exact ⟨⟨by omega, by omega⟩, ⟨by omega, by omega⟩, by simpa using h⟩

set_option maxRecDepth 20000 in
set_option maxHeartbeats 4000000 in
theorem dIs_r (p q : Option Addr) (n c m d lo hi lo' hi' : Nat) (Ns : List Nd) (As : List Ar) (r : Bool) (w : World) (hn : NodesAt w lo hi p n Ns) (ha : ArrsAt w lo' hi' q m As) (hf : DFew Ns As) (hr : diagB Ns As = r) :
    Calls Tryd.prog 13 #[.agg #[.slice p n c, .slice q m d]] w fun e w' => e = .returned (.bool r) ∧ w.grownBy w' none := by
  have HN := Lib.hid hn
  have HA := Lib.hid ha
  have HF := Lib.hid hf
  have HR := Lib.hid hr
  have HNL := Lib.hid hn.len
  have HAL := Lib.hid ha.len
  have hb := Blk.new w #[.slice p n c, .slice q m d] 37
  have hg := World.grownBy_alloc w (.cells #[.slice p n c, .slice q m d] 37) none
  have hn10 : n ≤ 10 := by rw [← hn.len]; exact hf.nn
  have hm12 : m ≤ 12 := by rw [← ha.len]; exact hf.aa
  clear hn ha hr hf
  go_enter Tryd.func13, Tryd.ntmps13
  go_wp2
  go_step3
  go_wp2_with fail
  generalize w.alloc (.cells #[.slice p n c, .slice q m d] 37) = W0 at *
  have HB0 := Lib.hid hb
  have HG0 := Lib.hid hg
  clear hb hg
  cases hmy : manyB Ns As with
  | true =>
    obtain rfl : r = false := by rw [← HR.out]; exact many_no hmy
    refine (tooMany_r p q n c m d true _ (by rw [← HNL.out, ← HAL.out]; exact hmy)).mono ?_
    rintro e w1 ⟨rfl, hg1⟩
    have HG1 := Lib.hid (grownBy_trans HG0.out hg1)
    clear hg1 hmy
    go_wp2
    try rw [Exit.noGoto_ret]
    go_ret
    exact ⟨rfl, HG1.out⟩
  | false =>
    have HMY := Lib.hid hmy
    refine (tooMany_r p q n c m d false _ (by rw [← HNL.out, ← HAL.out]; exact hmy)).mono ?_
    rintro e w1 ⟨rfl, hg1⟩
    have hb1 := HB0.out.calm hg1
    have HB1 := Lib.hid hb1
    have HG1 := Lib.hid (grownBy_trans HG0.out hg1)
    have x0 := hb1.c0
    have x1 := hb1.c1
    clear hg1 hmy hb1 HB0 HG0
    go_wp2
    go_loopw [16] (fun i wr => ∃ k : Nat, k ≤ n ∧ i = .int .i64 k ∧ Hid (∀ j, j < k → (chk (ndA Ns j).1 (ndA Ns j).2 == 0) = true) ∧ w1.grownBy wr none) (fun i _ => n - (intOf i).toNat)
    case atStart => exact ⟨0, Nat.zero_le _, rfl, Lib.hid (fun j hj => absurd hj (Nat.not_lt_zero _)), grownBy_refl _ _⟩
    case round =>
      obtain ⟨k, hk, rfl, HD, hgr⟩ := hrel
      by_cases hkn : k < n
      · have k0 : (0 : Int) ≤ k := by omega
        have k1 : (k : Int) < n := by omega
        obtain ⟨b, off, rfl, q1, q2, q3, hc⟩ := ((HN.out.calm HG1.out).calm hgr).cell (by omega)
        obtain ⟨pl, nl, cl, pq, nq, cq, c0, c1, ho, _, _, _⟩ := hc k hkn
        have hfm := (HF.out.nod k (by rw [HNL.out]; exact hkn)).2
        rw [ho.ps.len] at hfm
        have hga := World.grownBy_alloc wr (.cells #[.slice pl nl cl, .slice pq nq cq] 25) none
        have HO := Lib.hid (ho.calm hga)
        have HGA := Lib.hid (grownBy_trans hgr hga)
        clear hc ho hga hgr
        go_wp2_with fail
        generalize wr.alloc (.cells #[.slice pl nl cl, .slice pq nq cq] 25) = wa at *
        cases hck : (chk (ndA Ns k).1 (ndA Ns k).2 == 0) with
        | false =>
          obtain rfl : r = false := by rw [← HR.out]; exact nod_no (by rw [HNL.out]; exact hkn) hck
          refine (is_c pl pq nl cl nq cq _ _ _ _ false _ HO.out (by omega) hck).mono ?_
          rintro e w2 ⟨rfl, hg2⟩
          have HG2 := Lib.hid (grownBy_trans HG1.out (grownBy_trans HGA.out hg2))
          clear hg2 hck
          go_wp2
          try rw [Exit.noGoto_ret]
          go_ret
          exact ⟨rfl, HG2.out⟩
        | true =>
          refine (is_c pl pq nl cl nq cq _ _ _ _ true _ HO.out (by omega) hck).mono ?_
          rintro e w2 ⟨rfl, hg2⟩
          have HG2 := Lib.hid (grownBy_trans HGA.out hg2)
          have HD2 : Hid (∀ j, j < k + 1 → (chk (ndA Ns j).1 (ndA Ns j).2 == 0) = true) := Lib.hid (fun j hj => by
            by_cases e : j = k
            · subst e; exact hck
            · exact HD.out j (by omega))
          clear hg2 hck HD
          go_wp2
          exact ⟨⟨k + 1, by omega, by go_num, HD2, HG2.out⟩, by simp [intOf]; omega⟩
      · obtain rfl : n = k := by omega
        have k1 : ¬ ((n : Int) < n) := by omega
        have HGW := Lib.hid (grownBy_trans HG1.out hgr)
        have hb2 := HB1.out.calm hgr
        have HB2 := Lib.hid hb2
        have y0 := hb2.c0
        have y1 := hb2.c1
        clear hgr hb2 x0 x1 HB1 HG1
        generalize wr = wo at *
        go_wp2
        go_step3
        go_wp2
        go_loopw [27] (fun i wr => ∃ a : Nat, a ≤ m ∧ i = .int .i64 a ∧ Hid (∀ j, j < a → arrOK Ns (arA As j) = true) ∧ wo.grownBy wr none) (fun i _ => m - (intOf i).toNat)
        case atStart => exact ⟨0, Nat.zero_le _, rfl, Lib.hid (fun j hj => absurd hj (Nat.not_lt_zero _)), grownBy_refl _ _⟩
        case round =>
          obtain ⟨a, ha, rfl, HC, hgr⟩ := hrel
          by_cases ham : a < m
          · have a0 : (0 : Int) ≤ a := by omega
            have a1 : (a : Int) < m := by omega
            obtain ⟨b, off, rfl, q1, q2, q3, hc⟩ := ((HA.out.calm HGW.out).calm hgr).cell (by omega)
            obtain ⟨pm, nm, cm, c0, c1, c2, hz⟩ := hc a ham
            have hnm := HF.out.arr a (by rw [HAL.out]; exact ham)
            rw [hz.len] at hnm
            obtain ⟨⟨z1, z2, l⟩, hx⟩ : ∃ x : Ar, x = arA As a := ⟨_, rfl⟩
            rw [← hx] at c0 c1 hz
            have HX := Lib.hid hx
            simp only at c0 c1 hz
            have hga := World.grownBy_alloc wr (.cells #[.int .i64 z1, .int .i64 z2, .slice pm nm cm] 45) none
            have hbx := Blk.new wr #[.int .i64 z1, .int .i64 z2, .slice pm nm cm] 45
            have HZ := Lib.hid (hz.calm hga)
            have HGA := Lib.hid (grownBy_trans hgr hga)
            have hb3 := HB2.out.calm HGA.out
            have HB3 := Lib.hid hb3
            have HBX := Lib.hid hbx
            have y0 := hb3.c0
            clear hc hz hga hgr hb3 hbx hx y1
            go_wp2
            generalize wr.alloc (.cells #[.int .i64 z1, .int .i64 z2, .slice pm nm cm] 45) = wa at *
            generalize wr.heap.size = ga at *
            clear c0 c1 c2
            go_loopw [34] (fun i wf => ∃ f : Nat, f ≤ n ∧ i = .int .i64 f ∧ Hid (arrOK Ns (z1, z2, l) = true → (f : Int) ≤ z1) ∧ wa.grownBy wf none) (fun i _ => n - (intOf i).toNat)
            case atStart => exact ⟨0, Nat.zero_le _, rfl, Lib.hid (fun h => by have := (arrOK_parts h).1; omega), grownBy_refl _ _⟩
            case round =>
              obtain ⟨f, hf, rfl, HFI, hgf⟩ := hrel
              generalize wr = wf at *
              by_cases hfn : f < n
              · have f0 : (0 : Int) ≤ f := by omega
                have f1 : (f : Int) < n := by omega
                have HGF := Lib.hid (grownBy_trans HGA.out hgf)
                obtain ⟨bn, on, rfl, r1, r2, r3, hc⟩ := ((HN.out.calm HGW.out).calm HGF.out).cell (by omega)
                obtain ⟨pl, nl, cl, pq, nq, cq, c0, c1, ho, _, _, _⟩ := hc f hfn
                have hfm := (HF.out.nod f (by rw [HNL.out]; exact hfn)).2
                rw [ho.ps.len] at hfm
                have hga := World.grownBy_alloc wf (.cells #[.slice pl nl cl, .slice pq nq cq] 25) none
                have hbf := Blk.new wf #[.slice pl nl cl, .slice pq nq cq] 25
                have HO := Lib.hid (ho.calm hga)
                have HBF := Lib.hid hbf
                have HGB := Lib.hid (grownBy_trans hgf hga)
                have hb4 := HB3.out.calm HGB.out
                have HB4 := Lib.hid hb4
                have z0 := hb4.c0
                clear hc ho hga hgf hb4 hbf
                go_wp2
                generalize wf.alloc (.cells #[.slice pl nl cl, .slice pq nq cq] 25) = wb at *
                generalize wf.heap.size = gf at *
                clear c0 c1 y0
                go_loopw [42] (fun i wt => ∃ t : Nat, t ≤ n ∧ i = .int .i64 t ∧ Hid (arrOK Ns (z1, z2, l) = true → (f : Int) = z1 → (t : Int) ≤ z2) ∧ wb.grownBy wt none) (fun i _ => n - (intOf i).toNat)
                case atStart => exact ⟨0, Nat.zero_le _, rfl, Lib.hid (fun h _ => by have := (arrOK_parts h).2.1; omega), grownBy_refl _ _⟩
                case round =>
                  obtain ⟨t, ht, rfl, HTI, hgt⟩ := hrel
                  generalize wr = wt at *
                  by_cases htn : t < n
                  · have t0 : (0 : Int) ≤ t := by omega
                    have t1 : (t : Int) < n := by omega
                    have HGT := Lib.hid (grownBy_trans HGA.out (grownBy_trans HGB.out hgt))
                    obtain ⟨bm, om, e9, r1, r2, r3, hc⟩ := ((HN.out.calm HGW.out).calm HGT.out).cell (by omega)
                    cases e9
                    obtain ⟨pl', nl', cl', pq', nq', cq', c0, c1, ho, _, _, _⟩ := hc t htn
                    have hfm' := (HF.out.nod t (by rw [HNL.out]; exact htn)).2
                    rw [ho.ps.len] at hfm'
                    have hga := World.grownBy_alloc wt (.cells #[.slice pl' nl' cl', .slice pq' nq' cq'] 25) none
                    have HO' := Lib.hid (ho.calm hga)
                    have HO1 := Lib.hid ((HO.out.calm hgt).calm hga)
                    have HZ1 := Lib.hid ((HZ.out.calm HGB.out).calm (grownBy_trans hgt hga))
                    have HGC := Lib.hid (grownBy_trans HGT.out hga)
                    have HGD := Lib.hid (grownBy_trans hgt hga)
                    have hb5 := (HBX.out.calm HGB.out).calm (grownBy_trans hgt hga)
                    have hb6 := HBF.out.calm (grownBy_trans hgt hga)
                    have u0 := hb5.c0
                    have u1 := hb5.c1
                    have u2 := hb5.c2
                    have v0 := hb6.c0
                    have v1 := hb6.c1
                    clear hc ho hga hgt hb5 hb6 z0
                    by_cases hf1 : (f : Int) = z1
                    · by_cases hf2 : (t : Int) = z2
                      · subst hf1 hf2
                        go_wp2_with fail
                        generalize wt.alloc (.cells #[.slice pl' nl' cl', .slice pq' nq' cq'] 25) = wc at *
                        cases hv : arB (ndA Ns f).1 (ndA Ns f).2 (ndA Ns t).1 (ndA Ns t).2 l with
                        | true =>
                          refine (arIs_r _ _ _ _ _ _ _ _ _ _ _ _ _ _ _ _ _ _ _ _ _ _ _ _ _ _ true _ HO1.out HO'.out HZ1.out (by omega) (by omega) (by omega) hv).mono ?_
                          rintro e w8 ⟨rfl, hg8⟩
                          have HG8 := Lib.hid (grownBy_trans HGC.out hg8)
                          have HC2 : Hid (∀ j, j < a + 1 → arrOK Ns (arA As j) = true) := Lib.hid (fun j hj => by
                            by_cases e : j = a
                            · subst e
                              rw [← HX.out]
                              exact arrOK_mk (by rw [HNL.out]; exact hfn) (by rw [HNL.out]; exact htn) hv
                            · exact HC.out j (by omega))
                          clear hg8 hv
                          go_wp2
                          exact ⟨⟨a + 1, by omega, by go_num, HC2, HG8.out⟩, by simp [intOf]; omega⟩
                        | false =>
                          refine (arIs_r _ _ _ _ _ _ _ _ _ _ _ _ _ _ _ _ _ _ _ _ _ _ _ _ _ _ false _ HO1.out HO'.out HZ1.out (by omega) (by omega) (by omega) hv).mono ?_
                          rintro e w8 ⟨rfl, hg8⟩
                          have HG8 := Lib.hid (grownBy_trans HGD.out hg8)
                          have HT2 : Hid (arrOK Ns ((f : Int), (t : Int), l) = true → (f : Int) = f → ((t + 1 : Nat) : Int) ≤ t) := Lib.hid (fun h _ => by
                            have := (arrOK_parts h).2.2
                            rw [Int.toNat_natCast, Int.toNat_natCast, hv] at this
                            cases this)
                          clear hg8 hv
                          go_wp2
                          exact ⟨⟨t + 1, by omega, by go_num, HT2, HG8.out⟩, by simp [intOf]; omega⟩
                      · have HT2 : Hid (arrOK Ns (z1, z2, l) = true → (f : Int) = z1 → ((t + 1 : Nat) : Int) ≤ z2) := Lib.hid (fun h e => by have := HTI.out h e; omega)
                        subst hf1
                        go_wp2
                        exact ⟨⟨t + 1, by omega, by go_num, Lib.hid (fun h _ => HT2.out h rfl), HGD.out⟩, by simp [intOf]; omega⟩
                    · have HT2 : Hid (arrOK Ns (z1, z2, l) = true → (f : Int) = z1 → ((t + 1 : Nat) : Int) ≤ z2) := Lib.hid (fun h e => absurd e hf1)
                      go_wp2
                      exact ⟨⟨t + 1, by omega, by go_num, HT2, HGD.out⟩, by simp [intOf]; omega⟩
                  · obtain rfl : n = t := by omega
                    have t1 : ¬ ((n : Int) < n) := by omega
                    have HF2 : Hid (arrOK Ns (z1, z2, l) = true → ((f + 1 : Nat) : Int) ≤ z1) := Lib.hid (fun h => by
                      have p1 := HFI.out h
                      have p2 := (arrOK_parts h).2.1
                      rw [HNL.out] at p2
                      by_cases e : (f : Int) = z1
                      · have := HTI.out h e
                        omega
                      · omega)
                    have HGT := Lib.hid (grownBy_trans HGB.out hgt)
                    clear hgt
                    go_wp2
                    exact ⟨⟨f + 1, by omega, by go_num, HF2, HGT.out⟩, by simp [intOf]; omega⟩
              · obtain rfl : n = f := by omega
                have f1 : ¬ ((n : Int) < n) := by omega
                obtain rfl : r = false := by
                  rw [← HR.out]
                  refine arr_no (a := a) (by rw [HAL.out]; exact ham) ?_
                  rw [← HX.out]
                  cases hv : arrOK Ns (z1, z2, l)
                  · rfl
                  · have p1 := HFI.out hv
                    have p2 := (arrOK_parts hv).1
                    rw [HNL.out] at p2
                    omega
                have HG9 := Lib.hid (grownBy_trans HGW.out (grownBy_trans HGA.out hgf))
                clear hgf
                go_wp2
                try rw [Exit.noGoto_ret]
                go_ret
                exact ⟨rfl, HG9.out⟩
          · obtain rfl : m = a := by omega
            have a1 : ¬ ((m : Int) < m) := by omega
            obtain rfl : r = true := by
              rw [← HR.out]
              exact diag_yes HMY.out (by rw [HNL.out]; exact HD.out) (by rw [HAL.out]; exact HC.out)
            have HG9 := Lib.hid (grownBy_trans HGW.out hgr)
            clear hgr
            go_wp2
            try rw [Exit.noGoto_ret]
            try go_wp2
            go_ret
            exact ⟨rfl, HG9.out⟩

end Go.Proofs.YtemnbkenihldgaaDoor
