/- OrderTells: the walk. -/
import Derived.Test.YtkipldmkdnjkaaaKnow3
import Derived.Test.YtkipldmkdnjkaaaRefF
namespace Go.Proofs.Ytkipldmkdnjkaaa
open Go.RowKit

set_option maxHeartbeats 400000 in
set_option maxRecDepth 100000 in
theorem orderTells_out (n : Int) (p : Option Addr) (L c : Nat) (w : World) (hL : 120 < L) : Calls Try.prog 3 #[.int .i64 n, .slice p L c] w fun e w' => e = .returned (.bool true) ∧ w.grownBy w' none := by
  have hLi : (120 : Int) < L := by omega
  go_enter Try.func3, Try.ntmps3
  go_wp2_with fail
  refine (known3_c _).mono ?_
  rintro e w1 ⟨rfl, hg1⟩
  go_wp2
  go_ret
  exact ⟨rfl, hg1⟩

set_option maxHeartbeats 2000000 in
set_option maxRecDepth 100000 in
theorem orderTells_in (n : Int) (p : Option Addr) (L c lo hi : Nat) (l : List (Int × Int)) (w : World) (hl : PairsAt w lo hi p L l) (hL : L ≤ 120) : Calls Try.prog 3 #[.int .i64 n, .slice p L c] w fun e w' => e = .returned (.bool true) ∧ w.grownBy w' none := by
  have hLi : ¬ ((120 : Int) < L) := by omega
  have HL := Lib.hid hl
  clear hl
  go_enter Try.func3, Try.ntmps3
  go_wp2_with fail
  refine (known3_c _).mono ?_
  rintro e w1 ⟨rfl, hg1⟩
  have HL1 := Lib.hid (HL.out.calm hg1)
  have HG1 := Lib.hid hg1
  clear hg1 HL
  go_wp2_with fail
  refine (made_c _ p L c lo hi l _ HL1.out (by omega)).mono ?_
  rintro e w2 ⟨r, m, lo1, hi1, lo2, hi2, rfl, hr, hm, _, _, hg⟩
  have HR2 := Lib.hid hr
  have HM2 := Lib.hid hm
  have HG2 := Lib.hid (grownBy_trans HG1.out hg)
  clear hr hm hg HL1 HG1
  generalize hk : cutK _ = k at *
  have hk40 : k ≤ 40 := by rw [← hk]; exact cutK_le _
  clear hk
  generalize hRR : ofL k l = R at *
  have HCT := Lib.hid (clo_trans HR2.out.supp)
  clear hRR
  go_wp2_with fail
  refine (circles_c _ _ r k R _ HR2.out).mono ?_
  rintro e w3 ⟨v1, rfl, ⟨ib1, ic1, hg1⟩, hg3⟩
  have HG1 := Lib.hid hg1
  have HR3 := Lib.hid (HR2.out.calm hg3)
  have HM3 := Lib.hid (HM2.out.calm hg3)
  have HG3 := Lib.hid (grownBy_trans HG2.out hg3)
  clear hg1 hg3 HR2 HM2 HG2
  go_wp2_with fail
  refine (matCircles_c _ _ m k (clo k R) _ HM3.out).mono ?_
  rintro e w4 ⟨v2, rfl, ⟨ib2, ic2, hgr2⟩, hg4⟩
  have hgr1 := HG1.out.calm hg4
  obtain ⟨p1, cap1, rfl, hp1⟩ := hgr1.slice
  obtain ⟨p2, cap2, rfl, hp2⟩ := hgr2.slice
  have HP1 := Lib.hid hp1
  have HP2 := Lib.hid hp2
  have HGR1 := Lib.hid hgr1
  have HGR2 := Lib.hid hgr2
  have HR4 := Lib.hid (HR3.out.calm hg4)
  have HM4 := Lib.hid (HM3.out.calm hg4)
  have HG4 := Lib.hid (grownBy_trans HG3.out hg4)
  have hlm := circ_le (clo k R) k
  have HLL : Hid (∀ l ∈ circL (clo k R) k, l.length ≤ k) := Lib.hid fun l hl => ((rowsOk_circ (clo k R) k) l hl).2
  clear hgr1 hgr2 hp1 hp2 hg4 HR3 HM3 HG3 HG1
  generalize hM : (circL (clo k R) k).length = M at *
  have HM := Lib.hid hM
  clear hM
  have hbb : ((M : Int) != (M : Int)) = false := by simp
  go_wp2
  go_loopw [9] (fun i wr => ∃ t : Nat, t ≤ M ∧ i = .int .i64 t ∧ w4.grownBy wr none) (fun i _ => M - (intOf i).toNat)
  case atStart => exact ⟨0, Nat.zero_le _, rfl, grownBy_refl _ _⟩
  case round =>
    obtain ⟨t, ht, rfl, hgt⟩ := hrel
    have HGT := Lib.hid hgt
    by_cases htM : t < M
    · obtain ⟨g1, rfl, _, _⟩ := HP1.out t htM
      obtain ⟨g2, rfl, _, _⟩ := HP2.out t htM
      obtain ⟨q, hq⟩ : ∃ q, (circL (clo k R) k)[t]? = some q := ⟨_, List.getElem?_eq_getElem (by rw [HM.out]; exact htM)⟩
      have c1 := (HGR1.out.calm hgt).head hq
      have c2 := (HGR2.out.calm hgt).head hq
      have HI1 := Lib.hid ((HGR1.out.calm hgt).row t q hq).ints
      have HI2 := Lib.hid ((HGR2.out.calm hgt).row t q hq).ints
      have hql := HLL.out q (List.mem_of_getElem? hq)
      have t0 : (0 : Int) ≤ t := by omega
      have t1 : (t : Int) < M := by omega
      clear hq hgt
      go_wp2
      refine wp_region_still_tail 8 (by kernel_rfl) (by kernel_rfl) ?_
      simp only [List.take_succ_cons, List.take_zero, List.drop_succ_cons, List.drop_zero]
      repeat still_step
      refine wpStill_nil ?_
      change wpList _ _ _ _ _ wr.drew
      go_wp2_with fail
      refine (same3_c _ _ _ _ _ _ q q true _ (HI1.out.calm (grownBy_drewN wr 1 none)) (HI2.out.calm (grownBy_drewN wr 1 none)) (by omega) (by simp)).mono ?_
      rintro e w' ⟨rfl, hg'⟩
      have HGN := Lib.hid (grownBy_trans HGT.out (grownBy_trans (grownBy_drewN wr 1 none) hg'))
      clear hg'
      go_wp2
      exact ⟨⟨t + 1, by omega, by go_num, HGN.out⟩, by simp [intOf]; omega⟩
    · obtain rfl : t = M := by omega
      have HR5 := Lib.hid (HR4.out.calm hgt)
      have HM5 := Lib.hid (HM4.out.calm hgt)
      have HG5 := Lib.hid (grownBy_trans HG4.out hgt)
      clear hgt HGT HR4 HM4 HG4 HGR1 HGR2 HP1 HP2
      have HOL := Lib.hid (ofK_len (circL (clo k R) k) k (circL (clo k R) k).length)
      have HSL := Lib.hid (sort_length HCT.out k)
      have HRL : Hid ((redL (clo k R) k).length ≤ 1000000) := Lib.hid (by
        have := redK_len (clo k R) (circL (clo k R) k) (circL (clo k R) k)
        have h2 : (circL (clo k R) k).length * (circL (clo k R) k).length ≤ 40 * 40 := Nat.mul_le_mul (by rw [HM.out]; omega) (by rw [HM.out]; omega)
        unfold redL
        omega)
      go_wp2_with fail
      refine (ordOf_c _ _ r k R _ HR5.out).mono ?_
      rintro e w6 ⟨og, oc, rfl, ho, hg6⟩
      have hoi := ho.ints
      rw [HOL.out] at hoi
      rw [HOL.out]
      have HO6 := Lib.hid hoi
      have HR6 := Lib.hid (HR5.out.calm hg6)
      have HM6 := Lib.hid (HM5.out.calm hg6)
      have HG6 := Lib.hid (grownBy_trans HG5.out hg6)
      clear ho hoi hg6 HR5 HM5 HG5
      go_wp2_with fail
      refine (matClasses_c _ _ m k (clo k R) _ HM6.out).mono ?_
      rintro e w7 ⟨og2, oc2, rfl, ho2, hg7⟩
      have HO7 := Lib.hid (HO6.out.calm hg7)
      have hoi := ho2.ints
      rw [HOL.out] at hoi
      rw [HOL.out]
      have HO72 := Lib.hid hoi
      have HR7 := Lib.hid (HR6.out.calm hg7)
      have HM7 := Lib.hid (HM6.out.calm hg7)
      have HG7 := Lib.hid (grownBy_trans HG6.out hg7)
      clear ho2 hoi hg7 HR6 HM6 HG6 HO6
      go_wp2_with fail
      refine (same3_c (some ⟨og, 0, none⟩) (some ⟨og2, 0, none⟩) k k oc oc2 _ _ true _ HO7.out HO72.out (by omega) (decide_eq_true rfl)).mono ?_
      rintro e w8 ⟨rfl, hg8⟩
      have HR8 := Lib.hid (HR7.out.calm hg8)
      have HM8 := Lib.hid (HM7.out.calm hg8)
      have HG8 := Lib.hid (grownBy_trans HG7.out hg8)
      clear hg8 HR7 HM7 HG7 HO7 HO72
      go_wp2_with fail
      refine (sort_c _ _ r k R _ HR8.out).mono ?_
      rintro e w9 ⟨sg, sc, rfl, hs, hg9⟩
      have hsi := hs.ints
      rw [HSL.out] at hsi
      rw [HSL.out]
      have HS9 := Lib.hid hsi
      have HR9 := Lib.hid (HR8.out.calm hg9)
      have HM9 := Lib.hid (HM8.out.calm hg9)
      have HG9 := Lib.hid (grownBy_trans HG8.out hg9)
      clear hs hsi hg9 HR8 HM8 HG8
      go_wp2_with fail
      refine (matSort_c _ _ m k (clo k R) _ HM9.out).mono ?_
      rintro e w10 ⟨sp2, sc2, rfl, hs2, hg10⟩
      have HS10 := Lib.hid (HS9.out.calm hg10)
      have hsi := (show IntsAt w10 sp2 (sortL (clo k R) k).length (sortL (clo k R) k) from ⟨rfl, hs2⟩)
      rw [HSL.out] at hsi
      rw [HSL.out]
      have HS102 := Lib.hid hsi
      have HR10 := Lib.hid (HR9.out.calm hg10)
      have HM10 := Lib.hid (HM9.out.calm hg10)
      have HG10 := Lib.hid (grownBy_trans HG9.out hg10)
      clear hs2 hsi hg10 HR9 HM9 HG9 HS9
      go_wp2_with fail
      refine (same3_c (some ⟨sg, 0, none⟩) sp2 k k sc sc2 _ _ true _ HS10.out HS102.out (by omega) (decide_eq_true rfl)).mono ?_
      rintro e w11 ⟨rfl, hg11⟩
      have HR11 := Lib.hid (HR10.out.calm hg11)
      have HM11 := Lib.hid (HM10.out.calm hg11)
      have HG11 := Lib.hid (grownBy_trans HG10.out hg11)
      clear hg11 HR10 HM10 HG10 HS10 HS102
      go_wp2_with fail
      refine (reduce_c _ _ r k R _ HR11.out).mono ?_
      rintro e w12 ⟨pp, pc, rfl, hp, hg12⟩
      have HP12 := Lib.hid hp
      have HR12 := Lib.hid (HR11.out.calm hg12)
      have HM12 := Lib.hid (HM11.out.calm hg12)
      have HG12 := Lib.hid (grownBy_trans HG11.out hg12)
      clear hp hg12 HR11 HM11 HG11
      go_wp2_with fail
      refine (matReduce_c _ _ m k (clo k R) _ HM12.out).mono ?_
      rintro e w13 ⟨pp2, pc2, rfl, hp2, hg13⟩
      have HP13 := Lib.hid (HP12.out.calm hg13)
      have HP132 := Lib.hid hp2
      have HR13 := Lib.hid (HR12.out.calm hg13)
      have HM13 := Lib.hid (HM12.out.calm hg13)
      have HG13 := Lib.hid (grownBy_trans HG12.out hg13)
      clear hp2 hg13 HR12 HM12 HG12 HP12
      go_wp2_with fail
      refine (samePairs3_r pp pp2 _ _ pc pc2 _ _ _ _ _ _ true _ HP13.out HP132.out HRL.out (decide_eq_true rfl)).mono ?_
      rintro e w14 ⟨rfl, hg14⟩
      have HR14 := Lib.hid (HR13.out.calm hg14)
      have HM14 := Lib.hid (HM13.out.calm hg14)
      have HG14 := Lib.hid (grownBy_trans HG13.out hg14)
      clear hg14 HR13 HM13 HG13 HP13 HP132
      go_wp2_with fail
      refine (orderIsOrder_c _ _ r k R _ HR14.out).mono ?_
      rintro e w15 ⟨rfl, hg15⟩
      have HR15 := Lib.hid (HR14.out.calm hg15)
      have HM15 := Lib.hid (HM14.out.calm hg15)
      have HG15 := Lib.hid (grownBy_trans HG14.out hg15)
      clear hg15 HR14 HM14 HG14
      go_wp2_with fail
      refine (matIsOrder_c _ _ m k (clo k R) _ HM15.out).mono ?_
      rintro e w16 ⟨rfl, hg16⟩
      generalize ordB (clo k R) k = ob at *
      have hb1 : (ob == ob) = true := by simp
      have HR16 := Lib.hid (HR15.out.calm hg16)
      have HM16 := Lib.hid (HM15.out.calm hg16)
      have HG16 := Lib.hid (grownBy_trans HG15.out hg16)
      clear hg16 HR15 HM15 HG15
      go_wp2_with fail
      refine (isTotal_c _ _ r k R _ HR16.out).mono ?_
      rintro e w17 ⟨rfl, hg17⟩
      have HM17 := Lib.hid (HM16.out.calm hg17)
      have HG17 := Lib.hid (grownBy_trans HG16.out hg17)
      clear hg17 HR16 HM16 HG16
      go_wp2_with fail
      refine (matIsTotal_c _ _ m k (clo k R) _ HM17.out).mono ?_
      rintro e w18 ⟨rfl, hg18⟩
      have HG18 := Lib.hid (grownBy_trans HG17.out hg18)
      clear hg18 HM17 HG17
      generalize (ordB (clo k R) k && totB (clo k R) k) = tb at *
      have hb2 : (tb == tb) = true := by simp
      go_wp2
      go_ret
      exact ⟨rfl, HG18.out⟩

end Go.Proofs.Ytkipldmkdnjkaaa
