/- The walk of the statement RelOnly: at every input it answers true and leaves all that lay as it lay. Condition: the table of the lowest places is in memory. -/
import Derived.Test.YtkcofakhcpajmaaDoorKnow2
namespace Go.Proofs.YtkcofakhcpajmaaDoor
open Go.RowKit

theorem newI_no {n : Nat} {R : Nat → Nat → Bool} {a b : Int} (h : ¬ inI n a b) : newI n R a b = false := by unfold newI; simp [h]
theorem joinG_no {n : Nat} {R : Nat → Nat → Bool} {a b : Int} (h : ¬ inI n a b) : joinG n R a b = false := by unfold joinG; simp [h]
theorem pairsL_none (n k : Nat) : pairsL n (fun _ _ => false) k = [] := by
  induction k with
  | zero => rfl
  | succ k ih => rw [pairsL_succ, ih]; simp [onL]

theorem boolsAt_nil (w : World) (lo hi : Nat) : BoolsAt w lo hi none 0 [] := ⟨rfl, fun h => absurd h (by omega)⟩

set_option maxRecDepth 100000 in
set_option maxHeartbeats 4000000 in
theorem relOnly_out (n L c K kc : Nat) (p kp : Option Addr) (w : World) (hn : n < 256) (ht : Tab w) (h : 40 < L ∨ 40 < K) :
    Calls Tryd.prog 7 #[.int .u8 n, .slice p L c, .slice kp K kc] w fun e w' => e = .returned (.bool true) ∧ w.grownBy w' none := by
  by_cases hL : 40 < L
  · clear h
    go_enter Tryd.func7, Tryd.ntmps7
    go_wp2_with fail
    refine (known2_c w ht).mono ?_
    rintro e w1 ⟨rfl, hg⟩
    have HG := Lib.hid hg
    clear hg
    go_wp2
    go_ret
    exact ⟨rfl, HG.out⟩
  · have hK : 40 < K := by omega
    clear h
    go_enter Tryd.func7, Tryd.ntmps7
    go_wp2_with fail
    refine (known2_c w ht).mono ?_
    rintro e w1 ⟨rfl, hg⟩
    have HG := Lib.hid hg
    clear hg
    go_wp2
    go_ret
    exact ⟨rfl, HG.out⟩

set_option maxRecDepth 100000 in
set_option maxHeartbeats 4000000 in
theorem relOnly_in (n m L c K kc lo hi klo khi : Nat) (p kp : Option Addr) (l : List (Int × Int)) (keep : List Bool) (w : World) (hn : n < 256) (hm : n % 16 + 1 = m) (hL : L ≤ 40) (hK : K ≤ 40) (hl : PairsAt w lo hi p L l) (hk : BoolsAt w klo khi kp K keep) (ht : Tab w) :
    Calls Tryd.prog 7 #[.int .u8 n, .slice p L c, .slice kp K kc] w fun e w' => e = .returned (.bool true) ∧ w.grownBy w' none := by
  have HL := Lib.hid hl
  have HLEN := Lib.hid hl.len
  have HK := Lib.hid hk
  have HKLEN := Lib.hid hk.len
  have HT := Lib.hid ht
  have hm1 : m ≤ 16 := by omega
  have hm0 : 1 ≤ m := by omega
  have hmi : (n : Int) % 16 + 1 = (m : Int) := by omega
  have HM := Lib.hid hmi
  clear hl hk ht hmi hm
  go_enter Tryd.func7, Tryd.ntmps7
  go_wp2_with fail
  refine (known2_c w HT.out).mono ?_
  rintro e w1 ⟨rfl, hg1⟩
  have G1 := Lib.hid hg1
  clear hg1
  go_wp2_with fail
  rw [HM.out]
  refine (relNew_mid m _ (by omega)).mono ?_
  rintro e w2 ⟨q, rfl, h2, hg2⟩
  have R2 := Lib.hid h2
  have G2 := Lib.hid (grownBy_trans G1.out hg2)
  have hb1 := G1.out.size
  clear h2 hg2 HM
  generalize hl1 : w1.heap.size = l1 at *
  generalize hh1 : w2.heap.size = h1 at *
  clear hl1 hh1
  go_wp2_with fail
  go_loopw [9] (fun i wr => ∃ k : Nat, k ≤ L ∧ i = .int .i64 k ∧ IsRel wr l1 h1 q m (ofL m (l.take k)) ∧ w.grownBy wr none) (fun i _ => L - (intOf i).toNat)
  case atStart => exact ⟨0, Nat.zero_le _, rfl, R2.out, G2.out⟩
  case round =>
    obtain ⟨k, hk, rfl, hrel', hgr⟩ := hrel
    by_cases hkL : k < L
    · obtain ⟨b, off, rfl, q1, q2, q3, hcs⟩ := (HL.out.calm hgr).cell (by omega)
      obtain ⟨x1, x2⟩ := hcs k hkL
      have HTO := Lib.hid (ofL_take (n := m) (l := l) (k := k) (by rw [HLEN.out]; exact hkL))
      have HREL := Lib.hid (hrel'.calm (grownBy_drewN wr 1 none))
      have HGR := Lib.hid (grownBy_trans hgr (grownBy_drewN wr 1 none))
      clear hcs hgr hrel'
      generalize l[k]?.getD (0, 0) = x at *
      obtain ⟨x, y⟩ := x
      simp only at x1 x2
      have k0 : (0 : Int) ≤ k := by omega
      have k1 : (k : Int) < L := by omega
      go_wp2
      refine wp_region_still_tail 11 (by kernel_rfl) (by kernel_rfl) ?_
      simp only [List.take_succ_cons, List.take_zero, List.drop_succ_cons, List.drop_zero]
      repeat still_step
      refine wpStill_nil ?_
      change wpList _ _ _ _ _ wr.drew
      go_wp2_with fail
      refine (add_c l1 h1 q m x y _ _ HREL.out).mono ?_
      rintro e w3 ⟨rfl, h3, hk3⟩
      have HE := Lib.hid (show IsRel w3 l1 h1 q m (ofL m (l.take (k + 1))) ∧ w.grownBy w3 none from ⟨by rw [HTO.out]; exact h3, Kept.new HGR.out hk3 hb1⟩)
      clear h3 hk3
      go_wp2
      exact ⟨⟨k + 1, by omega, by go_num, HE.out.1, HE.out.2⟩, by simp [intOf]; omega⟩
    · obtain rfl : k = L := by omega
      rw [List.take_of_length_le (by rw [HLEN.out]; exact Nat.le_refl _)] at hrel'
      have R3 := Lib.hid hrel'
      have G3 := Lib.hid hgr
      have HSU := Lib.hid hrel'.supp
      clear hrel' hgr
      generalize ofL m l = R at *
      go_wp2_with fail
      refine (closure_c _ _ q m R _ R3.out).mono ?_
      rintro e w4 ⟨cq, rfl, h4, hg4⟩
      have C4 := Lib.hid h4
      have R4 := Lib.hid (R3.out.calm hg4)
      have G4 := Lib.hid (grownBy_trans G3.out hg4)
      have HTR := Lib.hid (clo_trans HSU.out)
      clear h4 hg4 R3 G3
      generalize hC : clo m R = C at *
      clear hC
      go_wp2_with fail
      refine (relOnly_c _ _ cq m C kp K kc klo khi keep _ C4.out (HK.out.calm G4.out) (by omega) (HT.out.grown G4.out (by simp))).mono ?_
      rintro e w5 ⟨oq, rfl, h5, hg5⟩
      have O5 := Lib.hid h5
      have C5 := Lib.hid (C4.out.calm hg5)
      have R5 := Lib.hid (R4.out.calm hg5)
      have G5 := Lib.hid (grownBy_trans G4.out hg5)
      clear h5 hg5 C4 R4 G4
      go_wp2_with fail
      go_loopw [12] (fun i wr => ∃ a : Nat, a ≤ m ∧ i = .int .i64 a ∧ w5.grownBy wr none) (fun i _ => m - (intOf i).toNat)
      case atStart => exact ⟨0, Nat.zero_le _, rfl, grownBy_refl _ _⟩
      case round =>
        obtain ⟨a, ha, rfl, hga⟩ := hrel
        by_cases ham : a < m
        · go_wp2_with fail
          go_loopw [13] (fun i wr => ∃ b : Nat, b ≤ m ∧ i = .int .i64 b ∧ w5.grownBy wr none) (fun i _ => m - (intOf i).toNat)
          case atStart => exact ⟨0, Nat.zero_le _, rfl, hga⟩
          case round =>
            obtain ⟨b, hb, rfl, hgb⟩ := hrel
            by_cases hbm : b < m
            · have O6 := Lib.hid (O5.out.calm hgb)
              have C6 := Lib.hid (C5.out.calm hgb)
              have G6 := Lib.hid hgb
              have K6 := Lib.hid (HK.out.calm (grownBy_trans G5.out hgb))
              clear hgb
              have hO : hasI m (onlyR keep C) (a : Int) (b : Int) = (C a b && (keptB keep a && keptB keep b)) := by
                rw [hasI_in (by unfold inI; omega)]; rfl
              have hCh : hasI m C (a : Int) (b : Int) = C a b := by rw [hasI_in (by unfold inI; omega)]; rfl
              have HO := Lib.hid hO
              have HCH := Lib.hid hCh
              clear hO hCh
              by_cases haK : a < K
              · obtain ⟨kb, koff, rfl, kq1, kq2, kq3, hcs⟩ := K6.out.cell (by omega)
                have hca := hcs a haK
                by_cases hbK : b < K
                · have hcb := hcs b hbK
                  clear hcs
                  have a0 : (0 : Int) ≤ a := by omega
                  have b0 : (0 : Int) ≤ b := by omega
                  cases hka : keep[a]?.getD false
                  · have HIN : Hid ((keptB keep a && keptB keep b) = false) := Lib.hid (by unfold keptB; rw [hka]; rfl)
                    rw [hka] at hca
                    clear hka
                    go_wp2_with fail
                    refine (relHas_b _ _ oq m _ _ _ false _ O6.out (by rw [HO.out, HIN.out]; simp)).mono ?_
                    rintro e w7 ⟨rfl, hg7⟩
                    have G7 := Lib.hid (grownBy_trans G6.out hg7)
                    clear hg7
                    go_wp2
                    exact ⟨⟨b + 1, by omega, by go_num, G7.out⟩, by simp [intOf]; omega⟩
                  · cases hkb : keep[b]?.getD false
                    · have HIN : Hid ((keptB keep a && keptB keep b) = false) := Lib.hid (by unfold keptB; rw [hkb]; simp)
                      rw [hka] at hca
                      rw [hkb] at hcb
                      clear hka hkb
                      go_wp2_with fail
                      refine (relHas_b _ _ oq m _ _ _ false _ O6.out (by rw [HO.out, HIN.out]; simp)).mono ?_
                      rintro e w7 ⟨rfl, hg7⟩
                      have G7 := Lib.hid (grownBy_trans G6.out hg7)
                      clear hg7
                      go_wp2
                      exact ⟨⟨b + 1, by omega, by go_num, G7.out⟩, by simp [intOf]; omega⟩
                    · have HIN : Hid ((keptB keep a && keptB keep b) = true) := Lib.hid (by unfold keptB; rw [hka, hkb]; rfl)
                      rw [hka] at hca
                      rw [hkb] at hcb
                      clear hka hkb
                      cases hcab : C a b
                      all_goals
                        have HCAB := Lib.hid hcab
                        clear hcab
                        go_wp2_with fail
                        refine (relHas_b _ _ oq m _ _ _ _ _ O6.out ((show hasI m (onlyR keep C) (a : Int) (b : Int) = C a b from by rw [HO.out, HIN.out, Bool.and_true]).trans HCAB.out)).mono ?_
                        rintro e w7 ⟨rfl, hg7⟩
                        have G7 := Lib.hid (grownBy_trans G6.out hg7)
                        have C7 := Lib.hid (C6.out.calm hg7)
                        clear hg7
                        go_wp2_with fail
                        refine (relHas_b _ _ cq m _ _ _ _ _ C7.out (HCH.out.trans HCAB.out)).mono ?_
                        rintro e w8 ⟨rfl, hg8⟩
                        have G8 := Lib.hid (grownBy_trans G7.out hg8)
                        clear hg8
                        go_wp2
                        exact ⟨⟨b + 1, by omega, by go_num, G8.out⟩, by simp [intOf]; omega⟩
                · have HIN : Hid ((keptB keep a && keptB keep b) = false) := Lib.hid (by unfold keptB; rw [List.getElem?_eq_none (l := keep) (i := b) (by rw [HKLEN.out]; omega)]; simp)
                  clear hcs
                  go_wp2_with fail
                  refine (relHas_b _ _ oq m _ _ _ false _ O6.out (by rw [HO.out, HIN.out]; simp)).mono ?_
                  rintro e w7 ⟨rfl, hg7⟩
                  have G7 := Lib.hid (grownBy_trans G6.out hg7)
                  clear hg7
                  go_wp2
                  exact ⟨⟨b + 1, by omega, by go_num, G7.out⟩, by simp [intOf]; omega⟩
              · have HIN : Hid ((keptB keep a && keptB keep b) = false) := Lib.hid (by unfold keptB; rw [List.getElem?_eq_none (l := keep) (i := a) (by rw [HKLEN.out]; omega)]; simp)
                go_wp2_with fail
                refine (relHas_b _ _ oq m _ _ _ false _ O6.out (by rw [HO.out, HIN.out]; simp)).mono ?_
                rintro e w7 ⟨rfl, hg7⟩
                have G7 := Lib.hid (grownBy_trans G6.out hg7)
                clear hg7
                go_wp2
                exact ⟨⟨b + 1, by omega, by go_num, G7.out⟩, by simp [intOf]; omega⟩
            · obtain rfl : b = m := by omega
              go_wp2
              exact ⟨⟨a + 1, by omega, by go_num, hgb⟩, by simp [intOf]; omega⟩
        · obtain rfl : a = m := by omega
          have O6 := Lib.hid (O5.out.calm hga)
          have R6 := Lib.hid (R5.out.calm hga)
          have G6 := Lib.hid (grownBy_trans G5.out hga)
          clear hga
          have HT1 : Hid ((!grewC a (onlyR keep C) a) = true) := Lib.hid (by
            cases e : grewC a (onlyR keep C) a
            · rfl
            · exact absurd (clo_of_trans (onlyR_trans HTR.out keep)) ((grewC_iff O6.out.supp).1 e))
          have HNONE : Hid ((pairsL a (onlyR [] R) a).length = 0) := Lib.hid (by
            have e : onlyR [] R = fun _ _ => false := by funext x y; simp [onlyR, keptB]
            rw [e, pairsL_none]
            rfl)
          go_wp2_with fail
          refine (isTrans_b _ _ oq a _ true _ O6.out HT1.out).mono ?_
          rintro e w7 ⟨rfl, hg7⟩
          have R7 := Lib.hid (R6.out.calm hg7)
          have G7 := Lib.hid (grownBy_trans G6.out hg7)
          clear hg7 R6 G6
          go_wp2_with fail
          refine (relOnly_c _ _ q a R none 0 0 0 0 [] _ R7.out (boolsAt_nil _ _ _) (by omega) (HT.out.grown G7.out (by simp))).mono ?_
          rintro e w8 ⟨sq, rfl, h8, hg8⟩
          have S8 := Lib.hid h8
          have R8 := Lib.hid (R7.out.calm hg8)
          have G8 := Lib.hid (grownBy_trans G7.out hg8)
          clear h8 hg8 R7 G7
          go_wp2_with fail
          refine (relPairs_c _ _ sq a _ _ S8.out (HT.out.grown G8.out (by simp))).mono ?_
          rintro e w9 ⟨pp, cc, rfl, _, hg9⟩
          have R9 := Lib.hid (R8.out.calm hg9)
          have G9 := Lib.hid (grownBy_trans G8.out hg9)
          rw [HNONE.out]
          clear hg9 R8 G8
          go_wp2_with fail
          refine (add_b _ _ q a (-1) 0 _ false _ R9.out (newI_no (by unfold inI; omega))).mono ?_
          rintro e w10 ⟨rfl, h10, hk10⟩
          have R10 := Lib.hid h10
          have G10 := Lib.hid (Kept.new G9.out hk10 hb1)
          clear h10 hk10 R9 G9
          go_wp2_with fail
          refine (join_b _ _ q a 0 a _ false _ R10.out (joinG_no (by unfold inI; omega))).mono ?_
          rintro e w11 ⟨rfl, _, hk11⟩
          have G11 := Lib.hid (Kept.new G10.out hk11 hb1)
          clear hk11 R10 G10
          go_wp2
          go_ret
          exact ⟨rfl, G11.out⟩

end Go.Proofs.YtkcofakhcpajmaaDoor
