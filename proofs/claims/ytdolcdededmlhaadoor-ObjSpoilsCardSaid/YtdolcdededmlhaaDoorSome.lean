/- The contract of Some of package centoref2. -/
import Derived.StillTailTactics
import Derived.Test.YtdolcdededmlhaaDoorMatY
import Derived.Test.YtdolcdededmlhaaDoorOfL
namespace Go.Proofs.YtdolcdededmlhaaDoor
open Go.RowKit

set_option maxHeartbeats 2000000 in
set_option maxRecDepth 20000 in
theorem matSome_c (n : Nat) (p : Option Addr) (L c lo hi : Nat) (l : List (Int × Int)) (w : World) (hn : n ≤ 200) (hl : PairsAt w lo hi p L l) (hL : L ≤ 1000000) : Calls Tryd.prog 21 #[.int .i64 n, .slice p L c] w (MatPost n (ofL n l) w) := by
  have HL := Lib.hid hl
  have HLEN := Lib.hid hl.len
  clear hl
  go_enter Tryd.func21, Tryd.ntmps21
  go_wp2_with fail
  refine (matNew_c n _ hn).mono ?_
  rintro e w1 ⟨q, rfl, hr1, hg1⟩
  have HR1 := Lib.hid hr1
  have HG1 := Lib.hid hg1
  clear hr1 hg1
  go_wp2_with fail
  go_loopw [6] (fun i wr => ∃ k : Nat, k ≤ L ∧ i = .int .i64 k ∧ IsMat wr w.heap.size w1.heap.size q n (ofL n (l.take k)) ∧ w.grownBy wr none) (fun i _ => L - (intOf i).toNat)
  case atStart => exact ⟨0, Nat.zero_le _, rfl, HR1.out, HG1.out⟩
  case round =>
    obtain ⟨k, hk, rfl, hmat, hgr⟩ := hrel
    by_cases hkL : k < L
    · obtain ⟨b, off, rfl, q1, q2, q3, hcs⟩ := (HL.out.calm hgr).cell (by omega)
      obtain ⟨x1, x2⟩ := hcs k hkL
      have HTO := Lib.hid (ofL_take (n := n) (l := l) (k := k) (by rw [HLEN.out]; exact hkL))
      have hc0 := hmat.c0
      have HMAT := Lib.hid hmat
      have HGR := Lib.hid hgr
      clear hcs hgr hmat
      generalize l[k]?.getD (0, 0) = x at *
      obtain ⟨x, y⟩ := x
      simp only at x1 x2
      have k0 : (0 : Int) ≤ k := by omega
      have k1 : (k : Int) < L := by omega
      by_cases hx : 0 ≤ x ∧ x < n
      · obtain ⟨a0, a1⟩ := hx
        obtain ⟨u, rfl⟩ := Int.eq_ofNat_of_zero_le a0
        have hu : u < n := by omega
        by_cases hy : 0 ≤ y ∧ y < n
        · obtain ⟨b0, b1⟩ := hy
          obtain ⟨v, rfl⟩ := Int.eq_ofNat_of_zero_le b0
          have hv : v < n := by omega
          have hin : inI n (u : Int) (v : Int) := ⟨a0, a1, b0, b1⟩
          rw [addI_yes hin] at HTO
          simp only [Int.toNat_natCast] at HTO
          obtain ⟨pm, mb, rb, cap, rfl, hc1, hcm, hcr, hfr, hput⟩ := HMAT.out.put (T := addR (ofL n (l.take k)) u v) hu hv true (addR_put _ _ _) (addR_supp HMAT.out.supp hu hv)
          have HPUT := Lib.hid (hput (wr.drewN 1) rfl rfl rfl rfl)
          clear hin hput
          go_wp2_with fail
          refine (matIs_yes q n u _ hc0 hu).mono ?_
          rintro e w' ⟨rfl, h9⟩
          subst w'
          go_wp2_with fail
          refine (matIs_yes q n v _ hc0 hv).mono ?_
          rintro e w' ⟨rfl, h9⟩
          subst w'
          go_wp2
          refine wp_region_still_tail 17 (by kernel_rfl) (by kernel_rfl) ?_
          simp only [List.take_succ_cons, List.take_zero, List.drop_succ_cons, List.drop_zero]
          repeat still_step
          refine wpStill_nil ?_
          change wpList _ _ _ _ _ wr.drew
          go_wp2
          exact ⟨⟨k + 1, by omega, by go_num, by rw [HTO.out]; exact HPUT.out.1, Kept.new HGR.out HPUT.out.2 (Nat.le_refl _)⟩, by simp [intOf]; omega⟩
        · have hb' := Lib.hid (show y < 0 ∨ (n : Int) ≤ y by omega)
          have HNO : Hid (ofL n (l.take (k + 1)) = ofL n (l.take k)) := Lib.hid (HTO.out.trans (addI_no (by unfold inI; omega)))
          clear hy
          go_wp2_with fail
          refine (matIs_yes q n u _ hc0 hu).mono ?_
          rintro e w' ⟨rfl, h9⟩
          subst w'
          go_wp2_with fail
          refine (matIs_no q n _ _ hc0 hb'.out).mono ?_
          rintro e w' ⟨rfl, h9⟩
          subst w'
          go_wp2
          exact ⟨⟨k + 1, by omega, by go_num, by rw [HNO.out]; exact HMAT.out, HGR.out⟩, by simp [intOf]; omega⟩
      · have ha' := Lib.hid (show x < 0 ∨ (n : Int) ≤ x by omega)
        have HNO : Hid (ofL n (l.take (k + 1)) = ofL n (l.take k)) := Lib.hid (HTO.out.trans (addI_no (by unfold inI; omega)))
        clear hx
        go_wp2_with fail
        refine (matIs_no q n _ _ hc0 ha'.out).mono ?_
        rintro e w' ⟨rfl, h9⟩
        subst w'
        go_wp2
        exact ⟨⟨k + 1, by omega, by go_num, by rw [HNO.out]; exact HMAT.out, HGR.out⟩, by simp [intOf]; omega⟩
    · obtain rfl : k = L := by omega
      have hta : l.take k = l := List.take_of_length_le (by rw [HLEN.out]; exact Nat.le_refl _)
      rw [hta] at hmat
      have HFIN := Lib.hid (hmat.outer (Nat.le_refl _) hmat.top)
      have HGR := Lib.hid hgr
      clear hmat hgr hta
      go_wp2
      go_ret
      exact ⟨q, rfl, HFIN.out, HGR.out⟩

end Go.Proofs.YtdolcdededmlhaaDoor
