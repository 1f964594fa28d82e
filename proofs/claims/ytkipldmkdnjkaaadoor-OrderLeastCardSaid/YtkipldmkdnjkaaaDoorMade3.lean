/- The contracts of Some of package centoref2, made of centolaw3. -/
import Derived.Test.YtkipldmkdnjkaaaDoorSame3
namespace Go.Proofs.YtkipldmkdnjkaaaDoor
open Go.RowKit

set_option maxHeartbeats 2000000 in
theorem matSome_c (n : Nat) (p : Option Addr) (L c lo hi : Nat) (l : List (Int × Int)) (w : World) (hn : n ≤ 200) (hl : PairsAt w lo hi p L l) (hL : L ≤ 1000000) : Calls Tryd.prog 27 #[.int .i64 n, .slice p L c] w (MatPost n (ofL n l) w) := by
  have HL := Lib.hid hl
  have HLEN := Lib.hid hl.len
  clear hl
  go_enter Tryd.func27, Tryd.ntmps27
  go_wp2_with fail
  refine (matNew_c n _ hn).mono ?_
  rintro e w1 ⟨q, rfl, hr1, hg1⟩
  have HR1 := Lib.hid hr1
  have HG1 := Lib.hid hg1
  clear hr1 hg1
  go_wp2_with fail
  go_loopw [6] (fun i wr => ∃ k : Nat, k ≤ L ∧ i = .int .i64 k ∧ IsMat wr w.heap.size w1.heap.size q n (ofL n (l.take k)) ∧ w.grownBy wr none) (fun i _ => L - (intOf i).toNat)
  case atStart => exact ⟨0, Nat.zero_le _, rfl, HR1.out, HG1.out⟩
  case round =>
    obtain ⟨k, hk, rfl, hmat, hgr⟩ := hrel
    by_cases hkL : k < L
    · obtain ⟨b, off, rfl, q1, q2, q3, hcs⟩ := (HL.out.calm hgr).cell (by omega)
      obtain ⟨x1, x2⟩ := hcs k hkL
      have HTO := Lib.hid (ofL_take (n := n) (l := l) (k := k) (by rw [HLEN.out]; exact hkL))
      have hc0 := hmat.c0
      have HMAT := Lib.hid hmat
      have HGR := Lib.hid hgr
      clear hcs hgr hmat
      generalize l[k]?.getD (0, 0) = x at *
      obtain ⟨x, y⟩ := x
      simp only at x1 x2
      have k0 : (0 : Int) ≤ k := by omega
      have k1 : (k : Int) < L := by omega
      by_cases hx : 0 ≤ x ∧ x < n
      · obtain ⟨a0, a1⟩ := hx
        obtain ⟨u, rfl⟩ := Int.eq_ofNat_of_zero_le a0
        have hu : u < n := by omega
        by_cases hy : 0 ≤ y ∧ y < n
        · obtain ⟨b0, b1⟩ := hy
          obtain ⟨v, rfl⟩ := Int.eq_ofNat_of_zero_le b0
          have hv : v < n := by omega
          have hin : inI n (u : Int) (v : Int) := ⟨a0, a1, b0, b1⟩
          rw [addI_yes hin] at HTO
          simp only [Int.toNat_natCast] at HTO
          obtain ⟨pm, mb, rb, cap, rfl, hc1, hcm, hcr, hfr, hput⟩ := HMAT.out.put (T := addR (ofL n (l.take k)) u v) hu hv true (addR_put _ _ _) (addR_supp HMAT.out.supp hu hv)
          have HPUT := Lib.hid (hput (wr.drewN 1) rfl rfl rfl rfl)
          clear hin hput
          go_wp2_with fail
          refine (matIs_yes q n u _ hc0 hu).mono ?_
          rintro e w' ⟨rfl, h9⟩
          subst w'
          go_wp2_with fail
          refine (matIs_yes q n v _ hc0 hv).mono ?_
          rintro e w' ⟨rfl, h9⟩
          subst w'
          go_wp2
          refine wp_region_still_tail 17 (by kernel_rfl) (by kernel_rfl) ?_
          simp only [List.take_succ_cons, List.take_zero, List.drop_succ_cons, List.drop_zero]
          repeat still_step
          refine wpStill_nil ?_
          change wpList _ _ _ _ _ wr.drew
          go_wp2
          exact ⟨⟨k + 1, by omega, by go_num, by rw [HTO.out]; exact HPUT.out.1, Kept.new HGR.out HPUT.out.2 (Nat.le_refl _)⟩, by simp [intOf]; omega⟩
        · have hb' := Lib.hid (show y < 0 ∨ (n : Int) ≤ y by omega)
          have HNO : Hid (ofL n (l.take (k + 1)) = ofL n (l.take k)) := Lib.hid (HTO.out.trans (addI_no (by unfold inI; omega)))
          clear hy
          go_wp2_with fail
          refine (matIs_yes q n u _ hc0 hu).mono ?_
          rintro e w' ⟨rfl, h9⟩
          subst w'
          go_wp2_with fail
          refine (matIs_no q n _ _ hc0 hb'.out).mono ?_
          rintro e w' ⟨rfl, h9⟩
          subst w'
          go_wp2
          exact ⟨⟨k + 1, by omega, by go_num, by rw [HNO.out]; exact HMAT.out, HGR.out⟩, by simp [intOf]; omega⟩
      · have ha' := Lib.hid (show x < 0 ∨ (n : Int) ≤ x by omega)
        have HNO : Hid (ofL n (l.take (k + 1)) = ofL n (l.take k)) := Lib.hid (HTO.out.trans (addI_no (by unfold inI; omega)))
        clear hx
        go_wp2_with fail
        refine (matIs_no q n _ _ hc0 ha'.out).mono ?_
        rintro e w' ⟨rfl, h9⟩
        subst w'
        go_wp2
        exact ⟨⟨k + 1, by omega, by go_num, by rw [HNO.out]; exact HMAT.out, HGR.out⟩, by simp [intOf]; omega⟩
    · obtain rfl : k = L := by omega
      have hta : l.take k = l := List.take_of_length_le (by rw [HLEN.out]; exact Nat.le_refl _)
      rw [hta] at hmat
      have HFIN := Lib.hid (hmat.outer (Nat.le_refl _) hmat.top)
      have HGR := Lib.hid hgr
      clear hmat hgr hta
      go_wp2
      go_ret
      exact ⟨q, rfl, HFIN.out, HGR.out⟩

theorem ofL_pairsL {n : Nat} {R : Nat → Nat → Bool} (h : Supp n R) : ofL n (pairsL n R n) = R := by
  funext x y
  have h1 := ofL_iff n (pairsL n R n) x y
  rw [pairsL_mem] at h1
  cases hr : R x y
  · cases ho : ofL n (pairsL n R n) x y
    · rfl
    · have := (h1.1 ho).2.2.2.2
      rw [hr] at this
      cases this
  · have := h x y hr
    exact h1.2 ⟨this.1, this.2, this.1, this.2, hr⟩
theorem pairsL_in {n : Nat} {R : Nat → Nat → Bool} : ∀ p ∈ pairsL n R n, inI n p.1 p.2 := by
  intro p hp
  unfold pairsL at hp
  rw [List.mem_flatMap] at hp
  obtain ⟨a, ha, hb⟩ := hp
  rw [List.mem_map] at hb
  obtain ⟨b, hb, rfl⟩ := hb
  have h1 : a < n := by simpa using ha
  have h2 : b < n := by unfold onL at hb; simpa using (List.mem_filter.1 hb).1
  unfold inI
  simp only
  omega
theorem pairsL_ok {n : Nat} {R : Nat → Nat → Bool} (hn : n ≤ 200) : ofErr n (pairsL n R n) = 0 := by
  unfold ofErr
  rw [if_neg (by omega), Int.toNat_natCast, if_pos]
  unfold allIn
  rw [List.all_eq_true]
  intro p hp
  simpa using pairsL_in p hp

/-- What made is given, cut. -/
def cutK (n : Int) : Nat := (max 0 (min n 40)).toNat
theorem cutK_le (n : Int) : cutK n ≤ 40 := by unfold cutK; omega

def MadeP (k : Nat) (R : Nat → Nat → Bool) (w : World) (e : Ending) (w' : World) : Prop :=
  ∃ r m lo1 hi1 lo2 hi2, e = .returned (.tuple #[.pointer (some ⟨r, 0, none⟩), .pointer (some ⟨m, 0, none⟩)]) ∧ IsRel w' lo1 hi1 r k R ∧ IsMat w' lo2 hi2 m k (clo k R) ∧ w.heap.size ≤ lo1 ∧ w.heap.size ≤ lo2 ∧ w.grownBy w' none

set_option maxHeartbeats 1000000 in
theorem made_mid (k : Nat) (hk0 : 0 < k) (hk : k < 40) (p : Option Addr) (L c lo hi : Nat) (l : List (Int × Int)) (w : World) (hl : PairsAt w lo hi p L l) (hL : L ≤ 1000000) : Calls Tryd.prog 11 #[.int .i64 k, .slice p L c] w (MadeP k (ofL k l) w) := by
  have HL := Lib.hid hl
  clear hl
  have k0 : (0 : Int) < k := by omega
  have k1 : (k : Int) < 40 := by omega
  go_enter Tryd.func11, Tryd.ntmps11
  go_wp2_with fail
  all_goals try (exfalso; omega)
  refine (matSome_c k p L c lo hi l _ (by omega) HL.out hL).mono ?_
  rintro e w1 ⟨m, rfl, hm1, hg1⟩
  have HM1 := Lib.hid hm1
  have HG1 := Lib.hid hg1
  clear hm1 hg1
  go_wp2_with fail
  refine (matPairs_c _ _ m k _ _ HM1.out).mono ?_
  rintro e w2 ⟨pp, cc, rfl, hp2, hg2⟩
  have HP2 := Lib.hid hp2
  have HM2 := Lib.hid (HM1.out.calm hg2)
  have HG2 := Lib.hid (grownBy_trans HG1.out hg2)
  clear hp2 hg2 HM1 HG1
  go_wp2_with fail
  refine (relOf_ok k pp _ cc _ _ _ _ HP2.out (Nat.le_trans (pairsL_len _ _ _) (by have : k * k ≤ 40 * 40 := Nat.mul_le_mul (by omega) (by omega); omega)) (pairsL_ok (by omega))).mono ?_
  rintro e w3 ⟨r, rfl, hr3, hg3⟩
  rw [ofL_pairsL (ofL_supp _ _)] at hr3
  have HR3 := Lib.hid hr3
  have HM3 := Lib.hid (HM2.out.calm hg3)
  have HG3 := Lib.hid (grownBy_trans HG2.out hg3)
  have HS2 := Lib.hid HG2.out.size
  clear hr3 hg3 HM2 HG2 HP2
  go_wp2_with fail
  refine (matClosure_c _ _ m k _ _ HM3.out).mono ?_
  rintro e w4 ⟨d, rfl, hd4, hg4⟩
  have HE := Lib.hid (show MadeP k (ofL k l) w (.returned (.tuple #[.pointer (some ⟨r, 0, none⟩), .pointer (some ⟨d, 0, none⟩)])) w4 from ⟨r, d, _, _, _, _, rfl, HR3.out.calm hg4, hd4, HS2.out, HG3.out.size, grownBy_trans HG3.out hg4⟩)
  clear hd4 hg4
  go_wp2
  go_ret2
  exact HE.out

set_option maxHeartbeats 1000000 in
theorem made_neg (n : Int) (hn : n < 0) (p : Option Addr) (L c lo hi : Nat) (l : List (Int × Int)) (w : World) (hl : PairsAt w lo hi p L l) (hL : L ≤ 1000000) : Calls Tryd.prog 11 #[.int .i64 n, .slice p L c] w (MadeP 0 (ofL 0 l) w) := by
  have HL := Lib.hid hl
  clear hl
  go_enter Tryd.func11, Tryd.ntmps11
  go_wp2_with fail
  all_goals try (exfalso; omega)
  refine (matSome_c 0 p L c lo hi l _ (by omega) HL.out hL).mono ?_
  rintro e w1 ⟨m, rfl, hm1, hg1⟩
  have HM1 := Lib.hid hm1
  have HG1 := Lib.hid hg1
  clear hm1 hg1
  go_wp2_with fail
  refine (matPairs_c _ _ m 0 _ _ HM1.out).mono ?_
  rintro e w2 ⟨pp, cc, rfl, hp2, hg2⟩
  have HP2 := Lib.hid hp2
  have HM2 := Lib.hid (HM1.out.calm hg2)
  have HG2 := Lib.hid (grownBy_trans HG1.out hg2)
  clear hp2 hg2 HM1 HG1
  go_wp2_with fail
  refine (relOf_ok 0 pp _ cc _ _ _ _ HP2.out (Nat.le_trans (pairsL_len _ _ _) (by have : 0 * 0 ≤ 40 * 40 := Nat.mul_le_mul (by omega) (by omega); omega)) (pairsL_ok (by omega))).mono ?_
  rintro e w3 ⟨r, rfl, hr3, hg3⟩
  rw [ofL_pairsL (ofL_supp _ _)] at hr3
  have HR3 := Lib.hid hr3
  have HM3 := Lib.hid (HM2.out.calm hg3)
  have HG3 := Lib.hid (grownBy_trans HG2.out hg3)
  have HS2 := Lib.hid HG2.out.size
  clear hr3 hg3 HM2 HG2 HP2
  go_wp2_with fail
  refine (matClosure_c _ _ m 0 _ _ HM3.out).mono ?_
  rintro e w4 ⟨d, rfl, hd4, hg4⟩
  have HE := Lib.hid (show MadeP 0 (ofL 0 l) w (.returned (.tuple #[.pointer (some ⟨r, 0, none⟩), .pointer (some ⟨d, 0, none⟩)])) w4 from ⟨r, d, _, _, _, _, rfl, HR3.out.calm hg4, hd4, HS2.out, HG3.out.size, grownBy_trans HG3.out hg4⟩)
  clear hd4 hg4
  go_wp2
  go_ret2
  exact HE.out

set_option maxHeartbeats 1000000 in
theorem made_zero (p : Option Addr) (L c lo hi : Nat) (l : List (Int × Int)) (w : World) (hl : PairsAt w lo hi p L l) (hL : L ≤ 1000000) : Calls Tryd.prog 11 #[.int .i64 0, .slice p L c] w (MadeP 0 (ofL 0 l) w) := by
  have HL := Lib.hid hl
  clear hl
  go_enter Tryd.func11, Tryd.ntmps11
  go_wp2_with fail
  all_goals try (exfalso; omega)
  refine (matSome_c 0 p L c lo hi l _ (by omega) HL.out hL).mono ?_
  rintro e w1 ⟨m, rfl, hm1, hg1⟩
  have HM1 := Lib.hid hm1
  have HG1 := Lib.hid hg1
  clear hm1 hg1
  go_wp2_with fail
  refine (matPairs_c _ _ m 0 _ _ HM1.out).mono ?_
  rintro e w2 ⟨pp, cc, rfl, hp2, hg2⟩
  have HP2 := Lib.hid hp2
  have HM2 := Lib.hid (HM1.out.calm hg2)
  have HG2 := Lib.hid (grownBy_trans HG1.out hg2)
  clear hp2 hg2 HM1 HG1
  go_wp2_with fail
  refine (relOf_ok 0 pp _ cc _ _ _ _ HP2.out (Nat.le_trans (pairsL_len _ _ _) (by have : 0 * 0 ≤ 40 * 40 := Nat.mul_le_mul (by omega) (by omega); omega)) (pairsL_ok (by omega))).mono ?_
  rintro e w3 ⟨r, rfl, hr3, hg3⟩
  rw [ofL_pairsL (ofL_supp _ _)] at hr3
  have HR3 := Lib.hid hr3
  have HM3 := Lib.hid (HM2.out.calm hg3)
  have HG3 := Lib.hid (grownBy_trans HG2.out hg3)
  have HS2 := Lib.hid HG2.out.size
  clear hr3 hg3 HM2 HG2 HP2
  go_wp2_with fail
  refine (matClosure_c _ _ m 0 _ _ HM3.out).mono ?_
  rintro e w4 ⟨d, rfl, hd4, hg4⟩
  have HE := Lib.hid (show MadeP 0 (ofL 0 l) w (.returned (.tuple #[.pointer (some ⟨r, 0, none⟩), .pointer (some ⟨d, 0, none⟩)])) w4 from ⟨r, d, _, _, _, _, rfl, HR3.out.calm hg4, hd4, HS2.out, HG3.out.size, grownBy_trans HG3.out hg4⟩)
  clear hd4 hg4
  go_wp2
  go_ret2
  exact HE.out

set_option maxHeartbeats 1000000 in
theorem made_big (n : Int) (hn : 40 < n) (p : Option Addr) (L c lo hi : Nat) (l : List (Int × Int)) (w : World) (hl : PairsAt w lo hi p L l) (hL : L ≤ 1000000) : Calls Tryd.prog 11 #[.int .i64 n, .slice p L c] w (MadeP 40 (ofL 40 l) w) := by
  have HL := Lib.hid hl
  clear hl
  go_enter Tryd.func11, Tryd.ntmps11
  go_wp2_with fail
  all_goals try (exfalso; omega)
  refine (matSome_c 40 p L c lo hi l _ (by omega) HL.out hL).mono ?_
  rintro e w1 ⟨m, rfl, hm1, hg1⟩
  have HM1 := Lib.hid hm1
  have HG1 := Lib.hid hg1
  clear hm1 hg1
  go_wp2_with fail
  refine (matPairs_c _ _ m 40 _ _ HM1.out).mono ?_
  rintro e w2 ⟨pp, cc, rfl, hp2, hg2⟩
  have HP2 := Lib.hid hp2
  have HM2 := Lib.hid (HM1.out.calm hg2)
  have HG2 := Lib.hid (grownBy_trans HG1.out hg2)
  clear hp2 hg2 HM1 HG1
  go_wp2_with fail
  refine (relOf_ok 40 pp _ cc _ _ _ _ HP2.out (Nat.le_trans (pairsL_len _ _ _) (by have : 40 * 40 ≤ 40 * 40 := Nat.mul_le_mul (by omega) (by omega); omega)) (pairsL_ok (by omega))).mono ?_
  rintro e w3 ⟨r, rfl, hr3, hg3⟩
  rw [ofL_pairsL (ofL_supp _ _)] at hr3
  have HR3 := Lib.hid hr3
  have HM3 := Lib.hid (HM2.out.calm hg3)
  have HG3 := Lib.hid (grownBy_trans HG2.out hg3)
  have HS2 := Lib.hid HG2.out.size
  clear hr3 hg3 HM2 HG2 HP2
  go_wp2_with fail
  refine (matClosure_c _ _ m 40 _ _ HM3.out).mono ?_
  rintro e w4 ⟨d, rfl, hd4, hg4⟩
  have HE := Lib.hid (show MadeP 40 (ofL 40 l) w (.returned (.tuple #[.pointer (some ⟨r, 0, none⟩), .pointer (some ⟨d, 0, none⟩)])) w4 from ⟨r, d, _, _, _, _, rfl, HR3.out.calm hg4, hd4, HS2.out, HG3.out.size, grownBy_trans HG3.out hg4⟩)
  clear hd4 hg4
  go_wp2
  go_ret2
  exact HE.out

set_option maxHeartbeats 1000000 in
theorem made_forty (p : Option Addr) (L c lo hi : Nat) (l : List (Int × Int)) (w : World) (hl : PairsAt w lo hi p L l) (hL : L ≤ 1000000) : Calls Tryd.prog 11 #[.int .i64 40, .slice p L c] w (MadeP 40 (ofL 40 l) w) := by
  have HL := Lib.hid hl
  clear hl
  go_enter Tryd.func11, Tryd.ntmps11
  go_wp2_with fail
  all_goals try (exfalso; omega)
  refine (matSome_c 40 p L c lo hi l _ (by omega) HL.out hL).mono ?_
  rintro e w1 ⟨m, rfl, hm1, hg1⟩
  have HM1 := Lib.hid hm1
  have HG1 := Lib.hid hg1
  clear hm1 hg1
  go_wp2_with fail
  refine (matPairs_c _ _ m 40 _ _ HM1.out).mono ?_
  rintro e w2 ⟨pp, cc, rfl, hp2, hg2⟩
  have HP2 := Lib.hid hp2
  have HM2 := Lib.hid (HM1.out.calm hg2)
  have HG2 := Lib.hid (grownBy_trans HG1.out hg2)
  clear hp2 hg2 HM1 HG1
  go_wp2_with fail
  refine (relOf_ok 40 pp _ cc _ _ _ _ HP2.out (Nat.le_trans (pairsL_len _ _ _) (by have : 40 * 40 ≤ 40 * 40 := Nat.mul_le_mul (by omega) (by omega); omega)) (pairsL_ok (by omega))).mono ?_
  rintro e w3 ⟨r, rfl, hr3, hg3⟩
  rw [ofL_pairsL (ofL_supp _ _)] at hr3
  have HR3 := Lib.hid hr3
  have HM3 := Lib.hid (HM2.out.calm hg3)
  have HG3 := Lib.hid (grownBy_trans HG2.out hg3)
  have HS2 := Lib.hid HG2.out.size
  clear hr3 hg3 HM2 HG2 HP2
  go_wp2_with fail
  refine (matClosure_c _ _ m 40 _ _ HM3.out).mono ?_
  rintro e w4 ⟨d, rfl, hd4, hg4⟩
  have HE := Lib.hid (show MadeP 40 (ofL 40 l) w (.returned (.tuple #[.pointer (some ⟨r, 0, none⟩), .pointer (some ⟨d, 0, none⟩)])) w4 from ⟨r, d, _, _, _, _, rfl, HR3.out.calm hg4, hd4, HS2.out, HG3.out.size, grownBy_trans HG3.out hg4⟩)
  clear hd4 hg4
  go_wp2
  go_ret2
  exact HE.out

theorem made_c (n : Int) (p : Option Addr) (L c lo hi : Nat) (l : List (Int × Int)) (w : World) (hl : PairsAt w lo hi p L l) (hL : L ≤ 1000000) : Calls Tryd.prog 11 #[.int .i64 n, .slice p L c] w (MadeP (cutK n) (ofL (cutK n) l) w) := by
  by_cases h1 : n < 0
  · have e : cutK n = 0 := by unfold cutK; omega
    rw [e]
    exact made_neg n h1 p L c lo hi l w hl hL
  · by_cases h2 : 40 < n
    · have e : cutK n = 40 := by unfold cutK; omega
      rw [e]
      exact made_big n h2 p L c lo hi l w hl hL
    · obtain ⟨k, rfl⟩ := Int.eq_ofNat_of_zero_le (show 0 ≤ n by omega)
      have e : cutK k = k := by unfold cutK; omega
      rw [e]
      by_cases h3 : k = 0
      · subst h3; exact made_zero p L c lo hi l w hl hL
      · by_cases h4 : k = 40
        · subst h4; exact made_forty p L c lo hi l w hl hL
        · exact made_mid k (by omega) (by omega) p L c lo hi l w hl hL

end Go.Proofs.YtkipldmkdnjkaaaDoor
