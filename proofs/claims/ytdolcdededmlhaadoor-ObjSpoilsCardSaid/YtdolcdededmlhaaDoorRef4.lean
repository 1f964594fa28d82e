/- The contracts of the reference's Rising, Check, Is, Rel. -/
import Derived.Test.YtdolcdededmlhaaDoorMake
namespace Go.Proofs.YtdolcdededmlhaaDoor
open Go.RowKit

/-- The first k pairs rise. -/
def upTo (l : List (Int × Int)) (k : Nat) : Bool := (nbr l k).all ltP
theorem upTo_succ (l : List (Int × Int)) (k : Nat) : upTo l (k + 1 + 1) = (upTo l (k + 1) && ltP (l[k]?.getD (0, 0), l[k + 1]?.getD (0, 0))) := by
  unfold upTo
  rw [nbr_succ, List.all_append]
  simp
theorem upTo_not {l : List (Int × Int)} {k m : Nat} (hk : k + 1 < m) (h : ltP (l[k]?.getD (0, 0), l[k + 1]?.getD (0, 0)) = false) : upTo l m = false := by
  obtain ⟨r, e⟩ := nbr_split l hk
  unfold upTo
  rw [e, List.all_append, List.all_append]
  simp [h]

set_option maxRecDepth 20000 in
set_option maxHeartbeats 4000000 in
theorem rising_c (p : Option Addr) (m c lo hi : Nat) (P : List (Int × Int)) (r : Bool) (w : World) (hm : m ≤ 1000000) (hP : PairsAt w lo hi p m P) (hr : risesB P = r) :
    Calls Tryd.prog 34 #[.slice p m c] w fun e w' => e = .returned (.bool r) ∧ w.grownBy w' none := by
  have HU : Hid (upTo P m = r) := Lib.hid (by rw [← hr]; unfold risesB upTo; rw [hP.len])
  have HP := Lib.hid hP
  clear hP hr
  go_enter Tryd.func34, Tryd.ntmps34
  go_wp2
  go_loopw [3] (fun i wr => ∃ k : Nat, (k + 1 ≤ m ∨ k = 0) ∧ i = .int .i64 ((k : Int) + 1) ∧ Hid (upTo P (k + 1) = true) ∧ w.grownBy wr none) (fun i _ => m + 1 - (intOf i).toNat)
  case atStart => exact ⟨0, .inr rfl, rfl, Lib.hid rfl, grownBy_refl _ _⟩
  case round =>
    obtain ⟨k, hk, rfl, HT, hgr⟩ := hrel
    by_cases hkm : k + 1 < m
    · obtain ⟨b, off, rfl, q1, q2, q3, hcells⟩ := (HP.out.calm hgr).cell (by omega)
      obtain ⟨x1, x2⟩ := hcells k (by omega)
      obtain ⟨y1, y2⟩ := hcells (k + 1) (by omega)
      clear hcells
      have e0 : (k : Int) + 1 < m := by omega
      have e1 : IntKind.i64.wrap ((k : Int) + 1 - 1) = k := by rw [IntWalk.i64_in _ (by omega)]; omega
      have e7 : IntKind.i64.wrap (k : Int) = k := by rw [IntWalk.i64_in _ (by omega)]
      have e2 : (0 : Int) ≤ k := by omega
      have e3 : (k : Int) < m := by omega
      have e4 : (0 : Int) ≤ (k : Int) + 1 := by omega
      have e5 : k < m := by omega
      have e6 : ((k : Int) + 1).toNat = k + 1 := by omega
      have HS := Lib.hid (upTo_succ P k)
      have HN := Lib.hid (fun h => upTo_not (l := P) hkm h)
      generalize P[k]?.getD (0, 0) = u at *
      generalize P[k + 1]?.getD (0, 0) = v at *
      by_cases c0 : ltP (u, v) = true
      · have HT2 : Hid (upTo P (k + 1 + 1) = true) := Lib.hid (by rw [HS.out, HT.out, c0]; rfl)
        unfold ltP at c0
        simp only [Bool.or_eq_true, Bool.and_eq_true, decide_eq_true_eq] at c0
        by_cases c1 : u.1 < v.1
        · have d1 : decide (v.1 < u.1) = false := by simp; omega
          have d2 : (v.1 == u.1) = false := by simp; omega
          clear c0
          go_wp2
          go_quiet (fail)
          go_wp2
          exact ⟨⟨k + 1, .inl (by omega), by go_num, HT2, grownBy_trans hgr (grownBy_drewN _ _ none)⟩, by simp [intOf]; omega⟩
        · have d1 : decide (v.1 < u.1) = false := by simp; omega
          have d2 : (v.1 == u.1) = true := by simp; omega
          have d3 : decide (v.2 ≤ u.2) = false := by simp; omega
          clear c0
          go_wp2
          go_quiet (fail)
          go_wp2
          exact ⟨⟨k + 1, .inl (by omega), by go_num, HT2, grownBy_trans hgr (grownBy_drewN _ _ none)⟩, by simp [intOf]; omega⟩
      · have c0' : ltP (u, v) = false := by simpa using c0
        obtain rfl : r = false := by rw [← HU.out]; exact HN.out c0'
        unfold ltP at c0
        simp only [Bool.or_eq_true, Bool.and_eq_true, decide_eq_true_eq] at c0
        by_cases c1 : v.1 < u.1
        · have d1 : decide (v.1 < u.1) = true := by simpa using c1
          clear c0 c0'
          go_wp2
          go_quiet (fail)
          go_wp2
          go_ret
          exact ⟨rfl, grownBy_trans hgr (grownBy_drewN _ _ none)⟩
        · have d1 : decide (v.1 < u.1) = false := by simpa using c1
          have d2 : (v.1 == u.1) = true := by simp; omega
          have d3 : decide (v.2 ≤ u.2) = true := by simp; omega
          clear c0 c0'
          go_wp2
          go_quiet (fail)
          go_wp2
          go_ret
          exact ⟨rfl, grownBy_trans hgr (grownBy_drewN _ _ none)⟩
    · have e0 : ¬ ((k : Int) + 1 < m) := by omega
      obtain rfl : r = true := by
        rw [← HU.out, ← HT.out]
        unfold upTo nbr
        rw [show k + 1 - 1 = m - 1 from by omega]
      go_wp2
      go_ret
      exact ⟨rfl, hgr⟩

end Go.Proofs.YtdolcdededmlhaaDoor
