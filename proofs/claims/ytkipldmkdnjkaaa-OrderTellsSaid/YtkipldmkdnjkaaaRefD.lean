/- The contract of free of package centoref2. -/
import Derived.Test.YtkipldmkdnjkaaaRefC
namespace Go.Proofs.Ytkipldmkdnjkaaa
open Go.RowKit

def hdK (ls : List (List Nat)) (k : Nat) : Nat := (ls.getD k []).headD 0
/-- No class that isn't done is ahead of the i-th. -/
def aheadI (C : Nat → Nat → Bool) (ls : List (List Nat)) (D : Nat → Bool) (i k : Nat) : Bool := decide (k ≠ i) && (!D k && C (hdK ls k) (hdK ls i))
def freeI (C : Nat → Nat → Bool) (ls : List (List Nat)) (D : Nat → Bool) (i : Nat) : Bool := (List.range ls.length).all fun k => !aheadI C ls D i k

theorem Grid.hd {w : World} {base g m cap : Nat} {C : Nat → Nat → Bool} {a : Nat} {ib ic : Nat → Nat} (h : Grid w base (.slice (some ⟨g, 0, none⟩) m cap) (circL C a) ib ic) {k : Nat} (hk : k < (circL C a).length) :
    ∃ l, (circL C a)[k]? = some l ∧ hdK (circL C a) k < a ∧ 0 < l.length ∧ w.cell? ⟨g, k, none⟩ = some (.slice (some ⟨ib k, 0, none⟩) l.length (ic k)) ∧ w.cell? ⟨ib k, 0, none⟩ = some (.int .i64 (hdK (circL C a) k)) := by
  obtain ⟨x, l, q1, q2, q3, q4, q5, q6, q7, q8, q9⟩ := h.nth hk
  have e : hdK (circL C a) k = x := by
    unfold hdK
    rw [List.getD_eq_getElem?_getD, q1]
    exact q4
  rw [e]
  exact ⟨l, q1, q3, q5, q7, q8⟩

set_option maxHeartbeats 2000000 in
theorem matFree_c (lo hi p n i base g L cap db : Nat) (C : Nat → Nat → Bool) (D : Nat → Bool) (w : World) (ib ic : Nat → Nat) (h : IsMat w lo hi p n C) (hg : Grid w base (.slice (some ⟨g, 0, none⟩) L cap) (circL C n) ib ic) (hL : (circL C n).length = L) (hD : BoolRow w db L D) (hi' : i < L) :
    Calls Try.prog 38 #[.pointer (some ⟨p, 0, none⟩), .slice (some ⟨g, 0, none⟩) L cap, .slice (some ⟨db, 0, none⟩) L L, .int .i64 i] w fun e w' => e = .returned (.bool (freeI C (circL C n) D i)) ∧ w.grownBy w' none := by
  have hn := h.small
  have hLn := circ_le C n
  rw [hL] at hLn
  have H := Lib.hid h
  have HG := Lib.hid hg
  have HD := Lib.hid hD
  have HL := Lib.hid hL
  have HFR : Hid (freeI C (circL C n) D i = (List.range L).all fun k => !aheadI C (circL C n) D i k) := Lib.hid (by unfold freeI; rw [hL])
  rw [HFR.out]
  clear h hg hD hL
  go_enter Try.func38, Try.ntmps38
  go_wp2
  go_loopw [9] (fun j wr => ∃ k : Nat, k ≤ L ∧ j = .int .i64 k ∧ (List.range k).all (fun k => !aheadI C (circL C n) D i k) = true ∧ w.grownBy wr none) (fun j _ => L - (intOf j).toNat)
  case atStart => exact ⟨0, Nat.zero_le _, rfl, rfl, grownBy_refl _ _⟩
  case round =>
    obtain ⟨k, hk, rfl, hall, hgr⟩ := hrel
    have HALL := Lib.hid hall
    have HGR := Lib.hid hgr
    clear hall
    by_cases hkL : k < L
    · have HKL := Lib.hid hkL
      have HSUC := Lib.hid (all_succ (fun k => !aheadI C (circL C n) D i k) k)
      have k0 : (0 : Int) ≤ k := by omega
      have k1 : (k : Int) < L := by omega
      by_cases hki : k = i
      · subst hki
        have HA : Hid (aheadI C (circL C n) D k k = false) := Lib.hid (by simp [aheadI])
        have hne : ((k : Int) != (k : Int)) = false := by simp
        clear hgr
        go_wp2
        go_quiet (fail)
        go_wp2
        exact ⟨⟨k + 1, by omega, by go_num, by rw [HSUC.out, HALL.out, HA.out]; rfl, grownBy_trans HGR.out (grownBy_drewN _ _ none)⟩, by simp [intOf]; omega⟩
      · have hne : ((k : Int) != (i : Int)) = true := by simp [bne]; omega
        have cd := (HD.out.kept (hgr.block db HD.out.lt (by simp))).cell hkL
        cases hdk : D k
        · rw [hdk] at cd
          obtain ⟨lk, e1, e2, e3, e4, e5⟩ := (HG.out.calm hgr).hd (k := k) (by rw [HL.out]; exact hkL)
          obtain ⟨li, f1, f2, f3, f4, f5⟩ := (HG.out.calm hgr).hd (k := i) (by rw [HL.out]; exact hi')
          obtain ⟨mb, mcap, rb, g1, g2, g3⟩ := (H.out.calm hgr).rows (by omega)
          have r1 := g2 _ e2
          have r2 := g3 _ _ e2 f2
          have HA : Hid (aheadI C (circL C n) D i k = C (hdK (circL C n) k) (hdK (circL C n) i)) := Lib.hid (by simp [aheadI, hki, hdk])
          have i0 : (0 : Int) ≤ i := by omega
          have i1 : (i : Int) < L := by omega
          have l0 : (0 : Int) < lk.length := by omega
          have l1 : (0 : Int) < li.length := by omega
          have x0 : (0 : Int) ≤ (hdK (circL C n) k : Nat) := by omega
          have x1 : ((hdK (circL C n) k : Nat) : Int) < n := by omega
          have y0 : (0 : Int) ≤ (hdK (circL C n) i : Nat) := by omega
          have y1 : ((hdK (circL C n) i : Nat) : Int) < n := by omega
          clear hgr g2 g3 e1 f1 hdk
          generalize hdK (circL C n) k = x at *
          generalize hdK (circL C n) i = y at *
          cases hc : C x y
          · rw [hc] at r2 HA
            clear hc
            go_wp2
            go_quiet (fail)
            go_wp2
            exact ⟨⟨k + 1, by omega, by go_num, by rw [HSUC.out, HALL.out, HA.out]; rfl, grownBy_trans HGR.out (grownBy_drewN _ _ none)⟩, by simp [intOf]; omega⟩
          · rw [hc] at r2 HA
            clear hc
            go_wp2
            go_quiet (fail)
            go_wp2
            go_ret
            refine ⟨?_, grownBy_trans HGR.out (grownBy_drewN _ _ none)⟩
            have : ((List.range L).all fun k => !aheadI C (circL C n) D i k) = false := all_no HKL.out (by rw [HA.out]; rfl)
            rw [this]
            rfl
        · rw [hdk] at cd
          have HA : Hid (aheadI C (circL C n) D i k = false) := Lib.hid (by simp [aheadI, hdk])
          clear hgr hdk
          go_wp2
          go_quiet (fail)
          go_wp2
          exact ⟨⟨k + 1, by omega, by go_num, by rw [HSUC.out, HALL.out, HA.out]; rfl, grownBy_trans HGR.out (grownBy_drewN _ _ none)⟩, by simp [intOf]; omega⟩
    · obtain rfl : k = L := by omega
      go_wp2
      go_ret
      exact ⟨by rw [HALL.out]; rfl, HGR.out⟩

end Go.Proofs.Ytkipldmkdnjkaaa
