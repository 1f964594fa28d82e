/- What centolaw3's own function known does. -/
import Derived.Test.YtkipldmkdnjkaaaDoorMade3
namespace Go.Proofs.YtkipldmkdnjkaaaDoor
open Go.RowKit

theorem pairsAt_four (w : World) (a b c d e f g h : Int) : PairsAt (w.alloc (.cells #[.int .i64 a, .int .i64 b, .int .i64 c, .int .i64 d, .int .i64 e, .int .i64 f, .int .i64 g, .int .i64 h] 25)) w.heap.size (w.heap.size + 1) (some ⟨w.heap.size, 0, none⟩) 4 [(a, b), (c, d), (e, f), (g, h)] := by
  refine ⟨rfl, fun _ => ⟨w.heap.size, 0, rfl, Nat.le_refl _, by omega, by simp, fun k hk => ?_⟩⟩
  match k, hk with
  | 0, _ => exact ⟨by simp, by simp⟩
  | 1, _ => exact ⟨by simp, by simp⟩
  | 2, _ => exact ⟨by simp, by simp⟩
  | 3, _ => exact ⟨by simp, by simp⟩

def k4 : Nat → Nat → Bool := ofL 4 [(0, 1), (1, 0), (1, 3), (2, 0)]
def c4 : Nat → Nat → Bool := clo 4 k4
theorem know_1 : circL c4 4 = [[0, 1], [2], [3]] := by decide +kernel
theorem know_2 : sortL c4 4 = [2, 0, 1, 3] := by decide +kernel
theorem know_3 : redL c4 4 = [(0, 3), (2, 0)] := by decide +kernel
theorem know_4 : ordB c4 4 = false := by decide +kernel
theorem know_5 : ofK (circL c4 4) 4 (circL c4 4).length = [0, 0, 1, 2] := by decide +kernel

theorem circles_k (lo hi p : Nat) (w : World) (h : IsRel w lo hi p 4 k4) : Calls Tryd.prog 12 #[.pointer (some ⟨p, 0, none⟩)] w (GridPost [[0, 1], [2], [3]] w) := by
  have := circles_c lo hi p 4 k4 w h
  rwa [show circL (clo 4 k4) 4 = [[0, 1], [2], [3]] from know_1] at this
theorem sort_k (lo hi p : Nat) (w : World) (h : IsRel w lo hi p 4 k4) : Calls Tryd.prog 13 #[.pointer (some ⟨p, 0, none⟩)] w (IntsPost [2, 0, 1, 3] w) := by
  have := sort_c lo hi p 4 k4 w h
  rwa [show sortL (clo 4 k4) 4 = [2, 0, 1, 3] from know_2] at this
theorem reduce_k (lo hi p : Nat) (w : World) (h : IsRel w lo hi p 4 k4) : Calls Tryd.prog 6 #[.pointer (some ⟨p, 0, none⟩)] w (PairsPost [(0, 3), (2, 0)] w) := by
  have := reduce_c lo hi p 4 k4 w h
  rwa [show redL (clo 4 k4) 4 = [(0, 3), (2, 0)] from know_3] at this
theorem isOrder_k (lo hi p : Nat) (w : World) (h : IsRel w lo hi p 4 k4) : Calls Tryd.prog 10 #[.pointer (some ⟨p, 0, none⟩)] w fun e w' => e = .returned (.bool false) ∧ w.grownBy w' none := by
  have := orderIsOrder_c lo hi p 4 k4 w h
  rwa [show ordB (clo 4 k4) 4 = false from know_4] at this
theorem of_k (lo hi p : Nat) (w : World) (h : IsRel w lo hi p 4 k4) : Calls Tryd.prog 15 #[.pointer (some ⟨p, 0, none⟩)] w (IntsPost [0, 0, 1, 2] w) := by
  have := ordOf_c lo hi p 4 k4 w h
  rwa [show ofK (circL (clo 4 k4) 4) 4 (circL (clo 4 k4) 4).length = [0, 0, 1, 2] from know_5] at this

set_option maxHeartbeats 4000000 in
theorem known3_c (w : World) : Calls Tryd.prog 4 #[] w fun e w' => e = .returned (.bool true) ∧ w.grownBy w' none := by
  have HPA := Lib.hid (pairsAt_four w 0 1 1 0 1 3 2 0)
  go_enter Tryd.func4, Tryd.ntmps4
  go_wp2_with fail
  refine (made_mid 4 (by omega) (by omega) _ _ _ _ _ _ _ HPA.out (by omega)).mono ?_
  rintro e w1 ⟨r, m, lo1, hi1, lo2, hi2, rfl, hr, _, _, _, hg⟩
  have HR := Lib.hid (show IsRel w1 lo1 hi1 r 4 k4 from hr)
  have HG := Lib.hid (grownBy_trans (World.grownBy_alloc w _ none) hg)
  clear hr hg HPA
  go_wp2_with fail
  refine (circles_k _ _ r _ HR.out).mono ?_
  rintro e w2 ⟨v, rfl, ⟨ib, ic, hgrid⟩, hg2⟩
  obtain ⟨g, cap, rfl, _, _⟩ := hgrid.form (by decide)
  have HGRID := Lib.hid hgrid
  have HR2 := Lib.hid (HR.out.calm hg2)
  have HG2 := Lib.hid (grownBy_trans HG.out hg2)
  clear hgrid hg2 HR HG
  go_wp2_with fail
  refine (sort_k _ _ r _ HR2.out).mono ?_
  rintro e w3 ⟨sg, sc, rfl, hs, hg3⟩
  have HS3 := Lib.hid hs
  have HGRID3 := Lib.hid (HGRID.out.calm hg3)
  have HR3 := Lib.hid (HR2.out.calm hg3)
  have HG3 := Lib.hid (grownBy_trans HG2.out hg3)
  clear hs hg3 HR2 HG2 HGRID
  go_wp2_with fail
  refine (reduce_k _ _ r _ HR3.out).mono ?_
  rintro e w4 ⟨pp, pc, rfl, hp, hg4⟩
  have HS4 := Lib.hid (HS3.out.calm hg4)
  have HGRID4 := Lib.hid (HGRID3.out.calm hg4)
  have HR4 := Lib.hid (HR3.out.calm hg4)
  have HG4 := Lib.hid (grownBy_trans HG3.out hg4)
  obtain ⟨pb, po, rfl, _, _, _, hpc⟩ := hp.cell (by decide)
  obtain ⟨p0, p1⟩ := hpc 0 (by decide)
  have s0 := HS4.out.cell (j := 0) rfl
  have s1 := HS4.out.cell (j := 1) rfl
  have s3 := HS4.out.cell (j := 3) rfl
  have g0 := HGRID4.out.head (k := 0) rfl
  have gi1 := (HGRID4.out.row 0 _ rfl).cell (j := 1) rfl
  simp only [List.length_cons, List.length_nil] at g0
  clear hg4 HR3 HG3 HGRID3 HS3 hpc hp
  simp at p0 p1
  go_wp2_with fail
  refine (isOrder_k _ _ r _ HR4.out).mono ?_
  rintro e w5 ⟨rfl, hg5⟩
  have HR5 := Lib.hid (HR4.out.calm hg5)
  have HG5 := Lib.hid (grownBy_trans HG4.out hg5)
  clear hg5
  go_wp2_with fail
  refine (isTotal_nil _).mono ?_
  rintro e w6 ⟨rfl, hg6⟩
  have HR6 := Lib.hid (HR5.out.calm hg6)
  have HG6 := Lib.hid (grownBy_trans HG5.out hg6)
  clear hg6
  go_wp2_with fail
  refine (of_k _ _ r _ HR6.out).mono ?_
  rintro e w7 ⟨og, oc, rfl, _, hg7⟩
  have HR7 := Lib.hid (HR6.out.calm hg7)
  have HG7 := Lib.hid (grownBy_trans HG6.out hg7)
  clear hg7
  go_wp2_with fail
  refine (of_k _ _ r _ HR7.out).mono ?_
  rintro e w8 ⟨og', oc', rfl, ho, hg8⟩
  have o3 := ho.cell (j := 3) rfl
  have HG8 := Lib.hid (grownBy_trans HG7.out hg8)
  clear hg8
  go_wp2
  go_ret
  exact ⟨rfl, HG8.out⟩

end Go.Proofs.YtkipldmkdnjkaaaDoor
