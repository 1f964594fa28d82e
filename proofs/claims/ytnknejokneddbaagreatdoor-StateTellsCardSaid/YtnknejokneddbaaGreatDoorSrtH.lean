/- Go's own slices.Sort over numbers: where it cuts. -/
import Derived.Laws.Bits64
import Derived.Laws.Bits64b
import Derived.OpenShut
import Derived.Test.YtnknejokneddbaaGreatDoorSrtF
import Derived.Test.YtnknejokneddbaaGreatDoorRefPa
import Derived.Test.YtnknejokneddbaaGreatDoorShelg
/-! SrtG -/
namespace Go.Proofs.YtnknejokneddbaaGreatDoor
open Go.RowKit Go.Sort

/-- A row of numbers that is read, beside a box that counts. -/
structure PvU (w : World) (blk n : Nat) (d : Array Int) (bs s : Nat) (t : TypeId) : Prop where
 row : ∀ i, i < n → w.cell? ⟨blk, i, none⟩ = some (.int .u32 d[i]!)
 box : BoxV w bs [.int .i64 (s : Int)] t
 ne : bs ≠ blk
section
variable {w : World} {blk n bs s : Nat} {d : Array Int} {t : TypeId}
theorem PvU.drewN (h : PvU w blk n d bs s t) (q : Nat) : PvU (w.drewN q) blk n d bs s t := ⟨fun i hi => h.row i hi, h.box.calm (grownBy_drewN w q none), h.ne⟩
theorem PvU.set (h : PvU w blk n d bs s t) (r : Nat) : PvU (w.setCell ⟨bs, 0, none⟩ (.int .i64 (r : Int))) blk n d bs r t :=
 ⟨fun i hi => World.grownBy.cell (grownBy_setCell w ⟨bs, 0, none⟩ _) (h.row i hi) (by have := h.ne; simp only [ne_eq, Option.some.injEq]; omega), h.box.set 0 _, h.ne⟩
end

set_option maxRecDepth 8000 in
set_option maxHeartbeats 8000000 in
theorem ord2_c (blk n c a b bs s : Nat) (t : TypeId) (d : Array Int) (w : World) (h : PvU w blk n d bs s t) (ha : a < n) (hb : b < n) (hs : s ≤ 100) :
  Calls Tryz.prog 208 #[.slice (some ⟨blk, 0, none⟩) n c, .int .i64 a, .int .i64 b, .pointer (some ⟨bs, 0, none⟩)] w fun e w' =>
   ∃ x y s' : Nat, e = .returned (.tuple #[.int .i64 x, .int .i64 y]) ∧ (x = a ∧ y = b ∨ x = b ∧ y = a) ∧ s' ≤ s + 1 ∧ PvU w' blk n d bs s' t ∧ w.grownBy w' (some bs) := by
 have cx := h.row a ha
 have cy := h.row b hb
 have HV := Lib.hid (fun q => h.drewN q)
 have HG := Lib.hid (fun q => grownBy_drewN w q (some bs))
 clear h
 have HLC := Lib.hid (fun r h W => lessU_c d[b]! d[a]! r W h)
 have a_0 : (0 : Int) ≤ a := by omega
 have a_1 : (a : Int) < n := by omega
 have b_0 : (0 : Int) ≤ b := by omega
 have b_1 : (b : Int) < n := by omega
 cases hl : ltInt d[b]! d[a]! with
 | true =>
  have HLT := fun W => HLC.out true hl W
  clear hl HLC
  obtain ⟨x, hxe⟩ : ∃ x, d[a]! = x := ⟨_, rfl⟩
  obtain ⟨y, hye⟩ : ∃ y, d[b]! = y := ⟨_, rfl⟩
  rw [hxe] at cx HLT
  rw [hye] at cy HLT
  clear hxe hye
  go_enter Tryz.func208, Tryz.ntmps208
  go_upto_region 1 with fail
  go_quiet (first | (go_at_call 79; refine Calls.quiet_of_same (HLT _)))
  have HV2 := Lib.hid (HV.out nq)
  have HG2 := Lib.hid (HG.out nq)
  clear HLT cx cy HV HG
  generalize World.drewN _ nq = wk at *
  clear nq
  have bc := HV2.out.box.cell (k := 0) rfl
  have bf := HV2.out.box.free 0
  have HV3 := Lib.hid (HV2.out.set (s + 1))
  obtain ⟨s1, hs1⟩ : ∃ s1, s + 1 = s1 := ⟨_, rfl⟩
  have es : (s : Int) + 1 = (s1 : Int) := by omega
  have ws : IntKind.i64.wrap (s1 : Int) = s1 := IntWalk.i64_in _ (by omega)
  rw [hs1] at HV3
  have HS := Lib.hid hs1
  clear hs1
  go_wp2
  go_ret2
  exact ⟨b, a, s1, rfl, Or.inr ⟨rfl, rfl⟩, by have := HS.out; omega, HV3.out, grownBy_trans HG2.out (grownBy_setCell wk ⟨bs, 0, none⟩ _)⟩
 | false =>
  have HLT := fun W => HLC.out false hl W
  clear hl HLC
  obtain ⟨x, hxe⟩ : ∃ x, d[a]! = x := ⟨_, rfl⟩
  obtain ⟨y, hye⟩ : ∃ y, d[b]! = y := ⟨_, rfl⟩
  rw [hxe] at cx HLT
  rw [hye] at cy HLT
  clear hxe hye
  go_enter Tryz.func208, Tryz.ntmps208
  go_upto_region 1 with fail
  go_quiet (first | (go_at_call 79; refine Calls.quiet_of_same (HLT _)))
  have HV2 := Lib.hid (HV.out nq)
  have HG2 := Lib.hid (HG.out nq)
  go_wp2
  go_ret2
  exact ⟨a, b, s, rfl, Or.inl ⟨rfl, rfl⟩, Nat.le_succ _, HV2.out, HG2.out⟩

set_option maxRecDepth 8000 in
set_option maxHeartbeats 8000000 in
theorem med_c (blk n c a b k bs s : Nat) (t : TypeId) (d : Array Int) (w : World) (h : PvU w blk n d bs s t) (ha : a < n) (hb : b < n) (hk : k < n) (hs : s ≤ 90) :
  Calls Tryz.prog 205 #[.slice (some ⟨blk, 0, none⟩) n c, .int .i64 a, .int .i64 b, .int .i64 k, .pointer (some ⟨bs, 0, none⟩)] w fun e w' =>
   ∃ m s' : Nat, e = .returned (.int .i64 m) ∧ (m = a ∨ m = b ∨ m = k) ∧ s' ≤ s + 3 ∧ PvU w' blk n d bs s' t ∧ w.grownBy w' (some bs) := by
 have H := Lib.hid h
 clear h
 go_enter Tryz.func205, Tryz.ntmps205
 go_wp2_with fail
 refine (ord2_c blk n c a b bs s t d w H.out ha hb (by omega)).mono ?_
 rintro e w1 ⟨x1, y1, s1, rfl, h1, hs1, v1, g1⟩
 have V1 := Lib.hid v1
 have G1 := Lib.hid g1
 have X1 := Lib.hid h1
 have S1 := Lib.hid hs1
 clear v1 g1 h1 hs1
 go_wp2_with fail
 refine (ord2_c blk n c y1 k bs s1 t d w1 V1.out (by have := X1.out; omega) hk (by have := S1.out; omega)).mono ?_
 rintro e w2 ⟨x2, y2, s2, rfl, h2, hs2, v2, g2⟩
 have V2 := Lib.hid v2
 have G2 := Lib.hid (grownBy_trans G1.out g2)
 have X2 := Lib.hid h2
 have S2 := Lib.hid hs2
 clear v2 g2 h2 hs2
 go_wp2_with fail
 refine (ord2_c blk n c x1 x2 bs s2 t d w2 V2.out (by have := X1.out; omega) (by have := X1.out; have := X2.out; omega) (by have := S1.out; have := S2.out; omega)).mono ?_
 rintro e w3 ⟨x3, y3, s3, rfl, h3, hs3, v3, g3⟩
 have V3 := Lib.hid v3
 have G3 := Lib.hid (grownBy_trans G2.out g3)
 have X3 := Lib.hid h3
 have S3 := Lib.hid hs3
 clear v3 g3 h3 hs3
 go_wp2
 go_ret
 exact ⟨y3, s3, rfl, by have := X1.out; have := X2.out; have := X3.out; omega, by have := S1.out; have := S2.out; have := S3.out; omega, V3.out, G3.out⟩

set_option maxRecDepth 8000 in
set_option maxHeartbeats 8000000 in
theorem meda_c (blk n c a bs s : Nat) (t : TypeId) (d : Array Int) (w : World) (h : PvU w blk n d bs s t) (h1 : 1 ≤ a) (ha : a + 1 < n) (hs : s ≤ 90) (hn : n ≤ 1000000) :
  Calls Tryz.prog 204 #[.slice (some ⟨blk, 0, none⟩) n c, .int .i64 a, .pointer (some ⟨bs, 0, none⟩)] w fun e w' =>
   ∃ m s' : Nat, e = .returned (.int .i64 m) ∧ (a ≤ m + 1 ∧ m ≤ a + 1) ∧ s' ≤ s + 3 ∧ PvU w' blk n d bs s' t ∧ w.grownBy w' (some bs) := by
 have H := Lib.hid h
 clear h
 obtain ⟨A, hA⟩ : ∃ A, a = A + 1 := ⟨a - 1, by omega⟩
 obtain ⟨B, hB⟩ : ∃ B, a + 1 = B := ⟨_, rfl⟩
 have eA : (a : Int) - 1 = (A : Int) := by omega
 have eB : (a : Int) + 1 = (B : Int) := by omega
 have wA : IntKind.i64.wrap (A : Int) = A := IntWalk.i64_in _ (by omega)
 have wB : IntKind.i64.wrap (B : Int) = B := IntWalk.i64_in _ (by omega)
 have HA := Lib.hid hA
 have HB := Lib.hid hB
 clear hA hB
 go_enter Tryz.func204, Tryz.ntmps204
 go_wp2_with fail
 refine (med_c blk n c A a B bs s t d w H.out (by have := HA.out; omega) (by omega) (by have := HB.out; omega) hs).mono ?_
 rintro e w1 ⟨m, s1, rfl, h2, hs1, v1, g1⟩
 have V1 := Lib.hid v1
 have G1 := Lib.hid g1
 have X1 := Lib.hid h2
 have S1 := Lib.hid hs1
 clear v1 g1 h2 hs1
 go_wp2
 go_ret
 exact ⟨m, s1, rfl, by have := X1.out; have := HA.out; have := HB.out; omega, S1.out, V1.out, G1.out⟩

theorem RowU.calm {w0 w w' : World} {blk n : Nat} {d : Array Int} (h : RowU w0 w blk n d) (hg : w.grownBy w' none) : RowU w0 w' blk n d := by
 refine ⟨fun i hi => ?_, h.size, grownBy_trans h.gr (hg.but _)⟩
 obtain ⟨h1, h2⟩ := h.holds i hi
 refine ⟨World.grownBy.cell hg h1 (by simp), ?_⟩
 rw [World.grownBy.frozen_far hg _ (World.block_lt_of_cell? _ _ h1) (by simp)]
 exact h2

set_option maxRecDepth 8000 in
set_option maxHeartbeats 16000000 in
theorem pivU_c (blk n c a b : Nat) (d : Array Int) (wz w : World) (h : RowU wz w blk n d) (hab : a < b) (hb : b ≤ n) (hn : n ≤ 1000000) :
  Calls Tryz.prog 190 #[.slice (some ⟨blk, 0, none⟩) n c, .int .i64 a, .int .i64 b] w fun e w' =>
   ∃ pv hint : Nat, e = .returned (.tuple #[.int .i64 pv, .int .i64 hint]) ∧ a ≤ pv ∧ pv < b ∧ hint ≤ 2 ∧ w.grownBy w' none := by
 have H := Lib.hid h
 clear h
 obtain ⟨l, hl⟩ : ∃ l, b - a = l := ⟨_, rfl⟩
 obtain ⟨q, hq⟩ : ∃ q, l / 4 = q := ⟨_, rfl⟩
 obtain ⟨i, hi⟩ : ∃ i, a + q = i := ⟨_, rfl⟩
 obtain ⟨j, hj⟩ : ∃ j, a + q * 2 = j := ⟨_, rfl⟩
 obtain ⟨k, hk⟩ : ∃ k, a + q * 3 = k := ⟨_, rfl⟩
 have el : (b : Int) - (a : Int) = (l : Int) := by omega
 have wl : IntKind.i64.wrap (l : Int) = l := IntWalk.i64_in _ (by omega)
 have eq4 : Int.tdiv (l : Int) 4 = (q : Int) := by
  rw [Int.tdiv_eq_ediv_of_nonneg (by omega)]
  omega
 have wq : IntKind.i64.wrap (q : Int) = q := IntWalk.i64_in _ (by omega)
 have e2 : (q : Int) * 2 = ((q * 2 : Nat) : Int) := by omega
 have e3 : (q : Int) * 3 = ((q * 3 : Nat) : Int) := by omega
 have w2 : IntKind.i64.wrap ((q : Int) * 2) = (q : Int) * 2 := IntWalk.i64_in _ (by omega)
 have w3 : IntKind.i64.wrap ((q : Int) * 3) = (q : Int) * 3 := IntWalk.i64_in _ (by omega)
 have ei : (a : Int) + (q : Int) = (i : Int) := by omega
 have ej : (a : Int) + (q : Int) * 2 = (j : Int) := by omega
 have ek : (a : Int) + (q : Int) * 3 = (k : Int) := by omega
 have wi : IntKind.i64.wrap (i : Int) = i := IntWalk.i64_in _ (by omega)
 have wj : IntKind.i64.wrap (j : Int) = j := IntWalk.i64_in _ (by omega)
 have wk : IntKind.i64.wrap (k : Int) = k := IntWalk.i64_in _ (by omega)
 have HL : Hid (b - a = l ∧ l / 4 = q ∧ a + q = i ∧ a + q * 2 = j ∧ a + q * 3 = k) := Lib.hid ⟨hl, hq, hi, hj, hk⟩
 clear hl hq hi hj hk e2 e3
 go_enter Tryz.func190, Tryz.ntmps190
 obtain ⟨bs, hbs⟩ : ∃ bs, w.heap.size = bs := ⟨_, rfl⟩
 have HBS := Lib.hid hbs
 clear hbs
 by_cases h8 : 8 ≤ l
 ·have k8 : (8 : Int) ≤ (l : Int) := by omega
  by_cases h50 : 50 ≤ l
  ·have k50 : (50 : Int) ≤ (l : Int) := by omega
   go_upto_region 3 with fail
   have cz := H.out.cell (i := a) (by omega) rfl
   have HB : Hid (w.heap.size ≤ bs) := Lib.hid (Nat.le_of_eq HBS.out)
   have GA : Hid (w.grownBy (w.alloc (.cells #[.int .i64 0] 3)) none) := Lib.hid (World.grownBy_alloc w _ none)
   have V0 : Hid (PvU (w.alloc (.cells #[.int .i64 0] 3)) blk n d bs 0 3) := Lib.hid (by
    rw [← HBS.out]
    exact ⟨fun i hi => World.grownBy.cell GA.out (H.out.cell hi rfl) (by simp), BoxV.new w [.int .i64 0] _, by have := World.block_lt_of_cell? _ _ cz; simp at this; omega⟩)
   rw [HBS.out]
   clear cz H HBS
   generalize w.alloc _ = w0 at *
   have G0 : Hid (w0.grownBy w0 (some bs)) := Lib.hid (World.grownBy.refl w0 _)
   go_wp2_with fail
   refine (meda_c blk n c i bs 0 _ d w0 V0.out (by have := HL.out; omega) (by have := HL.out; omega) (by omega) hn).mono ?_
   rintro e w1 ⟨m1, s1, rfl, hm, hs, v, g⟩
   have V1 := Lib.hid v
   have G1 := Lib.hid (grownBy_trans G0.out g)
   have M1 := Lib.hid hm
   have S1 := Lib.hid hs
   clear v g hm hs V0 G0
   go_wp2_with fail
   refine (meda_c blk n c j bs s1 _ d w1 V1.out (by have := HL.out; omega) (by have := HL.out; omega) (by have := S1.out; omega) hn).mono ?_
   rintro e w2 ⟨m2, s2, rfl, hm, hs, v, g⟩
   have V2 := Lib.hid v
   have G2 := Lib.hid (grownBy_trans G1.out g)
   have M2 := Lib.hid hm
   have S2 := Lib.hid hs
   clear v g hm hs V1 G1
   go_wp2_with fail
   refine (meda_c blk n c k bs s2 _ d w2 V2.out (by have := HL.out; omega) (by have := HL.out; omega) (by have := S1.out; have := S2.out; omega) hn).mono ?_
   rintro e w3 ⟨m3, s3, rfl, hm, hs, v, g⟩
   have V3 := Lib.hid v
   have G3 := Lib.hid (grownBy_trans G2.out g)
   have M3 := Lib.hid hm
   have S3 := Lib.hid hs
   clear v g hm hs V2 G2
   go_wp2_with fail
   refine (med_c blk n c m1 m2 m3 bs s3 _ d w3 V3.out (by have := HL.out; have := M1.out; omega) (by have := HL.out; have := M2.out; omega) (by have := HL.out; have := M3.out; omega) (by have := S1.out; have := S2.out; have := S3.out; omega)).mono ?_
   rintro e w4 ⟨m4, s4, rfl, hm, hs, v, g⟩
   have V4 := Lib.hid v
   have G4 := Lib.hid (grownBy_trans G3.out g)
   have M4 := Lib.hid hm
   have S4 := Lib.hid hs
   clear v g hm hs V3 G3
   have bc := V4.out.box.cell (k := 0) rfl
   have HG := Lib.hid (grownBy_new GA.out G4.out HB.out)
   have HJ1 : Hid (a ≤ m4 ∧ m4 < b) := Lib.hid (by have := HL.out; have := M1.out; have := M2.out; have := M3.out; have := M4.out; omega)
   clear V4 G4 GA HB
   by_cases z0 : s4 = 0
   ·subst z0
    go_wp2
    go_ret2
    exact ⟨m4, 1, rfl, HJ1.out.1, HJ1.out.2, by omega, HG.out⟩
   ·by_cases z12 : s4 = 12
    ·subst z12
     go_wp2
     go_ret2
     exact ⟨m4, 2, rfl, HJ1.out.1, HJ1.out.2, by omega, HG.out⟩
    ·have n0 : ¬ (s4 : Int) = 0 := by omega
     have n12 : ¬ (s4 : Int) = 12 := by omega
     go_wp2
     go_ret2
     exact ⟨m4, 0, rfl, HJ1.out.1, HJ1.out.2, by omega, HG.out⟩
  ·have k50 : ¬ (50 : Int) ≤ (l : Int) := by omega
   go_upto_region 3 with fail
   have cz := H.out.cell (i := a) (by omega) rfl
   have HB : Hid (w.heap.size ≤ bs) := Lib.hid (Nat.le_of_eq HBS.out)
   have GA : Hid (w.grownBy (w.alloc (.cells #[.int .i64 0] 3)) none) := Lib.hid (World.grownBy_alloc w _ none)
   have V0 : Hid (PvU (w.alloc (.cells #[.int .i64 0] 3)) blk n d bs 0 3) := Lib.hid (by
    rw [← HBS.out]
    exact ⟨fun i hi => World.grownBy.cell GA.out (H.out.cell hi rfl) (by simp), BoxV.new w [.int .i64 0] _, by have := World.block_lt_of_cell? _ _ cz; simp at this; omega⟩)
   rw [HBS.out]
   clear cz H HBS
   generalize w.alloc _ = w0 at *
   have G0 : Hid (w0.grownBy w0 (some bs)) := Lib.hid (World.grownBy.refl w0 _)
   go_wp2_with fail
   refine (med_c blk n c i j k bs 0 _ d w0 V0.out (by have := HL.out; omega) (by have := HL.out; omega) (by have := HL.out; omega) (by omega)).mono ?_
   rintro e w1 ⟨m1, s1, rfl, hm, hs, v, g⟩
   have V1 := Lib.hid v
   have G1 := Lib.hid (grownBy_trans G0.out g)
   have M1 := Lib.hid hm
   have S1 := Lib.hid hs
   clear v g hm hs V0 G0
   have bc := V1.out.box.cell (k := 0) rfl
   have HG := Lib.hid (grownBy_new GA.out G1.out HB.out)
   have HJ1 : Hid (a ≤ m1 ∧ m1 < b) := Lib.hid (by have := HL.out; have := M1.out; omega)
   clear V1 G1 GA HB
   by_cases z0 : s1 = 0
   ·subst z0
    go_wp2
    go_ret2
    exact ⟨m1, 1, rfl, HJ1.out.1, HJ1.out.2, by omega, HG.out⟩
   ·by_cases z12 : s1 = 12
    ·subst z12
     go_wp2
     go_ret2
     exact ⟨m1, 2, rfl, HJ1.out.1, HJ1.out.2, by omega, HG.out⟩
    ·have n0 : ¬ (s1 : Int) = 0 := by omega
     have n12 : ¬ (s1 : Int) = 12 := by omega
     go_wp2
     go_ret2
     exact ⟨m1, 0, rfl, HJ1.out.1, HJ1.out.2, by omega, HG.out⟩
 ·have k8 : ¬ (8 : Int) ≤ (l : Int) := by omega
  go_upto_region 3 with fail
  have cz := H.out.cell (i := a) (by omega) rfl
  have HB : Hid (w.heap.size ≤ bs) := Lib.hid (Nat.le_of_eq HBS.out)
  have GA : Hid (w.grownBy (w.alloc (.cells #[.int .i64 0] 3)) none) := Lib.hid (World.grownBy_alloc w _ none)
  have V0 : Hid (PvU (w.alloc (.cells #[.int .i64 0] 3)) blk n d bs 0 3) := Lib.hid (by
   rw [← HBS.out]
   exact ⟨fun i hi => World.grownBy.cell GA.out (H.out.cell hi rfl) (by simp), BoxV.new w [.int .i64 0] _, by have := World.block_lt_of_cell? _ _ cz; simp at this; omega⟩)
  rw [HBS.out]
  clear cz H HBS
  generalize w.alloc _ = w0 at *
  have G0 : Hid (w0.grownBy w0 (some bs)) := Lib.hid (World.grownBy.refl w0 _)
  have bc := V0.out.box.cell (k := 0) rfl
  go_wp2
  go_ret2
  exact ⟨j, 1, rfl, by have := HL.out; omega, by have := HL.out; omega, by omega, GA.out⟩

end Go.Proofs.YtnknejokneddbaaGreatDoor
/-! SrtH -/
namespace Go.Proofs.YtnknejokneddbaaGreatDoor
open Go.RowKit Go.Sort

set_option maxRecDepth 8000 in
theorem nextU_c (l : Nat) (w : World) (h0 : 0 < l) (hn : l ≤ 1000000) :
  Calls Tryz.prog 168 #[.int .i64 l] w fun e w' => (∃ m : Nat, e = .returned (.int .u64 m) ∧ 0 < m ∧ m ≤ 2 * l) ∧ w' = w := by
 have wl : IntKind.u64.wrap (l : Int) = l := by rw [IntKind.wrap_u64]; omega
 have HL : Hid (∀ W, Calls Tryz.prog 93 #[.int .u64 (l : Int)] W fun e w' => e = .returned (.int .i64 (bitsLen l : Nat)) ∧ w' = W) := Lib.hid fun W => by
  have h := Tryz.bits_Len (l : Int) W (by omega) (by omega)
  rwa [Int.toNat_natCast, bitLen_eq _ (by omega)] at h
 have HP := Lib.hid (two_pow_bitsLen_le h0)
 obtain ⟨k, hk⟩ : ∃ k, bitsLen l = k := ⟨_, rfl⟩
 rw [hk] at HL HP
 clear hk
 go_enter Tryz.func168, Tryz.ntmps168
 go_wp2_with fail
 refine (HL.out w).mono ?_
 rintro e w5 ⟨rfl, rfl⟩
 have hk64 : k ≤ 63 := by
  rcases Nat.lt_or_ge 63 k with h | h
  ·have h1 := Nat.pow_le_pow_right (n := 2) (by omega) h
   have h2 := HP.out
   have h3 : (2 : Nat) ^ Nat.succ 63 = 18446744073709551616 := by decide
   omega
  ·exact h
 have e : IntKind.u64.wrap ((2 : Int) ^ min k 64) = ((2 ^ k : Nat) : Int) := by
  rw [Nat.min_eq_left (by omega), IntKind.wrap_u64]
  have h2 := HP.out
  have h4 : (2 : Int) ^ k = ((2 ^ k : Nat) : Int) := by simp
  rw [h4]
  generalize (2 : Nat) ^ k = M at h2 ⊢
  omega
 have HE := Lib.hid e
 have HM := Lib.hid (Nat.two_pow_pos k)
 clear e hk64
 go_wp2
 rw [HE.out]
 go_ret
 exact ⟨⟨2 ^ k, rfl, HM.out, HP.out⟩, rfl⟩

theorem bits_nat (op : BinOp) (a b : Int) : ∃ y : Nat, bits op .u64 a b = (y : Int) ∧ y < 18446744073709551616 := by
 have h := wf_bits op .u64 a b
 generalize bits op .u64 a b = z at h ⊢
 simp [Lit.wf, IntKind.min, IntKind.max, IntKind.signed, IntKind.bits] at h
 exact ⟨z.toNat, by omega, by omega⟩

set_option maxRecDepth 8000 in
theorem xorU_c (bs : Nat) (x : Nat) (t : TypeId) (w : World) (h : BoxV w bs [.int .u64 (x : Int)] t) :
  Calls Tryz.prog 169 #[.pointer (some ⟨bs, 0, none⟩)] w fun e w' => ∃ y : Nat, e = .returned (.int .u64 (y : Int)) ∧ y < 18446744073709551616 ∧ BoxV w' bs [.int .u64 (y : Int)] t ∧ w.grownBy w' (some bs) := by
 have hc := h.cell (k := 0) rfl
 have hf := h.free 0
 have H := Lib.hid h
 clear h
 go_enter Tryz.func169, Tryz.ntmps169
 go_upto_region 1 with fail
 go_region
 obtain ⟨y1, e1, b1⟩ := bits_nat .xor (x : Int) (IntKind.u64.wrap ((x : Int) * 8192))
 rw [e1]
 have H1 : Hid (BoxV (World.drew _) bs [.int .u64 (y1 : Int)] t) := Lib.hid ((H.out.set 0 (.int .u64 (y1 : Int))).calm (grownBy_drewN _ 1 none))
 have G1 : Hid (w.grownBy (World.drew _) (some bs)) := Lib.hid (grownBy_trans (grownBy_setCell w ⟨bs, 0, none⟩ (.int .u64 (y1 : Int))) (grownBy_drewN _ 1 _))
 clear e1 hc hf H
 generalize World.drew _ = w1 at *
 have hc := H1.out.cell (k := 0) rfl
 have hf := H1.out.free 0
 go_upto_region 2 with fail
 go_region
 obtain ⟨y2, e2, b2⟩ := bits_nat .xor (y1 : Int) ((y1 : Int) / 128)
 rw [e2]
 have H2 : Hid (BoxV (World.drew _) bs [.int .u64 (y2 : Int)] t) := Lib.hid ((H1.out.set 0 (.int .u64 (y2 : Int))).calm (grownBy_drewN _ 1 none))
 have G2 : Hid (w.grownBy (World.drew _) (some bs)) := Lib.hid (grownBy_trans G1.out (grownBy_trans (grownBy_setCell w1 ⟨bs, 0, none⟩ (.int .u64 (y2 : Int))) (grownBy_drewN _ 1 _)))
 clear e2 hc hf H1 G1
 generalize World.drew _ = w2 at *
 have hc := H2.out.cell (k := 0) rfl
 have hf := H2.out.free 0
 go_upto_region 3 with fail
 go_region
 obtain ⟨y3, e3, b3⟩ := bits_nat .xor (y2 : Int) (IntKind.u64.wrap ((y2 : Int) * 131072))
 rw [e3]
 have H3 : Hid (BoxV (World.drew _) bs [.int .u64 (y3 : Int)] t) := Lib.hid ((H2.out.set 0 (.int .u64 (y3 : Int))).calm (grownBy_drewN _ 1 none))
 have G3 : Hid (w.grownBy (World.drew _) (some bs)) := Lib.hid (grownBy_trans G2.out (grownBy_trans (grownBy_setCell w2 ⟨bs, 0, none⟩ (.int .u64 (y3 : Int))) (grownBy_drewN _ 1 _)))
 clear e3 hc hf H2 G2
 generalize World.drew _ = w3 at *
 have hc := H3.out.cell (k := 0) rfl
 have hf := H3.out.free 0
 go_wp2
 go_ret
 exact ⟨y3, rfl, b3, H3.out, G3.out⟩

theorem BoxV.far {w w' : World} {g : Nat} {vs : List Value} {t : TypeId} {r : Option Nat} (h : BoxV w g vs t) (hg : w.grownBy w' r) (hne : some g ≠ r) : BoxV w' g vs t := (hg.block g h.lt hne).trans h
theorem RowU.lt {w0 w : World} {blk n : Nat} {d : Array Int} (h : RowU w0 w blk n d) (hn : 0 < n) : blk < w.heap.size := by
 have := World.block_lt_of_cell? _ _ (h.cell hn rfl)
 exact this
theorem RowU.far {w0 w w' : World} {blk n bs : Nat} {d : Array Int} (h : RowU w0 w blk n d) (hg : w.grownBy w' (some bs)) (hne : bs ≠ blk) (hs : w0.heap.size ≤ bs) : RowU w0 w' blk n d := by
 have hn : ∀ i : Nat, some (Addr.block ⟨blk, i, none⟩) ≠ some bs := fun i e => hne (Option.some.inj e).symm
 refine ⟨fun i hi => ?_, h.size, h.gr.andThen hg (fun j e => by cases e; exact Or.inl hs)⟩
 obtain ⟨h1, h2⟩ := h.holds i hi
 refine ⟨World.grownBy.cell hg h1 (hn _), ?_⟩
 rw [World.grownBy.frozen_far hg _ (World.block_lt_of_cell? _ _ h1) (hn _)]
 exact h2
theorem permU_swp {d : Array Int} {a b i j : Nat} (hi : a ≤ i) (hi2 : i < b) (hj : a ≤ j) (hj2 : j < b) (hb : b ≤ d.size) : PermIn a b d (swp d i j) := swp_permIn d a b i j hi hi2 hj hj2 hb
set_option maxRecDepth 8000 in
set_option maxHeartbeats 16000000 in
theorem brkU_c (blk n c a b : Nat) (d : Array Int) (wz w : World) (h : RowU wz w blk n d) (hab : a + 12 < b) (hb : b ≤ n) (hn : n ≤ 1000000) :
  Calls Tryz.prog 189 #[.slice (some ⟨blk, 0, none⟩) n c, .int .i64 a, .int .i64 b] w fun e w' => e = .returned (.tuple #[]) ∧ ∃ d' : Array Int, PermIn a b d d' ∧ RowU wz w' blk n d' := by
 have H := Lib.hid h
 clear h
 obtain ⟨l, hl⟩ : ∃ l, b - a = l := ⟨_, rfl⟩
 obtain ⟨q, hq⟩ : ∃ q, l / 4 = q := ⟨_, rfl⟩
 obtain ⟨j, hj⟩ : ∃ j, a + q * 2 = j := ⟨_, rfl⟩
 obtain ⟨j0, hj0⟩ : ∃ j0, a + q * 2 - 1 = j0 := ⟨_, rfl⟩
 have el : (b : Int) - (a : Int) = (l : Int) := by omega
 have wl : IntKind.i64.wrap (l : Int) = l := IntWalk.i64_in _ (by omega)
 have wlu : IntKind.u64.wrap (l : Int) = l := by rw [IntKind.wrap_u64]; omega
 have eq4 : Int.tdiv (l : Int) 4 = (q : Int) := by
  rw [Int.tdiv_eq_ediv_of_nonneg (by omega)]
  omega
 have wq : IntKind.i64.wrap (q : Int) = q := IntWalk.i64_in _ (by omega)
 have w2 : IntKind.i64.wrap ((q : Int) * 2) = (q : Int) * 2 := IntWalk.i64_in _ (by omega)
 have ej : (a : Int) + (q : Int) * 2 = (j : Int) := by omega
 have wj : IntKind.i64.wrap (j : Int) = j := IntWalk.i64_in _ (by omega)
 have ej0 : (j : Int) - 1 = (j0 : Int) := by omega
 have wj0 : IntKind.i64.wrap (j0 : Int) = j0 := IntWalk.i64_in _ (by omega)
 obtain ⟨j1, hj1⟩ : ∃ j1, j + 1 = j1 := ⟨_, rfl⟩
 have ej1 : (j : Int) + 1 = (j1 : Int) := by omega
 have wj1 : IntKind.i64.wrap (j1 : Int) = j1 := IntWalk.i64_in _ (by omega)
 have k8 : (8 : Int) ≤ (l : Int) := by omega
 have HL : Hid (b - a = l ∧ l / 4 = q ∧ a + q * 2 = j ∧ j0 + 1 = j ∧ a ≤ j0 ∧ j + 1 < b ∧ j + 1 = j1) := Lib.hid ⟨hl, hq, hj, by omega, by omega, by omega, hj1⟩
 clear hl hq hj hj0 hj1
 go_enter Tryz.func189, Tryz.ntmps189
 obtain ⟨bs, hbs⟩ : ∃ bs, w.heap.size = bs := ⟨_, rfl⟩
 have HNE : Hid (bs ≠ blk ∧ wz.heap.size ≤ bs) := Lib.hid (by
  have h1 := H.out.lt (by omega)
  have h2 := H.out.gr.size
  omega)
 go_upto_region 3 with fail
 have HK0 : Hid (RowU wz (w.alloc (.cells #[.int .u64 (l : Int)] 203)) blk n d) := Lib.hid (H.out.calm (World.grownBy_alloc w _ none))
 have HB0 : Hid (BoxV (w.alloc (.cells #[.int .u64 (l : Int)] 203)) bs [.int .u64 (l : Int)] 203) := Lib.hid (by rw [← hbs]; exact BoxV.new w [.int .u64 (l : Int)] _)
 try rw [hbs]
 clear hbs H
 generalize w.alloc _ = w1 at *
 go_wp2_with fail
 refine (nextU_c l w1 (by have := HL.out; omega) (by have := HL.out; omega)).mono ?_
 rintro e w2 ⟨⟨m, rfl, hm0, hm2⟩, hww⟩
 subst w2
 obtain ⟨M, hM⟩ : ∃ M, m = M + 1 := ⟨m - 1, by omega⟩
 have eM : (m : Int) - 1 = (M : Int) := by omega
 have wM : IntKind.u64.wrap (M : Int) = M := by rw [IntKind.wrap_u64]; have := HL.out; omega
 have HM : Hid (M < 2 * l) := Lib.hid (by omega)
 clear hM hm0 hm2
 go_wp2
 go_loopw [9, 10] (fun vi _ wr => ∃ (i x : Nat) (dk : Array Int), vi = .int .i64 i ∧ j0 ≤ i ∧ i ≤ j1 + 1 ∧ Hid (RowU wz wr blk n dk) ∧ Hid (BoxV wr bs [.int .u64 (x : Int)] 203) ∧ Hid (PermIn a b d dk)) (fun vi _ _ => n + 3 - (intOf vi).toNat)
 case atStart => exact ⟨j0, l, d, rfl, Nat.le_refl _, by have := HL.out; omega, HK0, HB0, Lib.hid (permIn_refl d a b)⟩
 case round =>
  clear HK0 HB0
  obtain ⟨i, x, dk, rfl, hi0, hi1, HK, HB, HP⟩ := hrel
  by_cases hij : i ≤ j1
  ·have kij : (i : Int) ≤ (j1 : Int) := by omega
   have ib : i < b := by have := HL.out; omega
   have i_0 : (0 : Int) ≤ i := by omega
   have i_1 : (i : Int) < n := by omega
   go_wp2_with fail
   refine (xorU_c bs x _ wr HB.out).mono ?_
   rintro e w5 ⟨y, rfl, hy, h5, g5⟩
   have HB3 := Lib.hid h5
   have HK3 := Lib.hid (HK.out.far g5 HNE.out.1 HNE.out.2)
   clear h5 g5 HB HK
   obtain ⟨o, ho⟩ : ∃ o, y &&& M = o := ⟨_, rfl⟩
   have ea : bits .and .u64 (y : Int) (M : Int) = (o : Int) := by
    rw [bits_and_u64_nat y M hy (by have := HM.out; have := HL.out; omega), ho]
   have hoM : o ≤ M := by rw [← ho]; exact Nat.and_le_right
   have HO : Hid (o < 2 * l) := Lib.hid (by have := HM.out; omega)
   have wo : IntKind.i64.wrap (o : Int) = o := IntWalk.i64_in _ (by have := HO.out; have := HL.out; omega)
   have HOB := HO.out
   have HLL : l ≤ n := by have := HL.out; omega
   clear ho hoM
   by_cases hol : l ≤ o
   ·have ko : (l : Int) ≤ (o : Int) := by omega
    obtain ⟨o2, ho2⟩ : ∃ o2, o - l = o2 := ⟨_, rfl⟩
    have eo : (o : Int) - (l : Int) = (o2 : Int) := by omega
    have wo2 : IntKind.i64.wrap (o2 : Int) = o2 := IntWalk.i64_in _ (by omega)
    have ob : o2 < l := by omega
    clear ho2
    obtain ⟨f, hf⟩ : ∃ f, a + o2 = f := ⟨_, rfl⟩
    have ef : (a : Int) + (o2 : Int) = (f : Int) := by omega
    have wf : IntKind.i64.wrap (f : Int) = f := IntWalk.i64_in _ (by omega)
    have HF : Hid (a ≤ f ∧ f < b) := Lib.hid ⟨by omega, by have := HL.out; omega⟩
    have f_0 : (0 : Int) ≤ f := by omega
    have f_1 : (f : Int) < n := by have := HF.out; omega
    have f_2 : f < n := by have := HF.out; omega
    clear hf
    by_cases hif : i = f
    ·subst hif
     have hx := HK3.out.cell (i := i) (by omega) rfl
     have fx := HK3.out.free (i := i) (by omega)
     have HSW := Lib.hid ((HK3.out.drewN 1).swap (i := i) (j := i) (by omega) (by omega) rfl rfl)
     have HGS := Lib.hid (fun x : Int => grownBy_trans (grownBy_trans (grownBy_setCell w5 ⟨blk, i, none⟩ (.int .u32 x)) (grownBy_setCell _ ⟨blk, i, none⟩ (.int .u32 x))) (grownBy_drewN _ 1 (some blk)))
     generalize dk[i]! = x at *
     go_wp2
     go_region
     have HB4 : Hid (BoxV (World.drew _) bs [.int .u64 (y : Int)] 203) := Lib.hid (HB3.out.far (HGS.out x) (by have := HNE.out; simp only [ne_eq, Option.some.injEq]; omega))
     go_wp2
     exact ⟨⟨i + 1, y, _, by go_num, by omega, by have := HL.out; omega, HSW, HB4, Lib.hid (permIn_trans _ _ _ a b HP.out (permU_swp (by have := HL.out; omega) (by have := HL.out; omega) (by omega) (by have := HF.out; omega) (by have := HK3.out.size; omega)))⟩, by first | (simp [intOf]; done) | (simp [intOf]; omega)⟩
    ·have g1 : ¬ i = f := hif
     have g2 : ¬ f = i := fun e => hif e.symm
     have hx := HK3.out.cell (i := i) (by omega) rfl
     have hy := HK3.out.cell (i := f) (by omega) rfl
     have fx := HK3.out.free (i := i) (by omega)
     have fy := HK3.out.free (i := f) (by omega)
     have HSW := Lib.hid ((HK3.out.drewN 1).swap (i := i) (j := f) (by omega) (by omega) rfl rfl)
     have HGS := Lib.hid (fun x y : Int => grownBy_trans (grownBy_trans (grownBy_setCell w5 ⟨blk, i, none⟩ (.int .u32 y)) (grownBy_setCell _ ⟨blk, f, none⟩ (.int .u32 x))) (grownBy_drewN _ 1 (some blk)))
     generalize dk[i]! = x at *
     generalize dk[f]! = z at *
     go_wp2
     go_region
     have HB4 : Hid (BoxV (World.drew _) bs [.int .u64 (y : Int)] 203) := Lib.hid (HB3.out.far (HGS.out x z) (by have := HNE.out; simp only [ne_eq, Option.some.injEq]; omega))
     go_wp2
     exact ⟨⟨i + 1, y, _, by go_num, by omega, by have := HL.out; omega, HSW, HB4, Lib.hid (permIn_trans _ _ _ a b HP.out (permU_swp (by have := HL.out; omega) (by have := HL.out; omega) (by have := HF.out; omega) (by have := HF.out; omega) (by have := HK3.out.size; omega)))⟩, by first | (simp [intOf]; done) | (simp [intOf]; omega)⟩
   ·have ko : ¬ (l : Int) ≤ (o : Int) := by omega
    obtain ⟨o2, ho2⟩ : ∃ o2, o = o2 := ⟨_, rfl⟩
    subst ho2
    have ob : o < l := by omega
    obtain ⟨f, hf⟩ : ∃ f, a + o = f := ⟨_, rfl⟩
    have ef : (a : Int) + (o : Int) = (f : Int) := by omega
    have wf : IntKind.i64.wrap (f : Int) = f := IntWalk.i64_in _ (by omega)
    have HF : Hid (a ≤ f ∧ f < b) := Lib.hid ⟨by omega, by have := HL.out; omega⟩
    have f_0 : (0 : Int) ≤ f := by omega
    have f_1 : (f : Int) < n := by have := HF.out; omega
    have f_2 : f < n := by have := HF.out; omega
    clear hf
    by_cases hif : i = f
    ·subst hif
     have hx := HK3.out.cell (i := i) (by omega) rfl
     have fx := HK3.out.free (i := i) (by omega)
     have HSW := Lib.hid ((HK3.out.drewN 1).swap (i := i) (j := i) (by omega) (by omega) rfl rfl)
     have HGS := Lib.hid (fun x : Int => grownBy_trans (grownBy_trans (grownBy_setCell w5 ⟨blk, i, none⟩ (.int .u32 x)) (grownBy_setCell _ ⟨blk, i, none⟩ (.int .u32 x))) (grownBy_drewN _ 1 (some blk)))
     generalize dk[i]! = x at *
     go_wp2
     go_region
     have HB4 : Hid (BoxV (World.drew _) bs [.int .u64 (y : Int)] 203) := Lib.hid (HB3.out.far (HGS.out x) (by have := HNE.out; simp only [ne_eq, Option.some.injEq]; omega))
     go_wp2
     exact ⟨⟨i + 1, y, _, by go_num, by omega, by have := HL.out; omega, HSW, HB4, Lib.hid (permIn_trans _ _ _ a b HP.out (permU_swp (by have := HL.out; omega) (by have := HL.out; omega) (by omega) (by have := HF.out; omega) (by have := HK3.out.size; omega)))⟩, by first | (simp [intOf]; done) | (simp [intOf]; omega)⟩
    ·have g1 : ¬ i = f := hif
     have g2 : ¬ f = i := fun e => hif e.symm
     have hx := HK3.out.cell (i := i) (by omega) rfl
     have hy := HK3.out.cell (i := f) (by omega) rfl
     have fx := HK3.out.free (i := i) (by omega)
     have fy := HK3.out.free (i := f) (by omega)
     have HSW := Lib.hid ((HK3.out.drewN 1).swap (i := i) (j := f) (by omega) (by omega) rfl rfl)
     have HGS := Lib.hid (fun x y : Int => grownBy_trans (grownBy_trans (grownBy_setCell w5 ⟨blk, i, none⟩ (.int .u32 y)) (grownBy_setCell _ ⟨blk, f, none⟩ (.int .u32 x))) (grownBy_drewN _ 1 (some blk)))
     generalize dk[i]! = x at *
     generalize dk[f]! = z at *
     go_wp2
     go_region
     have HB4 : Hid (BoxV (World.drew _) bs [.int .u64 (y : Int)] 203) := Lib.hid (HB3.out.far (HGS.out x z) (by have := HNE.out; simp only [ne_eq, Option.some.injEq]; omega))
     go_wp2
     exact ⟨⟨i + 1, y, _, by go_num, by omega, by have := HL.out; omega, HSW, HB4, Lib.hid (permIn_trans _ _ _ a b HP.out (permU_swp (by have := HL.out; omega) (by have := HL.out; omega) (by have := HF.out; omega) (by have := HF.out; omega) (by have := HK3.out.size; omega)))⟩, by first | (simp [intOf]; done) | (simp [intOf]; omega)⟩
  ·have kij : ¬ (i : Int) ≤ (j1 : Int) := by omega
   go_wp2
   go_end0
   exact ⟨rfl, dk, HP.out, HK.out⟩

end Go.Proofs.YtnknejokneddbaaGreatDoor
