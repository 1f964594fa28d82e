/- Package patch: all, equal, contains, among, ownLines, added, named, paths, Lines. -/
import Derived.Test.YtnknejokneddbaaGreatDoorPud
/-! Package patch: all. -/
namespace Go.Proofs.YtnknejokneddbaaGreatDoor
open Go.RowKit

theorem upto_all2 {α : Type} {l : List α} {d : α} {q : α → Prop} {n : Nat} (hn : l.length = n) (h : ∀ j, j < n → q (l[j]?.getD d)) : ∀ x ∈ l, q x := fun x hx => by
 obtain ⟨j, hj, e⟩ := mem_get (d := d) hx
 rw [← e]
 exact h j (by rw [← hn]; exact hj)

set_option maxRecDepth 8000 in
set_option maxHeartbeats 8000000 in
theorem allPath_c (l : List ByteArray) (lo hi : Nat) (p : Option Addr) (n c : Nat) (q : ByteArray → Bool) (r : Bool) (w : World) (h : StrsAt w lo hi p n l) (hb : n ≤ 1000000)
  (hq : ∀ x ∈ l, ∀ W, w.grownBy W none → Calls Tryz.prog 123 #[.string x] W fun e w' => e = .returned (.bool (q x)) ∧ W.grownBy w' none) (hr : r = true ↔ ∀ x ∈ l, q x = true) :
  Calls Tryz.prog 122 #[.slice p n c, .func (.func 123) #[] #[]] w fun e w' => e = .returned (.bool r) ∧ w.grownBy w' none := by
 have HR := Lib.hid hr
 have H := Lib.hid h
 have HQ := Lib.hid hq
 have HLEN := Lib.hid h.len
 clear hr h hq
 go_enter Tryz.func122, Tryz.ntmps122
 go_wp2
 go_loopw [9] (fun i wr => ∃ k : Nat, k ≤ n ∧ i = .int .i64 k ∧ Hid (∀ j, j < k → q (l[j]?.getD ByteArray.empty) = true) ∧ Hid (w.grownBy wr none)) (fun i _ => n - (intOf i).toNat)
 case atStart => exact ⟨0, Nat.zero_le _, rfl, Lib.hid (fun j hj => absurd hj (Nat.not_lt_zero _)), Lib.hid (grownBy_refl _ _)⟩
 case round =>
  obtain ⟨k, hk, rfl, HU, HGW⟩ := hrel
  by_cases hkn : k < n
  ·have k0 : (0 : Int) ≤ k := by omega
   have k1 : (k : Int) < n := by omega
   obtain ⟨b, o, rfl, _, _, _, hc⟩ := (H.out.calm HGW.out).cell (by omega)
   have hx := hc k hkn
   have HM := Lib.hid (get_mem (d := ByteArray.empty) (show k < l.length by rw [HLEN.out]; exact hkn))
   have HU2 := Lib.hid (show q (l[k]?.getD ByteArray.empty) = true → ∀ j, j < k + 1 → q (l[j]?.getD ByteArray.empty) = true from fun h => upto_succ (q := fun j => q (l[j]?.getD ByteArray.empty) = true) HU.out h)
   clear hc HU
   generalize l[k]?.getD ByteArray.empty = x at *
   have HB0 := Lib.hid (show q x = false → r = false from fun h => no_false HR.out fun h2 => by rw [h2 x HM.out] at h; cases h)
   have HC1 := Lib.hid (HQ.out x HM.out wr HGW.out)
   have HG3 := HGW
   clear HGW
   cases hb : q x with
   | true =>
    rw [hb] at HC1
    have HU3 := Lib.hid (HU2.out hb)
    clear hb HB0 HU2
    go_wp2_with fail
    refine HC1.out.mono ?_
    rintro e w5 ⟨rfl, hg5⟩
    have HG5 := Lib.hid (grownBy_trans HG3.out hg5)
    clear hg5
    go_wp2
    exact ⟨⟨k + 1, by omega, by go_num, HU3, HG5⟩, by simp [intOf]; omega⟩
   | false =>
    rw [hb] at HC1
    obtain rfl : r = false := HB0.out hb
    clear hb HB0 HU2
    go_wp2_with fail
    refine HC1.out.mono ?_
    rintro e w5 ⟨rfl, hg5⟩
    have HG5 := Lib.hid (grownBy_trans HG3.out hg5)
    clear hg5
    go_wp2
    go_ret
    exact ⟨rfl, HG5.out⟩
  ·obtain rfl : n = k := by omega
   have k1 : ¬ ((n : Int) < n) := by omega
   obtain rfl : true = r := (HR.out.2 (upto_all2 HLEN.out HU.out)).symm
   go_wp2
   go_ret
   exact ⟨rfl, HGW.out⟩

set_option maxRecDepth 8000 in
set_option maxHeartbeats 8000000 in
theorem allLine_c (l : List ByteArray) (lo hi : Nat) (p : Option Addr) (n c : Nat) (q : ByteArray → Bool) (r : Bool) (w : World) (h : StrsAt w lo hi p n l) (hb : n ≤ 1000000)
  (hq : ∀ x ∈ l, ∀ W, w.grownBy W none → Calls Tryz.prog 157 #[.string x] W fun e w' => e = .returned (.bool (q x)) ∧ W.grownBy w' none) (hr : r = true ↔ ∀ x ∈ l, q x = true) :
  Calls Tryz.prog 122 #[.slice p n c, .func (.func 157) #[] #[]] w fun e w' => e = .returned (.bool r) ∧ w.grownBy w' none := by
 have HR := Lib.hid hr
 have H := Lib.hid h
 have HQ := Lib.hid hq
 have HLEN := Lib.hid h.len
 clear hr h hq
 go_enter Tryz.func122, Tryz.ntmps122
 go_wp2
 go_loopw [9] (fun i wr => ∃ k : Nat, k ≤ n ∧ i = .int .i64 k ∧ Hid (∀ j, j < k → q (l[j]?.getD ByteArray.empty) = true) ∧ Hid (w.grownBy wr none)) (fun i _ => n - (intOf i).toNat)
 case atStart => exact ⟨0, Nat.zero_le _, rfl, Lib.hid (fun j hj => absurd hj (Nat.not_lt_zero _)), Lib.hid (grownBy_refl _ _)⟩
 case round =>
  obtain ⟨k, hk, rfl, HU, HGW⟩ := hrel
  by_cases hkn : k < n
  ·have k0 : (0 : Int) ≤ k := by omega
   have k1 : (k : Int) < n := by omega
   obtain ⟨b, o, rfl, _, _, _, hc⟩ := (H.out.calm HGW.out).cell (by omega)
   have hx := hc k hkn
   have HM := Lib.hid (get_mem (d := ByteArray.empty) (show k < l.length by rw [HLEN.out]; exact hkn))
   have HU2 := Lib.hid (show q (l[k]?.getD ByteArray.empty) = true → ∀ j, j < k + 1 → q (l[j]?.getD ByteArray.empty) = true from fun h => upto_succ (q := fun j => q (l[j]?.getD ByteArray.empty) = true) HU.out h)
   clear hc HU
   generalize l[k]?.getD ByteArray.empty = x at *
   have HB0 := Lib.hid (show q x = false → r = false from fun h => no_false HR.out fun h2 => by rw [h2 x HM.out] at h; cases h)
   have HC1 := Lib.hid (HQ.out x HM.out wr HGW.out)
   have HG3 := HGW
   clear HGW
   cases hb : q x with
   | true =>
    rw [hb] at HC1
    have HU3 := Lib.hid (HU2.out hb)
    clear hb HB0 HU2
    go_wp2_with fail
    refine HC1.out.mono ?_
    rintro e w5 ⟨rfl, hg5⟩
    have HG5 := Lib.hid (grownBy_trans HG3.out hg5)
    clear hg5
    go_wp2
    exact ⟨⟨k + 1, by omega, by go_num, HU3, HG5⟩, by simp [intOf]; omega⟩
   | false =>
    rw [hb] at HC1
    obtain rfl : r = false := HB0.out hb
    clear hb HB0 HU2
    go_wp2_with fail
    refine HC1.out.mono ?_
    rintro e w5 ⟨rfl, hg5⟩
    have HG5 := Lib.hid (grownBy_trans HG3.out hg5)
    clear hg5
    go_wp2
    go_ret
    exact ⟨rfl, HG5.out⟩
  ·obtain rfl : n = k := by omega
   have k1 : ¬ ((n : Int) < n) := by omega
   obtain rfl : true = r := (HR.out.2 (upto_all2 HLEN.out HU.out)).symm
   go_wp2
   go_ret
   exact ⟨rfl, HGW.out⟩

set_option maxRecDepth 8000 in
set_option maxHeartbeats 8000000 in
theorem allApart_c (l : List ByteArray) (lo hi : Nat) (p : Option Addr) (n c : Nat) (q : ByteArray → Bool) (bx : Nat) (r : Bool) (w : World) (h : StrsAt w lo hi p n l) (hb : n ≤ 1000000)
  (hq : ∀ x ∈ l, ∀ W, w.grownBy W none → Calls Tryz.prog 124 #[.string x, .pointer (some ⟨bx, 0, none⟩)] W fun e w' => e = .returned (.bool (q x)) ∧ W.grownBy w' none) (hr : r = true ↔ ∀ x ∈ l, q x = true) :
  Calls Tryz.prog 122 #[.slice p n c, .func (.func 124) #[] #[.pointer (some ⟨bx, 0, none⟩)]] w fun e w' => e = .returned (.bool r) ∧ w.grownBy w' none := by
 have HR := Lib.hid hr
 have H := Lib.hid h
 have HQ := Lib.hid hq
 have HLEN := Lib.hid h.len
 clear hr h hq
 go_enter Tryz.func122, Tryz.ntmps122
 go_wp2
 go_loopw [9] (fun i wr => ∃ k : Nat, k ≤ n ∧ i = .int .i64 k ∧ Hid (∀ j, j < k → q (l[j]?.getD ByteArray.empty) = true) ∧ Hid (w.grownBy wr none)) (fun i _ => n - (intOf i).toNat)
 case atStart => exact ⟨0, Nat.zero_le _, rfl, Lib.hid (fun j hj => absurd hj (Nat.not_lt_zero _)), Lib.hid (grownBy_refl _ _)⟩
 case round =>
  obtain ⟨k, hk, rfl, HU, HGW⟩ := hrel
  by_cases hkn : k < n
  ·have k0 : (0 : Int) ≤ k := by omega
   have k1 : (k : Int) < n := by omega
   obtain ⟨b, o, rfl, _, _, _, hc⟩ := (H.out.calm HGW.out).cell (by omega)
   have hx := hc k hkn
   have HM := Lib.hid (get_mem (d := ByteArray.empty) (show k < l.length by rw [HLEN.out]; exact hkn))
   have HU2 := Lib.hid (show q (l[k]?.getD ByteArray.empty) = true → ∀ j, j < k + 1 → q (l[j]?.getD ByteArray.empty) = true from fun h => upto_succ (q := fun j => q (l[j]?.getD ByteArray.empty) = true) HU.out h)
   clear hc HU
   generalize l[k]?.getD ByteArray.empty = x at *
   have HB0 := Lib.hid (show q x = false → r = false from fun h => no_false HR.out fun h2 => by rw [h2 x HM.out] at h; cases h)
   have HC1 := Lib.hid (HQ.out x HM.out wr HGW.out)
   have HG3 := HGW
   clear HGW
   cases hb : q x with
   | true =>
    rw [hb] at HC1
    have HU3 := Lib.hid (HU2.out hb)
    clear hb HB0 HU2
    go_wp2_with fail
    refine HC1.out.mono ?_
    rintro e w5 ⟨rfl, hg5⟩
    have HG5 := Lib.hid (grownBy_trans HG3.out hg5)
    clear hg5
    go_wp2
    exact ⟨⟨k + 1, by omega, by go_num, HU3, HG5⟩, by simp [intOf]; omega⟩
   | false =>
    rw [hb] at HC1
    obtain rfl : r = false := HB0.out hb
    clear hb HB0 HU2
    go_wp2_with fail
    refine HC1.out.mono ?_
    rintro e w5 ⟨rfl, hg5⟩
    have HG5 := Lib.hid (grownBy_trans HG3.out hg5)
    clear hg5
    go_wp2
    go_ret
    exact ⟨rfl, HG5.out⟩
  ·obtain rfl : n = k := by omega
   have k1 : ¬ ((n : Int) < n) := by omega
   obtain rfl : true = r := (HR.out.2 (upto_all2 HLEN.out HU.out)).symm
   go_wp2
   go_ret
   exact ⟨rfl, HGW.out⟩

set_option maxRecDepth 8000 in
set_option maxHeartbeats 8000000 in
theorem allEdge_c (l : List Ed) (lo hi : Nat) (p : Option Addr) (n c : Nat) (q : Ed → Bool) (r : Bool) (w : World) (h : EdsAt w lo hi p n l) (hb : n ≤ 1000000)
  (hq : ∀ x ∈ l, ∀ W, w.grownBy W none → Calls Tryz.prog 161 #[.agg #[.int .u32 (x.1.1 : Int), .int .i64 x.1.2, .int .u32 (x.2.1 : Int), .int .i64 x.2.2]] W fun e w' => e = .returned (.bool (q x)) ∧ W.grownBy w' none) (hr : r = true ↔ ∀ x ∈ l, q x = true) :
  Calls Tryz.prog 160 #[.slice p n c, .func (.func 161) #[] #[]] w fun e w' => e = .returned (.bool r) ∧ w.grownBy w' none := by
 have HR := Lib.hid hr
 have H := Lib.hid h
 have HQ := Lib.hid hq
 have HLEN := Lib.hid h.len
 clear hr h hq
 go_enter Tryz.func160, Tryz.ntmps160
 go_wp2
 go_loopw [9] (fun i wr => ∃ k : Nat, k ≤ n ∧ i = .int .i64 k ∧ Hid (∀ j, j < k → q (l[j]?.getD ((0, 0), (0, 0))) = true) ∧ Hid (w.grownBy wr none)) (fun i _ => n - (intOf i).toNat)
 case atStart => exact ⟨0, Nat.zero_le _, rfl, Lib.hid (fun j hj => absurd hj (Nat.not_lt_zero _)), Lib.hid (grownBy_refl _ _)⟩
 case round =>
  obtain ⟨k, hk, rfl, HU, HGW⟩ := hrel
  by_cases hkn : k < n
  ·have k0 : (0 : Int) ≤ k := by omega
   have k1 : (k : Int) < n := by omega
   obtain ⟨b, o, rfl, _, _, _, hc⟩ := (H.out.calm HGW.out).cell (by omega)
   have hx := hc k hkn
   have HM := Lib.hid (get_mem (d := ((0, 0), (0, 0))) (show k < l.length by rw [HLEN.out]; exact hkn))
   have HU2 := Lib.hid (show q (l[k]?.getD ((0, 0), (0, 0))) = true → ∀ j, j < k + 1 → q (l[j]?.getD ((0, 0), (0, 0))) = true from fun h => upto_succ (q := fun j => q (l[j]?.getD ((0, 0), (0, 0))) = true) HU.out h)
   clear hc HU
   generalize l[k]?.getD ((0, 0), (0, 0)) = x at *
   have HB0 := Lib.hid (show q x = false → r = false from fun h => no_false HR.out fun h2 => by rw [h2 x HM.out] at h; cases h)
   have HQ1 := Lib.hid (HQ.out x HM.out)
   obtain ⟨⟨x1, x2⟩, x3, x4⟩ := x
   simp only at hx
   obtain ⟨x5, x6, x7, x8⟩ := hx
   have HGB := Lib.hid (World.grownBy_alloc wr (.cells #[.int .u32 (x1 : Int), .int .i64 x2, .int .u32 (x3 : Int), .int .i64 x4] 70) none)
   have HBX := Lib.hid (BoxV.new wr [.int .u32 (x1 : Int), .int .i64 x2, .int .u32 (x3 : Int), .int .i64 x4] 70)
   go_upto_region 4 with fail
   generalize wr.alloc _ = w3 at *
   generalize wr.heap.size = gE at *
   have y0 := HBX.out.cell (k := 0) rfl
   have y1 := HBX.out.cell (k := 1) rfl
   have y2 := HBX.out.cell (k := 2) rfl
   have y3 := HBX.out.cell (k := 3) rfl
   have HC1 := Lib.hid (HQ1.out _ (grownBy_trans HGW.out HGB.out))
   have HG3 := Lib.hid (grownBy_trans HGW.out HGB.out)
   clear HQ1 HGW HGB HBX x5 x6 x7 x8
   cases hb : q ((x1, x2), (x3, x4)) with
   | true =>
    rw [hb] at HC1
    have HU3 := Lib.hid (HU2.out hb)
    clear hb HB0 HU2
    go_wp2_with fail
    refine HC1.out.mono ?_
    rintro e w5 ⟨rfl, hg5⟩
    have HG5 := Lib.hid (grownBy_trans HG3.out hg5)
    clear hg5
    go_wp2
    exact ⟨⟨k + 1, by omega, by go_num, HU3, HG5⟩, by simp [intOf]; omega⟩
   | false =>
    rw [hb] at HC1
    obtain rfl : r = false := HB0.out hb
    clear hb HB0 HU2
    go_wp2_with fail
    refine HC1.out.mono ?_
    rintro e w5 ⟨rfl, hg5⟩
    have HG5 := Lib.hid (grownBy_trans HG3.out hg5)
    clear hg5
    go_wp2
    go_ret
    exact ⟨rfl, HG5.out⟩
  ·obtain rfl : n = k := by omega
   have k1 : ¬ ((n : Int) < n) := by omega
   obtain rfl : true = r := (HR.out.2 (upto_all2 HLEN.out HU.out)).symm
   go_wp2
   go_ret
   exact ⟨rfl, HGW.out⟩

set_option maxRecDepth 8000 in
set_option maxHeartbeats 8000000 in
theorem allNumb_c (l : List Ln) (lo hi : Nat) (p : Option Addr) (n c : Nat) (q : Ln → Bool) (r : Bool) (w : World) (h : LnsAt w lo hi p n l) (hb : n ≤ 1000000)
  (hq : ∀ x ∈ l, ∀ W, w.grownBy W none → Calls Tryz.prog 165 #[.agg #[.int .u32 (x.1 : Int), .int .i64 x.2]] W fun e w' => e = .returned (.bool (q x)) ∧ W.grownBy w' none) (hr : r = true ↔ ∀ x ∈ l, q x = true) :
  Calls Tryz.prog 164 #[.slice p n c, .func (.func 165) #[] #[]] w fun e w' => e = .returned (.bool r) ∧ w.grownBy w' none := by
 have HR := Lib.hid hr
 have H := Lib.hid h
 have HQ := Lib.hid hq
 have HLEN := Lib.hid h.len
 clear hr h hq
 go_enter Tryz.func164, Tryz.ntmps164
 go_wp2
 go_loopw [9] (fun i wr => ∃ k : Nat, k ≤ n ∧ i = .int .i64 k ∧ Hid (∀ j, j < k → q (l[j]?.getD (0, 0)) = true) ∧ Hid (w.grownBy wr none)) (fun i _ => n - (intOf i).toNat)
 case atStart => exact ⟨0, Nat.zero_le _, rfl, Lib.hid (fun j hj => absurd hj (Nat.not_lt_zero _)), Lib.hid (grownBy_refl _ _)⟩
 case round =>
  obtain ⟨k, hk, rfl, HU, HGW⟩ := hrel
  by_cases hkn : k < n
  ·have k0 : (0 : Int) ≤ k := by omega
   have k1 : (k : Int) < n := by omega
   obtain ⟨b, o, rfl, _, _, _, hc⟩ := (H.out.calm HGW.out).cell (by omega)
   have hx := hc k hkn
   have HM := Lib.hid (get_mem (d := (0, 0)) (show k < l.length by rw [HLEN.out]; exact hkn))
   have HU2 := Lib.hid (show q (l[k]?.getD (0, 0)) = true → ∀ j, j < k + 1 → q (l[j]?.getD (0, 0)) = true from fun h => upto_succ (q := fun j => q (l[j]?.getD (0, 0)) = true) HU.out h)
   clear hc HU
   generalize l[k]?.getD (0, 0) = x at *
   have HB0 := Lib.hid (show q x = false → r = false from fun h => no_false HR.out fun h2 => by rw [h2 x HM.out] at h; cases h)
   have HQ1 := Lib.hid (HQ.out x HM.out)
   obtain ⟨x1, x2⟩ := x
   simp only at hx
   obtain ⟨x5, x6⟩ := hx
   have HGB := Lib.hid (World.grownBy_alloc wr (.cells #[.int .u32 (x1 : Int), .int .i64 x2] 60) none)
   have HBX := Lib.hid (BoxV.new wr [.int .u32 (x1 : Int), .int .i64 x2] 60)
   go_upto_region 4 with fail
   generalize wr.alloc _ = w3 at *
   generalize wr.heap.size = gE at *
   have y0 := HBX.out.cell (k := 0) rfl
   have y1 := HBX.out.cell (k := 1) rfl
   have HC1 := Lib.hid (HQ1.out _ (grownBy_trans HGW.out HGB.out))
   have HG3 := Lib.hid (grownBy_trans HGW.out HGB.out)
   clear HQ1 HGW HGB HBX x5 x6
   cases hb : q (x1, x2) with
   | true =>
    rw [hb] at HC1
    have HU3 := Lib.hid (HU2.out hb)
    clear hb HB0 HU2
    go_wp2_with fail
    refine HC1.out.mono ?_
    rintro e w5 ⟨rfl, hg5⟩
    have HG5 := Lib.hid (grownBy_trans HG3.out hg5)
    clear hg5
    go_wp2
    exact ⟨⟨k + 1, by omega, by go_num, HU3, HG5⟩, by simp [intOf]; omega⟩
   | false =>
    rw [hb] at HC1
    obtain rfl : r = false := HB0.out hb
    clear hb HB0 HU2
    go_wp2_with fail
    refine HC1.out.mono ?_
    rintro e w5 ⟨rfl, hg5⟩
    have HG5 := Lib.hid (grownBy_trans HG3.out hg5)
    clear hg5
    go_wp2
    go_ret
    exact ⟨rfl, HG5.out⟩
  ·obtain rfl : n = k := by omega
   have k1 : ¬ ((n : Int) < n) := by omega
   obtain rfl : true = r := (HR.out.2 (upto_all2 HLEN.out HU.out)).symm
   go_wp2
   go_ret
   exact ⟨rfl, HGW.out⟩

end Go.Proofs.YtnknejokneddbaaGreatDoor
/-! Package patch: Equal, Index, Contains of Go's slices. -/
namespace Go.Proofs.YtnknejokneddbaaGreatDoor
open Go.RowKit

set_option maxHeartbeats 4000000 in
theorem idxU_c (p : Option Addr) (n c lo hi : Nat) (l : List Nat) (x : Nat) (r : Bool) (w : World) (hp : NsAt .u32 w lo hi p n l) (hn : n ≤ 1000000) (hr : r = true ↔ x ∈ l) :
  Calls Tryz.prog 155 #[.slice p n c, .int .u32 (x : Int)] w fun e w' => (∃ v : Int, e = .returned (.int .i64 v) ∧ decide (0 ≤ v) = r) ∧ w.grownBy w' none := by
 have HP := Lib.hid hp
 have HR := Lib.hid hr
 have HPL := Lib.hid hp.len
 clear hp hr
 go_enter Tryz.func155, Tryz.ntmps155
 go_wp2
 go_loopw [8] (fun i wr => ∃ k : Nat, k ≤ n ∧ i = .int .i64 k ∧ Hid (∀ j, j < k → l[j]?.getD 0 ≠ x) ∧ Hid (w.grownBy wr none)) (fun i _ => n - (intOf i).toNat)
 case atStart => exact ⟨0, Nat.zero_le _, rfl, Lib.hid (fun j hj => absurd hj (Nat.not_lt_zero _)), Lib.hid (grownBy_refl _ _)⟩
 case round =>
  obtain ⟨k, hk, rfl, HE, HG⟩ := hrel
  by_cases hkn : k < n
  ·have k0 : (0 : Int) ≤ k := by omega
   have k1 : (k : Int) < n := by omega
   obtain ⟨b, o, rfl, _, _, _, hc⟩ := (HP.out.calm HG.out).cell (by omega)
   have cy := hc k hkn
   have HU := Lib.hid (show l[k]?.getD 0 ≠ x → ∀ j, j < k + 1 → l[j]?.getD 0 ≠ x from fun h => upto_succ (q := fun j => l[j]?.getD 0 ≠ x) HE.out h)
   have HM := Lib.hid (get_mem (d := 0) (show k < l.length by rw [HPL.out]; exact hkn))
   have HG2 := Lib.hid (fun z => grownBy_trans HG.out (grownBy_drewN wr z none))
   clear hc HE
   generalize l[k]?.getD 0 = y at *
   by_cases hxy : x = y
   ·obtain rfl : r = true := HR.out.2 (by rw [hxy]; exact HM.out)
    have e1 : ((x : Int) == (y : Int)) = true := by rw [hxy]; simp
    clear HU HM hxy
    go_wp2
    try go_quiet (fail)
    try go_wp2
    go_ret
    exact ⟨⟨k, rfl, by simp⟩, by first | exact HG.out | exact HG2.out _⟩
   ·have HU2 := Lib.hid (HU.out fun h => hxy h.symm)
    have e1 : ((x : Int) == (y : Int)) = false := by simp; omega
    clear HU HM
    go_wp2
    try go_quiet (fail)
    try go_wp2
    exact ⟨⟨k + 1, by omega, by go_num, HU2, by first | exact HG | exact Lib.hid (HG2.out _)⟩, by simp [intOf]; omega⟩
  ·obtain rfl : n = k := by omega
   have k1 : ¬ ((n : Int) < n) := by omega
   obtain rfl : r = false := no_false HR.out fun h => by
    obtain ⟨j, hj, e⟩ := mem_get (d := 0) h
    exact HE.out j (by rw [← HPL.out]; exact hj) e
   go_wp2
   go_ret
   exact ⟨⟨-1, rfl, by simp⟩, HG.out⟩

set_option maxHeartbeats 1000000 in
theorem conU_c (p : Option Addr) (n c lo hi : Nat) (l : List Nat) (x : Nat) (r : Bool) (w : World) (hp : NsAt .u32 w lo hi p n l) (hn : n ≤ 1000000) (hr : r = true ↔ x ∈ l) :
  Calls Tryz.prog 119 #[.slice p n c, .int .u32 (x : Int)] w fun e w' => e = .returned (.bool r) ∧ w.grownBy w' none := by
 go_enter Tryz.func119, Tryz.ntmps119
 go_wp2_with fail
 refine (idxU_c p n c lo hi l x r w hp hn hr).mono ?_
 rintro e w5 ⟨⟨v, rfl, hv⟩, hg⟩
 clear hp hr
 cases r with
 | true =>
  have hv' : 0 ≤ v := of_decide_eq_true hv
  go_wp2
  go_ret
  exact ⟨rfl, hg⟩
 | false =>
  have hv' : ¬ 0 ≤ v := of_decide_eq_false hv
  go_wp2
  go_ret
  exact ⟨rfl, hg⟩

set_option maxHeartbeats 4000000 in
theorem idxS_c (p : Option Addr) (n c lo hi : Nat) (l : List ByteArray) (x : ByteArray) (r : Bool) (w : World) (hp : StrsAt w lo hi p n l) (hn : n ≤ 1000000) (hr : r = true ↔ x ∈ l) :
  Calls Tryz.prog 95 #[.slice p n c, .string x] w fun e w' => (∃ v : Int, e = .returned (.int .i64 v) ∧ decide (0 ≤ v) = r) ∧ w.grownBy w' none := by
 have HP := Lib.hid hp
 have HR := Lib.hid hr
 have HPL := Lib.hid hp.len
 clear hp hr
 go_enter Tryz.func95, Tryz.ntmps95
 go_wp2
 go_loopw [8] (fun i wr => ∃ k : Nat, k ≤ n ∧ i = .int .i64 k ∧ Hid (∀ j, j < k → l[j]?.getD ByteArray.empty ≠ x) ∧ Hid (w.grownBy wr none)) (fun i _ => n - (intOf i).toNat)
 case atStart => exact ⟨0, Nat.zero_le _, rfl, Lib.hid (fun j hj => absurd hj (Nat.not_lt_zero _)), Lib.hid (grownBy_refl _ _)⟩
 case round =>
  obtain ⟨k, hk, rfl, HE, HG⟩ := hrel
  by_cases hkn : k < n
  ·have k0 : (0 : Int) ≤ k := by omega
   have k1 : (k : Int) < n := by omega
   obtain ⟨b, o, rfl, _, _, _, hc⟩ := (HP.out.calm HG.out).cell (by omega)
   have cy := hc k hkn
   have HU := Lib.hid (show l[k]?.getD ByteArray.empty ≠ x → ∀ j, j < k + 1 → l[j]?.getD ByteArray.empty ≠ x from fun h => upto_succ (q := fun j => l[j]?.getD ByteArray.empty ≠ x) HE.out h)
   have HM := Lib.hid (get_mem (d := ByteArray.empty) (show k < l.length by rw [HPL.out]; exact hkn))
   have HG2 := Lib.hid (fun z => grownBy_trans HG.out (grownBy_drewN wr z none))
   clear hc HE
   generalize l[k]?.getD ByteArray.empty = y at *
   by_cases hxy : x = y
   ·obtain rfl : r = true := HR.out.2 (by rw [hxy]; exact HM.out)
    have e1 := toList_eqP hxy
    clear HU HM hxy
    go_wp2
    try go_quiet (fail)
    try go_wp2
    go_ret
    exact ⟨⟨k, rfl, by simp⟩, by first | exact HG.out | exact HG2.out _⟩
   ·have HU2 := Lib.hid (HU.out fun h => hxy h.symm)
    have e1 := toList_neP hxy
    clear HU HM
    go_wp2
    try go_quiet (fail)
    try go_wp2
    exact ⟨⟨k + 1, by omega, by go_num, HU2, by first | exact HG | exact Lib.hid (HG2.out _)⟩, by simp [intOf]; omega⟩
  ·obtain rfl : n = k := by omega
   have k1 : ¬ ((n : Int) < n) := by omega
   obtain rfl : r = false := no_false HR.out fun h => by
    obtain ⟨j, hj, e⟩ := mem_get (d := ByteArray.empty) h
    exact HE.out j (by rw [← HPL.out]; exact hj) e
   go_wp2
   go_ret
   exact ⟨⟨-1, rfl, by simp⟩, HG.out⟩

set_option maxHeartbeats 1000000 in
theorem conS_c (p : Option Addr) (n c lo hi : Nat) (l : List ByteArray) (x : ByteArray) (r : Bool) (w : World) (hp : StrsAt w lo hi p n l) (hn : n ≤ 1000000) (hr : r = true ↔ x ∈ l) :
  Calls Tryz.prog 59 #[.slice p n c, .string x] w fun e w' => e = .returned (.bool r) ∧ w.grownBy w' none := by
 go_enter Tryz.func59, Tryz.ntmps59
 go_wp2_with fail
 refine (idxS_c p n c lo hi l x r w hp hn hr).mono ?_
 rintro e w5 ⟨⟨v, rfl, hv⟩, hg⟩
 clear hp hr
 cases r with
 | true =>
  have hv' : 0 ≤ v := of_decide_eq_true hv
  go_wp2
  go_ret
  exact ⟨rfl, hg⟩
 | false =>
  have hv' : ¬ 0 ≤ v := of_decide_eq_false hv
  go_wp2
  go_ret
  exact ⟨rfl, hg⟩

end Go.Proofs.YtnknejokneddbaaGreatDoor
/-! Package patch: areAmong. -/
namespace Go.Proofs.YtnknejokneddbaaGreatDoor
open Go.RowKit

set_option maxRecDepth 8000 in
set_option maxHeartbeats 4000000 in
theorem amongU_c (p p' : Option Addr) (n m c c' lo hi lo' hi' : Nat) (la lb : List Nat) (r : Bool) (w : World) (hp : NsAt .u32 w lo hi p n la) (hq : NsAt .u32 w lo' hi' p' m lb) (hn : n ≤ 1000000) (hm : m ≤ 1000000) (hr : r = true ↔ ∀ x ∈ la, x ∈ lb) :
  Calls Tryz.prog 90 #[.slice p n c, .slice p' m c'] w fun e w' => e = .returned (.bool r) ∧ w.grownBy w' none := by
 have HP := Lib.hid hp
 have HQ := Lib.hid hq
 have HR := Lib.hid hr
 have HPL := Lib.hid hp.len
 have HQL := Lib.hid hq.len
 clear hp hq hr
 go_enter Tryz.func90, Tryz.ntmps90
 go_wp2
 try go_step3
 try go_wp2
 try go_step3
 try go_wp2
 go_loopw [11, 6, 8, 15, 16, 17] (fun i s6 s8 s15 s16 s17 wr => ∃ k : Nat, k ≤ n ∧ i = .int .i64 k ∧ Hid (∀ j, j < k → la[j]?.getD 0 ∈ lb) ∧ Hid (w.grownBy wr none)) (fun i _ _ _ _ _ _ => n - (intOf i).toNat)
 case atStart => exact ⟨0, Nat.zero_le _, rfl, Lib.hid (fun j hj => absurd hj (Nat.not_lt_zero _)), Lib.hid (grownBy_refl _ _)⟩
 case round =>
  obtain ⟨k, hk, rfl, HE, HG⟩ := hrel
  by_cases hkn : k < n
  ·have k0 : (0 : Int) ≤ k := by omega
   have k1 : (k : Int) < n := by omega
   obtain ⟨b, o, rfl, _, _, _, hc⟩ := (HP.out.calm HG.out).cell (by omega)
   have cx := hc k hkn
   have HU := Lib.hid (show la[k]?.getD 0 ∈ lb → ∀ j, j < k + 1 → la[j]?.getD 0 ∈ lb from fun h => upto_succ (q := fun j => la[j]?.getD 0 ∈ lb) HE.out h)
   have HM := Lib.hid (get_mem (d := 0) (show k < la.length by rw [HPL.out]; exact hkn))
   clear hc HE
   generalize la[k]?.getD 0 = x at *
   have HG1 := HG
   generalize hw1 : wr = w1 at *
   clear hw1
   go_wp2
   generalize hwo : w1 = wo at *
   clear hwo
   go_loopw [17, 8] (fun i s8 wr => ∃ t : Nat, t ≤ m ∧ i = .int .i64 t ∧ Hid (∀ j, j < t → lb[j]?.getD 0 ≠ x) ∧ Hid (wo.grownBy wr none)) (fun i _ _ => m - (intOf i).toNat)
   case atStart => exact ⟨0, Nat.zero_le _, rfl, Lib.hid (fun j hj => absurd hj (Nat.not_lt_zero _)), Lib.hid (grownBy_refl _ _)⟩
   case round =>
    obtain ⟨t, ht, rfl, HI, HGI⟩ := hrel
    by_cases htm : t < m
    ·have t0 : (0 : Int) ≤ t := by omega
     have t1 : (t : Int) < m := by omega
     obtain ⟨b', o', rfl, _, _, _, hc'⟩ := ((HQ.out.calm HG1.out).calm HGI.out).cell (by omega)
     have cy := hc' t htm
     have HV := Lib.hid (show lb[t]?.getD 0 ≠ x → ∀ j, j < t + 1 → lb[j]?.getD 0 ≠ x from fun h => upto_succ (q := fun j => lb[j]?.getD 0 ≠ x) HI.out h)
     have HN := Lib.hid (get_mem (d := 0) (show t < lb.length by rw [HQL.out]; exact htm))
     clear hc' HI
     generalize lb[t]?.getD 0 = y at *
     have HG2 := HGI
     have HG3 := Lib.hid (fun z => grownBy_trans HG2.out (grownBy_drewN wr z none))
     by_cases hxy : y = x
     ·have HU2 := Lib.hid (HU.out (hxy ▸ HN.out))
      have e1 : ((y : Int) == (x : Int)) = true := by rw [hxy]; simp
      clear HU HV HN HM hxy
      go_wp2
      try go_quiet (fail)
      try go_wp2
      exact ⟨⟨k + 1, by omega, by go_num, HU2, by first | exact Lib.hid (grownBy_trans HG1.out HG2.out) | exact Lib.hid (grownBy_trans HG1.out (HG3.out _))⟩, by simp [intOf]; omega⟩
     ·have HV2 := Lib.hid (HV.out hxy)
      have e1 : ((y : Int) == (x : Int)) = false := by simp; omega
      clear HV HN
      go_wp2
      try go_quiet (fail)
      try go_wp2
      exact ⟨⟨t + 1, by omega, by go_num, HV2, by first | exact HG2 | exact Lib.hid (HG3.out _)⟩, by simp [intOf]; omega⟩
    ·obtain rfl : m = t := by omega
     have t1 : ¬ ((m : Int) < m) := by omega
     obtain rfl : r = false := no_false HR.out fun h => by
      obtain ⟨j, hj, e⟩ := mem_get (d := 0) (h _ HM.out)
      exact HI.out j (by rw [← HQL.out]; exact hj) e
     go_wp2
     try rw [Exit.noGoto_ret]
     go_ret
     exact ⟨rfl, grownBy_trans HG1.out HGI.out⟩
  ·obtain rfl : n = k := by omega
   have k1 : ¬ ((n : Int) < n) := by omega
   obtain rfl : true = r := (HR.out.2 (upto_all2 HPL.out HE.out)).symm
   go_wp2
   try rw [Exit.noGoto_normal]
   try go_wp2
   go_ret
   exact ⟨rfl, HG.out⟩

set_option maxRecDepth 8000 in
set_option maxHeartbeats 4000000 in
theorem amongL_c (p p' : Option Addr) (n m c c' lo hi lo' hi' : Nat) (la lb : List Ln) (r : Bool) (w : World) (hp : LnsAt w lo hi p n la) (hq : LnsAt w lo' hi' p' m lb) (hn : n ≤ 1000000) (hm : m ≤ 1000000) (hr : r = true ↔ ∀ x ∈ la, x ∈ lb) :
  Calls Tryz.prog 127 #[.slice p n c, .slice p' m c'] w fun e w' => e = .returned (.bool r) ∧ w.grownBy w' none := by
 have HP := Lib.hid hp
 have HQ := Lib.hid hq
 have HR := Lib.hid hr
 have HPL := Lib.hid hp.len
 have HQL := Lib.hid hq.len
 clear hp hq hr
 go_enter Tryz.func127, Tryz.ntmps127
 go_wp2
 try go_step3
 try go_wp2
 try go_step3
 try go_wp2
 go_loopw [11, 6, 8, 15, 16, 17] (fun i s6 s8 s15 s16 s17 wr => ∃ k : Nat, k ≤ n ∧ i = .int .i64 k ∧ Hid (∀ j, j < k → la[j]?.getD (0, 0) ∈ lb) ∧ Hid (w.grownBy wr none)) (fun i _ _ _ _ _ _ => n - (intOf i).toNat)
 case atStart => exact ⟨0, Nat.zero_le _, rfl, Lib.hid (fun j hj => absurd hj (Nat.not_lt_zero _)), Lib.hid (grownBy_refl _ _)⟩
 case round =>
  obtain ⟨k, hk, rfl, HE, HG⟩ := hrel
  by_cases hkn : k < n
  ·have k0 : (0 : Int) ≤ k := by omega
   have k1 : (k : Int) < n := by omega
   obtain ⟨b, o, rfl, _, _, _, hc⟩ := (HP.out.calm HG.out).cell (by omega)
   have cx := hc k hkn
   have HU := Lib.hid (show la[k]?.getD (0, 0) ∈ lb → ∀ j, j < k + 1 → la[j]?.getD (0, 0) ∈ lb from fun h => upto_succ (q := fun j => la[j]?.getD (0, 0) ∈ lb) HE.out h)
   have HM := Lib.hid (get_mem (d := (0, 0)) (show k < la.length by rw [HPL.out]; exact hkn))
   clear hc HE
   generalize la[k]?.getD (0, 0) = x at *
   obtain ⟨x1, x2⟩ := x
   simp only at cx
   obtain ⟨cx0, cx1⟩ := cx
   have HBX := Lib.hid (BoxV.new wr [.int .u32 (x1 : Int), .int .i64 x2] 60)
   have HG1 := Lib.hid (grownBy_trans HG.out (World.grownBy_alloc wr (.cells #[.int .u32 (x1 : Int), .int .i64 x2] 60) none))
   go_upto_region 4 with fail
   generalize wr.alloc _ = w1 at *
   generalize wr.heap.size = gX at *
   clear cx0 cx1
   go_wp2
   generalize hwo : w1 = wo at *
   clear hwo
   go_loopw [17, 8] (fun i s8 wr => ∃ t : Nat, t ≤ m ∧ i = .int .i64 t ∧ Hid (∀ j, j < t → lb[j]?.getD (0, 0) ≠ (x1, x2)) ∧ Hid (wo.grownBy wr none)) (fun i _ _ => m - (intOf i).toNat)
   case atStart => exact ⟨0, Nat.zero_le _, rfl, Lib.hid (fun j hj => absurd hj (Nat.not_lt_zero _)), Lib.hid (grownBy_refl _ _)⟩
   case round =>
    obtain ⟨t, ht, rfl, HI, HGI⟩ := hrel
    by_cases htm : t < m
    ·have t0 : (0 : Int) ≤ t := by omega
     have t1 : (t : Int) < m := by omega
     obtain ⟨b', o', rfl, _, _, _, hc'⟩ := ((HQ.out.calm HG1.out).calm HGI.out).cell (by omega)
     have cy := hc' t htm
     have HV := Lib.hid (show lb[t]?.getD (0, 0) ≠ (x1, x2) → ∀ j, j < t + 1 → lb[j]?.getD (0, 0) ≠ (x1, x2) from fun h => upto_succ (q := fun j => lb[j]?.getD (0, 0) ≠ (x1, x2)) HI.out h)
     have HN := Lib.hid (get_mem (d := (0, 0)) (show t < lb.length by rw [HQL.out]; exact htm))
     clear hc' HI
     generalize lb[t]?.getD (0, 0) = y at *
     obtain ⟨y1, y2⟩ := y
     simp only at cy
     obtain ⟨cy0, cy1⟩ := cy
     have HBY := Lib.hid (BoxV.new wr [.int .u32 (y1 : Int), .int .i64 y2] 60)
     have hga := World.grownBy_alloc wr (.cells #[.int .u32 (y1 : Int), .int .i64 y2] 60) none
     have HBX2 := Lib.hid ((HBX.out.calm HGI.out).calm hga)
     have HG2 := Lib.hid (grownBy_trans HGI.out hga)
     clear hga
     go_upto_region 7 with fail
     generalize wr.alloc _ = w3 at *
     generalize wr.heap.size = gY at *
     clear cy0 cy1
     have dx0 := HBX2.out.cell (k := 0) rfl
     have dx1 := HBX2.out.cell (k := 1) rfl
     have dy0 := HBY.out.cell (k := 0) rfl
     have dy1 := HBY.out.cell (k := 1) rfl
     have HG3 := Lib.hid (fun z => grownBy_trans HG2.out (grownBy_drewN w3 z none))
     clear HBY HBX2
     by_cases hxy : ((y1, y2) : Ln) = (x1, x2)
     ·have HU2 := Lib.hid (HU.out (hxy ▸ HN.out))
      have hq := ln_eql (y1 : Int) x1 y2 x2
      have hb1 : ((y1 : Int) == (x1 : Int) && y2 == x2) = true := by
       simp only [Prod.mk.injEq] at hxy
       obtain ⟨rfl, rfl⟩ := hxy
       simp
      rw [hb1] at hq
      clear hb1
      clear HU HV HN HM hxy
      go_wp2
      try go_quiet (fail)
      try go_wp2
      exact ⟨⟨k + 1, by omega, by go_num, HU2, by first | exact Lib.hid (grownBy_trans HG1.out HG2.out) | exact Lib.hid (grownBy_trans HG1.out (HG3.out _))⟩, by simp [intOf]; omega⟩
     ·have HV2 := Lib.hid (HV.out hxy)
      have hq := ln_eql (y1 : Int) x1 y2 x2
      have hb1 : ((y1 : Int) == (x1 : Int) && y2 == x2) = false := by
       rw [Bool.eq_false_iff]
       intro h
       simp only [Bool.and_eq_true, beq_iff_eq] at h
       apply hxy
       simp only [Prod.mk.injEq]
       omega
      rw [hb1] at hq
      clear hb1
      clear HV HN
      go_wp2
      try go_quiet (fail)
      try go_wp2
      exact ⟨⟨t + 1, by omega, by go_num, HV2, by first | exact HG2 | exact Lib.hid (HG3.out _)⟩, by simp [intOf]; omega⟩
    ·obtain rfl : m = t := by omega
     have t1 : ¬ ((m : Int) < m) := by omega
     obtain rfl : r = false := no_false HR.out fun h => by
      obtain ⟨j, hj, e⟩ := mem_get (d := (0, 0)) (h _ HM.out)
      exact HI.out j (by rw [← HQL.out]; exact hj) e
     go_wp2
     try rw [Exit.noGoto_ret]
     go_ret
     exact ⟨rfl, grownBy_trans HG1.out HGI.out⟩
  ·obtain rfl : n = k := by omega
   have k1 : ¬ ((n : Int) < n) := by omega
   obtain rfl : true = r := (HR.out.2 (upto_all2 HPL.out HE.out)).symm
   go_wp2
   try rw [Exit.noGoto_normal]
   try go_wp2
   go_ret
   exact ⟨rfl, HG.out⟩

end Go.Proofs.YtnknejokneddbaaGreatDoor
/-! Package patch: lists built line by line: paths, ownLines, added, named. -/
namespace Go.Proofs.YtnknejokneddbaaGreatDoor
open Go.RowKit

/-- The cells of lines' numbers. -/
def lcells (l : List Ln) : List Value := l.flatMap fun x => [Value.int .u32 ((x.1 : Nat) : Int), Value.int .i64 x.2]
theorem lcells_app (a b : List Ln) : lcells (a ++ b) = lcells a ++ lcells b := by simp [lcells]
theorem lcells_len (l : List Ln) : (lcells l).length = l.length * 2 := by
 induction l with
 | nil => rfl
 | cons x l ih => unfold lcells at ih ⊢; rw [List.flatMap_cons, List.length_append, ih, List.length_cons]; simp; omega
theorem lcells_get : ∀ {l : List Ln} {i : Nat}, i < l.length → (lcells l)[i * 2]? = some (.int .u32 (((l[i]?.getD (0, 0)).1 : Nat) : Int)) ∧ (lcells l)[i * 2 + 1]? = some (.int .i64 (l[i]?.getD (0, 0)).2)
 | [], i, h => by simp at h
 | x :: l, 0, _ => by simp [lcells]
 | x :: l, i + 1, h => by
  have ih := lcells_get (l := l) (i := i) (by simpa using h)
  have e : lcells (x :: l) = .int .u32 ((x.1 : Nat) : Int) :: .int .i64 x.2 :: lcells l := rfl
  rw [e, show (i + 1) * 2 = i * 2 + 1 + 1 by omega, List.getElem?_cons_succ, List.getElem?_cons_succ, List.getElem?_cons_succ, List.getElem?_cons_succ, List.getElem?_cons_succ]
  exact ih
theorem lcells_one (l : List Ln) : ∀ u ∈ lcells l, u.oneCell' = true := by
 intro u hu
 unfold lcells at hu
 rw [List.mem_flatMap] at hu
 obtain ⟨x, _, hx⟩ := hu
 simp only [List.mem_cons, List.not_mem_nil, or_false] at hx
 rcases hx with rfl | rfl <;> rfl
theorem lnsAt_own {e : TypeId} {w : World} {base : Nat} {v : Value} {n : Nat} {l : List Ln} (hn : l.length = n) (h : w.ownsRow base e 2 v n (lcells l)) :
  ∃ p c, v = .slice p n c ∧ LnsAt w base w.heap.size p n l ∧ n ≤ c ∧ (p = none → c = 0) := by
 subst hn
 rcases h.2 with ⟨rfl, h0⟩ | ⟨g, cap, cur, rfl, hb, hg, hle, _⟩
 ·rw [h0]; exact ⟨none, 0, rfl, ⟨h0, fun h => absurd h (by omega)⟩, Nat.le_refl _, fun _ => rfl⟩
 ·refine ⟨_, cap, rfl, ⟨rfl, fun hn => ⟨g, 0, rfl, hb, (Array.getElem?_eq_some_iff.1 hg).1, Nat.le_refl _, fun i hi => ?_⟩⟩, hle, (fun h => by cases h)⟩
  have hc := h.cells (g := g) rfl (i * 2) _ (lcells_get hi).1
  have hd := h.cells (g := g) rfl (i * 2 + 1) _ (lcells_get hi).2
  rw [add_off] at hc hd
  exact ⟨hc, by rw [Nat.add_assoc]; exact hd⟩
theorem LnsAt.lower {w : World} {lo lo' hi n : Nat} {p : Option Addr} {l : List Ln} (h : LnsAt w lo hi p n l) (hl : lo' ≤ lo) : LnsAt w lo' hi p n l := ⟨h.len, fun hn => by
 obtain ⟨b, off, e, h1, h2, h3, hc⟩ := h.cell hn
 exact ⟨b, off, e, Nat.le_trans hl h1, h2, h3, hc⟩⟩
theorem lns_src {w : World} {lo hi n c : Nat} {p : Option Addr} {l : List Ln} (h : LnsAt w lo hi p n l) (hp : p = none → c = 0) : (p = none ∧ n = 0 ∧ c = 0) ∨ ∃ ad, p = some ad ∧ ∀ j u, (lcells l)[j]? = some u → w.cell? (ad.add j) = some u := by
 cases p with
 | none =>
  refine .inl ⟨rfl, ?_, hp rfl⟩
  rcases Nat.eq_zero_or_pos n with e | e
  ·exact e
  ·obtain ⟨_, _, e2, _⟩ := h.cell e; cases e2
 | some ad =>
  refine .inr ⟨ad, rfl, fun j u hj => ?_⟩
  have hjl := (List.getElem?_eq_some_iff.1 hj).1
  rw [lcells_len, h.len] at hjl
  obtain ⟨b, off, e, _, _, _, hc⟩ := h.cell (by omega)
  cases e
  obtain ⟨m, hm⟩ : ∃ m, j / 2 = m := ⟨_, rfl⟩
  obtain ⟨c0, c1⟩ := hc m (by omega)
  obtain ⟨g0, g1⟩ := lcells_get (l := l) (i := m) (by rw [h.len]; omega)
  rw [add_off]
  rcases Nat.mod_two_eq_zero_or_one j with e | e
  ·obtain rfl : j = m * 2 := by omega
   rw [g0] at hj
   cases hj
   exact c0
  ·obtain rfl : j = m * 2 + 1 := by omega
   rw [g1] at hj
   cases hj
   exact c1
theorem infoLn : (Tryz.prog.info? 60).map (fun i => (i.zero, i.size, i.bytes)) = some (some (.agg #[.int .u32 0, .int .i64 0]), 2, 16) := by kernel_rfl
/-- A list of lines handed back in memory of its own. -/
def LnsPost (l : List Ln) (w : World) (e : Ending) (w' : World) : Prop := ∃ p c, e = .returned (.slice p l.length c) ∧ LnsAt w' w.heap.size w'.heap.size p l.length l ∧ l.length ≤ c ∧ (p = none → c = 0) ∧ w.grownBy w' none
theorem box_src {w : World} {vs : List Value} {t : TypeId} : ∀ j u, vs[j]? = some u → (w.alloc (.cells vs.toArray t)).cell? ((⟨w.heap.size, 0, none⟩ : Addr).add j) = some u := fun j u h => by
 rw [add_off, Nat.zero_add]
 exact (BoxV.new w vs t).cell h
/-- Those of a number's own. -/
def ownL (l : List Ln) (id : Nat) : List Ln := l.filter fun x => decide (x.1 = id)
theorem ownL_step {l : List Ln} {k : Nat} {id : Nat} (hk : k < l.length) : ownL (l.take (k + 1)) id = ownL (l.take k) id ++ (if (l[k]?.getD (0, 0)).1 = id then [l[k]?.getD (0, 0)] else []) := by
 unfold ownL
 rw [List.take_succ_eq_append_getElem hk, List.filter_append, List.getElem?_eq_getElem hk, Option.getD_some]
 congr 1
 by_cases h : (l[k]).1 = id
 ·rw [if_pos h]; simp [h]
 ·rw [if_neg h]; simp [h]

set_option maxRecDepth 8000 in
set_option maxHeartbeats 4000000 in
theorem ownLines_c (p : Option Addr) (n c lo hi id : Nat) (l : List Ln) (w : World) (h : LnsAt w lo hi p n l) (hb : n ≤ 1000000) :
  Calls Tryz.prog 128 #[.slice p n c, .int .u32 (id : Int)] w (LnsPost (ownL l id) w) := by
 obtain ⟨i0, hi0, hz0, hz1, hz2⟩ := info_parts infoLn
 have H := Lib.hid h
 have HL := Lib.hid h.len
 clear h
 go_enter Tryz.func128, Tryz.ntmps128
 go_wp2
 go_loopw [5, 10] (fun v i wr => ∃ (k : Nat) (pre : List Ln), k ≤ n ∧ i = .int .i64 k ∧ pre.length ≤ k ∧ Hid (ownL (l.take k) id = pre) ∧ wr.ownsRow w.heap.size 60 2 v pre.length (lcells pre) ∧ w.grownBy wr none) (fun _ i _ => n - (intOf i).toNat)
 case atStart => exact ⟨0, [], Nat.zero_le _, rfl, Nat.le_refl _, Lib.hid rfl, World.ownsRow_nil _ _ _ _, grownBy_refl _ _⟩
 case round =>
  obtain ⟨k, pre, hk, rfl, hpre, HE, hrow, hgr⟩ := hrel
  have HROW := Lib.hid hrow
  have HGR := Lib.hid hgr
  by_cases hkn : k < n
  ·have k0 : (0 : Int) ≤ k := by omega
   have k1 : (k : Int) < n := by omega
   obtain ⟨b, o, rfl, _, _, _, hc⟩ := (H.out.calm hgr).cell (by omega)
   have hst := ownL_step (l := l) (k := k) (id := id) (by rw [HL.out]; exact hkn)
   rw [HE.out] at hst
   obtain ⟨cx0, cx1⟩ := hc k hkn
   clear hc hrow hgr
   generalize l[k]?.getD (0, 0) = x at *
   obtain ⟨x1, x2⟩ := x
   simp only at cx0 cx1 hst
   have HST := Lib.hid hst
   clear hst
   have hga := World.grownBy_alloc wr (.cells #[.int .u32 (x1 : Int), .int .i64 x2] 60) none
   have HBX := Lib.hid (BoxV.new wr [.int .u32 (x1 : Int), .int .i64 x2] 60)
   have HROW2 := Lib.hid (HROW.out.alloc (.cells #[.int .u32 (x1 : Int), .int .i64 x2] 60))
   have HG2 := Lib.hid (grownBy_trans HGR.out hga)
   clear hga HROW
   go_upto_region 5 with fail
   generalize wr.alloc _ = w3 at *
   generalize wr.heap.size = gX at *
   have hg2s := HG2.out.size
   have y0 := HBX.out.cell (k := 0) rfl
   have y1 := HBX.out.cell (k := 1) rfl
   clear cx0 cx1 HBX
   by_cases hxi : x1 = id
   ·have e1 : ((x1 : Int) == (id : Int)) = true := by subst hxi; simp
    have HN : Hid (ownL (l.take (k + 1)) id = pre ++ [(x1, x2)]) := Lib.hid (by rw [HST.out, if_pos hxi])
    clear hxi HST
    go_wp2_with (at_builtin; refine wpList_append_own _ rfl _ _ 66 rfl w.heap.size 60 i0 (.agg #[.int .u32 0, .int .i64 0]) 2 16 Tryz.underlying66 hi0 hz0 hz1 hz2 rfl (by decide) _ _ _ rfl (HROW2.out.alloc _) ⟨w3.heap.size, 0, none⟩ 1 1 [.int .u32 (x1 : Int), .int .i64 x2] rfl rfl box_src (by simp [Value.oneCell']) (by unfold maxLen; omega) (by omega) (by simp; omega) ?_; intro v' w4 hrow4 hgrow4 _; have HO := Lib.hid hrow4; have HGA := Lib.hid (grownBy_app HG2.out HROW2.out hgrow4); clear hrow4 hgrow4)
    exact ⟨⟨k + 1, pre ++ [(x1, x2)], by omega, by go_num, by simp; omega, HN, by rw [lcells_app, List.length_append]; exact HO.out, HGA.out⟩, by simp [intOf]; omega⟩
   ·have e1 : ((x1 : Int) == (id : Int)) = false := by simp; omega
    have HN : Hid (ownL (l.take (k + 1)) id = pre) := Lib.hid (by rw [HST.out, if_neg hxi, List.append_nil])
    clear hxi HST
    go_wp2
    exact ⟨⟨k + 1, pre, by omega, by go_num, by omega, HN, HROW2.out, HG2.out⟩, by simp [intOf]; omega⟩
  ·obtain rfl : n = k := by omega
   have k1 : ¬ ((n : Int) < n) := by omega
   go_wp2
   go_ret
   have he := HE.out
   rw [List.take_of_length_le (by rw [HL.out]; exact Nat.le_refl _)] at he
   rw [he]
   obtain ⟨p', c', rfl, h1, h2, h3⟩ := lnsAt_own rfl HROW.out
   exact ⟨p', c', rfl, h1, h2, h3, HGR.out⟩

/-- The lines that a hunk adds. -/
def addedL (id a n : Nat) : List Ln := (List.range n).map fun (k : Nat) => ((id, (a : Int) + (k : Int)) : Ln)
theorem addedL_len (id a n : Nat) : (addedL id a n).length = n := by simp [addedL]
theorem addedL_succ (id a n : Nat) : addedL id a (n + 1) = addedL id a n ++ [(id, (a : Int) + n)] := by simp [addedL, List.range_succ]
theorem addedL_mem {id a n : Nat} {x : Ln} : x ∈ addedL id a n ↔ x.1 = id ∧ (a : Int) ≤ x.2 ∧ x.2 < (a : Int) + n := by
 unfold addedL
 rw [List.mem_map]
 constructor
 ·rintro ⟨k, hk, rfl⟩
  rw [List.mem_range] at hk
  exact ⟨rfl, by show (a : Int) ≤ (a : Int) + (k : Int); omega, by show (a : Int) + (k : Int) < (a : Int) + n; omega⟩
 ·rintro ⟨h1, h2, h3⟩
  refine ⟨(x.2 - a).toNat, List.mem_range.2 (by omega), ?_⟩
  obtain ⟨x1, x2⟩ := x
  simp only at h1 h2 h3 ⊢
  rw [h1, Int.toNat_of_nonneg (by omega)]
  exact Prod.ext rfl (by simp only; omega)

set_option maxRecDepth 8000 in
set_option maxHeartbeats 4000000 in
theorem added_c (path : ByteArray) (pa : Option Addr) (na ca : Nat) (pe : Option Addr) (ne ce : Nat) (pk : Option Addr) (nk ck : Nat) (id a : Nat) (w : World) (hna : na ≤ 1000000) (ha : a ≤ 1000000) :
  Calls Tryz.prog 130 #[.agg #[.string path, .slice pa na ca, .slice pe ne ce, .slice pk nk ck], .int .u32 (id : Int), .int .i64 (a : Int)] w (LnsPost (addedL id a na) w) := by
 obtain ⟨i0, hi0, hz0, hz1, hz2⟩ := info_parts infoLn
 have HB := Lib.hid (BoxV.new w [.string path, .slice pa na ca, .slice pe ne ce, .slice pk nk ck] 68)
 have HG := Lib.hid (World.grownBy_alloc w (.cells [.string path, .slice pa na ca, .slice pe ne ce, .slice pk nk ck].toArray 68) none)
 go_enter Tryz.func130, Tryz.ntmps130
 go_upto_region 1 with fail
 generalize w.alloc _ = w1 at *
 generalize w.heap.size = g at *
 have hgs := HG.out.size
 obtain ⟨a0, a1, a2, a3⟩ := HB.out.four
 go_wp2
 go_loopw [7, 12] (fun v i wr => ∃ (k : Nat), k ≤ na ∧ i = .int .i64 k ∧ wr.ownsRow w1.heap.size 60 2 v k (lcells (addedL id a k)) ∧ w1.grownBy wr none) (fun _ i _ => na - (intOf i).toNat)
 case atStart => exact ⟨0, Nat.zero_le _, rfl, World.ownsRow_nil _ _ _ _, grownBy_refl _ _⟩
 case round =>
  clear a0 a1 a2 a3
  obtain ⟨k, hk, rfl, hrow, hgr⟩ := hrel
  have HROW := Lib.hid hrow
  have HGR := Lib.hid hgr
  have hgs2 := hgr.size
  by_cases hkn : k < na
  ·have k0 : (0 : Int) ≤ k := by omega
   have k1 : (k : Int) < na := by omega
   obtain ⟨y, hy⟩ : ∃ y : Int, (a : Int) + k = y := ⟨_, rfl⟩
   have hw : IntKind.i64.wrap ((a : Int) + k) = y := by rw [IntWalk.i64_in _ (by omega)]; exact hy
   have HN := Lib.hid (addedL_succ id a k)
   rw [hy] at HN
   clear hrow hgr hy
   go_wp2_with (at_builtin; refine wpList_append_own _ rfl _ _ 66 rfl w1.heap.size 60 i0 (.agg #[.int .u32 0, .int .i64 0]) 2 16 Tryz.underlying66 hi0 hz0 hz1 hz2 rfl (by decide) _ _ _ rfl (HROW.out.alloc _) ⟨wr.heap.size, 0, none⟩ 1 1 [.int .u32 (id : Int), .int .i64 y] rfl rfl box_src (by simp [Value.oneCell']) (by unfold maxLen; omega) (by omega) (by simp; omega) ?_; intro v' w4 hrow4 hgrow4 _; have HO := Lib.hid hrow4; have HGA := Lib.hid (grownBy_app HGR.out HROW.out hgrow4); clear hrow4 hgrow4)
   exact ⟨⟨k + 1, by omega, by go_num, by rw [HN.out, lcells_app]; exact HO.out, HGA.out⟩, by simp [intOf]; omega⟩
  ·obtain rfl : na = k := by omega
   have k1 : ¬ ((na : Int) < na) := by omega
   clear hrow hgr
   go_wp2
   go_ret
   obtain ⟨p', c', rfl, h1, h2, h3⟩ := lnsAt_own (addedL_len id a na) HROW.out
   refine ⟨p', c', by rw [addedL_len]; rfl, ?_, by rw [addedL_len]; exact h2, h3, grownBy_trans HG.out HGR.out⟩
   rw [addedL_len]
   exact h1.lower HG.out.size

end Go.Proofs.YtnknejokneddbaaGreatDoor
/-! Package patch: named, paths, Lines. -/
namespace Go.Proofs.YtnknejokneddbaaGreatDoor
open Go.RowKit

def ends2 (e : Ed) : List Ln := [e.1, e.2]
def namedL (es : List Ed) (ks : List Ln) : List Ln := es.flatMap ends2 ++ ks
theorem ends_len (es : List Ed) : (es.flatMap ends2).length = 2 * es.length := by
 induction es with
 | nil => rfl
 | cons e es ih => rw [List.flatMap_cons, List.length_append, ih, List.length_cons]; show 2 + _ = _; omega
theorem ends_step {es : List Ed} {k : Nat} (hk : k < es.length) : (es.take (k + 1)).flatMap ends2 = (es.take k).flatMap ends2 ++ ends2 (es[k]?.getD ((0, 0), (0, 0))) := by
 rw [List.take_succ_eq_append_getElem hk, List.flatMap_append, List.getElem?_eq_getElem hk, Option.getD_some]
 simp
theorem namedL_len (es : List Ed) (ks : List Ln) : (namedL es ks).length = 2 * es.length + ks.length := by unfold namedL; rw [List.length_append, ends_len]

set_option maxRecDepth 8000 in
set_option maxHeartbeats 4000000 in
theorem named_c (path : ByteArray) (pa : Option Addr) (na ca : Nat) (pe : Option Addr) (ne ce : Nat) (pk : Option Addr) (nk ck lo hi lo' hi' : Nat) (es : List Ed) (ks : List Ln) (w : World) (he : EdsAt w lo hi pe ne es) (hk : LnsAt w lo' hi' pk nk ks)
  (hz : pk = none → ck = 0) (hne : ne ≤ 1000000) (hnk : nk ≤ 1000000) :
  Calls Tryz.prog 129 #[.agg #[.string path, .slice pa na ca, .slice pe ne ce, .slice pk nk ck]] w (LnsPost (namedL es ks) w) := by
 obtain ⟨i0, hi0, hz0, hz1, hz2⟩ := info_parts infoLn
 have HB := Lib.hid (BoxV.new w [.string path, .slice pa na ca, .slice pe ne ce, .slice pk nk ck] 68)
 have HG := Lib.hid (World.grownBy_alloc w (.cells [.string path, .slice pa na ca, .slice pe ne ce, .slice pk nk ck].toArray 68) none)
 have HE := Lib.hid (he.calm HG.out)
 have HK := Lib.hid (hk.calm HG.out)
 have HEL := Lib.hid he.len
 have HKL := Lib.hid hk.len
 have HZ := Lib.hid hz
 clear he hk hz
 go_enter Tryz.func129, Tryz.ntmps129
 go_upto_region 1 with fail
 generalize w.alloc _ = w1 at *
 generalize hwg : w.heap.size = g at *
 have HWG := Lib.hid hwg
 clear hwg
 have hgs := HG.out.size
 obtain ⟨a0, a1, a2, a3⟩ := HB.out.four
 go_wp2
 go_loopw [3, 9] (fun v i wr => ∃ (k : Nat) (pre : List Ln), k ≤ ne ∧ i = .int .i64 k ∧ pre.length = 2 * k ∧ Hid ((es.take k).flatMap ends2 = pre) ∧ wr.ownsRow w1.heap.size 60 2 v pre.length (lcells pre) ∧ w1.grownBy wr none) (fun _ i _ => ne - (intOf i).toNat)
 case atStart => exact ⟨0, [], Nat.zero_le _, rfl, rfl, Lib.hid rfl, World.ownsRow_nil _ _ _ _, grownBy_refl _ _⟩
 case round =>
  clear a0 a1 a2 a3
  obtain ⟨k, pre, hk, rfl, hpre, HP, hrow, hgr⟩ := hrel
  have HROW := Lib.hid hrow
  have HGR := Lib.hid hgr
  by_cases hkn : k < ne
  ·have k0 : (0 : Int) ≤ k := by omega
   have k1 : (k : Int) < ne := by omega
   obtain ⟨b, o, rfl, _, _, _, hc⟩ := (HE.out.calm hgr).cell (by omega)
   have hst := ends_step (es := es) (k := k) (by rw [HEL.out]; exact hkn)
   rw [HP.out] at hst
   obtain ⟨cx0, cx1, cx2, cx3⟩ := hc k hkn
   clear hc hrow hgr
   generalize es[k]?.getD ((0, 0), (0, 0)) = x at *
   obtain ⟨⟨x1, x2⟩, x3, x4⟩ := x
   simp only at cx0 cx1 cx2 cx3
   have HST := Lib.hid hst
   clear hst
   have hga := World.grownBy_alloc wr (.cells #[.int .u32 (x1 : Int), .int .i64 x2, .int .u32 (x3 : Int), .int .i64 x4] 70) none
   have HBX := Lib.hid (BoxV.new wr [.int .u32 (x1 : Int), .int .i64 x2, .int .u32 (x3 : Int), .int .i64 x4] 70)
   have HROW2 := Lib.hid (HROW.out.alloc (.cells #[.int .u32 (x1 : Int), .int .i64 x2, .int .u32 (x3 : Int), .int .i64 x4] 70))
   have HG2 := Lib.hid (grownBy_trans HGR.out hga)
   clear hga HROW
   go_upto_region 5 with fail
   generalize wr.alloc _ = w3 at *
   generalize wr.heap.size = gX at *
   have hg2s := HG2.out.size
   obtain ⟨y0, y1, y2, y3⟩ := HBX.out.four
   clear cx0 cx1 cx2 cx3 HBX
   go_wp2_with (at_builtin; refine wpList_append_own _ rfl _ _ 66 rfl w1.heap.size 60 i0 (.agg #[.int .u32 0, .int .i64 0]) 2 16 Tryz.underlying66 hi0 hz0 hz1 hz2 rfl (by decide) _ _ _ rfl (HROW2.out.alloc _) ⟨w3.heap.size, 0, none⟩ 2 2 [.int .u32 (x1 : Int), .int .i64 x2, .int .u32 (x3 : Int), .int .i64 x4] rfl rfl box_src (by simp [Value.oneCell']) (by unfold maxLen; omega) (by omega) (by simp; omega) ?_; intro v' w4 hrow4 hgrow4 _; have HO := Lib.hid hrow4; have HGA := Lib.hid (grownBy_app HG2.out HROW2.out hgrow4); clear hrow4 hgrow4)
   exact ⟨⟨k + 1, pre ++ [(x1, x2), (x3, x4)], by omega, by go_num, by simp; omega, HST, by rw [lcells_app, List.length_append]; exact HO.out, HGA.out⟩, by simp [intOf]; omega⟩
  ·obtain rfl : ne = k := by omega
   have k1 : ¬ ((ne : Int) < ne) := by omega
   obtain ⟨a0, a1, a2, a3⟩ := (HB.out.calm hgr).four
   have HN : Hid (es.flatMap ends2 = pre) := Lib.hid (by have := HP.out; rwa [List.take_of_length_le (by rw [HEL.out]; exact Nat.le_refl _)] at this)
   have HS := Lib.hid (lns_src (HK.out.calm hgr) HZ.out)
   have hgs2 := hgr.size
   clear hrow hgr HP
   go_wp2_with (at_builtin; refine wpList_append_src rfl _ _ 66 rfl w1.heap.size 60 i0 (.agg #[.int .u32 0, .int .i64 0]) 2 16 Tryz.underlying66 hi0 hz0 hz1 hz2 rfl (by decide) _ _ _ rfl HROW.out pk nk ck (lcells ks) rfl (by rw [lcells_len, HKL.out]) HS.out (lcells_one _) (by unfold maxLen; omega) (by omega) hgs2 ?_; intro p' c' w4 hrow4 hgrow4; have HO := Lib.hid hrow4; have HGA := Lib.hid (ownsRow_new HGR.out HROW.out hgrow4); clear hrow4 hgrow4)
   go_ret
   have hlen : (namedL es ks).length = pre.length + nk := by unfold namedL; rw [List.length_append, HN.out, HKL.out]
   have hrow5 : w4.ownsRow w1.heap.size 60 2 (.slice p' (pre.length + nk) c') (pre.length + nk) (lcells (namedL es ks)) := by unfold namedL; rw [lcells_app, HN.out]; exact HO.out
   obtain ⟨p9, c9, e9, h1, h2, h3⟩ := lnsAt_own hlen hrow5
   cases e9
   exact ⟨p', c', by rw [hlen, hpre]; rfl, by rw [hlen]; exact h1.lower HG.out.size, by rw [hlen]; exact h2, h3, grownBy_trans HG.out HGA.out⟩

/-- A list of texts handed back in memory of its own. -/
def TxsPost (l : List ByteArray) (w : World) (e : Ending) (w' : World) : Prop := ∃ p c, e = .returned (.slice p l.length c) ∧ StrsAt w' w.heap.size w'.heap.size p l.length l ∧ l.length ≤ c ∧ (p = none → c = 0) ∧ w.grownBy w' none

theorem infoTx : (Tryz.prog.info? 9).map (fun i => (i.zero, i.size, i.bytes)) = some (some (.string .empty), 1, 16) := by kernel_rfl
set_option maxRecDepth 8000 in
set_option maxHeartbeats 4000000 in
theorem paths_c (p : Option Addr) (n c lo hi : Nat) (l : List Hk) (w : World) (h : HksAt w lo hi p n l) (hb : n ≤ 1000000) :
  Calls Tryz.prog 125 #[.slice p n c] w (TxsPost (l.map hPath) w) := by
 obtain ⟨i0, hi0, hz0, hz1, hz2⟩ := info_parts infoTx
 have H := Lib.hid h
 have HL := Lib.hid h.len
 clear h
 go_enter Tryz.func125, Tryz.ntmps125
 go_wp2
 go_loopw [3, 8] (fun v i wr => ∃ (k : Nat), k ≤ n ∧ i = .int .i64 k ∧ wr.ownsRow w.heap.size 9 1 v k (scells ((l.take k).map hPath)) ∧ w.grownBy wr none) (fun _ i _ => n - (intOf i).toNat)
 case atStart => exact ⟨0, Nat.zero_le _, rfl, World.ownsRow_nil _ _ _ _, grownBy_refl _ _⟩
 case round =>
  obtain ⟨k, hk, rfl, hrow, hgr⟩ := hrel
  have HROW := Lib.hid hrow
  have HGR := Lib.hid hgr
  by_cases hkn : k < n
  ·have k0 : (0 : Int) ≤ k := by omega
   have k1 : (k : Int) < n := by omega
   obtain ⟨b, o, rfl, _, _, _, hc⟩ := (H.out.calm hgr).cell (by omega)
   obtain ⟨pa, na, ca, pe, ne, ce, pk, nk, ck, cx0, cx1, cx2, cx3, hh⟩ := hc k hkn
   have HST : Hid ((l.take (k + 1)).map hPath = (l.take k).map hPath ++ [hPath (l[k]?.getD hk0)]) := Lib.hid (by rw [take_snoc (show k < l.length by rw [HL.out]; exact hkn) hk0, List.map_append]; rfl)
   clear hc hrow hgr hh
   generalize hPath (l[k]?.getD hk0) = x at *
   have hga := World.grownBy_alloc wr (.cells #[.string x, .slice pa na ca, .slice pe ne ce, .slice pk nk ck] 68) none
   have HBX := Lib.hid (BoxV.new wr [.string x, .slice pa na ca, .slice pe ne ce, .slice pk nk ck] 68)
   have HROW2 := Lib.hid (HROW.out.alloc (.cells #[.string x, .slice pa na ca, .slice pe ne ce, .slice pk nk ck] 68))
   have HG2 := Lib.hid (grownBy_trans HGR.out hga)
   clear hga HROW
   go_upto_region 5 with fail
   generalize wr.alloc _ = w3 at *
   generalize wr.heap.size = gX at *
   have hg2s := HG2.out.size
   obtain ⟨y0, y1, y2, y3⟩ := HBX.out.four
   clear cx0 cx1 cx2 cx3 HBX
   go_wp2_with (at_builtin; refine wpList_append_own _ rfl _ _ 48 rfl w.heap.size 9 i0 (.string .empty) 1 16 Tryz.underlying48 hi0 hz0 hz1 hz2 rfl (by decide) _ _ _ rfl (HROW2.out.alloc _) ⟨w3.heap.size, 0, none⟩ 1 1 [.string x] rfl rfl box_src (by simp [Value.oneCell']) (by unfold maxLen; omega) (by omega) (by simp; omega) ?_; intro v' w4 hrow4 hgrow4 _; have HO := Lib.hid hrow4; have HGA := Lib.hid (grownBy_app HG2.out HROW2.out hgrow4); clear hrow4 hgrow4)
   exact ⟨⟨k + 1, by omega, by go_num, by rw [HST.out, scells_app]; exact HO.out, HGA.out⟩, by simp [intOf]; omega⟩
  ·obtain rfl : n = k := by omega
   have k1 : ¬ ((n : Int) < n) := by omega
   clear hrow hgr
   go_wp2
   go_ret
   have hlen : (l.map hPath).length = n := by rw [List.length_map, HL.out]
   have h0 := HROW.out
   rw [List.take_of_length_le (by rw [HL.out]; exact Nat.le_refl _)] at h0
   obtain ⟨p9, c9, rfl, h1, h2, h3⟩ := strsAt_own3 hlen h0
   exact ⟨p9, c9, by rw [hlen]; rfl, by rw [hlen]; exact h1, by rw [hlen]; exact h2, h3, HGR.out⟩

end Go.Proofs.YtnknejokneddbaaGreatDoor
