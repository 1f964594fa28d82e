/- Go's own slices.Sort over numbers: where it cuts. -/
import Derived.Test.YtcfhnfnhdhloiaaGreatSrtF
import Derived.Test.YtcfhnfnhdhloiaaGreatRefPa
namespace Go.Proofs.YtcfhnfnhdhloiaaGreat
open Go.RowKit Go.Sort

/-- A row of numbers that is read, beside a box that counts. -/
structure PvU (w : World) (blk n : Nat) (d : Array Int) (bs s : Nat) (t : TypeId) : Prop where
  row : ∀ i, i < n → w.cell? ⟨blk, i, none⟩ = some (.int .u32 d[i]!)
  box : BoxV w bs [.int .i64 (s : Int)] t
  ne : bs ≠ blk
section
variable {w : World} {blk n bs s : Nat} {d : Array Int} {t : TypeId}
theorem PvU.drewN (h : PvU w blk n d bs s t) (q : Nat) : PvU (w.drewN q) blk n d bs s t := ⟨fun i hi => h.row i hi, h.box.calm (grownBy_drewN w q none), h.ne⟩
theorem PvU.set (h : PvU w blk n d bs s t) (r : Nat) : PvU (w.setCell ⟨bs, 0, none⟩ (.int .i64 (r : Int))) blk n d bs r t :=
  ⟨fun i hi => World.grownBy.cell (grownBy_setCell w ⟨bs, 0, none⟩ _) (h.row i hi) (by have := h.ne; simp only [ne_eq, Option.some.injEq]; omega), h.box.set 0 _, h.ne⟩
end

set_option maxRecDepth 8000 in
set_option maxHeartbeats 8000000 in
theorem ord2_c (blk n c a b bs s : Nat) (t : TypeId) (d : Array Int) (w : World) (h : PvU w blk n d bs s t) (ha : a < n) (hb : b < n) (hs : s ≤ 100) :
    Calls Tryz.prog 120 #[.slice (some ⟨blk, 0, none⟩) n c, .int .i64 a, .int .i64 b, .pointer (some ⟨bs, 0, none⟩)] w fun e w' =>
      ∃ x y s' : Nat, e = .returned (.tuple #[.int .i64 x, .int .i64 y]) ∧ (x = a ∧ y = b ∨ x = b ∧ y = a) ∧ s' ≤ s + 1 ∧ PvU w' blk n d bs s' t ∧ w.grownBy w' (some bs) := by
  have cx := h.row a ha
  have cy := h.row b hb
  have HV := Lib.hid (fun q => h.drewN q)
  have HG := Lib.hid (fun q => grownBy_drewN w q (some bs))
  clear h
  have HLC := Lib.hid (fun r h W => lessU_c d[b]! d[a]! r W h)
  have a_0 : (0 : Int) ≤ a := by omega
  have a_1 : (a : Int) < n := by omega
  have b_0 : (0 : Int) ≤ b := by omega
  have b_1 : (b : Int) < n := by omega
  cases hl : ltInt d[b]! d[a]! with
  | true =>
    have HLT := fun W => HLC.out true hl W
    clear hl HLC
    obtain ⟨x, hxe⟩ : ∃ x, d[a]! = x := ⟨_, rfl⟩
    obtain ⟨y, hye⟩ : ∃ y, d[b]! = y := ⟨_, rfl⟩
    rw [hxe] at cx HLT
    rw [hye] at cy HLT
    clear hxe hye
    go_enter Tryz.func120, Tryz.ntmps120
    go_upto_region 1 with fail
    go_quiet (first | (go_at_call 93; refine Calls.quiet_of_same (HLT _)))
    have HV2 := Lib.hid (HV.out nq)
    have HG2 := Lib.hid (HG.out nq)
    clear HLT cx cy HV HG
    generalize World.drewN _ nq = wk at *
    clear nq
    have bc := HV2.out.box.cell (k := 0) rfl
    have bf := HV2.out.box.free 0
    have HV3 := Lib.hid (HV2.out.set (s + 1))
    obtain ⟨s1, hs1⟩ : ∃ s1, s + 1 = s1 := ⟨_, rfl⟩
    have es : (s : Int) + 1 = (s1 : Int) := by omega
    have ws : IntKind.i64.wrap (s1 : Int) = s1 := IntWalk.i64_in _ (by omega)
    rw [hs1] at HV3
    have HS := Lib.hid hs1
    clear hs1
    go_wp2
    go_ret2
    exact ⟨b, a, s1, rfl, Or.inr ⟨rfl, rfl⟩, by have := HS.out; omega, HV3.out, grownBy_trans HG2.out (grownBy_setCell wk ⟨bs, 0, none⟩ _)⟩
  | false =>
    have HLT := fun W => HLC.out false hl W
    clear hl HLC
    obtain ⟨x, hxe⟩ : ∃ x, d[a]! = x := ⟨_, rfl⟩
    obtain ⟨y, hye⟩ : ∃ y, d[b]! = y := ⟨_, rfl⟩
    rw [hxe] at cx HLT
    rw [hye] at cy HLT
    clear hxe hye
    go_enter Tryz.func120, Tryz.ntmps120
    go_upto_region 1 with fail
    go_quiet (first | (go_at_call 93; refine Calls.quiet_of_same (HLT _)))
    have HV2 := Lib.hid (HV.out nq)
    have HG2 := Lib.hid (HG.out nq)
    go_wp2
    go_ret2
    exact ⟨a, b, s, rfl, Or.inl ⟨rfl, rfl⟩, Nat.le_succ _, HV2.out, HG2.out⟩

set_option maxRecDepth 8000 in
set_option maxHeartbeats 8000000 in
theorem med_c (blk n c a b k bs s : Nat) (t : TypeId) (d : Array Int) (w : World) (h : PvU w blk n d bs s t) (ha : a < n) (hb : b < n) (hk : k < n) (hs : s ≤ 90) :
    Calls Tryz.prog 114 #[.slice (some ⟨blk, 0, none⟩) n c, .int .i64 a, .int .i64 b, .int .i64 k, .pointer (some ⟨bs, 0, none⟩)] w fun e w' =>
      ∃ m s' : Nat, e = .returned (.int .i64 m) ∧ (m = a ∨ m = b ∨ m = k) ∧ s' ≤ s + 3 ∧ PvU w' blk n d bs s' t ∧ w.grownBy w' (some bs) := by
  have H := Lib.hid h
  clear h
  go_enter Tryz.func114, Tryz.ntmps114
  go_wp2_with fail
  refine (ord2_c blk n c a b bs s t d w H.out ha hb (by omega)).mono ?_
  rintro e w1 ⟨x1, y1, s1, rfl, h1, hs1, v1, g1⟩
  have V1 := Lib.hid v1
  have G1 := Lib.hid g1
  have X1 := Lib.hid h1
  have S1 := Lib.hid hs1
  clear v1 g1 h1 hs1
  go_wp2_with fail
  refine (ord2_c blk n c y1 k bs s1 t d w1 V1.out (by have := X1.out; omega) hk (by have := S1.out; omega)).mono ?_
  rintro e w2 ⟨x2, y2, s2, rfl, h2, hs2, v2, g2⟩
  have V2 := Lib.hid v2
  have G2 := Lib.hid (grownBy_trans G1.out g2)
  have X2 := Lib.hid h2
  have S2 := Lib.hid hs2
  clear v2 g2 h2 hs2
  go_wp2_with fail
  refine (ord2_c blk n c x1 x2 bs s2 t d w2 V2.out (by have := X1.out; omega) (by have := X1.out; have := X2.out; omega) (by have := S1.out; have := S2.out; omega)).mono ?_
  rintro e w3 ⟨x3, y3, s3, rfl, h3, hs3, v3, g3⟩
  have V3 := Lib.hid v3
  have G3 := Lib.hid (grownBy_trans G2.out g3)
  have X3 := Lib.hid h3
  have S3 := Lib.hid hs3
  clear v3 g3 h3 hs3
  go_wp2
  go_ret
  exact ⟨y3, s3, rfl, by have := X1.out; have := X2.out; have := X3.out; omega, by have := S1.out; have := S2.out; have := S3.out; omega, V3.out, G3.out⟩

set_option maxRecDepth 8000 in
set_option maxHeartbeats 8000000 in
theorem meda_c (blk n c a bs s : Nat) (t : TypeId) (d : Array Int) (w : World) (h : PvU w blk n d bs s t) (h1 : 1 ≤ a) (ha : a + 1 < n) (hs : s ≤ 90) (hn : n ≤ 1000000) :
    Calls Tryz.prog 113 #[.slice (some ⟨blk, 0, none⟩) n c, .int .i64 a, .pointer (some ⟨bs, 0, none⟩)] w fun e w' =>
      ∃ m s' : Nat, e = .returned (.int .i64 m) ∧ (a ≤ m + 1 ∧ m ≤ a + 1) ∧ s' ≤ s + 3 ∧ PvU w' blk n d bs s' t ∧ w.grownBy w' (some bs) := by
  have H := Lib.hid h
  clear h
  obtain ⟨A, hA⟩ : ∃ A, a = A + 1 := ⟨a - 1, by omega⟩
  obtain ⟨B, hB⟩ : ∃ B, a + 1 = B := ⟨_, rfl⟩
  have eA : (a : Int) - 1 = (A : Int) := by omega
  have eB : (a : Int) + 1 = (B : Int) := by omega
  have wA : IntKind.i64.wrap (A : Int) = A := IntWalk.i64_in _ (by omega)
  have wB : IntKind.i64.wrap (B : Int) = B := IntWalk.i64_in _ (by omega)
  have HA := Lib.hid hA
  have HB := Lib.hid hB
  clear hA hB
  go_enter Tryz.func113, Tryz.ntmps113
  go_wp2_with fail
  refine (med_c blk n c A a B bs s t d w H.out (by have := HA.out; omega) (by omega) (by have := HB.out; omega) hs).mono ?_
  rintro e w1 ⟨m, s1, rfl, h2, hs1, v1, g1⟩
  have V1 := Lib.hid v1
  have G1 := Lib.hid g1
  have X1 := Lib.hid h2
  have S1 := Lib.hid hs1
  clear v1 g1 h2 hs1
  go_wp2
  go_ret
  exact ⟨m, s1, rfl, by have := X1.out; have := HA.out; have := HB.out; omega, S1.out, V1.out, G1.out⟩

theorem RowU.calm {w0 w w' : World} {blk n : Nat} {d : Array Int} (h : RowU w0 w blk n d) (hg : w.grownBy w' none) : RowU w0 w' blk n d := by
  refine ⟨fun i hi => ?_, h.size, grownBy_trans h.gr (hg.but _)⟩
  obtain ⟨h1, h2⟩ := h.holds i hi
  refine ⟨World.grownBy.cell hg h1 (by simp), ?_⟩
  rw [World.grownBy.frozen_far hg _ (World.block_lt_of_cell? _ _ h1) (by simp)]
  exact h2

set_option maxRecDepth 8000 in
set_option maxHeartbeats 16000000 in
theorem pivU_c (blk n c a b : Nat) (d : Array Int) (wz w : World) (h : RowU wz w blk n d) (hab : a < b) (hb : b ≤ n) (hn : n ≤ 1000000) :
    Calls Tryz.prog 90 #[.slice (some ⟨blk, 0, none⟩) n c, .int .i64 a, .int .i64 b] w fun e w' =>
      ∃ pv hint : Nat, e = .returned (.tuple #[.int .i64 pv, .int .i64 hint]) ∧ a ≤ pv ∧ pv < b ∧ hint ≤ 2 ∧ w.grownBy w' none := by
  have H := Lib.hid h
  clear h
  obtain ⟨l, hl⟩ : ∃ l, b - a = l := ⟨_, rfl⟩
  obtain ⟨q, hq⟩ : ∃ q, l / 4 = q := ⟨_, rfl⟩
  obtain ⟨i, hi⟩ : ∃ i, a + q = i := ⟨_, rfl⟩
  obtain ⟨j, hj⟩ : ∃ j, a + q * 2 = j := ⟨_, rfl⟩
  obtain ⟨k, hk⟩ : ∃ k, a + q * 3 = k := ⟨_, rfl⟩
  have el : (b : Int) - (a : Int) = (l : Int) := by omega
  have wl : IntKind.i64.wrap (l : Int) = l := IntWalk.i64_in _ (by omega)
  have eq4 : Int.tdiv (l : Int) 4 = (q : Int) := by
    rw [Int.tdiv_eq_ediv_of_nonneg (by omega)]
    omega
  have wq : IntKind.i64.wrap (q : Int) = q := IntWalk.i64_in _ (by omega)
  have e2 : (q : Int) * 2 = ((q * 2 : Nat) : Int) := by omega
  have e3 : (q : Int) * 3 = ((q * 3 : Nat) : Int) := by omega
  have w2 : IntKind.i64.wrap ((q : Int) * 2) = (q : Int) * 2 := IntWalk.i64_in _ (by omega)
  have w3 : IntKind.i64.wrap ((q : Int) * 3) = (q : Int) * 3 := IntWalk.i64_in _ (by omega)
  have ei : (a : Int) + (q : Int) = (i : Int) := by omega
  have ej : (a : Int) + (q : Int) * 2 = (j : Int) := by omega
  have ek : (a : Int) + (q : Int) * 3 = (k : Int) := by omega
  have wi : IntKind.i64.wrap (i : Int) = i := IntWalk.i64_in _ (by omega)
  have wj : IntKind.i64.wrap (j : Int) = j := IntWalk.i64_in _ (by omega)
  have wk : IntKind.i64.wrap (k : Int) = k := IntWalk.i64_in _ (by omega)
  have HL : Hid (b - a = l ∧ l / 4 = q ∧ a + q = i ∧ a + q * 2 = j ∧ a + q * 3 = k) := Lib.hid ⟨hl, hq, hi, hj, hk⟩
  clear hl hq hi hj hk e2 e3
  go_enter Tryz.func90, Tryz.ntmps90
  obtain ⟨bs, hbs⟩ : ∃ bs, w.heap.size = bs := ⟨_, rfl⟩
  have HBS := Lib.hid hbs
  clear hbs
  by_cases h8 : 8 ≤ l
  · have k8 : (8 : Int) ≤ (l : Int) := by omega
    by_cases h50 : 50 ≤ l
    · have k50 : (50 : Int) ≤ (l : Int) := by omega
      go_upto_region 3 with fail
      have cz := H.out.cell (i := a) (by omega) rfl
      have HB : Hid (w.heap.size ≤ bs) := Lib.hid (Nat.le_of_eq HBS.out)
      have GA : Hid (w.grownBy (w.alloc (.cells #[.int .i64 0] 3)) none) := Lib.hid (World.grownBy_alloc w _ none)
      have V0 : Hid (PvU (w.alloc (.cells #[.int .i64 0] 3)) blk n d bs 0 3) := Lib.hid (by
        rw [← HBS.out]
        exact ⟨fun i hi => World.grownBy.cell GA.out (H.out.cell hi rfl) (by simp), BoxV.new w [.int .i64 0] _, by have := World.block_lt_of_cell? _ _ cz; simp at this; omega⟩)
      rw [HBS.out]
      clear cz H HBS
      generalize w.alloc _ = w0 at *
      have G0 : Hid (w0.grownBy w0 (some bs)) := Lib.hid (World.grownBy.refl w0 _)
      go_wp2_with fail
      refine (meda_c blk n c i bs 0 _ d w0 V0.out (by have := HL.out; omega) (by have := HL.out; omega) (by omega) hn).mono ?_
      rintro e w1 ⟨m1, s1, rfl, hm, hs, v, g⟩
      have V1 := Lib.hid v
      have G1 := Lib.hid (grownBy_trans G0.out g)
      have M1 := Lib.hid hm
      have S1 := Lib.hid hs
      clear v g hm hs V0 G0
      go_wp2_with fail
      refine (meda_c blk n c j bs s1 _ d w1 V1.out (by have := HL.out; omega) (by have := HL.out; omega) (by have := S1.out; omega) hn).mono ?_
      rintro e w2 ⟨m2, s2, rfl, hm, hs, v, g⟩
      have V2 := Lib.hid v
      have G2 := Lib.hid (grownBy_trans G1.out g)
      have M2 := Lib.hid hm
      have S2 := Lib.hid hs
      clear v g hm hs V1 G1
      go_wp2_with fail
      refine (meda_c blk n c k bs s2 _ d w2 V2.out (by have := HL.out; omega) (by have := HL.out; omega) (by have := S1.out; have := S2.out; omega) hn).mono ?_
      rintro e w3 ⟨m3, s3, rfl, hm, hs, v, g⟩
      have V3 := Lib.hid v
      have G3 := Lib.hid (grownBy_trans G2.out g)
      have M3 := Lib.hid hm
      have S3 := Lib.hid hs
      clear v g hm hs V2 G2
      go_wp2_with fail
      refine (med_c blk n c m1 m2 m3 bs s3 _ d w3 V3.out (by have := HL.out; have := M1.out; omega) (by have := HL.out; have := M2.out; omega) (by have := HL.out; have := M3.out; omega) (by have := S1.out; have := S2.out; have := S3.out; omega)).mono ?_
      rintro e w4 ⟨m4, s4, rfl, hm, hs, v, g⟩
      have V4 := Lib.hid v
      have G4 := Lib.hid (grownBy_trans G3.out g)
      have M4 := Lib.hid hm
      have S4 := Lib.hid hs
      clear v g hm hs V3 G3
      have bc := V4.out.box.cell (k := 0) rfl
      have HG := Lib.hid (grownBy_new GA.out G4.out HB.out)
      have HJ1 : Hid (a ≤ m4 ∧ m4 < b) := Lib.hid (by have := HL.out; have := M1.out; have := M2.out; have := M3.out; have := M4.out; omega)
      clear V4 G4 GA HB
      by_cases z0 : s4 = 0
      · subst z0
        go_wp2
        go_ret2
        exact ⟨m4, 1, rfl, HJ1.out.1, HJ1.out.2, by omega, HG.out⟩
      · by_cases z12 : s4 = 12
        · subst z12
          go_wp2
          go_ret2
          exact ⟨m4, 2, rfl, HJ1.out.1, HJ1.out.2, by omega, HG.out⟩
        · have n0 : ¬ (s4 : Int) = 0 := by omega
          have n12 : ¬ (s4 : Int) = 12 := by omega
          go_wp2
          go_ret2
          exact ⟨m4, 0, rfl, HJ1.out.1, HJ1.out.2, by omega, HG.out⟩
    · have k50 : ¬ (50 : Int) ≤ (l : Int) := by omega
      go_upto_region 3 with fail
      have cz := H.out.cell (i := a) (by omega) rfl
      have HB : Hid (w.heap.size ≤ bs) := Lib.hid (Nat.le_of_eq HBS.out)
      have GA : Hid (w.grownBy (w.alloc (.cells #[.int .i64 0] 3)) none) := Lib.hid (World.grownBy_alloc w _ none)
      have V0 : Hid (PvU (w.alloc (.cells #[.int .i64 0] 3)) blk n d bs 0 3) := Lib.hid (by
        rw [← HBS.out]
        exact ⟨fun i hi => World.grownBy.cell GA.out (H.out.cell hi rfl) (by simp), BoxV.new w [.int .i64 0] _, by have := World.block_lt_of_cell? _ _ cz; simp at this; omega⟩)
      rw [HBS.out]
      clear cz H HBS
      generalize w.alloc _ = w0 at *
      have G0 : Hid (w0.grownBy w0 (some bs)) := Lib.hid (World.grownBy.refl w0 _)
      go_wp2_with fail
      refine (med_c blk n c i j k bs 0 _ d w0 V0.out (by have := HL.out; omega) (by have := HL.out; omega) (by have := HL.out; omega) (by omega)).mono ?_
      rintro e w1 ⟨m1, s1, rfl, hm, hs, v, g⟩
      have V1 := Lib.hid v
      have G1 := Lib.hid (grownBy_trans G0.out g)
      have M1 := Lib.hid hm
      have S1 := Lib.hid hs
      clear v g hm hs V0 G0
      have bc := V1.out.box.cell (k := 0) rfl
      have HG := Lib.hid (grownBy_new GA.out G1.out HB.out)
      have HJ1 : Hid (a ≤ m1 ∧ m1 < b) := Lib.hid (by have := HL.out; have := M1.out; omega)
      clear V1 G1 GA HB
      by_cases z0 : s1 = 0
      · subst z0
        go_wp2
        go_ret2
        exact ⟨m1, 1, rfl, HJ1.out.1, HJ1.out.2, by omega, HG.out⟩
      · by_cases z12 : s1 = 12
        · subst z12
          go_wp2
          go_ret2
          exact ⟨m1, 2, rfl, HJ1.out.1, HJ1.out.2, by omega, HG.out⟩
        · have n0 : ¬ (s1 : Int) = 0 := by omega
          have n12 : ¬ (s1 : Int) = 12 := by omega
          go_wp2
          go_ret2
          exact ⟨m1, 0, rfl, HJ1.out.1, HJ1.out.2, by omega, HG.out⟩
  · have k8 : ¬ (8 : Int) ≤ (l : Int) := by omega
    go_upto_region 3 with fail
    have cz := H.out.cell (i := a) (by omega) rfl
    have HB : Hid (w.heap.size ≤ bs) := Lib.hid (Nat.le_of_eq HBS.out)
    have GA : Hid (w.grownBy (w.alloc (.cells #[.int .i64 0] 3)) none) := Lib.hid (World.grownBy_alloc w _ none)
    have V0 : Hid (PvU (w.alloc (.cells #[.int .i64 0] 3)) blk n d bs 0 3) := Lib.hid (by
      rw [← HBS.out]
      exact ⟨fun i hi => World.grownBy.cell GA.out (H.out.cell hi rfl) (by simp), BoxV.new w [.int .i64 0] _, by have := World.block_lt_of_cell? _ _ cz; simp at this; omega⟩)
    rw [HBS.out]
    clear cz H HBS
    generalize w.alloc _ = w0 at *
    have G0 : Hid (w0.grownBy w0 (some bs)) := Lib.hid (World.grownBy.refl w0 _)
    have bc := V0.out.box.cell (k := 0) rfl
    go_wp2
    go_ret2
    exact ⟨j, 1, rfl, by have := HL.out; omega, by have := HL.out; omega, by omega, GA.out⟩

end Go.Proofs.YtcfhnfnhdhloiaaGreat
