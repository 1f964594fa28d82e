/- Go's own slices.Sort over numbers: the patterns broken. -/
import Derived.Test.YtcfhnfnhdhloiaaGreatSrtG
import Derived.Test.YtcfhnfnhdhloiaaGreatShelg
import Derived.Laws.Bits64
import Derived.Laws.Bits64b
import Derived.OpenShut
namespace Go.Proofs.YtcfhnfnhdhloiaaGreat
open Go.RowKit Go.Sort

set_option maxRecDepth 8000 in
theorem nextU_c (l : Nat) (w : World) (h0 : 0 < l) (hn : l ≤ 1000000) :
    Calls Tryz.prog 111 #[.int .i64 l] w fun e w' => (∃ m : Nat, e = .returned (.int .u64 m) ∧ 0 < m ∧ m ≤ 2 * l) ∧ w' = w := by
  have wl : IntKind.u64.wrap (l : Int) = l := by rw [IntKind.wrap_u64]; omega
  have HL : Hid (∀ W, Calls Tryz.prog 69 #[.int .u64 (l : Int)] W fun e w' => e = .returned (.int .i64 (bitsLen l : Nat)) ∧ w' = W) := Lib.hid fun W => by
    have h := Tryz.bits_Len (l : Int) W (by omega) (by omega)
    rwa [Int.toNat_natCast, bitLen_eq _ (by omega)] at h
  have HP := Lib.hid (two_pow_bitsLen_le h0)
  obtain ⟨k, hk⟩ : ∃ k, bitsLen l = k := ⟨_, rfl⟩
  rw [hk] at HL HP
  clear hk
  go_enter Tryz.func111, Tryz.ntmps111
  go_wp2_with fail
  refine (HL.out w).mono ?_
  rintro e w5 ⟨rfl, rfl⟩
  have hk64 : k ≤ 63 := by
    rcases Nat.lt_or_ge 63 k with h | h
    · have h1 := Nat.pow_le_pow_right (n := 2) (by omega) h
      have h2 := HP.out
      have h3 : (2 : Nat) ^ Nat.succ 63 = 18446744073709551616 := by decide
      omega
    · exact h
  have e : IntKind.u64.wrap ((2 : Int) ^ min k 64) = ((2 ^ k : Nat) : Int) := by
    rw [Nat.min_eq_left (by omega), IntKind.wrap_u64]
    have h2 := HP.out
    have h4 : (2 : Int) ^ k = ((2 ^ k : Nat) : Int) := by simp
    rw [h4]
    generalize (2 : Nat) ^ k = M at h2 ⊢
    omega
  have HE := Lib.hid e
  have HM := Lib.hid (Nat.two_pow_pos k)
  clear e hk64
  go_wp2
  rw [HE.out]
  go_ret
  exact ⟨⟨2 ^ k, rfl, HM.out, HP.out⟩, rfl⟩

theorem bits_nat (op : BinOp) (a b : Int) : ∃ y : Nat, bits op .u64 a b = (y : Int) ∧ y < 18446744073709551616 := by
  have h := wf_bits op .u64 a b
  generalize bits op .u64 a b = z at h ⊢
  simp [Lit.wf, IntKind.min, IntKind.max, IntKind.signed, IntKind.bits] at h
  exact ⟨z.toNat, by omega, by omega⟩

set_option maxRecDepth 8000 in
theorem xorU_c (bs : Nat) (x : Nat) (t : TypeId) (w : World) (h : BoxV w bs [.int .u64 (x : Int)] t) :
    Calls Tryz.prog 112 #[.pointer (some ⟨bs, 0, none⟩)] w fun e w' => ∃ y : Nat, e = .returned (.int .u64 (y : Int)) ∧ y < 18446744073709551616 ∧ BoxV w' bs [.int .u64 (y : Int)] t ∧ w.grownBy w' (some bs) := by
  have hc := h.cell (k := 0) rfl
  have hf := h.free 0
  have H := Lib.hid h
  clear h
  go_enter Tryz.func112, Tryz.ntmps112
  go_upto_region 1 with fail
  go_region
  obtain ⟨y1, e1, b1⟩ := bits_nat .xor (x : Int) (IntKind.u64.wrap ((x : Int) * 8192))
  rw [e1]
  have H1 : Hid (BoxV (World.drew _) bs [.int .u64 (y1 : Int)] t) := Lib.hid ((H.out.set 0 (.int .u64 (y1 : Int))).calm (grownBy_drewN _ 1 none))
  have G1 : Hid (w.grownBy (World.drew _) (some bs)) := Lib.hid (grownBy_trans (grownBy_setCell w ⟨bs, 0, none⟩ (.int .u64 (y1 : Int))) (grownBy_drewN _ 1 _))
  clear e1 hc hf H
  generalize World.drew _ = w1 at *
  have hc := H1.out.cell (k := 0) rfl
  have hf := H1.out.free 0
  go_upto_region 2 with fail
  go_region
  obtain ⟨y2, e2, b2⟩ := bits_nat .xor (y1 : Int) ((y1 : Int) / 128)
  rw [e2]
  have H2 : Hid (BoxV (World.drew _) bs [.int .u64 (y2 : Int)] t) := Lib.hid ((H1.out.set 0 (.int .u64 (y2 : Int))).calm (grownBy_drewN _ 1 none))
  have G2 : Hid (w.grownBy (World.drew _) (some bs)) := Lib.hid (grownBy_trans G1.out (grownBy_trans (grownBy_setCell w1 ⟨bs, 0, none⟩ (.int .u64 (y2 : Int))) (grownBy_drewN _ 1 _)))
  clear e2 hc hf H1 G1
  generalize World.drew _ = w2 at *
  have hc := H2.out.cell (k := 0) rfl
  have hf := H2.out.free 0
  go_upto_region 3 with fail
  go_region
  obtain ⟨y3, e3, b3⟩ := bits_nat .xor (y2 : Int) (IntKind.u64.wrap ((y2 : Int) * 131072))
  rw [e3]
  have H3 : Hid (BoxV (World.drew _) bs [.int .u64 (y3 : Int)] t) := Lib.hid ((H2.out.set 0 (.int .u64 (y3 : Int))).calm (grownBy_drewN _ 1 none))
  have G3 : Hid (w.grownBy (World.drew _) (some bs)) := Lib.hid (grownBy_trans G2.out (grownBy_trans (grownBy_setCell w2 ⟨bs, 0, none⟩ (.int .u64 (y3 : Int))) (grownBy_drewN _ 1 _)))
  clear e3 hc hf H2 G2
  generalize World.drew _ = w3 at *
  have hc := H3.out.cell (k := 0) rfl
  have hf := H3.out.free 0
  go_wp2
  go_ret
  exact ⟨y3, rfl, b3, H3.out, G3.out⟩

theorem BoxV.far {w w' : World} {g : Nat} {vs : List Value} {t : TypeId} {r : Option Nat} (h : BoxV w g vs t) (hg : w.grownBy w' r) (hne : some g ≠ r) : BoxV w' g vs t := (hg.block g h.lt hne).trans h
theorem RowU.lt {w0 w : World} {blk n : Nat} {d : Array Int} (h : RowU w0 w blk n d) (hn : 0 < n) : blk < w.heap.size := by
  have := World.block_lt_of_cell? _ _ (h.cell hn rfl)
  exact this
theorem RowU.far {w0 w w' : World} {blk n bs : Nat} {d : Array Int} (h : RowU w0 w blk n d) (hg : w.grownBy w' (some bs)) (hne : bs ≠ blk) (hs : w0.heap.size ≤ bs) : RowU w0 w' blk n d := by
  have hn : ∀ i : Nat, some (Addr.block ⟨blk, i, none⟩) ≠ some bs := fun i e => hne (Option.some.inj e).symm
  refine ⟨fun i hi => ?_, h.size, h.gr.andThen hg (fun j e => by cases e; exact Or.inl hs)⟩
  obtain ⟨h1, h2⟩ := h.holds i hi
  refine ⟨World.grownBy.cell hg h1 (hn _), ?_⟩
  rw [World.grownBy.frozen_far hg _ (World.block_lt_of_cell? _ _ h1) (hn _)]
  exact h2
theorem permU_swp {d : Array Int} {a b i j : Nat} (hi : a ≤ i) (hi2 : i < b) (hj : a ≤ j) (hj2 : j < b) (hb : b ≤ d.size) : PermIn a b d (swp d i j) := swp_permIn d a b i j hi hi2 hj hj2 hb
set_option maxRecDepth 8000 in
set_option maxHeartbeats 16000000 in
theorem brkU_c (blk n c a b : Nat) (d : Array Int) (wz w : World) (h : RowU wz w blk n d) (hab : a + 12 < b) (hb : b ≤ n) (hn : n ≤ 1000000) :
    Calls Tryz.prog 89 #[.slice (some ⟨blk, 0, none⟩) n c, .int .i64 a, .int .i64 b] w fun e w' => e = .returned (.tuple #[]) ∧ ∃ d' : Array Int, PermIn a b d d' ∧ RowU wz w' blk n d' := by
  have H := Lib.hid h
  clear h
  obtain ⟨l, hl⟩ : ∃ l, b - a = l := ⟨_, rfl⟩
  obtain ⟨q, hq⟩ : ∃ q, l / 4 = q := ⟨_, rfl⟩
  obtain ⟨j, hj⟩ : ∃ j, a + q * 2 = j := ⟨_, rfl⟩
  obtain ⟨j0, hj0⟩ : ∃ j0, a + q * 2 - 1 = j0 := ⟨_, rfl⟩
  have el : (b : Int) - (a : Int) = (l : Int) := by omega
  have wl : IntKind.i64.wrap (l : Int) = l := IntWalk.i64_in _ (by omega)
  have wlu : IntKind.u64.wrap (l : Int) = l := by rw [IntKind.wrap_u64]; omega
  have eq4 : Int.tdiv (l : Int) 4 = (q : Int) := by
    rw [Int.tdiv_eq_ediv_of_nonneg (by omega)]
    omega
  have wq : IntKind.i64.wrap (q : Int) = q := IntWalk.i64_in _ (by omega)
  have w2 : IntKind.i64.wrap ((q : Int) * 2) = (q : Int) * 2 := IntWalk.i64_in _ (by omega)
  have ej : (a : Int) + (q : Int) * 2 = (j : Int) := by omega
  have wj : IntKind.i64.wrap (j : Int) = j := IntWalk.i64_in _ (by omega)
  have ej0 : (j : Int) - 1 = (j0 : Int) := by omega
  have wj0 : IntKind.i64.wrap (j0 : Int) = j0 := IntWalk.i64_in _ (by omega)
  obtain ⟨j1, hj1⟩ : ∃ j1, j + 1 = j1 := ⟨_, rfl⟩
  have ej1 : (j : Int) + 1 = (j1 : Int) := by omega
  have wj1 : IntKind.i64.wrap (j1 : Int) = j1 := IntWalk.i64_in _ (by omega)
  have k8 : (8 : Int) ≤ (l : Int) := by omega
  have HL : Hid (b - a = l ∧ l / 4 = q ∧ a + q * 2 = j ∧ j0 + 1 = j ∧ a ≤ j0 ∧ j + 1 < b ∧ j + 1 = j1) := Lib.hid ⟨hl, hq, hj, by omega, by omega, by omega, hj1⟩
  clear hl hq hj hj0 hj1
  go_enter Tryz.func89, Tryz.ntmps89
  obtain ⟨bs, hbs⟩ : ∃ bs, w.heap.size = bs := ⟨_, rfl⟩
  have HNE : Hid (bs ≠ blk ∧ wz.heap.size ≤ bs) := Lib.hid (by
    have h1 := H.out.lt (by omega)
    have h2 := H.out.gr.size
    omega)
  go_upto_region 3 with fail
  have HK0 : Hid (RowU wz (w.alloc (.cells #[.int .u64 (l : Int)] 120)) blk n d) := Lib.hid (H.out.calm (World.grownBy_alloc w _ none))
  have HB0 : Hid (BoxV (w.alloc (.cells #[.int .u64 (l : Int)] 120)) bs [.int .u64 (l : Int)] 120) := Lib.hid (by rw [← hbs]; exact BoxV.new w [.int .u64 (l : Int)] _)
  try rw [hbs]
  clear hbs H
  generalize w.alloc _ = w1 at *
  go_wp2_with fail
  refine (nextU_c l w1 (by have := HL.out; omega) (by have := HL.out; omega)).mono ?_
  rintro e w2 ⟨⟨m, rfl, hm0, hm2⟩, hww⟩
  subst w2
  obtain ⟨M, hM⟩ : ∃ M, m = M + 1 := ⟨m - 1, by omega⟩
  have eM : (m : Int) - 1 = (M : Int) := by omega
  have wM : IntKind.u64.wrap (M : Int) = M := by rw [IntKind.wrap_u64]; have := HL.out; omega
  have HM : Hid (M < 2 * l) := Lib.hid (by omega)
  clear hM hm0 hm2
  go_wp2
  go_loopw [9, 10] (fun vi _ wr => ∃ (i x : Nat) (dk : Array Int), vi = .int .i64 i ∧ j0 ≤ i ∧ i ≤ j1 + 1 ∧ Hid (RowU wz wr blk n dk) ∧ Hid (BoxV wr bs [.int .u64 (x : Int)] 120) ∧ Hid (PermIn a b d dk)) (fun vi _ _ => n + 3 - (intOf vi).toNat)
  case atStart => exact ⟨j0, l, d, rfl, Nat.le_refl _, by have := HL.out; omega, HK0, HB0, Lib.hid (permIn_refl d a b)⟩
  case round =>
    clear HK0 HB0
    obtain ⟨i, x, dk, rfl, hi0, hi1, HK, HB, HP⟩ := hrel
    by_cases hij : i ≤ j1
    · have kij : (i : Int) ≤ (j1 : Int) := by omega
      have ib : i < b := by have := HL.out; omega
      have i_0 : (0 : Int) ≤ i := by omega
      have i_1 : (i : Int) < n := by omega
      go_wp2_with fail
      refine (xorU_c bs x _ wr HB.out).mono ?_
      rintro e w5 ⟨y, rfl, hy, h5, g5⟩
      have HB3 := Lib.hid h5
      have HK3 := Lib.hid (HK.out.far g5 HNE.out.1 HNE.out.2)
      clear h5 g5 HB HK
      obtain ⟨o, ho⟩ : ∃ o, y &&& M = o := ⟨_, rfl⟩
      have ea : bits .and .u64 (y : Int) (M : Int) = (o : Int) := by
        rw [bits_and_u64_nat y M hy (by have := HM.out; have := HL.out; omega), ho]
      have hoM : o ≤ M := by rw [← ho]; exact Nat.and_le_right
      have HO : Hid (o < 2 * l) := Lib.hid (by have := HM.out; omega)
      have wo : IntKind.i64.wrap (o : Int) = o := IntWalk.i64_in _ (by have := HO.out; have := HL.out; omega)
      have HOB := HO.out
      have HLL : l ≤ n := by have := HL.out; omega
      clear ho hoM
      by_cases hol : l ≤ o
      · have ko : (l : Int) ≤ (o : Int) := by omega
        obtain ⟨o2, ho2⟩ : ∃ o2, o - l = o2 := ⟨_, rfl⟩
        have eo : (o : Int) - (l : Int) = (o2 : Int) := by omega
        have wo2 : IntKind.i64.wrap (o2 : Int) = o2 := IntWalk.i64_in _ (by omega)
        have ob : o2 < l := by omega
        clear ho2
        obtain ⟨f, hf⟩ : ∃ f, a + o2 = f := ⟨_, rfl⟩
        have ef : (a : Int) + (o2 : Int) = (f : Int) := by omega
        have wf : IntKind.i64.wrap (f : Int) = f := IntWalk.i64_in _ (by omega)
        have HF : Hid (a ≤ f ∧ f < b) := Lib.hid ⟨by omega, by have := HL.out; omega⟩
        have f_0 : (0 : Int) ≤ f := by omega
        have f_1 : (f : Int) < n := by have := HF.out; omega
        have f_2 : f < n := by have := HF.out; omega
        clear hf
        by_cases hif : i = f
        · subst hif
          have hx := HK3.out.cell (i := i) (by omega) rfl
          have fx := HK3.out.free (i := i) (by omega)
          have HSW := Lib.hid ((HK3.out.drewN 1).swap (i := i) (j := i) (by omega) (by omega) rfl rfl)
          have HGS := Lib.hid (fun x : Int => grownBy_trans (grownBy_trans (grownBy_setCell w5 ⟨blk, i, none⟩ (.int .u32 x)) (grownBy_setCell _ ⟨blk, i, none⟩ (.int .u32 x))) (grownBy_drewN _ 1 (some blk)))
          generalize dk[i]! = x at *
          go_wp2
          go_region
          have HB4 : Hid (BoxV (World.drew _) bs [.int .u64 (y : Int)] 120) := Lib.hid (HB3.out.far (HGS.out x) (by have := HNE.out; simp only [ne_eq, Option.some.injEq]; omega))
          go_wp2
          exact ⟨⟨i + 1, y, _, by go_num, by omega, by have := HL.out; omega, HSW, HB4, Lib.hid (permIn_trans _ _ _ a b HP.out (permU_swp (by have := HL.out; omega) (by have := HL.out; omega) (by omega) (by have := HF.out; omega) (by have := HK3.out.size; omega)))⟩, by first | (simp [intOf]; done) | (simp [intOf]; omega)⟩
        · have g1 : ¬ i = f := hif
          have g2 : ¬ f = i := fun e => hif e.symm
          have hx := HK3.out.cell (i := i) (by omega) rfl
          have hy := HK3.out.cell (i := f) (by omega) rfl
          have fx := HK3.out.free (i := i) (by omega)
          have fy := HK3.out.free (i := f) (by omega)
          have HSW := Lib.hid ((HK3.out.drewN 1).swap (i := i) (j := f) (by omega) (by omega) rfl rfl)
          have HGS := Lib.hid (fun x y : Int => grownBy_trans (grownBy_trans (grownBy_setCell w5 ⟨blk, i, none⟩ (.int .u32 y)) (grownBy_setCell _ ⟨blk, f, none⟩ (.int .u32 x))) (grownBy_drewN _ 1 (some blk)))
          generalize dk[i]! = x at *
          generalize dk[f]! = z at *
          go_wp2
          go_region
          have HB4 : Hid (BoxV (World.drew _) bs [.int .u64 (y : Int)] 120) := Lib.hid (HB3.out.far (HGS.out x z) (by have := HNE.out; simp only [ne_eq, Option.some.injEq]; omega))
          go_wp2
          exact ⟨⟨i + 1, y, _, by go_num, by omega, by have := HL.out; omega, HSW, HB4, Lib.hid (permIn_trans _ _ _ a b HP.out (permU_swp (by have := HL.out; omega) (by have := HL.out; omega) (by have := HF.out; omega) (by have := HF.out; omega) (by have := HK3.out.size; omega)))⟩, by first | (simp [intOf]; done) | (simp [intOf]; omega)⟩
      · have ko : ¬ (l : Int) ≤ (o : Int) := by omega
        obtain ⟨o2, ho2⟩ : ∃ o2, o = o2 := ⟨_, rfl⟩
        subst ho2
        have ob : o < l := by omega
        obtain ⟨f, hf⟩ : ∃ f, a + o = f := ⟨_, rfl⟩
        have ef : (a : Int) + (o : Int) = (f : Int) := by omega
        have wf : IntKind.i64.wrap (f : Int) = f := IntWalk.i64_in _ (by omega)
        have HF : Hid (a ≤ f ∧ f < b) := Lib.hid ⟨by omega, by have := HL.out; omega⟩
        have f_0 : (0 : Int) ≤ f := by omega
        have f_1 : (f : Int) < n := by have := HF.out; omega
        have f_2 : f < n := by have := HF.out; omega
        clear hf
        by_cases hif : i = f
        · subst hif
          have hx := HK3.out.cell (i := i) (by omega) rfl
          have fx := HK3.out.free (i := i) (by omega)
          have HSW := Lib.hid ((HK3.out.drewN 1).swap (i := i) (j := i) (by omega) (by omega) rfl rfl)
          have HGS := Lib.hid (fun x : Int => grownBy_trans (grownBy_trans (grownBy_setCell w5 ⟨blk, i, none⟩ (.int .u32 x)) (grownBy_setCell _ ⟨blk, i, none⟩ (.int .u32 x))) (grownBy_drewN _ 1 (some blk)))
          generalize dk[i]! = x at *
          go_wp2
          go_region
          have HB4 : Hid (BoxV (World.drew _) bs [.int .u64 (y : Int)] 120) := Lib.hid (HB3.out.far (HGS.out x) (by have := HNE.out; simp only [ne_eq, Option.some.injEq]; omega))
          go_wp2
          exact ⟨⟨i + 1, y, _, by go_num, by omega, by have := HL.out; omega, HSW, HB4, Lib.hid (permIn_trans _ _ _ a b HP.out (permU_swp (by have := HL.out; omega) (by have := HL.out; omega) (by omega) (by have := HF.out; omega) (by have := HK3.out.size; omega)))⟩, by first | (simp [intOf]; done) | (simp [intOf]; omega)⟩
        · have g1 : ¬ i = f := hif
          have g2 : ¬ f = i := fun e => hif e.symm
          have hx := HK3.out.cell (i := i) (by omega) rfl
          have hy := HK3.out.cell (i := f) (by omega) rfl
          have fx := HK3.out.free (i := i) (by omega)
          have fy := HK3.out.free (i := f) (by omega)
          have HSW := Lib.hid ((HK3.out.drewN 1).swap (i := i) (j := f) (by omega) (by omega) rfl rfl)
          have HGS := Lib.hid (fun x y : Int => grownBy_trans (grownBy_trans (grownBy_setCell w5 ⟨blk, i, none⟩ (.int .u32 y)) (grownBy_setCell _ ⟨blk, f, none⟩ (.int .u32 x))) (grownBy_drewN _ 1 (some blk)))
          generalize dk[i]! = x at *
          generalize dk[f]! = z at *
          go_wp2
          go_region
          have HB4 : Hid (BoxV (World.drew _) bs [.int .u64 (y : Int)] 120) := Lib.hid (HB3.out.far (HGS.out x z) (by have := HNE.out; simp only [ne_eq, Option.some.injEq]; omega))
          go_wp2
          exact ⟨⟨i + 1, y, _, by go_num, by omega, by have := HL.out; omega, HSW, HB4, Lib.hid (permIn_trans _ _ _ a b HP.out (permU_swp (by have := HL.out; omega) (by have := HL.out; omega) (by have := HF.out; omega) (by have := HF.out; omega) (by have := HK3.out.size; omega)))⟩, by first | (simp [intOf]; done) | (simp [intOf]; omega)⟩
    · have kij : ¬ (i : Int) ≤ (j1 : Int) := by omega
      go_wp2
      go_end0
      exact ⟨rfl, dk, HP.out, HK.out⟩

end Go.Proofs.YtcfhnfnhdhloiaaGreat
