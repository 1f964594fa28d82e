/- The contracts of centolaw5's own functions few and known. -/
import Derived.Test.YtjimgihfejjilaaRefat
namespace Go.Proofs.Ytjimgihfejjilaa
open Go.RowKit

def ok100 (s : ByteArray) : Bool := decide (s.size ≤ 100)
def fewB (L : List ByteArray) (m : Nat) : Bool := L.all ok100 && (decide (L.length ≤ 50) && decide (m ≤ 200))

set_option maxHeartbeats 1000000 in
theorem few5_r (p q : Option Addr) (n c m d lo hi : Nat) (L : List ByteArray) (P : List (Int × Int)) (r : Bool) (w : World) (h : ObjAt w lo hi p n q m L P) (hn : n ≤ maxLen) (hr : fewB L m = r) :
    Calls Try.prog 7 #[.agg #[.slice p n c, .slice q m d]] w fun e w' => e = .returned (.bool r) ∧ w.grownBy w' none := by
  unfold maxLen at hn
  have hg0 := World.grownBy_alloc w (.cells #[.slice p n c, .slice q m d] 25) none
  have H1 := Lib.hid (h.calm hg0)
  have HLEN := Lib.hid h.ls.len
  have HR := Lib.hid hr
  have HG0 := Lib.hid hg0
  clear h hr hg0
  go_enter Try.func7, Try.ntmps7
  go_wp2
  go_loop [3] (fun i => ∃ k : Nat, k ≤ n ∧ i = .int .i64 k ∧ Hid ((L.take k).all ok100 = true)) (fun i => n - (intOf i).toNat)
  case atStart => exact ⟨0, Nat.zero_le _, rfl, Lib.hid rfl⟩
  case round =>
    obtain ⟨k, hk, rfl, HA⟩ := hrel
    by_cases hkn : k < n
    · obtain ⟨b, off, rfl, q1, q2, q3, hc⟩ := H1.out.ls.cell (by omega)
      have hck := hc k hkn
      have k0 : (k : Int) < n := by omega
      have HS := Lib.hid (all_take ok100 (L := L) (k := k) (by rw [HLEN.out]; exact hkn))
      have HO := Lib.hid (fun h => all_out ok100 (L := L) (k := k) (by rw [HLEN.out]; exact hkn) h)
      clear hc
      generalize L[k]?.getD .empty = s at *
      by_cases hs : s.size ≤ 100
      · have hs' : (s.size : Int) ≤ 100 := by omega
        have HN : Hid ((L.take (k + 1)).all ok100 = true) := Lib.hid (by rw [HS.out, HA.out]; simpa [ok100] using hs)
        go_wp2
        go_round
        case rel => exact ⟨k + 1, by omega, by go_num, HN⟩
        case measure => simp [intOf]; omega
      · have hs' : (100 : Int) < s.size := by omega
        obtain rfl : r = false := by
          rw [← HR.out]; unfold fewB; rw [HO.out (by unfold ok100; simpa using hs)]; rfl
        go_wp2
        go_ret
        exact ⟨rfl, HG0.out⟩
    · obtain rfl : n = k := by omega
      have k0 : ¬ ((n : Int) < n) := by omega
      have HAL : Hid (L.all ok100 = true) := by
        refine Lib.hid ?_
        have := HA.out
        rw [List.take_of_length_le (by rw [HLEN.out]; exact Nat.le_refl _)] at this
        exact this
      by_cases h50 : n ≤ 50
      · have d1 : (n : Int) ≤ 50 := by omega
        by_cases h200 : m ≤ 200
        · have d2 : (m : Int) ≤ 200 := by omega
          obtain rfl : r = true := by
            rw [← HR.out]; unfold fewB; rw [HAL.out, HLEN.out, decide_eq_true h50, decide_eq_true h200]; rfl
          go_wp2
          go_ret
          exact ⟨rfl, HG0.out⟩
        · have d2 : ¬ ((m : Int) ≤ 200) := by omega
          obtain rfl : r = false := by
            rw [← HR.out]; unfold fewB; rw [HAL.out, HLEN.out, decide_eq_true h50, decide_eq_false h200]; rfl
          go_wp2
          go_ret
          exact ⟨rfl, HG0.out⟩
      · have d1 : ¬ ((n : Int) ≤ 50) := by omega
        obtain rfl : r = false := by
          rw [← HR.out]; unfold fewB; rw [HAL.out, HLEN.out, decide_eq_false h50]; rfl
        go_wp2
        go_ret
        exact ⟨rfl, HG0.out⟩


theorem k5_1 : arB [⟨#[120]⟩, ⟨#[120]⟩] [] [⟨#[120]⟩] [] [0, 0] = true := by decide +kernel
theorem k5_2 : arB [⟨#[120]⟩] [] [⟨#[120]⟩, ⟨#[120]⟩] [] [2] = false := by decide +kernel
theorem k5_3 : thenB [1, 0] ([5, 6] : List Int).length = true := by decide +kernel
theorem k5_4 : thenL [1, 0] [5, 6] = [6, 5] := by decide +kernel
theorem k5_5 : thenB [2] ([0] : List Int).length = false := by decide +kernel
theorem k5_6 : injB [6, 5] = true := by decide +kernel
theorem k5_7 : injB [1, 1] = false := by decide +kernel
theorem k5_8 : invB [⟨#[120]⟩, ⟨#[120]⟩] [] [⟨#[120]⟩, ⟨#[120]⟩] [] [1, 0] [1, 0] = true := by decide +kernel
theorem k5_9 : invB [⟨#[120]⟩, ⟨#[120]⟩] [] [⟨#[120]⟩] [] [0, 0] [0] = false := by decide +kernel
theorem k5_10 : idN 3 = 3 := by decide +kernel
theorem k5_11 : idL 3 = [0, 1, 2] := by decide +kernel

theorem zs2 (w : World) (a b : Int) : ZsAt (w.alloc (.cells #[.int .i64 a, .int .i64 b] 3)) w.heap.size (w.heap.size + 1) (some ⟨w.heap.size, 0, none⟩) 2 [a, b] := by
  refine ⟨rfl, fun _ => ⟨w.heap.size, 0, rfl, Nat.le_refl _, Nat.lt_succ_self _, by simp, fun k hk => ?_⟩⟩
  match k, hk with
  | 0, _ => simp
  | 1, _ => simp
theorem zs1 (w : World) (a : Int) : ZsAt (w.alloc (.cells #[.int .i64 a] 3)) w.heap.size (w.heap.size + 1) (some ⟨w.heap.size, 0, none⟩) 1 [a] := by
  refine ⟨rfl, fun _ => ⟨w.heap.size, 0, rfl, Nat.le_refl _, Nat.lt_succ_self _, by simp, fun k hk => ?_⟩⟩
  match k, hk with
  | 0, _ => simp
theorem zs2' (w : World) (o : Obj) (a b : Int) : ZsAt ((w.alloc o).alloc (.cells #[.int .i64 a, .int .i64 b] 3)) (w.heap.size + 1) (w.heap.size + 1 + 1) (some ⟨w.heap.size + 1, 0, none⟩) 2 [a, b] := by
  have := zs2 (w.alloc o) a b
  rw [World.size_alloc] at this
  exact this
theorem zs1' (w : World) (o : Obj) (a : Int) : ZsAt ((w.alloc o).alloc (.cells #[.int .i64 a] 3)) (w.heap.size + 1) (w.heap.size + 1 + 1) (some ⟨w.heap.size + 1, 0, none⟩) 1 [a] := by
  have := zs1 (w.alloc o) a
  rw [World.size_alloc] at this
  exact this
theorem ss2 (w : World) (a b : ByteArray) : StrsAt (w.alloc (.cells #[.string a, .string b] 9)) w.heap.size (w.heap.size + 1) (some ⟨w.heap.size, 0, none⟩) 2 [a, b] := by
  refine ⟨rfl, fun _ => ⟨w.heap.size, 0, rfl, Nat.le_refl _, Nat.lt_succ_self _, by simp, fun k hk => ?_⟩⟩
  match k, hk with
  | 0, _ => simp
  | 1, _ => simp
theorem ss1 (w : World) (a : ByteArray) : StrsAt (w.alloc (.cells #[.string a] 9)) w.heap.size (w.heap.size + 1) (some ⟨w.heap.size, 0, none⟩) 1 [a] := by
  refine ⟨rfl, fun _ => ⟨w.heap.size, 0, rfl, Nat.le_refl _, Nat.lt_succ_self _, by simp, fun k hk => ?_⟩⟩
  match k, hk with
  | 0, _ => simp

/-- What known lays first, and what stays of it. -/
structure KEnv5 (w W : World) : Prop where
  g : w.grownBy W none
  a : ObjAt W w.heap.size (w.heap.size + 1) (some ⟨w.heap.size, 0, none⟩) 2 none 0 [⟨#[120]⟩, ⟨#[120]⟩] []
  b : ObjAt W (w.heap.size + 1 + 1) (w.heap.size + 1 + 1 + 1) (some ⟨w.heap.size + 1 + 1, 0, none⟩) 1 none 0 [⟨#[120]⟩] []
  a0 : W.cell? ⟨w.heap.size + 1, 0, none⟩ = some (.slice (some ⟨w.heap.size, 0, none⟩) 2 2)
  a1 : W.cell? ⟨w.heap.size + 1, 1, none⟩ = some (.slice none 0 0)
  b0 : W.cell? ⟨w.heap.size + 1 + 1 + 1, 0, none⟩ = some (.slice (some ⟨w.heap.size + 1 + 1, 0, none⟩) 1 1)
  b1 : W.cell? ⟨w.heap.size + 1 + 1 + 1, 1, none⟩ = some (.slice none 0 0)
  z : w.heap.size + 1 + 1 + 1 < W.heap.size
theorem KEnv5.calm {w W W' : World} (h : KEnv5 w W) (hg : W.grownBy W' none) : KEnv5 w W' := by
  have hz := h.z
  have k1 := hg.block (w.heap.size + 1) (by omega) (by simp)
  have k3 := hg.block (w.heap.size + 1 + 1 + 1) (by omega) (by simp)
  exact ⟨grownBy_trans h.g hg, h.a.calm hg, h.b.calm hg, (World.cell?_of_block (a := ⟨w.heap.size + 1, 0, none⟩) k1).trans h.a0, (World.cell?_of_block (a := ⟨w.heap.size + 1, 1, none⟩) k1).trans h.a1, (World.cell?_of_block (a := ⟨w.heap.size + 1 + 1 + 1, 0, none⟩) k3).trans h.b0, (World.cell?_of_block (a := ⟨w.heap.size + 1 + 1 + 1, 1, none⟩) k3).trans h.b1, Nat.lt_of_lt_of_le hz hg.size⟩
theorem kenv5_new (w : World) : KEnv5 w ((((w.alloc (.cells #[.string ⟨#[120]⟩, .string ⟨#[120]⟩] 9)).alloc (.cells #[.slice (some ⟨w.heap.size, 0, none⟩) 2 2, .slice none 0 0] 25)).alloc (.cells #[.string ⟨#[120]⟩] 9)).alloc (.cells #[.slice (some ⟨w.heap.size + 1 + 1, 0, none⟩) 1 1, .slice none 0 0] 25)) := by
  have g1 := World.grownBy_alloc w (.cells #[.string ⟨#[120]⟩, .string ⟨#[120]⟩] 9) none
  generalize hw1 : w.alloc (.cells #[.string ⟨#[120]⟩, .string ⟨#[120]⟩] 9) = w1 at *
  have s1 : w1.heap.size = w.heap.size + 1 := by rw [← hw1]; simp
  have h1 : StrsAt w1 w.heap.size (w.heap.size + 1) (some ⟨w.heap.size, 0, none⟩) 2 [⟨#[120]⟩, ⟨#[120]⟩] := by rw [← hw1]; exact ss2 w _ _
  have g2 := World.grownBy_alloc w1 (.cells #[.slice (some ⟨w.heap.size, 0, none⟩) 2 2, .slice none 0 0] 25) none
  have b2 := box2 (grownBy_refl (w1.alloc (.cells #[.slice (some ⟨w.heap.size, 0, none⟩) 2 2, .slice none 0 0] 25)) none)
  generalize hw2 : w1.alloc (.cells #[.slice (some ⟨w.heap.size, 0, none⟩) 2 2, .slice none 0 0] 25) = w2 at *
  have s2 : w2.heap.size = w.heap.size + 1 + 1 := by rw [← hw2]; simp [s1]
  have g3 := World.grownBy_alloc w2 (.cells #[.string ⟨#[120]⟩] 9) none
  have h3 := ss1 w2 ⟨#[120]⟩
  generalize hw3 : w2.alloc (.cells #[.string ⟨#[120]⟩] 9) = w3 at *
  have s3 : w3.heap.size = w.heap.size + 1 + 1 + 1 := by rw [← hw3]; simp [s2]
  have g4 := World.grownBy_alloc w3 (.cells #[.slice (some ⟨w.heap.size + 1 + 1, 0, none⟩) 1 1, .slice none 0 0] 25) none
  have b4 := box2 (grownBy_refl (w3.alloc (.cells #[.slice (some ⟨w.heap.size + 1 + 1, 0, none⟩) 1 1, .slice none 0 0] 25)) none)
  have s4 : (w3.alloc (.cells #[.slice (some ⟨w.heap.size + 1 + 1, 0, none⟩) 1 1, .slice none 0 0] 25)).heap.size = w.heap.size + 1 + 1 + 1 + 1 := by simp [s3]
  generalize hw4 : w3.alloc (.cells #[.slice (some ⟨w.heap.size + 1 + 1, 0, none⟩) 1 1, .slice none 0 0] 25) = w4 at *
  rw [s1] at b2
  rw [s2] at h3
  rw [s3] at b4
  have g34 := grownBy_trans g3 g4
  have k1 := g34.block (w.heap.size + 1) (by omega) (by simp)
  exact ⟨grownBy_trans g1 (grownBy_trans g2 g34), ⟨h1.calm (grownBy_trans g2 g34), pairsAt_nil _ _ _⟩, ⟨h3.calm g4, pairsAt_nil _ _ _⟩, (World.cell?_of_block (a := ⟨w.heap.size + 1, 0, none⟩) k1).trans b2.1, (World.cell?_of_block (a := ⟨w.heap.size + 1, 1, none⟩) k1).trans b2.2.1, b4.1, b4.2.1, by omega⟩

set_option maxRecDepth 20000 in
set_option maxHeartbeats 4000000 in
theorem known5_c (w : World) : Calls Try.prog 6 #[] w fun e w' => e = .returned (.bool true) ∧ w.grownBy w' none := by
  have HE0 := Lib.hid (kenv5_new w)
  go_enter Try.func6, Try.ntmps6
  go_wp2_with fail
  have sW : ((((w.alloc (.cells #[.string ⟨#[120]⟩, .string ⟨#[120]⟩] 9)).alloc (.cells #[.slice (some ⟨w.heap.size, 0, none⟩) 2 2, .slice none 0 0] 25)).alloc (.cells #[.string ⟨#[120]⟩] 9)).alloc (.cells #[.slice (some ⟨w.heap.size + 1 + 1, 0, none⟩) 1 1, .slice none 0 0] 25)).heap.size = w.heap.size + 1 + 1 + 1 + 1 := by simp
  generalize ((((w.alloc (.cells #[.string ⟨#[120]⟩, .string ⟨#[120]⟩] 9)).alloc (.cells #[.slice (some ⟨w.heap.size, 0, none⟩) 2 2, .slice none 0 0] 25)).alloc (.cells #[.string ⟨#[120]⟩] 9)).alloc (.cells #[.slice (some ⟨w.heap.size + 1 + 1, 0, none⟩) 1 1, .slice none 0 0] 25)) = W0 at *
  have hz1 := (zs2 W0 1 0).calm (World.grownBy_alloc _ (.cells #[.int .i64 5, .int .i64 6] 3) none)
  have hz2 := zs2' W0 (.cells #[.int .i64 1, .int .i64 0] 3) 5 6
  rw [sW] at hz1 hz2
  have HZ1 := Lib.hid hz1
  have HZ2 := Lib.hid hz2
  clear hz1 hz2 sW
  refine (then_c _ _ _ _ _ _ _ _ _ _ [1, 0] [5, 6] _ (by exact HZ1.out) (by exact HZ2.out) (by decide)).mono ?_
  rintro e w1 ⟨hg1, ⟨_, bf, rfl, _, hrow⟩ | ⟨h1, _⟩⟩
  case inr => rw [k5_3] at h1; cases h1
  rw [k5_4] at hrow
  have HE1 := Lib.hid (HE0.out.calm (grownBy_trans (World.grownBy_alloc _ _ none) (grownBy_trans (World.grownBy_alloc _ _ none) hg1)))
  have HF1 := Lib.hid hrow
  clear hg1 hrow HE0 HZ1 HZ2
  go_wp2_with fail
  refine (then_c _ _ _ _ _ _ _ _ _ _ [2] [0] _ (by exact (zs1 w1 2).calm (World.grownBy_alloc _ _ none)) (by exact zs1' w1 _ 0) (by decide)).mono ?_
  rintro e w2 ⟨hg2, ⟨h1, _⟩ | ⟨_, rfl⟩⟩
  case inl => rw [k5_5] at h1; cases h1
  have hg2' := grownBy_trans (World.grownBy_alloc _ _ none) (grownBy_trans (World.grownBy_alloc _ _ none) hg2)
  have HE2 := Lib.hid (HE1.out.calm hg2')
  have HF2 := Lib.hid (HF1.out.calm hg2')
  clear hg2 hg2' HE1 HF1
  have a0 := HE2.out.a0
  have a1 := HE2.out.a1
  have b0 := HE2.out.b0
  have b1 := HE2.out.b1
  have z := HE2.out.z
  go_wp2_with fail
  refine (arIs_r _ _ _ _ _ _ _ _ _ _ _ _ _ _ _ _ _ _ _ _ _ [⟨#[120]⟩, ⟨#[120]⟩] [⟨#[120]⟩] [] [] [0, 0] true _ (by exact (HE2.out.a).calm (World.grownBy_alloc _ _ none)) (by exact (HE2.out.b).calm (World.grownBy_alloc _ _ none)) (by exact zs2 w2 0 0) (by decide) (by decide) (by decide) k5_1).mono ?_
  rintro e w3 ⟨rfl, hg⟩
  have HE3 := Lib.hid (HE2.out.calm (grownBy_trans (World.grownBy_alloc _ _ none) hg))
  have HF3 := Lib.hid (HF2.out.calm (grownBy_trans (World.grownBy_alloc _ _ none) hg))
  clear hg a0 a1 b0 b1 z HE2 HF2
  have a0 := HE3.out.a0
  have a1 := HE3.out.a1
  have b0 := HE3.out.b0
  have b1 := HE3.out.b1
  have z := HE3.out.z
  go_wp2_with fail
  refine (arIs_r _ _ _ _ _ _ _ _ _ _ _ _ _ _ _ _ _ _ _ _ _ [⟨#[120]⟩] [⟨#[120]⟩, ⟨#[120]⟩] [] [] [2] false _ (by exact (HE3.out.b).calm (World.grownBy_alloc _ _ none)) (by exact (HE3.out.a).calm (World.grownBy_alloc _ _ none)) (by exact zs1 w3 2) (by decide) (by decide) (by decide) k5_2).mono ?_
  rintro e w4 ⟨rfl, hg⟩
  have HE4 := Lib.hid (HE3.out.calm (grownBy_trans (World.grownBy_alloc _ _ none) hg))
  have HF4 := Lib.hid (HF3.out.calm (grownBy_trans (World.grownBy_alloc _ _ none) hg))
  clear hg a0 a1 b0 b1 z HE3 HF3
  have f0 := HF4.out.cell (k := 0) (by decide)
  have a0 := HE4.out.a0
  have a1 := HE4.out.a1
  have b0 := HE4.out.b0
  have b1 := HE4.out.b1
  have z := HE4.out.z
  go_wp2_with fail
  refine (ident_c 3 3 _ k5_10).mono ?_
  rintro e w5 ⟨bi, rfl, _, _, hg⟩
  have HE5 := Lib.hid (HE4.out.calm hg)
  have HF5 := Lib.hid (HF4.out.calm hg)
  clear f0 hg a0 a1 b0 b1 z HE4 HF4
  have a0 := HE5.out.a0
  have a1 := HE5.out.a1
  have b0 := HE5.out.b0
  have b1 := HE5.out.b1
  have z := HE5.out.z
  go_wp2_with fail
  refine (arSame_r _ _ _ _ _ _ _ _ _ _ [6, 5] [6, 5] true _ (by exact (HF5.out.at1).calm (World.grownBy_alloc _ _ none)) (by exact zs2 w5 6 5) (by decide) (by decide)).mono ?_
  rintro e w6 ⟨rfl, hg⟩
  have HE6 := Lib.hid (HE5.out.calm (grownBy_trans (World.grownBy_alloc _ _ none) hg))
  have HF6 := Lib.hid (HF5.out.calm (grownBy_trans (World.grownBy_alloc _ _ none) hg))
  clear hg a0 a1 b0 b1 z HE5 HF5
  have a0 := HE6.out.a0
  have a1 := HE6.out.a1
  have b0 := HE6.out.b0
  have b1 := HE6.out.b1
  have z := HE6.out.z
  go_wp2_with fail
  refine (inj_r _ _ _ _ _ [6, 5] true _ (by exact HF6.out.at1) (by decide) (fun h => by cases h) k5_6).mono ?_
  rintro e w7 ⟨rfl, hg⟩
  have HE7 := Lib.hid (HE6.out.calm hg)
  have HF7 := Lib.hid (HF6.out.calm hg)
  clear hg a0 a1 b0 b1 z HE6 HF6
  have a0 := HE7.out.a0
  have a1 := HE7.out.a1
  have b0 := HE7.out.b0
  have b1 := HE7.out.b1
  have z := HE7.out.z
  go_wp2_with fail
  refine (inj_r _ _ _ _ _ [1, 1] false _ (by exact zs2 w7 1 1) (by decide) (fun h => by cases h) k5_7).mono ?_
  rintro e w8 ⟨rfl, hg⟩
  have HE8 := Lib.hid (HE7.out.calm (grownBy_trans (World.grownBy_alloc _ _ none) hg))
  have HF8 := Lib.hid (HF7.out.calm (grownBy_trans (World.grownBy_alloc _ _ none) hg))
  clear hg a0 a1 b0 b1 z HE7 HF7
  have a0 := HE8.out.a0
  have a1 := HE8.out.a1
  have b0 := HE8.out.b0
  have b1 := HE8.out.b1
  have z := HE8.out.z
  go_wp2_with fail
  refine (arInv_r _ _ _ _ _ _ _ _ _ _ _ _ _ _ _ _ _ _ _ _ _ _ _ _ _ _ [⟨#[120]⟩, ⟨#[120]⟩] [⟨#[120]⟩, ⟨#[120]⟩] [] [] [1, 0] [1, 0] true _ (by exact ((HE8.out.a).calm (World.grownBy_alloc _ _ none)).calm (World.grownBy_alloc _ _ none)) (by exact ((HE8.out.a).calm (World.grownBy_alloc _ _ none)).calm (World.grownBy_alloc _ _ none)) (by exact (zs2 w8 1 0).calm (World.grownBy_alloc _ _ none)) (by exact zs2' w8 _ 1 0) (by decide) (by decide) (by decide) (by decide) k5_8).mono ?_
  rintro e w9 ⟨rfl, hg⟩
  have HE9 := Lib.hid (HE8.out.calm (grownBy_trans (World.grownBy_alloc _ _ none) (grownBy_trans (World.grownBy_alloc _ _ none) hg)))
  have HF9 := Lib.hid (HF8.out.calm (grownBy_trans (World.grownBy_alloc _ _ none) (grownBy_trans (World.grownBy_alloc _ _ none) hg)))
  clear hg a0 a1 b0 b1 z HE8 HF8
  have a0 := HE9.out.a0
  have a1 := HE9.out.a1
  have b0 := HE9.out.b0
  have b1 := HE9.out.b1
  have z := HE9.out.z
  go_wp2_with fail
  refine (arInv_r _ _ _ _ _ _ _ _ _ _ _ _ _ _ _ _ _ _ _ _ _ _ _ _ _ _ [⟨#[120]⟩, ⟨#[120]⟩] [⟨#[120]⟩] [] [] [0, 0] [0] false _ (by exact ((HE9.out.a).calm (World.grownBy_alloc _ _ none)).calm (World.grownBy_alloc _ _ none)) (by exact ((HE9.out.b).calm (World.grownBy_alloc _ _ none)).calm (World.grownBy_alloc _ _ none)) (by exact (zs2 w9 0 0).calm (World.grownBy_alloc _ _ none)) (by exact zs1' w9 _ 0) (by decide) (by decide) (by decide) (by decide) k5_9).mono ?_
  rintro e w10 ⟨rfl, hg⟩
  have HE10 := Lib.hid (HE9.out.calm (grownBy_trans (World.grownBy_alloc _ _ none) (grownBy_trans (World.grownBy_alloc _ _ none) hg)))
  have HF10 := Lib.hid (HF9.out.calm (grownBy_trans (World.grownBy_alloc _ _ none) (grownBy_trans (World.grownBy_alloc _ _ none) hg)))
  clear hg a0 a1 b0 b1 z HE9 HF9
  have HG := Lib.hid HE10.out.g
  go_wp2
  go_ret
  exact ⟨rfl, HG.out⟩

end Go.Proofs.Ytjimgihfejjilaa
