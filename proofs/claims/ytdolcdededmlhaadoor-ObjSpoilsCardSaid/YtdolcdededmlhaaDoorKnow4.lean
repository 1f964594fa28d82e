/- The contracts of centolaw4's own functions few and known. -/
import Derived.Test.YtdolcdededmlhaaDoorRef6
namespace Go.Proofs.YtdolcdededmlhaaDoor
open Go.RowKit

def ok100 (s : ByteArray) : Bool := decide (s.size ≤ 100)
def fewB (L : List ByteArray) (m : Nat) : Bool := L.all ok100 && (decide (L.length ≤ 50) && decide (m ≤ 200))

set_option maxHeartbeats 1000000 in
theorem few_r (p q : Option Addr) (n c m d lo hi : Nat) (L : List ByteArray) (P : List (Int × Int)) (r : Bool) (w : World) (h : ObjAt w lo hi p n q m L P) (hn : n ≤ maxLen) (hr : fewB L m = r) :
    Calls Tryd.prog 8 #[.agg #[.slice p n c, .slice q m d]] w fun e w' => e = .returned (.bool r) ∧ w.grownBy w' none := by
  unfold maxLen at hn
  have hg0 := World.grownBy_alloc w (.cells #[.slice p n c, .slice q m d] 25) none
  have H1 := Lib.hid (h.calm hg0)
  have HLEN := Lib.hid h.ls.len
  have HR := Lib.hid hr
  have HG0 := Lib.hid hg0
  clear h hr hg0
  go_enter Tryd.func8, Tryd.ntmps8
  go_wp2
  go_loop [3] (fun i => ∃ k : Nat, k ≤ n ∧ i = .int .i64 k ∧ Hid ((L.take k).all ok100 = true)) (fun i => n - (intOf i).toNat)
  case atStart => exact ⟨0, Nat.zero_le _, rfl, Lib.hid rfl⟩
  case round =>
    obtain ⟨k, hk, rfl, HA⟩ := hrel
    by_cases hkn : k < n
    · obtain ⟨b, off, rfl, q1, q2, q3, hc⟩ := H1.out.ls.cell (by omega)
      have hck := hc k hkn
      have k0 : (k : Int) < n := by omega
      have HS := Lib.hid (all_take ok100 (L := L) (k := k) (by rw [HLEN.out]; exact hkn))
      have HO := Lib.hid (fun h => all_out ok100 (L := L) (k := k) (by rw [HLEN.out]; exact hkn) h)
      clear hc
      generalize L[k]?.getD .empty = s at *
      by_cases hs : s.size ≤ 100
      · have hs' : (s.size : Int) ≤ 100 := by omega
        have HN : Hid ((L.take (k + 1)).all ok100 = true) := Lib.hid (by rw [HS.out, HA.out]; simpa [ok100] using hs)
        go_wp2
        go_round
        case rel => exact ⟨k + 1, by omega, by go_num, HN⟩
        case measure => simp [intOf]; omega
      · have hs' : (100 : Int) < s.size := by omega
        obtain rfl : r = false := by
          rw [← HR.out]; unfold fewB; rw [HO.out (by unfold ok100; simpa using hs)]; rfl
        go_wp2
        go_ret
        exact ⟨rfl, HG0.out⟩
    · obtain rfl : n = k := by omega
      have k0 : ¬ ((n : Int) < n) := by omega
      have HAL : Hid (L.all ok100 = true) := by
        refine Lib.hid ?_
        have := HA.out
        rw [List.take_of_length_le (by rw [HLEN.out]; exact Nat.le_refl _)] at this
        exact this
      by_cases h50 : n ≤ 50
      · have d1 : (n : Int) ≤ 50 := by omega
        by_cases h200 : m ≤ 200
        · have d2 : (m : Int) ≤ 200 := by omega
          obtain rfl : r = true := by
            rw [← HR.out]; unfold fewB; rw [HAL.out, HLEN.out, decide_eq_true h50, decide_eq_true h200]; rfl
          go_wp2
          go_ret
          exact ⟨rfl, HG0.out⟩
        · have d2 : ¬ ((m : Int) ≤ 200) := by omega
          obtain rfl : r = false := by
            rw [← HR.out]; unfold fewB; rw [HAL.out, HLEN.out, decide_eq_true h50, decide_eq_false h200]; rfl
          go_wp2
          go_ret
          exact ⟨rfl, HG0.out⟩
      · have d1 : ¬ ((n : Int) ≤ 50) := by omega
        obtain rfl : r = false := by
          rw [← HR.out]; unfold fewB; rw [HAL.out, HLEN.out, decide_eq_false h50]; rfl
        go_wp2
        go_ret
        exact ⟨rfl, HG0.out⟩

def sA : ByteArray := ⟨#[97]⟩
def sB : ByteArray := ⟨#[98]⟩
theorem k4_1 : chk [⟨#[97]⟩, ⟨#[98]⟩] [(0, 1)] = 0 := by decide +kernel
theorem k4_2 : labErr [⟨#[97]⟩, ⟨#[98]⟩] = 0 := by decide +kernel
theorem k4_3 : ofErr ((2 : Nat) : Int) [(0, 1)] = 0 := by decide +kernel
theorem k4_4 : pairsL 2 (clo 2 (ofL 2 [(0, 1)])) 2 = [(0, 1)] := by decide +kernel
theorem k4_5 : chk [] [(0, 1)] = 10 := by decide +kernel
theorem k4_6 : chk [] [] = 0 := by decide +kernel
theorem k4_7 : objN [⟨#[97]⟩, ⟨#[98]⟩] [(0, 1)] = 2 := by decide +kernel
theorem k4_8 : hasI 2 (objR [⟨#[97]⟩, ⟨#[98]⟩] [(0, 1)]) 0 1 = true := by decide +kernel

theorem strsAt_two (w : World) (a b : ByteArray) : StrsAt (w.alloc (.cells #[.string a, .string b] 9)) w.heap.size (w.heap.size + 1) (some ⟨w.heap.size, 0, none⟩) 2 [a, b] := by
  refine ⟨rfl, fun _ => ⟨w.heap.size, 0, rfl, Nat.le_refl _, Nat.lt_succ_self _, by simp, fun k hk => ?_⟩⟩
  match k, hk with
  | 0, _ => simp
  | 1, _ => simp

/-- What known lays first, and what stays of it. -/
structure KEnv (w W : World) : Prop where
  g : w.grownBy W none
  t : Tab W
  o : ObjAt W w.heap.size (w.heap.size + 2) (some ⟨w.heap.size, 0, none⟩) 2 (some ⟨w.heap.size + 1, 0, none⟩) 1 [⟨#[97]⟩, ⟨#[98]⟩] [(0, 1)]
  c0 : W.cell? ⟨w.heap.size + 1 + 1, 0, none⟩ = some (.slice (some ⟨w.heap.size, 0, none⟩) 2 2)
  c1 : W.cell? ⟨w.heap.size + 1 + 1, 1, none⟩ = some (.slice (some ⟨w.heap.size + 1, 0, none⟩) 1 1)
  z : w.heap.size + 1 + 1 < W.heap.size

theorem KEnv.calm {w W W' : World} (h : KEnv w W) (hg : W.grownBy W' none) : KEnv w W' :=
  ⟨grownBy_trans h.g hg, h.t.grown hg (by simp), h.o.calm hg,
    (World.cell?_of_block (a := ⟨w.heap.size + 1 + 1, 0, none⟩) (hg.block _ h.z (by simp))).trans h.c0, (World.cell?_of_block (a := ⟨w.heap.size + 1 + 1, 1, none⟩) (hg.block _ h.z (by simp))).trans h.c1, Nat.lt_of_lt_of_le h.z hg.size⟩

theorem kenv_new (w : World) (ht : Tab w) : KEnv w (((w.alloc (.cells #[.string ⟨#[97]⟩, .string ⟨#[98]⟩] 9)).alloc (.cells #[.int .i64 0, .int .i64 1] 38)).alloc (.cells #[.slice (some ⟨w.heap.size, 0, none⟩) 2 2, .slice (some ⟨w.heap.size + 1, 0, none⟩) 1 1] 25)) := by
  have g1 := World.grownBy_alloc w (.cells #[.string ⟨#[97]⟩, .string ⟨#[98]⟩] 9) none
  have g2 := World.grownBy_alloc (w.alloc (.cells #[.string ⟨#[97]⟩, .string ⟨#[98]⟩] 9)) (.cells #[.int .i64 0, .int .i64 1] 38) none
  have g3 := World.grownBy_alloc ((w.alloc (.cells #[.string ⟨#[97]⟩, .string ⟨#[98]⟩] 9)).alloc (.cells #[.int .i64 0, .int .i64 1] 38)) (.cells #[.slice (some ⟨w.heap.size, 0, none⟩) 2 2, .slice (some ⟨w.heap.size + 1, 0, none⟩) 1 1] 25) none
  have hs := ((strsAt_two w ⟨#[97]⟩ ⟨#[98]⟩).calm g2).calm g3
  have hp := (pairsAt_one (w.alloc (.cells #[.string ⟨#[97]⟩, .string ⟨#[98]⟩] 9)) 0 1).calm g3
  have hg := grownBy_trans g1 (grownBy_trans g2 g3)
  have hb := box2 (grownBy_refl ((((w.alloc (.cells #[.string ⟨#[97]⟩, .string ⟨#[98]⟩] 9)).alloc (.cells #[.int .i64 0, .int .i64 1] 38))).alloc (.cells #[.slice (some ⟨w.heap.size, 0, none⟩) 2 2, .slice (some ⟨w.heap.size + 1, 0, none⟩) 1 1] 25)) none)
  simp only [World.size_alloc] at hb hp
  refine ⟨hg, ht.grown hg (by simp), ⟨⟨rfl, fun h => ?_⟩, ⟨rfl, fun h => ?_⟩⟩, hb.1, hb.2.1, by simp⟩
  · obtain ⟨b, off, e, q1, q2, q3, hc⟩ := hs.cell h
    exact ⟨b, off, e, q1, by omega, by simp, hc⟩
  · obtain ⟨b, off, e, q1, q2, q3, hc⟩ := hp.cell h
    exact ⟨b, off, e, by omega, by omega, by simp, hc⟩

/-- A box that a caller lays for what a call gave. -/
theorem box_calm {W W' : World} {B : Nat} {x y : Value} (h : W.cell? ⟨B, 0, none⟩ = some x ∧ W.cell? ⟨B, 1, none⟩ = some y) (hB : B < W.heap.size) (hg : W.grownBy W' none) : W'.cell? ⟨B, 0, none⟩ = some x ∧ W'.cell? ⟨B, 1, none⟩ = some y :=
  ⟨(World.cell?_of_block (a := ⟨B, 0, none⟩) (hg.block _ hB (by simp))).trans h.1, (World.cell?_of_block (a := ⟨B, 1, none⟩) (hg.block _ hB (by simp))).trans h.2⟩

set_option maxRecDepth 20000 in
set_option maxHeartbeats 4000000 in
theorem known4_c (w : World) (ht : Tab w) : Calls Tryd.prog 7 #[] w fun e w' => e = .returned (.bool true) ∧ w.grownBy w' none := by
  have HE := Lib.hid (kenv_new w ht)
  clear ht
  go_enter Tryd.func7, Tryd.ntmps7
  go_wp2_with fail
  refine (relOf_ok 2 _ _ _ _ _ [(0, 1)] _ (by exact HE.out.o.ps) (by omega) k4_3).mono ?_
  rintro e w1 ⟨r, rfl, hr, hg1⟩
  have HE1 := Lib.hid (HE.out.calm hg1)
  have HR := Lib.hid hr
  have c0 := HE1.out.c0
  have c1 := HE1.out.c1
  clear hg1 hr
  go_wp2_with fail
  refine (make_ok _ 2 _ _ _ _ _ _ [⟨#[97]⟩, ⟨#[98]⟩] (ofL 2 [(0, 1)]) _ (by exact HE1.out.o.ls) (fun h => by cases h) k4_2 (by exact HR.out) HE1.out.t).mono ?_
  rw [k4_4]
  rintro e w2 ⟨u, v, rfl, hown, hg2⟩
  obtain ⟨pu, cu, pv, cv, rfl, rfl, hob⟩ := hown.at
  have HE2 := Lib.hid (HE1.out.calm hg2)
  have HB := Lib.hid hob
  clear c0 c1 hg2 hown hob
  have c0 := HE2.out.c0
  have c1 := HE2.out.c1
  have z2 := HE2.out.z
  have g3 := World.grownBy_alloc w2 (.cells #[.slice pu 2 cu, .slice pv 1 cv] 25) none
  have HE3 := Lib.hid (HE2.out.calm g3)
  have HB3 := Lib.hid (HB.out.calm g3)
  have HX3 := Lib.hid (show (w2.alloc (.cells #[.slice pu 2 cu, .slice pv 1 cv] 25)).cell? ⟨w2.heap.size, 0, none⟩ = some (.slice pu 2 cu) ∧ (w2.alloc (.cells #[.slice pu 2 cu, .slice pv 1 cv] 25)).cell? ⟨w2.heap.size, 1, none⟩ = some (.slice pv 1 cv) from ⟨(box2 (grownBy_refl _ none)).1, (box2 (grownBy_refl _ none)).2.1⟩)
  clear g3
  go_wp2_with fail
  refine (make_nil _ 2 _ _ _ [⟨#[97]⟩, ⟨#[98]⟩] _ (by exact HE3.out.o.ls) k4_2 (by decide)).mono ?_
  rintro e w4 ⟨rfl, hg4⟩
  have HE4 := Lib.hid (HE3.out.calm hg4)
  have HB4 := Lib.hid (HB3.out.calm hg4)
  have HX4 := Lib.hid (box_calm HX3.out (by simp) hg4)
  have z4 : w2.heap.size < w4.heap.size := by have := hg4.size; simp at this; omega
  clear c0 c1 hg4
  have g5 := World.grownBy_alloc w4 (.cells #[.slice none 0 0, .slice none 0 0] 25) none
  have HE5 := Lib.hid (HE4.out.calm g5)
  have HB5 := Lib.hid (HB4.out.calm g5)
  have HX5 := Lib.hid (box_calm HX4.out z4 g5)
  have c0 := HE4.out.c0
  have c1 := HE4.out.c1
  have x0 := HX4.out.1
  have x1 := HX4.out.2
  have z5 := HE4.out.z
  clear g5
  go_wp2_with fail
  refine (objSame_r _ _ _ _ _ _ _ _ _ _ _ _ _ _ _ _ [⟨#[97]⟩, ⟨#[98]⟩] [⟨#[97]⟩, ⟨#[98]⟩] [(0, 1)] [(0, 1)] true _ (by exact HE5.out.o) (by exact HB5.out) (by decide) (by decide) (by simp)).mono ?_
  rintro e w6 ⟨rfl, hg6⟩
  have HE6 := Lib.hid (HE5.out.calm hg6)
  clear c0 c1 x0 x1 hg6
  have c0 := HE6.out.c0
  have c1 := HE6.out.c1
  go_wp2_with fail
  refine (is_c _ _ _ _ _ _ _ _ [⟨#[97]⟩, ⟨#[98]⟩] [(0, 1)] true _ (by exact HE6.out.o) (by decide) (by rw [k4_1]; rfl)).mono ?_
  rintro e w7 ⟨rfl, hg7⟩
  have HE7 := Lib.hid (HE6.out.calm hg7)
  clear c0 c1 hg7
  have c0 := HE7.out.c0
  have c1 := HE7.out.c1
  go_wp2_with fail
  refine (check_c none _ 0 0 _ _ _ _ [] [(0, 1)] 10 _ (by exact ⟨strsAt_nil _ _ _, HE7.out.o.ps⟩) (by decide) k4_5).mono ?_
  rintro e w8 ⟨rfl, hg8⟩
  have HE8 := Lib.hid (HE7.out.calm hg8)
  clear c0 c1 hg8
  have c0 := HE8.out.c0
  have c1 := HE8.out.c1
  go_wp2_with fail
  refine (objRel_c _ _ _ _ _ _ _ _ [⟨#[97]⟩, ⟨#[98]⟩] [(0, 1)] _ (by exact HE8.out.o) (by decide)).mono ?_
  rw [k4_7]
  rintro e w9 ⟨rr, rfl, hrr, hg9⟩
  have HE9 := Lib.hid (HE8.out.calm hg9)
  have HRR := Lib.hid hrr
  clear c0 c1 hg9 hrr
  go_wp2_with fail
  refine (relHas_b _ _ _ 2 0 1 _ true _ (by exact HRR.out) k4_8).mono ?_
  rintro e w10 ⟨rfl, hg10⟩
  have HE10 := Lib.hid (HE9.out.calm hg10)
  clear hg10
  go_wp2_with fail
  refine (is_c none none 0 0 0 0 0 0 [] [] true _ (by exact ⟨strsAt_nil _ _ _, pairsAt_nil _ _ _⟩) (by decide) (by rw [k4_6]; rfl)).mono ?_
  rintro e w11 ⟨rfl, hg11⟩
  have HG := Lib.hid (HE10.out.calm hg11).g
  clear hg11
  go_wp2
  go_ret
  exact ⟨rfl, HG.out⟩

end Go.Proofs.YtdolcdededmlhaaDoor
