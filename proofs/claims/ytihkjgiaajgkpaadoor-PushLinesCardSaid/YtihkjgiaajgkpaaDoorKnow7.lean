/- The contracts of centolaw7's own functions few and known. -/
import Derived.Test.YtihkjgiaajgkpaaDoorPusi
namespace Go.Proofs.YtihkjgiaajgkpaaDoor
open Go.RowKit

def ok100 (s : ByteArray) : Bool := decide (s.size ≤ 100)
def fewB (L : List ByteArray) (m : Nat) : Bool := L.all ok100 && (decide (L.length ≤ 50) && decide (m ≤ 200))

set_option maxHeartbeats 1000000 in
theorem few7_r (p q : Option Addr) (n c m d lo hi : Nat) (L : List ByteArray) (P : List (Int × Int)) (r : Bool) (w : World) (h : ObjAt w lo hi p n q m L P) (hn : n ≤ maxLen) (hr : fewB L m = r) :
    Calls Tryd.prog 11 #[.agg #[.slice p n c, .slice q m d]] w fun e w' => e = .returned (.bool r) ∧ w.grownBy w' none := by
  unfold maxLen at hn
  have hg0 := World.grownBy_alloc w (.cells #[.slice p n c, .slice q m d] 25) none
  have H1 := Lib.hid (h.calm hg0)
  have HLEN := Lib.hid h.ls.len
  have HR := Lib.hid hr
  have HG0 := Lib.hid hg0
  clear h hr hg0
  go_enter Tryd.func11, Tryd.ntmps11
  go_wp2
  go_loop [3] (fun i => ∃ k : Nat, k ≤ n ∧ i = .int .i64 k ∧ Hid ((L.take k).all ok100 = true)) (fun i => n - (intOf i).toNat)
  case atStart => exact ⟨0, Nat.zero_le _, rfl, Lib.hid rfl⟩
  case round =>
    obtain ⟨k, hk, rfl, HA⟩ := hrel
    by_cases hkn : k < n
    · obtain ⟨b, off, rfl, q1, q2, q3, hc⟩ := H1.out.ls.cell (by omega)
      have hck := hc k hkn
      have k0 : (k : Int) < n := by omega
      have HS := Lib.hid (all_take ok100 (L := L) (k := k) (by rw [HLEN.out]; exact hkn))
      have HO := Lib.hid (fun h => all_out ok100 (L := L) (k := k) (by rw [HLEN.out]; exact hkn) h)
      clear hc
      generalize L[k]?.getD .empty = s at *
      by_cases hs : s.size ≤ 100
      · have hs' : (s.size : Int) ≤ 100 := by omega
        have HN : Hid ((L.take (k + 1)).all ok100 = true) := Lib.hid (by rw [HS.out, HA.out]; simpa [ok100] using hs)
        go_wp2
        go_round
        case rel => exact ⟨k + 1, by omega, by go_num, HN⟩
        case measure => simp [intOf]; omega
      · have hs' : (100 : Int) < s.size := by omega
        obtain rfl : r = false := by
          rw [← HR.out]; unfold fewB; rw [HO.out (by unfold ok100; simpa using hs)]; rfl
        go_wp2
        go_ret
        exact ⟨rfl, HG0.out⟩
    · obtain rfl : n = k := by omega
      have k0 : ¬ ((n : Int) < n) := by omega
      have HAL : Hid (L.all ok100 = true) := by
        refine Lib.hid ?_
        have := HA.out
        rw [List.take_of_length_le (by rw [HLEN.out]; exact Nat.le_refl _)] at this
        exact this
      by_cases h50 : n ≤ 50
      · have d1 : (n : Int) ≤ 50 := by omega
        by_cases h200 : m ≤ 200
        · have d2 : (m : Int) ≤ 200 := by omega
          obtain rfl : r = true := by
            rw [← HR.out]; unfold fewB; rw [HAL.out, HLEN.out, decide_eq_true h50, decide_eq_true h200]; rfl
          go_wp2
          go_ret
          exact ⟨rfl, HG0.out⟩
        · have d2 : ¬ ((m : Int) ≤ 200) := by omega
          obtain rfl : r = false := by
            rw [← HR.out]; unfold fewB; rw [HAL.out, HLEN.out, decide_eq_true h50, decide_eq_false h200]; rfl
          go_wp2
          go_ret
          exact ⟨rfl, HG0.out⟩
      · have d1 : ¬ ((n : Int) ≤ 50) := by omega
        obtain rfl : r = false := by
          rw [← HR.out]; unfold fewB; rw [HAL.out, HLEN.out, decide_eq_false h50]; rfl
        go_wp2
        go_ret
        exact ⟨rfl, HG0.out⟩


theorem zs2 (w : World) (a b : Int) : ZsAt (w.alloc (.cells #[.int .i64 a, .int .i64 b] 3)) w.heap.size (w.heap.size + 1) (some ⟨w.heap.size, 0, none⟩) 2 [a, b] := by
  refine ⟨rfl, fun _ => ⟨w.heap.size, 0, rfl, Nat.le_refl _, Nat.lt_succ_self _, by simp, fun k hk => ?_⟩⟩
  match k, hk with
  | 0, _ => simp
  | 1, _ => simp
theorem zs1 (w : World) (a : Int) : ZsAt (w.alloc (.cells #[.int .i64 a] 3)) w.heap.size (w.heap.size + 1) (some ⟨w.heap.size, 0, none⟩) 1 [a] := by
  refine ⟨rfl, fun _ => ⟨w.heap.size, 0, rfl, Nat.le_refl _, Nat.lt_succ_self _, by simp, fun k hk => ?_⟩⟩
  match k, hk with
  | 0, _ => simp
theorem zs2' (w : World) (o : Obj) (a b : Int) : ZsAt ((w.alloc o).alloc (.cells #[.int .i64 a, .int .i64 b] 3)) (w.heap.size + 1) (w.heap.size + 1 + 1) (some ⟨w.heap.size + 1, 0, none⟩) 2 [a, b] := by
  have := zs2 (w.alloc o) a b
  rw [World.size_alloc] at this
  exact this
theorem zs1' (w : World) (o : Obj) (a : Int) : ZsAt ((w.alloc o).alloc (.cells #[.int .i64 a] 3)) (w.heap.size + 1) (w.heap.size + 1 + 1) (some ⟨w.heap.size + 1, 0, none⟩) 1 [a] := by
  have := zs1 (w.alloc o) a
  rw [World.size_alloc] at this
  exact this
theorem ss2 (w : World) (a b : ByteArray) : StrsAt (w.alloc (.cells #[.string a, .string b] 9)) w.heap.size (w.heap.size + 1) (some ⟨w.heap.size, 0, none⟩) 2 [a, b] := by
  refine ⟨rfl, fun _ => ⟨w.heap.size, 0, rfl, Nat.le_refl _, Nat.lt_succ_self _, by simp, fun k hk => ?_⟩⟩
  match k, hk with
  | 0, _ => simp
  | 1, _ => simp
theorem ss1 (w : World) (a : ByteArray) : StrsAt (w.alloc (.cells #[.string a] 9)) w.heap.size (w.heap.size + 1) (some ⟨w.heap.size, 0, none⟩) 1 [a] := by
  refine ⟨rfl, fun _ => ⟨w.heap.size, 0, rfl, Nat.le_refl _, Nat.lt_succ_self _, by simp, fun k hk => ?_⟩⟩
  match k, hk with
  | 0, _ => simp


def lx : ByteArray := ⟨#[120]⟩
def ly : ByteArray := ⟨#[121]⟩
def lz : ByteArray := ⟨#[122]⟩
theorem k7_1 : arB [lx] [] [lx, ly] [(0, 1)] [0] = true := by decide +kernel
theorem k7_2 : arB [lx] [] [lz, lx] [(0, 1)] [1] = true := by decide +kernel
theorem k7_3 : arB [lx] [] [lz, lx] [(0, 1)] [0] = false := by decide +kernel
theorem k7_4 : (labG ([lx, ly] ++ [lz, lx]) (joinsL (2 + 2) [0] (shL 2 [1]))).length = 3 := by decide +kernel
theorem k7_5 : (gluP (joinsL (2 + 2) [0] (shL 2 [1])) ([(0, 1)] ++ shP 2 [(0, 1)])).length = 3 := by decide +kernel
theorem k7_6 : (atZ (joinsL (2 + 2) [0] (shL 2 [1]))).take 2 = [0, 1] := by decide +kernel
theorem k7_7 : (atZ (joinsL (2 + 2) [0] (shL 2 [1]))).drop 2 = [2, 0] := by decide +kernel
theorem k7_8 : chk [lx] [] = 0 := by decide +kernel
theorem k7_9 : shL 1 (idL 1) = [1] := by decide +kernel
theorem k7_10 : idL 1 = [0] := by decide +kernel
theorem k7_11 : arB [lx] [] ([lx] ++ [lx]) [] [0] = true := by decide +kernel
theorem k7_12 : arB [lx] [] ([lx] ++ [lx]) [] [1] = true := by decide +kernel
theorem k7_13 : (labG ([lx] ++ [lx]) (joinsL (1 + 1) [0] [1])).length = 1 := by decide +kernel
theorem k7_14 : atZ (joinsL (1 + 1) [0] [1]) = [0, 0] := by decide +kernel

/-- Blocks, one behind the other. -/
def allocL (w : World) (l : List Obj) : World := l.foldl World.alloc w
theorem allocL_facts (l : List Obj) : ∀ w : World, w.grownBy (allocL w l) none ∧ ∀ i, i < l.length → (allocL w l).heap[w.heap.size + i]? = l[i]? := by
  induction l with
  | nil => exact fun w => ⟨grownBy_refl _ _, fun i h => absurd h (by simp)⟩
  | cons o l ih =>
    intro w
    obtain ⟨h1, h2⟩ := ih (w.alloc o)
    have hg := World.grownBy_alloc w o none
    refine ⟨grownBy_trans hg h1, fun i hi => ?_⟩
    match i, hi with
    | 0, _ => exact (h1.block w.heap.size (by simp) (by simp)).trans (heap_alloc_new w o)
    | i + 1, hi =>
      have := h2 i (by simpa using hi)
      rw [World.size_alloc] at this
      rw [show w.heap.size + (i + 1) = w.heap.size + 1 + i by omega]
      exact this
/-- What known lays first. -/
def kobjs (s : Nat) : List Obj := [.cells #[.string lx] 9, .cells #[.string lx, .string ly] 9, .cells #[.int .i64 0, .int .i64 1] 56, .cells #[.slice (some ⟨s, 0, none⟩) 1 1, .slice none 0 0] 25, .cells #[.slice (some ⟨s + 1, 0, none⟩) 2 2, .slice (some ⟨s + 1 + 1, 0, none⟩) 1 1] 25, .cells #[.string lz, .string lx] 9, .cells #[.int .i64 0, .int .i64 1] 56, .cells #[.slice (some ⟨s + 1 + 1 + 1 + 1 + 1, 0, none⟩) 2 2, .slice (some ⟨s + 1 + 1 + 1 + 1 + 1 + 1, 0, none⟩) 1 1] 25]
def KEnv7 (w W : World) : Prop := w.grownBy W none ∧ ∀ i, i < 8 → W.heap[w.heap.size + i]? = (kobjs w.heap.size)[i]?
theorem KEnv7.calm {w W W' : World} (h : KEnv7 w W) (hg : W.grownBy W' none) : KEnv7 w W' := by
  refine ⟨grownBy_trans h.1 hg, fun i hi => ?_⟩
  have h2 := h.2 i hi
  have : ∃ o, (kobjs w.heap.size)[i]? = some o := ⟨_, List.getElem?_eq_getElem (by simpa [kobjs] using hi)⟩
  obtain ⟨o, ho⟩ := this
  rw [ho] at h2 ⊢
  exact (hg.block _ (Array.getElem?_eq_some_iff.1 h2).1 (by simp)).trans h2
theorem strs_of {W : World} {g : Nat} {l : List ByteArray} (h : W.heap[g]? = some (.cells (l.map Value.string).toArray 9 (0, 0))) : StrsAt W g (g + 1) (some ⟨g, 0, none⟩) l.length l := by
  refine ⟨rfl, fun _ => ⟨g, 0, rfl, Nat.le_refl _, Nat.lt_succ_self _, (Array.getElem?_eq_some_iff.1 h).1, fun k hk => ?_⟩⟩
  simp [World.cell?, h, List.getElem?_eq_getElem hk]
theorem pair_of {W : World} {g : Nat} {a b : Int} (h : W.heap[g]? = some (.cells #[.int .i64 a, .int .i64 b] 56 (0, 0))) : PairsAt W g (g + 1) (some ⟨g, 0, none⟩) 1 [(a, b)] := by
  refine ⟨rfl, fun _ => ⟨g, 0, rfl, Nat.le_refl _, Nat.lt_succ_self _, (Array.getElem?_eq_some_iff.1 h).1, fun k hk => ?_⟩⟩
  obtain rfl : k = 0 := by omega
  simp [World.cell?, h]
theorem StrsAt.wide {w : World} {lo hi n : Nat} {p : Option Addr} {l : List ByteArray} (h : StrsAt w lo hi p n l) : StrsAt w 0 w.heap.size p n l := ⟨h.len, fun hn => by
  obtain ⟨b, off, e, q1, q2, q3, hc⟩ := h.cell hn
  exact ⟨b, off, e, Nat.zero_le _, by omega, Nat.le_refl _, hc⟩⟩
theorem PairsAt.wide {w : World} {lo hi n : Nat} {p : Option Addr} {l : List (Int × Int)} (h : PairsAt w lo hi p n l) : PairsAt w 0 w.heap.size p n l := ⟨h.len, fun hn => by
  obtain ⟨b, off, e, q1, q2, q3, hc⟩ := h.cell hn
  exact ⟨b, off, e, Nat.zero_le _, by omega, Nat.le_refl _, hc⟩⟩
theorem KEnv7.a {w W : World} (h : KEnv7 w W) : ObjAt W 0 W.heap.size (some ⟨w.heap.size, 0, none⟩) 1 none 0 [lx] [] := ⟨(strs_of (l := [lx]) (h.2 0 (by decide))).wide, pairsAt_nil _ _ _⟩
theorem KEnv7.b {w W : World} (h : KEnv7 w W) : ObjAt W 0 W.heap.size (some ⟨w.heap.size + 1, 0, none⟩) 2 (some ⟨w.heap.size + 1 + 1, 0, none⟩) 1 [lx, ly] [(0, 1)] := ⟨(strs_of (l := [lx, ly]) (h.2 1 (by decide))).wide, (pair_of (h.2 2 (by decide))).wide⟩
theorem KEnv7.c {w W : World} (h : KEnv7 w W) : ObjAt W 0 W.heap.size (some ⟨w.heap.size + 1 + 1 + 1 + 1 + 1, 0, none⟩) 2 (some ⟨w.heap.size + 1 + 1 + 1 + 1 + 1 + 1, 0, none⟩) 1 [lz, lx] [(0, 1)] := ⟨(strs_of (l := [lz, lx]) (h.2 5 (by decide))).wide, (pair_of (h.2 6 (by decide))).wide⟩
theorem KEnv7.cells {w W : World} (h : KEnv7 w W) :
    W.cell? ⟨w.heap.size + 1 + 1 + 1, 0, none⟩ = some (.slice (some ⟨w.heap.size, 0, none⟩) 1 1) ∧ W.cell? ⟨w.heap.size + 1 + 1 + 1, 1, none⟩ = some (.slice none 0 0) ∧
    W.cell? ⟨w.heap.size + 1 + 1 + 1 + 1, 0, none⟩ = some (.slice (some ⟨w.heap.size + 1, 0, none⟩) 2 2) ∧ W.cell? ⟨w.heap.size + 1 + 1 + 1 + 1, 1, none⟩ = some (.slice (some ⟨w.heap.size + 1 + 1, 0, none⟩) 1 1) ∧
    W.cell? ⟨w.heap.size + 1 + 1 + 1 + 1 + 1 + 1 + 1, 0, none⟩ = some (.slice (some ⟨w.heap.size + 1 + 1 + 1 + 1 + 1, 0, none⟩) 2 2) ∧ W.cell? ⟨w.heap.size + 1 + 1 + 1 + 1 + 1 + 1 + 1, 1, none⟩ = some (.slice (some ⟨w.heap.size + 1 + 1 + 1 + 1 + 1 + 1, 0, none⟩) 1 1) := by
  have b3 : BoxO W (w.heap.size + 1 + 1 + 1) _ _ := h.2 3 (by decide)
  have b4 : BoxO W (w.heap.size + 1 + 1 + 1 + 1) _ _ := h.2 4 (by decide)
  have b7 : BoxO W (w.heap.size + 1 + 1 + 1 + 1 + 1 + 1 + 1) _ _ := h.2 7 (by decide)
  exact ⟨b3.c0, b3.c1, b4.c0, b4.c1, b7.c0, b7.c1⟩

set_option maxRecDepth 20000 in
set_option maxHeartbeats 4000000 in
theorem known7_c (w : World) (ht : Tab w) : Calls Tryd.prog 10 #[] w fun e w' => e = .returned (.bool true) ∧ w.grownBy w' none := by
  have HT := Lib.hid ht
  clear ht
  have he0 : KEnv7 w ((((((((w.alloc (.cells #[.string ⟨#[120]⟩] 9)).alloc (.cells #[.string ⟨#[120]⟩, .string ⟨#[121]⟩] 9)).alloc (.cells #[.int .i64 0, .int .i64 1] 56)).alloc (.cells #[.slice (some ⟨w.heap.size, 0, none⟩) 1 1, .slice none 0 0] 25)).alloc (.cells #[.slice (some ⟨w.heap.size + 1, 0, none⟩) 2 2, .slice (some ⟨w.heap.size + 1 + 1, 0, none⟩) 1 1] 25)).alloc (.cells #[.string ⟨#[122]⟩, .string ⟨#[120]⟩] 9)).alloc (.cells #[.int .i64 0, .int .i64 1] 56)).alloc (.cells #[.slice (some ⟨w.heap.size + 1 + 1 + 1 + 1 + 1, 0, none⟩) 2 2, .slice (some ⟨w.heap.size + 1 + 1 + 1 + 1 + 1 + 1, 0, none⟩) 1 1] 25)) := by
    obtain ⟨h1, h2⟩ := allocL_facts (kobjs w.heap.size) w
    exact ⟨h1, h2⟩
  have HE0 := Lib.hid he0
  clear he0
  go_enter Tryd.func10, Tryd.ntmps10
  go_wp2_with fail
  have hsz : ((((((((w.alloc (.cells #[.string ⟨#[120]⟩] 9)).alloc (.cells #[.string ⟨#[120]⟩, .string ⟨#[121]⟩] 9)).alloc (.cells #[.int .i64 0, .int .i64 1] 56)).alloc (.cells #[.slice (some ⟨w.heap.size, 0, none⟩) 1 1, .slice none 0 0] 25)).alloc (.cells #[.slice (some ⟨w.heap.size + 1, 0, none⟩) 2 2, .slice (some ⟨w.heap.size + 1 + 1, 0, none⟩) 1 1] 25)).alloc (.cells #[.string ⟨#[122]⟩, .string ⟨#[120]⟩] 9)).alloc (.cells #[.int .i64 0, .int .i64 1] 56)).alloc (.cells #[.slice (some ⟨w.heap.size + 1 + 1 + 1 + 1 + 1, 0, none⟩) 2 2, .slice (some ⟨w.heap.size + 1 + 1 + 1 + 1 + 1 + 1, 0, none⟩) 1 1] 25)).heap.size = w.heap.size + 1 + 1 + 1 + 1 + 1 + 1 + 1 + 1 := by simp
  generalize ((((((((w.alloc (.cells #[.string ⟨#[120]⟩] 9)).alloc (.cells #[.string ⟨#[120]⟩, .string ⟨#[121]⟩] 9)).alloc (.cells #[.int .i64 0, .int .i64 1] 56)).alloc (.cells #[.slice (some ⟨w.heap.size, 0, none⟩) 1 1, .slice none 0 0] 25)).alloc (.cells #[.slice (some ⟨w.heap.size + 1, 0, none⟩) 2 2, .slice (some ⟨w.heap.size + 1 + 1, 0, none⟩) 1 1] 25)).alloc (.cells #[.string ⟨#[122]⟩, .string ⟨#[120]⟩] 9)).alloc (.cells #[.int .i64 0, .int .i64 1] 56)).alloc (.cells #[.slice (some ⟨w.heap.size + 1 + 1 + 1 + 1 + 1, 0, none⟩) 2 2, .slice (some ⟨w.heap.size + 1 + 1 + 1 + 1 + 1 + 1, 0, none⟩) 1 1] 25)) = W0 at *
  have hz1 := (zs1 W0 0).calm (World.grownBy_alloc _ (.cells #[.int .i64 1] 3) none)
  have hz2 := zs1' W0 (.cells #[.int .i64 0] 3) 1
  rw [hsz] at hz1 hz2
  have hgA := grownBy_trans (World.grownBy_alloc W0 (.cells #[.int .i64 0] 3) none) (World.grownBy_alloc _ (.cells #[.int .i64 1] 3) none)
  have he1 := HE0.out.calm hgA
  clear hsz
  refine (push_ok _ _ _ _ _ _ _ _ 1 1 0 0 2 2 1 1 2 2 1 1 1 1 1 _ _ _ _ _ _ _ _ _ _ [lx] [lx, ly] [lz, lx] [] [(0, 1)] [(0, 1)] [0] [1] _ he1.a he1.b he1.c hz1 hz2 (by decide) (by decide) (by decide) (by decide) (by decide) (by decide) k7_1 k7_2 (HT.out.grown he1.1 (by simp)) (fun h => by cases h) (fun h => by cases h) (fun h => by cases h)).mono ?_
  rintro e w1 ⟨p1, c1, q1, d1, pi1, ci1, pj1, cj1, rfl, ho1, hi1, hj1, _, _, hg1⟩
  rw [k7_4, k7_5, k7_6, k7_7] at *
  obtain ⟨bi, oi, rfl, _, _, _, hci⟩ := hi1.cell (by decide)
  obtain ⟨bj, oj, rfl, _, _, _, hcj⟩ := hj1.cell (by decide)
  have HE1 := Lib.hid (he1.calm hg1)
  have HI1 := Lib.hid hi1
  have HJ1 := Lib.hid hj1
  clear hz1 hz2 hgA he1 ho1 hi1 hj1 hg1 hci hcj HE0
  have hga := World.grownBy_alloc w1 (.cells #[.slice p1 3 c1, .slice q1 3 d1] 25) none
  have hbx := BoxO.new w1 (.slice p1 3 c1) (.slice q1 3 d1)
  have hex := HE1.out.calm hga
  obtain ⟨a0, a1, b0, b1, e0, e1⟩ := hex.cells
  have hs1 : (w1.alloc (.cells #[.slice p1 3 c1, .slice q1 3 d1] 25)).heap.size = w1.heap.size + 1 := by simp
  generalize hw2 : w1.alloc (.cells #[.slice p1 3 c1, .slice q1 3 d1] 25) = w2 at *
  have HE2 := Lib.hid hex
  have HBX := Lib.hid hbx
  have HI2 := Lib.hid (HI1.out.calm hga)
  have HJ2 := Lib.hid (HJ1.out.calm hga)
  have HS1 := Lib.hid hs1
  clear hga hbx hex HE1 HI1 HJ1 hs1
  go_wp2_with fail
  have hz1 := (zs1 w2 0).calm (World.grownBy_alloc _ (.cells #[.int .i64 0] 3) none)
  have hz2 := zs1' w2 (.cells #[.int .i64 0] 3) 0
  have hgA := grownBy_trans (World.grownBy_alloc w2 (.cells #[.int .i64 0] 3) none) (World.grownBy_alloc _ (.cells #[.int .i64 0] 3) none)
  have he3 := HE2.out.calm hgA
  refine (push_form _ _ _ _ _ _ _ _ 1 1 0 0 2 2 1 1 2 2 1 1 1 1 1 1 _ _ _ _ _ _ _ _ _ _ [lx] [lx, ly] [lz, lx] [] [(0, 1)] [(0, 1)] [0] [0] _ he3.a he3.b he3.c hz1 hz2 (by decide) (by decide) (by decide) (by decide) (by decide) (by decide) (by decide) (by rw [k7_3, Bool.and_false])).mono ?_
  rintro e w3 ⟨p2, c2, q2, d2, pi2, ci2, pj2, cj2, rfl, _, _, _, hp2, hq2, hg3⟩
  have hgB := grownBy_trans hgA hg3
  have hga := World.grownBy_alloc w3 (.cells #[.slice p2 0 c2, .slice q2 0 d2] 25) none
  have hgC := grownBy_trans hgB hga
  have hex := HE2.out.calm hgC
  obtain ⟨a0, a1, b0, b1, e0, e1⟩ := hex.cells
  have HI4 := Lib.hid (HI2.out.calm hgC)
  have HJ4 := Lib.hid (HJ2.out.calm hgC)
  have HB4 := Lib.hid (HBX.out.calm hgC)
  clear hz1 hz2 hgA he3 hg3 hgB hgC hga HI2 HJ2 HBX HE2
  generalize hw4 : w3.alloc (.cells #[.slice p2 0 c2, .slice q2 0 d2] 25) = w4 at *
  have HE4 := Lib.hid hex
  have ha4 := hex.a
  clear hex
  go_wp2_with fail
  refine (sum_ok _ _ _ _ 1 1 0 0 1 1 0 0 _ _ _ _ [lx] [lx] [] [] _ ha4 ha4 (by decide) (by decide) (by decide) (by decide) (by decide) k7_8 k7_8 (fun h => by cases h) (fun h => by cases h) (fun _ => rfl)).mono ?_
  rintro e w5 ⟨p3, c3, q3, d3, pi3, ci3, pj3, cj3, rfl, ho5, hi5, hj5, _, _, hg5⟩
  rw [show ([] : List (Int × Int)) ++ shP 1 [] = [] from rfl] at *
  rw [k7_9, k7_10] at *
  obtain ⟨bk, ok, rfl, _, _, _, hck⟩ := hi5.cell (by decide)
  obtain ⟨bl, ol, rfl, _, _, _, hcl⟩ := hj5.cell (by decide)
  have HE5 := Lib.hid (HE4.out.calm hg5)
  have HI5 := Lib.hid (HI4.out.calm hg5)
  have HJ5 := Lib.hid (HJ4.out.calm hg5)
  have HB5 := Lib.hid (HB4.out.calm hg5)
  have HO5 := Lib.hid ho5
  have HK5 := Lib.hid hi5
  have HL5 := Lib.hid hj5
  clear ho5 hi5 hj5 hck hcl hg5 ha4 HE4 HI4 HJ4 HB4 a0 a1 b0 b1 e0 e1
  have hga := World.grownBy_alloc w5 (.cells #[.slice p3 2 c3, .slice q3 0 d3] 25) none
  have hbx := BoxO.new w5 (.slice p3 2 c3) (.slice q3 0 d3)
  have hex := HE5.out.calm hga
  obtain ⟨a0, a1, b0, b1, e0, e1⟩ := hex.cells
  have s0 : (w5.alloc (.cells #[.slice p3 2 c3, .slice q3 0 d3] 25)).cell? ⟨w5.heap.size, 0, none⟩ = _ := hbx.c0
  have s1 : (w5.alloc (.cells #[.slice p3 2 c3, .slice q3 0 d3] 25)).cell? ⟨w5.heap.size, 1, none⟩ = _ := hbx.c1
  generalize hw6 : w5.alloc (.cells #[.slice p3 2 c3, .slice q3 0 d3] 25) = w6 at *
  have HE6 := Lib.hid hex
  have HX6 := Lib.hid hbx
  have HI6 := Lib.hid (HI5.out.calm hga)
  have HJ6 := Lib.hid (HJ5.out.calm hga)
  have HB6 := Lib.hid (HB5.out.calm hga)
  have HO6 := Lib.hid (HO5.out.calm hga)
  have HK6 := Lib.hid (HK5.out.calm hga)
  have HL6 := Lib.hid (HL5.out.calm hga)
  clear hga hbx hex HE5 HI5 HJ5 HB5 HO5 HK5 HL5
  go_wp2_with fail
  have hz1 := (zs1 w6 0).calm (World.grownBy_alloc _ (.cells #[.int .i64 1] 3) none)
  have hz2 := zs1' w6 (.cells #[.int .i64 0] 3) 1
  have hgA := grownBy_trans (World.grownBy_alloc w6 (.cells #[.int .i64 0] 3) none) (World.grownBy_alloc _ (.cells #[.int .i64 1] 3) none)
  have he7 := HE6.out.calm hgA
  refine (eql_ok _ _ _ _ _ _ 1 1 0 0 2 c3 0 d3 1 1 1 1 _ _ _ _ _ _ _ _ [lx] ([lx] ++ [lx]) [] [] [0] [1] _ he7.a (HO6.out.calm hgA) hz1 hz2 (by decide) (by decide) (by decide) (by decide) (by decide) (by decide) k7_11 k7_12 rfl (HT.out.grown he7.1 (by simp))).mono ?_
  rintro e w7 ⟨p4, c4, q4, d4, pi4, ci4, rfl, _, hi7, _, _, hg7⟩
  rw [k7_13, k7_14] at *
  generalize hlg : (gluP (joinsL (1 + 1) [0] [1]) []).length = lg at *
  obtain ⟨bm, om, rfl, _, _, _, hcm⟩ := hi7.cell (by decide)
  have hga := World.grownBy_alloc w7 (.cells #[.slice p4 1 c4, .slice q4 lg d4] 25) none
  have hgB := grownBy_trans hgA (grownBy_trans hg7 hga)
  have hex := HE6.out.calm hgB
  have hbx := BoxO.new w7 (.slice p4 1 c4) (.slice q4 lg d4)
  obtain ⟨_, _, ei, _, _, _, hci⟩ := (HI6.out.calm hgB).cell (by decide)
  obtain ⟨_, _, ej, _, _, _, hcj⟩ := (HJ6.out.calm hgB).cell (by decide)
  obtain ⟨_, _, ek, _, _, _, hck⟩ := (HK6.out.calm hgB).cell (by decide)
  obtain ⟨_, _, el, _, _, _, hcl⟩ := (HL6.out.calm hgB).cell (by decide)
  obtain ⟨_, _, em, _, _, _, hcm⟩ := (hi7.calm hga).cell (by decide)
  cases ei; cases ej; cases ek; cases el; cases em
  have b4 := HB6.out.calm hgB
  have b12 := HX6.out.calm hgB
  go_wp2
  generalize hw8 : w7.alloc (.cells #[.slice p4 1 c4, .slice q4 lg d4] 25) = w8 at *
  have xi0 : w8.cell? ⟨bi, oi, none⟩ = some (.int .i64 0) := by simpa using hci 0 (by decide)
  have xj1 : w8.cell? ⟨bj, oj + 1, none⟩ = some (.int .i64 0) := by simpa using hcj 1 (by decide)
  have xk0 : w8.cell? ⟨bk, ok, none⟩ = some (.int .i64 0) := by simpa using hck 0 (by decide)
  have xl0 : w8.cell? ⟨bl, ol, none⟩ = some (.int .i64 1) := by simpa using hcl 0 (by decide)
  have xm1 : w8.cell? ⟨bm, om + 1, none⟩ = some (.int .i64 0) := by simpa using hcm 1 (by decide)
  have y40 := b4.c0
  have y41 := b4.c1
  have y120 := b12.c0
  have y121 := b12.c1
  have y160 := hbx.c0
  have y161 := hbx.c1
  have HG := Lib.hid hex.1
  clear hz1 hz2 hgA he7 hi7 hg7 hga hgB hex hbx hci hcj hck hcl hcm b4 b12 hlg hw8 HE6 HX6 HI6 HJ6 HB6 HO6 HK6 HL6 a0 a1 b0 b1 e0 e1 s0 s1
  simp only [List.append_eq, List.cons_append, List.nil_append]
  go_quiet (fail)
  go_wp2
  go_ret
  exact ⟨rfl, grownBy_trans HG.out (grownBy_drewN w8 _ none)⟩

end Go.Proofs.YtihkjgiaajgkpaaDoor
