/- What the statements' own function few answers; boxes and blocks that lie one behind the other. -/
import Derived.Test.YtemnbkenihldgaaDoorPusf
namespace Go.Proofs.YtemnbkenihldgaaDoor
open Go.RowKit

def ok100 (s : ByteArray) : Bool := decide (s.size ≤ 100)
def fewB (L : List ByteArray) (m : Nat) : Bool := L.all ok100 && (decide (L.length ≤ 50) && decide (m ≤ 200))

set_option maxHeartbeats 1000000 in
theorem few_r (p q : Option Addr) (n c m d lo hi : Nat) (L : List ByteArray) (P : List (Int × Int)) (r : Bool) (w : World) (h : ObjAt w lo hi p n q m L P) (hn : n ≤ maxLen) (hr : fewB L m = r) :
    Calls Tryd.prog 5 #[.agg #[.slice p n c, .slice q m d]] w fun e w' => e = .returned (.bool r) ∧ w.grownBy w' none := by
  unfold maxLen at hn
  have hg0 := World.grownBy_alloc w (.cells #[.slice p n c, .slice q m d] 25) none
  have H1 := Lib.hid (h.calm hg0)
  have HLEN := Lib.hid h.ls.len
  have HR := Lib.hid hr
  have HG0 := Lib.hid hg0
  clear h hr hg0
  go_enter Tryd.func5, Tryd.ntmps5
  go_wp2
  go_loop [3] (fun i => ∃ k : Nat, k ≤ n ∧ i = .int .i64 k ∧ Hid ((L.take k).all ok100 = true)) (fun i => n - (intOf i).toNat)
  case atStart => exact ⟨0, Nat.zero_le _, rfl, Lib.hid rfl⟩
  case round =>
    obtain ⟨k, hk, rfl, HA⟩ := hrel
    by_cases hkn : k < n
    · obtain ⟨b, off, rfl, q1, q2, q3, hc⟩ := H1.out.ls.cell (by omega)
      have hck := hc k hkn
      have k0 : (k : Int) < n := by omega
      have HS := Lib.hid (all_take ok100 (L := L) (k := k) (by rw [HLEN.out]; exact hkn))
      have HO := Lib.hid (fun h => all_out ok100 (L := L) (k := k) (by rw [HLEN.out]; exact hkn) h)
      clear hc
      generalize L[k]?.getD .empty = s at *
      by_cases hs : s.size ≤ 100
      · have hs' : (s.size : Int) ≤ 100 := by omega
        have HN : Hid ((L.take (k + 1)).all ok100 = true) := Lib.hid (by rw [HS.out, HA.out]; simpa [ok100] using hs)
        go_wp2
        go_round
        case rel => exact ⟨k + 1, by omega, by go_num, HN⟩
        case measure => simp [intOf]; omega
      · have hs' : (100 : Int) < s.size := by omega
        obtain rfl : r = false := by
          rw [← HR.out]; unfold fewB; rw [HO.out (by unfold ok100; simpa using hs)]; rfl
        go_wp2
        go_ret
        exact ⟨rfl, HG0.out⟩
    · obtain rfl : n = k := by omega
      have k0 : ¬ ((n : Int) < n) := by omega
      have HAL : Hid (L.all ok100 = true) := by
        refine Lib.hid ?_
        have := HA.out
        rw [List.take_of_length_le (by rw [HLEN.out]; exact Nat.le_refl _)] at this
        exact this
      by_cases h50 : n ≤ 50
      · have d1 : (n : Int) ≤ 50 := by omega
        by_cases h200 : m ≤ 200
        · have d2 : (m : Int) ≤ 200 := by omega
          obtain rfl : r = true := by
            rw [← HR.out]; unfold fewB; rw [HAL.out, HLEN.out, decide_eq_true h50, decide_eq_true h200]; rfl
          go_wp2
          go_ret
          exact ⟨rfl, HG0.out⟩
        · have d2 : ¬ ((m : Int) ≤ 200) := by omega
          obtain rfl : r = false := by
            rw [← HR.out]; unfold fewB; rw [HAL.out, HLEN.out, decide_eq_true h50, decide_eq_false h200]; rfl
          go_wp2
          go_ret
          exact ⟨rfl, HG0.out⟩
      · have d1 : ¬ ((n : Int) ≤ 50) := by omega
        obtain rfl : r = false := by
          rw [← HR.out]; unfold fewB; rw [HAL.out, HLEN.out, decide_eq_false h50]; rfl
        go_wp2
        go_ret
        exact ⟨rfl, HG0.out⟩


theorem zs2 (w : World) (a b : Int) : ZsAt (w.alloc (.cells #[.int .i64 a, .int .i64 b] 3)) w.heap.size (w.heap.size + 1) (some ⟨w.heap.size, 0, none⟩) 2 [a, b] := by
  refine ⟨rfl, fun _ => ⟨w.heap.size, 0, rfl, Nat.le_refl _, Nat.lt_succ_self _, by simp, fun k hk => ?_⟩⟩
  match k, hk with
  | 0, _ => simp
  | 1, _ => simp
theorem zs1 (w : World) (a : Int) : ZsAt (w.alloc (.cells #[.int .i64 a] 3)) w.heap.size (w.heap.size + 1) (some ⟨w.heap.size, 0, none⟩) 1 [a] := by
  refine ⟨rfl, fun _ => ⟨w.heap.size, 0, rfl, Nat.le_refl _, Nat.lt_succ_self _, by simp, fun k hk => ?_⟩⟩
  match k, hk with
  | 0, _ => simp
theorem zs2' (w : World) (o : Obj) (a b : Int) : ZsAt ((w.alloc o).alloc (.cells #[.int .i64 a, .int .i64 b] 3)) (w.heap.size + 1) (w.heap.size + 1 + 1) (some ⟨w.heap.size + 1, 0, none⟩) 2 [a, b] := by
  have := zs2 (w.alloc o) a b
  rw [World.size_alloc] at this
  exact this
theorem zs1' (w : World) (o : Obj) (a : Int) : ZsAt ((w.alloc o).alloc (.cells #[.int .i64 a] 3)) (w.heap.size + 1) (w.heap.size + 1 + 1) (some ⟨w.heap.size + 1, 0, none⟩) 1 [a] := by
  have := zs1 (w.alloc o) a
  rw [World.size_alloc] at this
  exact this
theorem ss2 (w : World) (a b : ByteArray) : StrsAt (w.alloc (.cells #[.string a, .string b] 9)) w.heap.size (w.heap.size + 1) (some ⟨w.heap.size, 0, none⟩) 2 [a, b] := by
  refine ⟨rfl, fun _ => ⟨w.heap.size, 0, rfl, Nat.le_refl _, Nat.lt_succ_self _, by simp, fun k hk => ?_⟩⟩
  match k, hk with
  | 0, _ => simp
  | 1, _ => simp
theorem ss1 (w : World) (a : ByteArray) : StrsAt (w.alloc (.cells #[.string a] 9)) w.heap.size (w.heap.size + 1) (some ⟨w.heap.size, 0, none⟩) 1 [a] := by
  refine ⟨rfl, fun _ => ⟨w.heap.size, 0, rfl, Nat.le_refl _, Nat.lt_succ_self _, by simp, fun k hk => ?_⟩⟩
  match k, hk with
  | 0, _ => simp


/-- Blocks, one behind the other. -/
def allocL (w : World) (l : List Obj) : World := l.foldl World.alloc w
theorem allocL_facts (l : List Obj) : ∀ w : World, w.grownBy (allocL w l) none ∧ ∀ i, i < l.length → (allocL w l).heap[w.heap.size + i]? = l[i]? := by
  induction l with
  | nil => exact fun w => ⟨grownBy_refl _ _, fun i h => absurd h (by simp)⟩
  | cons o l ih =>
    intro w
    obtain ⟨h1, h2⟩ := ih (w.alloc o)
    have hg := World.grownBy_alloc w o none
    refine ⟨grownBy_trans hg h1, fun i hi => ?_⟩
    match i, hi with
    | 0, _ => exact (h1.block w.heap.size (by simp) (by simp)).trans (heap_alloc_new w o)
    | i + 1, hi =>
      have := h2 i (by simpa using hi)
      rw [World.size_alloc] at this
      rw [show w.heap.size + (i + 1) = w.heap.size + 1 + i by omega]
      exact this
theorem strs_of {W : World} {g : Nat} {l : List ByteArray} (h : W.heap[g]? = some (.cells (l.map Value.string).toArray 9 (0, 0))) : StrsAt W g (g + 1) (some ⟨g, 0, none⟩) l.length l := by
  refine ⟨rfl, fun _ => ⟨g, 0, rfl, Nat.le_refl _, Nat.lt_succ_self _, (Array.getElem?_eq_some_iff.1 h).1, fun k hk => ?_⟩⟩
  simp [World.cell?, h, List.getElem?_eq_getElem hk]
theorem pair_of {W : World} {g : Nat} {a b : Int} (h : W.heap[g]? = some (.cells #[.int .i64 a, .int .i64 b] 74 (0, 0))) : PairsAt W g (g + 1) (some ⟨g, 0, none⟩) 1 [(a, b)] := by
  refine ⟨rfl, fun _ => ⟨g, 0, rfl, Nat.le_refl _, Nat.lt_succ_self _, (Array.getElem?_eq_some_iff.1 h).1, fun k hk => ?_⟩⟩
  obtain rfl : k = 0 := by omega
  simp [World.cell?, h]
theorem StrsAt.wide {w : World} {lo hi n : Nat} {p : Option Addr} {l : List ByteArray} (h : StrsAt w lo hi p n l) : StrsAt w 0 w.heap.size p n l := ⟨h.len, fun hn => by
  obtain ⟨b, off, e, q1, q2, q3, hc⟩ := h.cell hn
  exact ⟨b, off, e, Nat.zero_le _, by omega, Nat.le_refl _, hc⟩⟩
theorem PairsAt.wide {w : World} {lo hi n : Nat} {p : Option Addr} {l : List (Int × Int)} (h : PairsAt w lo hi p n l) : PairsAt w 0 w.heap.size p n l := ⟨h.len, fun hn => by
  obtain ⟨b, off, e, q1, q2, q3, hc⟩ := h.cell hn
  exact ⟨b, off, e, Nat.zero_le _, by omega, Nat.le_refl _, hc⟩⟩
theorem boxEnv_two (w : World) (u v u' v' : Value) : BoxEnv w ((w.alloc (.cells #[u, v] 25)).alloc (.cells #[u', v'] 25)) [(u, v), (u', v')] := by
  have g1 := World.grownBy_alloc w (.cells #[u, v] 25) none
  have g2 := World.grownBy_alloc (w.alloc (.cells #[u, v] 25)) (.cells #[u', v'] 25) none
  have b0 := BoxO.new w u v
  have b1 := BoxO.new (w.alloc (.cells #[u, v] 25)) u' v'
  rw [World.size_alloc] at b1
  refine ⟨grownBy_trans g1 g2, fun k x hx => ?_⟩
  match k, hx with
  | 0, hx => cases hx; exact b0.calm g2
  | 1, hx => cases hx; exact b1
  | k + 2, hx => simp at hx
theorem BoxEnv.four {w W : World} {x0 x1 : Value × Value} {l : List (Value × Value)} (h : BoxEnv w W (x0 :: x1 :: l)) : W.cell? ⟨w.heap.size, 0, none⟩ = some x0.1 ∧ W.cell? ⟨w.heap.size, 1, none⟩ = some x0.2 ∧ W.cell? ⟨w.heap.size + 1, 0, none⟩ = some x1.1 ∧ W.cell? ⟨w.heap.size + 1, 1, none⟩ = some x1.2 :=
  ⟨(h.2 0 _ rfl).c0, (h.2 0 _ rfl).c1, (h.2 1 _ rfl).c0, (h.2 1 _ rfl).c1⟩
theorem few_small {L : List ByteArray} {m : Nat} (h : fewB L m = true) : L.length ≤ 50 ∧ m ≤ 200 := by
  unfold fewB at h
  simp only [Bool.and_eq_true, decide_eq_true_eq] at h
  exact h.2

end Go.Proofs.YtemnbkenihldgaaDoor
