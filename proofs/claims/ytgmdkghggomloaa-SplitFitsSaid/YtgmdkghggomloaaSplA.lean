/- Package split: the contracts of first, of the iterator pieces. -/
import Derived.Test.YtgmdkghggomloaaSplP
import Derived.Test.YtgmdkghggomloaaShelf
import Derived.Test.YtgmdkghggomloaaArra
namespace Go.Proofs.Ytgmdkghggomloaa
open Go.RowKit Go.Shelf
attribute [local go_sem] Oper.semAt_some

theorem index_c (s : ByteArray) (i : Int) (w : World) (hi : Lib.indexByte (bl s) 10 = i) :
    Calls Try.prog 20 #[.string s, .int .u8 10] w fun e w' => e = .returned (.int .i64 i) ∧ w' = w := by
  subst hi
  exact Try.strings_IndexByte s 10 w

theorem first_c (s : ByteArray) (n : Nat) (w : World) (hs : s.size ≤ 1000000) (hn : firstL (bl s) = n) :
    Calls Try.prog 17 #[.string s] w fun e w' => e = .returned (.int .i64 n) ∧ w' = w := by
  have hi := firstL_index (bl s)
  have hle := firstL_le (bl s)
  rw [hn, bl_size] at hi hle
  obtain ⟨i, hx⟩ : ∃ i : Int, Lib.indexByte (bl s) 10 = i := ⟨_, rfl⟩
  rw [hx] at hi
  have HX := Lib.hid hx
  clear hx hn
  rcases hi with ⟨rfl, rfl⟩ | ⟨rfl, h2⟩
  · go_enter Try.func17, Try.ntmps17
    go_wp2_with (go_at_call 20; refine (index_c s _ _ HX.out).mono ?_; rintro e w' ⟨rfl, rfl⟩)
    go_ret
    exact ⟨rfl, rfl⟩
  · have h3 : ¬ ((n : Int) - 1 < 0) := by omega
    have h4 : IntKind.i64.wrap ((n : Int) - 1 + 1) = n := by rw [IntWalk.i64_in _ (by omega)]; omega
    go_enter Try.func17, Try.ntmps17
    go_wp2_with (go_at_call 20; refine (index_c s _ _ HX.out).mono ?_; rintro e w' ⟨rfl, rfl⟩)
    go_ret
    exact ⟨by first | rfl | rw [h4], rfl⟩

/-- A string's length. -/
def strLen : Value → Nat | .string r => r.size | _ => 0
def encS (x : ByteArray) : Array Value := #[.string x]

set_option maxRecDepth 100000 in
set_option maxHeartbeats 4000000 in
theorem pieces1_in (n : Nat) (hn : 4 ≤ n) (l Bn n₀ : Nat) (s : ByteArray) (hs : s.size ≤ 1000000)
    (J Jx : List ByteArray → World → Prop) (hab : ∀ s A B, J s A → A.grownBy B none → J s B)
    (hY : ∀ pre x W, J pre W → pre.length < (linesS s).length → YieldAt Fence.wide (n - 1) Try.prog l (encS x) W fun e W' =>
      (e = .returned (.bool true) ∧ J (pre ++ [x]) W' ∧ Below n₀ W W') ∨ (e = .returned (.bool false) ∧ Jx (pre ++ [x]) W'))
    (W : World) (hc : W.cell? ⟨Bn, 0, none⟩ = some (.string s)) (h0 : J [] W) :
    CallsIn Fence.wide n Try.prog 19 #[.func (.yield l) #[] #[], .pointer (some ⟨Bn, 0, none⟩)] W fun e W' => (∃ v, e = .returned v) ∧
      ((∃ ys, ys = linesS s ∧ J ys W') ∨ (∃ pre, pre <+: linesS s ∧ Jx pre W')) := by
  have HY := Lib.hid hY
  have HAB := Lib.hid hab
  have HC := Lib.hid hc
  have h1 : 1 ≤ n := by omega
  clear hY hab hc
  have hc := HC.out
  refine callsIn_of_wp Try.func19 rfl trivial ?_ rfl
  simp only [Try.ntmps19, List.size_toArray, List.length_cons, List.length_nil, Nat.reduceAdd, Nat.reduceSub, Array.replicate_succ, Array.replicate_zero, List.push_toArray, List.append_toArray, List.nil_append, List.cons_append]
  gi_wp2
  clear hc
  gi_loopw [3] (fun i wr => ∃ (r : ByteArray) (pre : List ByteArray), i = .string r ∧ Hid (linesS s = pre ++ linesS r) ∧ r.size ≤ 1000000 ∧ J pre wr ∧ Below n₀ W wr) (fun i _ => strLen i)
  case atStart => exact ⟨s, [], rfl, Lib.hid rfl, hs, h0, Below.refl _ _⟩
  case round =>
    obtain ⟨r, pre, rfl, HP, hr, hJ, hB⟩ := hrel
    by_cases h0 : r.size = 0
    · have he : r.toList.isEmpty = true := by rw [ByteArray.toList_eq, List.isEmpty_iff, ← List.length_eq_zero_iff, ← Lib.size_eq]; exact h0
      have HE : Hid (pre = linesS s) := Lib.hid (by rw [HP.out, linesS_empty h0, List.append_nil])
      gi_wp2
      go_end0
      exact ⟨⟨_, rfl⟩, .inl ⟨_, HE.out, hJ⟩⟩
    · have he : r.toList.isEmpty = false := by
        rw [ByteArray.toList_eq, List.isEmpty_eq_false_iff]
        intro e
        exact h0 (by rw [Lib.size_eq, e]; rfl)
      obtain ⟨m, hm⟩ : ∃ m, firstL (bl r) = m := ⟨_, rfl⟩
      obtain ⟨hnx, m0, m1⟩ := linesS_next h0 hm
      have hall := HP.out
      rw [hnx] at hall
      have HM := Lib.hid hm
      have hlen : pre.length < (linesS s).length := by rw [hall]; simp
      have HPX : Hid (pre ++ [r.extract 0 m] <+: linesS s) := Lib.hid (by rw [hall]; exact ⟨_, by rw [List.append_assoc]; rfl⟩)
      have HNX : Hid (linesS s = (pre ++ [r.extract 0 m]) ++ linesS (r.extract m r.size)) := Lib.hid (by rw [hall, List.append_assoc]; rfl)
      have hsz : (r.extract m r.size).size = r.size - m := by rw [ByteArray.size_extract]; omega
      obtain ⟨fn, tmps, assign, body, hyy, hR⟩ := HY.out pre (r.extract 0 m) wr hJ hlen
      unfold encS at hyy
      have HSZ := Lib.hid hsz
      have m0' : (0 : Int) ≤ m := by omega
      have m1' : (m : Int) ≤ r.size := by omega
      clear hm hnx hall hlen hsz HP
      gi_wp2_with (refine ⟨trivial, ?_⟩; gi_at_call 17; refine (callsIn_wide.2 (first_c r m _ hr HM.out)).mono ?_; rintro e w9 ⟨rfl, h9⟩; subst w9)
      refine hR.mono ?_
      rintro e W3 (⟨rfl, hJ3, hk3⟩ | ⟨rfl, hJx3⟩)
      · gi_wp2
        exact ⟨⟨_, pre ++ [r.extract 0 m], rfl, HNX, by rw [HSZ.out]; omega, hJ3, hB.trans hk3⟩, by simp only [strLen]; rw [HSZ.out]; omega⟩
      · gi_wp2
        refine bodyPost_ret (results_none rfl _ _ _) rfl ?_
        exact ⟨⟨_, rfl⟩, .inr ⟨_, HPX.out, hJx3⟩⟩

set_option maxHeartbeats 1000000 in
theorem pieces_in (n : Nat) (s : ByteArray) (w : World) :
    CallsIn Fence.wide n Try.prog 16 #[.string s] w fun e w' => e = .returned (.func (.func 19) #[] #[.pointer (some ⟨w.heap.size, 0, none⟩)]) ∧ w' = w.alloc (.cells #[.string s] 9) := by
  refine callsIn_of_wp Try.func16 rfl trivial ?_ rfl
  simp only [Try.ntmps16, List.size_toArray, List.length_cons, List.length_nil, Nat.reduceAdd, Nat.reduceSub, Array.replicate_succ, Array.replicate_zero, List.push_toArray, List.append_toArray, List.nil_append, List.cons_append]
  gi_wp2
  go_ret
  exact ⟨rfl, rfl⟩

/-- The iterator hands over all lines, or the first of them. -/
theorem pieces_stops (n : Nat) (hn : 4 ≤ n) (Bn n₀ : Nat) (s : ByteArray) (w : World) (hBn : Bn < w.heap.size) (hs : s.size ≤ 1000000)
    (hc : w.cell? ⟨Bn, 0, none⟩ = some (.string s)) :
    SeqStopsK Fence.wide n Try.prog 19 #[.pointer (some ⟨Bn, 0, none⟩)] encS (Below n₀) (fun ys => ys = linesS s) (fun pre => pre <+: linesS s) (linesS s).length w := fun l J Jx W hW hJ _ hY h0 =>
  pieces1_in n hn l Bn n₀ s hs J Jx (fun s A B hs hg' => hJ s A B none hs hg' (by simp)) hY W ((hW.cell (p := ⟨Bn, 0, none⟩) (by show Bn < w.heap.size; omega)).trans hc) h0

/-- A row of strings in memory of its own. -/
theorem strsAt_ownC {w : World} {base : Nat} {v : Value} {l : List ByteArray} (h : w.ownsRow base 9 1 v l.length (scells l)) :
    ∃ p c, v = .slice p l.length c ∧ StrsAt w base w.heap.size p l.length l ∧ (p = none → c = 0) ∧ l.length ≤ c := by
  rcases h.2 with ⟨rfl, h0⟩ | ⟨g, cap, cur, rfl, hb, hg, hle, _⟩
  · rw [h0]; exact ⟨none, 0, rfl, ⟨h0, fun h => absurd h (by omega)⟩, fun _ => rfl, Nat.le_refl _⟩
  · refine ⟨_, cap, rfl, ⟨rfl, fun hn => ⟨g, 0, rfl, hb, (Array.getElem?_eq_some_iff.1 hg).1, Nat.le_refl _, fun k hk => ?_⟩⟩, (fun h => by cases h), hle⟩
    have hc := h.cells (g := g) rfl k _ (scells_get hk)
    rw [add_off] at hc
    exact hc
theorem scells_snoc (l : List ByteArray) (x : ByteArray) : scells (l ++ [x]) = scells l ++ [.string x] := by unfold scells; simp

end Go.Proofs.Ytgmdkghggomloaa
