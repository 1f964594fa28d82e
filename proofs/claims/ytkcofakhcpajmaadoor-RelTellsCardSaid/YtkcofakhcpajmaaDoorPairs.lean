/- Slices of pairs in memory; and the contract of the statements' own function same. -/
import Derived.Laws.StructEq
import Derived.Test.YtkcofakhcpajmaaDoorRelM
namespace Go.Proofs.YtkcofakhcpajmaaDoor
open Go.RowKit

/-- A slice of pairs that reads as l, in a block from lo to hi. -/
structure PairsAt (w : World) (lo hi : Nat) (p : Option Addr) (n : Nat) (l : List (Int × Int)) : Prop where
  len : l.length = n
  cell : 0 < n → ∃ b off, p = some ⟨b, off, none⟩ ∧ lo ≤ b ∧ b < hi ∧ hi ≤ w.heap.size ∧ ∀ k, k < n → w.cell? ⟨b, off + k * 2, none⟩ = some (.int .i64 (l[k]?.getD (0, 0)).1) ∧ w.cell? ⟨b, off + k * 2 + 1, none⟩ = some (.int .i64 (l[k]?.getD (0, 0)).2)

theorem PairsAt.kept {w w' : World} {lo hi : Nat} {p : Option Addr} {n : Nat} {l : List (Int × Int)} (h : PairsAt w lo hi p n l) (hs : w.heap.size ≤ w'.heap.size) (hb : ∀ i, lo ≤ i → i < hi → w'.heap[i]? = w.heap[i]?) : PairsAt w' lo hi p n l := by
  refine ⟨h.len, fun hn => ?_⟩
  obtain ⟨b, off, hp, h1, h2, h3, hc⟩ := h.cell hn
  exact ⟨b, off, hp, h1, h2, Nat.le_trans h3 hs, fun k hk => ⟨(World.cell?_of_block (a := ⟨b, off + k * 2, none⟩) (hb b h1 h2)).trans (hc k hk).1, (World.cell?_of_block (a := ⟨b, off + k * 2 + 1, none⟩) (hb b h1 h2)).trans (hc k hk).2⟩⟩

theorem PairsAt.calm {w w' : World} {lo hi : Nat} {p : Option Addr} {n : Nat} {l : List (Int × Int)} (h : PairsAt w lo hi p n l) (hg : w.grownBy w' none) : PairsAt w' lo hi p n l := by
  refine ⟨h.len, fun hn => ?_⟩
  obtain ⟨b, off, hp, h1, h2, h3, hc⟩ := h.cell hn
  have hb : w'.heap[b]? = w.heap[b]? := hg.block b (by omega) (by simp)
  exact ⟨b, off, hp, h1, h2, Nat.le_trans h3 hg.size, fun k hk => ⟨(World.cell?_of_block (a := ⟨b, off + k * 2, none⟩) hb).trans (hc k hk).1, (World.cell?_of_block (a := ⟨b, off + k * 2 + 1, none⟩) hb).trans (hc k hk).2⟩⟩

theorem PairsAt.apart {w w' : World} {lo hi lo' hi' : Nat} {p : Option Addr} {n : Nat} {l : List (Int × Int)} (h : PairsAt w lo hi p n l) (hg : Kept lo' hi' w w') (hd : hi ≤ lo' ∨ hi' ≤ lo) : PairsAt w' lo hi p n l := by
  refine ⟨h.len, fun hn => ?_⟩
  obtain ⟨b, off, hp, h1, h2, h3, hc⟩ := h.cell hn
  have hb : w'.heap[b]? = w.heap[b]? := hg.block b (by omega) (by omega)
  exact ⟨b, off, hp, h1, h2, Nat.le_trans h3 hg.size, fun k hk => ⟨(World.cell?_of_block (a := ⟨b, off + k * 2, none⟩) hb).trans (hc k hk).1, (World.cell?_of_block (a := ⟨b, off + k * 2 + 1, none⟩) hb).trans (hc k hk).2⟩⟩

/-- The cells of pairs. -/
def pcells (l : List (Int × Int)) : List Value := l.flatMap fun x => [.int .i64 x.1, .int .i64 x.2]
theorem pcells_len (l : List (Int × Int)) : (pcells l).length = l.length * 2 := by
  induction l with
  | nil => rfl
  | cons x l ih => simp only [pcells, List.flatMap_cons, List.length_append, List.length_cons, List.length_nil] at ih ⊢; omega
theorem pcells_snoc (l : List (Int × Int)) (x : Int × Int) : pcells (l ++ [x]) = pcells l ++ [.int .i64 x.1, .int .i64 x.2] := by simp [pcells]
theorem pcells_get (l : List (Int × Int)) : ∀ k, k < l.length → (pcells l)[k * 2]? = some (.int .i64 (l[k]?.getD (0, 0)).1) ∧ (pcells l)[k * 2 + 1]? = some (.int .i64 (l[k]?.getD (0, 0)).2) := by
  induction l with
  | nil => intro k hk; simp at hk
  | cons x l ih =>
    intro k hk
    have e : pcells (x :: l) = .int .i64 x.1 :: .int .i64 x.2 :: pcells l := by simp [pcells]
    rw [e]
    cases k with
    | zero => simp
    | succ k =>
      have := ih k (by simpa using hk)
      rw [show (k + 1) * 2 = k * 2 + 1 + 1 from by omega]
      simpa using this

/-- What hands back a new slice of pairs. -/
def PairsPost (l : List (Int × Int)) (w : World) (e : Ending) (w' : World) : Prop :=
  ∃ p c, e = .returned (.slice p l.length c) ∧ PairsAt w' w.heap.size w'.heap.size p l.length l ∧ w.grownBy w' none

theorem pairsAt_own {w : World} {base : Nat} {v : Value} {l : List (Int × Int)} (h : w.ownsRow base 48 2 v l.length (pcells l)) :
    ∃ p c, v = .slice p l.length c ∧ PairsAt w base w.heap.size p l.length l := by
  rcases h.2 with ⟨rfl, h0⟩ | ⟨g, cap, cur, rfl, hb, hg, _⟩
  · rw [h0]; exact ⟨none, 0, rfl, h0, fun h => absurd h (by omega)⟩
  · refine ⟨_, cap, rfl, rfl, fun hn => ⟨g, 0, rfl, hb, (Array.getElem?_eq_some_iff.1 hg).1, Nat.le_refl _, fun k hk => ?_⟩⟩
    have hc := h.cells (g := g) rfl
    have hadd : ∀ j, (⟨g, 0, none⟩ : Addr).add j = ⟨g, 0 + j, none⟩ := fun j => by unfold Addr.add; split <;> simp_all
    have g1 := hc (k * 2) _ (pcells_get l k hk).1
    have g2 := hc (k * 2 + 1) _ (pcells_get l k hk).2
    rw [hadd] at g1 g2
    exact ⟨g1, g2⟩

theorem pair_neq (x y z t : Int) (w : World) : (binOp .neq 48 (.agg #[.int .i64 x, .int .i64 y]) (.agg #[.int .i64 z, .int .i64 t])).run Tryd.prog w = .ok (.bool (!(x == z && y == t))) w := by
  rw [run_neq_struct, run_equalIn_agg _ _ _ _ _ (by kernel_rfl) Tryd.stoodInHeld48]
  have e : (Tryd.prog.fieldsOf 48).toList = [{ name := "A", type := 3, offset := 0, embedded := false, tag := "", pkgPath := "", byteOffset := 0 }, { name := "B", type := 3, offset := 1, embedded := false, tag := "", pkgPath := "", byteOffset := 8 }] := by kernel_rfl
  rw [e]
  simp [Op.eqFields, part, go_sem]
  cases h : (x == z) <;> cases h' : (y == t) <;> simp_all

theorem take_eq_succ {l1 l2 : List (Int × Int)} {k : Nat} (h1 : k < l1.length) (h2 : k < l2.length) (h : l1.take k = l2.take k) (e : l1[k]?.getD (0, 0) = l2[k]?.getD (0, 0)) : l1.take (k + 1) = l2.take (k + 1) := by
  rw [List.getElem?_eq_getElem h1, List.getElem?_eq_getElem h2] at e
  simp only [Option.getD_some] at e
  rw [List.take_succ_eq_append_getElem h1, List.take_succ_eq_append_getElem h2, h, e]

set_option maxHeartbeats 1000000 in
theorem samePairs_r (p1 p2 : Option Addr) (n1 n2 c1 c2 lo1 hi1 lo2 hi2 : Nat) (l1 l2 : List (Int × Int)) (r : Bool) (w : World) (h1 : PairsAt w lo1 hi1 p1 n1 l1) (h2 : PairsAt w lo2 hi2 p2 n2 l2) (hs : n1 ≤ 1000000) (hr : decide (l1 = l2) = r) :
    Calls Tryd.prog 13 #[.slice p1 n1 c1, .slice p2 n2 c2] w fun e w' => e = .returned (.bool r) ∧ w.grownBy w' none := by
  by_cases hl : n1 = n2
  · obtain rfl : n1 = n2 := hl
    have hb : ((n1 : Int) != (n1 : Int)) = false := by simp
    have H1 := Lib.hid h1
    have H2 := Lib.hid h2
    have HR := Lib.hid hr
    clear h1 h2 hr
    go_enter Tryd.func13, Tryd.ntmps13
    go_wp2
    go_loopw [5] (fun i wr => ∃ k : Nat, k ≤ n1 ∧ i = .int .i64 k ∧ Hid (l1.take k = l2.take k) ∧ w.grownBy wr none) (fun i _ => n1 - (intOf i).toNat)
    case atStart => exact ⟨0, Nat.zero_le _, rfl, Lib.hid rfl, grownBy_refl _ _⟩
    case round =>
      obtain ⟨k, hk, rfl, HT, hgr⟩ := hrel
      by_cases hkn : k < n1
      · obtain ⟨b1, o1, rfl, q1, q2, q3, hc1⟩ := (H1.out.calm hgr).cell (by omega)
        obtain ⟨b2, o2, rfl, r1, r2, r3, hc2⟩ := (H2.out.calm hgr).cell (by omega)
        obtain ⟨x1, x2⟩ := hc1 k hkn
        obtain ⟨y1, y2⟩ := hc2 k hkn
        clear hc1 hc2
        have k0 : (0 : Int) ≤ k := by omega
        have k1 : (k : Int) < n1 := by omega
        have hN := pair_neq (l1[k]?.getD (0, 0)).1 (l1[k]?.getD (0, 0)).2 (l2[k]?.getD (0, 0)).1 (l2[k]?.getD (0, 0)).2
        by_cases heq : l1[k]?.getD (0, 0) = l2[k]?.getD (0, 0)
        · have e1 : (!((l1[k]?.getD (0, 0)).1 == (l2[k]?.getD (0, 0)).1 && (l1[k]?.getD (0, 0)).2 == (l2[k]?.getD (0, 0)).2)) = false := by rw [heq]; simp
          rw [e1] at hN
          have HT2 := Lib.hid (take_eq_succ (by rw [H1.out.len]; exact hkn) (by rw [H2.out.len]; exact hkn) HT.out heq)
          clear heq e1
          generalize l1[k]?.getD (0, 0) = u at *
          generalize l2[k]?.getD (0, 0) = v at *
          go_wp2
          go_quiet (fail)
          go_wp2
          exact ⟨⟨k + 1, by omega, by go_num, HT2, grownBy_trans hgr (grownBy_drewN _ _ none)⟩, by simp [intOf]; omega⟩
        · have e1 : (!((l1[k]?.getD (0, 0)).1 == (l2[k]?.getD (0, 0)).1 && (l1[k]?.getD (0, 0)).2 == (l2[k]?.getD (0, 0)).2)) = true := by
            rw [Bool.not_eq_true', Bool.and_eq_false_iff, beq_eq_false_iff_ne, beq_eq_false_iff_ne]
            by_cases e0 : (l1[k]?.getD (0, 0)).1 = (l2[k]?.getD (0, 0)).1
            · exact .inr fun e2 => heq (Prod.ext e0 e2)
            · exact .inl e0
          rw [e1] at hN
          have hrf : r = false := by
            rw [← HR.out, decide_eq_false_iff_not]
            intro e
            exact heq (by rw [e])
          subst hrf
          clear heq e1
          generalize l1[k]?.getD (0, 0) = u at *
          generalize l2[k]?.getD (0, 0) = v at *
          go_wp2
          go_quiet (fail)
          go_wp2
          go_ret
          exact ⟨rfl, grownBy_trans hgr (grownBy_drewN _ _ none)⟩
      · obtain rfl : k = n1 := by omega
        have hrt : r = true := by
          have := HT.out
          rw [List.take_of_length_le (by rw [H1.out.len]; exact Nat.le_refl _), List.take_of_length_le (by rw [H2.out.len]; exact Nat.le_refl _)] at this
          rw [← HR.out]
          simpa using this
        subst hrt
        go_wp2
        go_ret
        exact ⟨rfl, hgr⟩
  · have hb : ((n1 : Int) != (n2 : Int)) = true := by simp; omega
    have hrf : r = false := by
      rw [← hr, decide_eq_false_iff_not]
      intro e
      exact hl (by rw [← h1.len, ← h2.len, e])
    subst hrf
    clear h1 h2 hl hr
    go_enter Tryd.func13, Tryd.ntmps13
    go_wp2
    go_ret
    exact ⟨rfl, grownBy_refl _ _⟩

end Go.Proofs.YtkcofakhcpajmaaDoor
