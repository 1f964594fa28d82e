/- Slices of pairs in memory; and the contract of the statements' own function same. -/
import Derived.Laws.StructEq
import Derived.Test.YtdolcdededmlhaaDoorRelM
namespace Go.Proofs.YtdolcdededmlhaaDoor
open Go.RowKit

/-- A slice of pairs that reads as l, in a block from lo to hi. -/
structure PairsAt (w : World) (lo hi : Nat) (p : Option Addr) (n : Nat) (l : List (Int × Int)) : Prop where
  len : l.length = n
  cell : 0 < n → ∃ b off, p = some ⟨b, off, none⟩ ∧ lo ≤ b ∧ b < hi ∧ hi ≤ w.heap.size ∧ ∀ k, k < n → w.cell? ⟨b, off + k * 2, none⟩ = some (.int .i64 (l[k]?.getD (0, 0)).1) ∧ w.cell? ⟨b, off + k * 2 + 1, none⟩ = some (.int .i64 (l[k]?.getD (0, 0)).2)

theorem PairsAt.kept {w w' : World} {lo hi : Nat} {p : Option Addr} {n : Nat} {l : List (Int × Int)} (h : PairsAt w lo hi p n l) (hs : w.heap.size ≤ w'.heap.size) (hb : ∀ i, lo ≤ i → i < hi → w'.heap[i]? = w.heap[i]?) : PairsAt w' lo hi p n l := by
  refine ⟨h.len, fun hn => ?_⟩
  obtain ⟨b, off, hp, h1, h2, h3, hc⟩ := h.cell hn
  exact ⟨b, off, hp, h1, h2, Nat.le_trans h3 hs, fun k hk => ⟨(World.cell?_of_block (a := ⟨b, off + k * 2, none⟩) (hb b h1 h2)).trans (hc k hk).1, (World.cell?_of_block (a := ⟨b, off + k * 2 + 1, none⟩) (hb b h1 h2)).trans (hc k hk).2⟩⟩

theorem PairsAt.calm {w w' : World} {lo hi : Nat} {p : Option Addr} {n : Nat} {l : List (Int × Int)} (h : PairsAt w lo hi p n l) (hg : w.grownBy w' none) : PairsAt w' lo hi p n l := by
  refine ⟨h.len, fun hn => ?_⟩
  obtain ⟨b, off, hp, h1, h2, h3, hc⟩ := h.cell hn
  have hb : w'.heap[b]? = w.heap[b]? := hg.block b (by omega) (by simp)
  exact ⟨b, off, hp, h1, h2, Nat.le_trans h3 hg.size, fun k hk => ⟨(World.cell?_of_block (a := ⟨b, off + k * 2, none⟩) hb).trans (hc k hk).1, (World.cell?_of_block (a := ⟨b, off + k * 2 + 1, none⟩) hb).trans (hc k hk).2⟩⟩

theorem PairsAt.apart {w w' : World} {lo hi lo' hi' : Nat} {p : Option Addr} {n : Nat} {l : List (Int × Int)} (h : PairsAt w lo hi p n l) (hg : Kept lo' hi' w w') (hd : hi ≤ lo' ∨ hi' ≤ lo) : PairsAt w' lo hi p n l := by
  refine ⟨h.len, fun hn => ?_⟩
  obtain ⟨b, off, hp, h1, h2, h3, hc⟩ := h.cell hn
  have hb : w'.heap[b]? = w.heap[b]? := hg.block b (by omega) (by omega)
  exact ⟨b, off, hp, h1, h2, Nat.le_trans h3 hg.size, fun k hk => ⟨(World.cell?_of_block (a := ⟨b, off + k * 2, none⟩) hb).trans (hc k hk).1, (World.cell?_of_block (a := ⟨b, off + k * 2 + 1, none⟩) hb).trans (hc k hk).2⟩⟩

/-- The cells of pairs. -/
def pcells (l : List (Int × Int)) : List Value := l.flatMap fun x => [.int .i64 x.1, .int .i64 x.2]
theorem pcells_len (l : List (Int × Int)) : (pcells l).length = l.length * 2 := by
  induction l with
  | nil => rfl
  | cons x l ih => simp only [pcells, List.flatMap_cons, List.length_append, List.length_cons, List.length_nil] at ih ⊢; omega
theorem pcells_snoc (l : List (Int × Int)) (x : Int × Int) : pcells (l ++ [x]) = pcells l ++ [.int .i64 x.1, .int .i64 x.2] := by simp [pcells]
theorem pcells_get (l : List (Int × Int)) : ∀ k, k < l.length → (pcells l)[k * 2]? = some (.int .i64 (l[k]?.getD (0, 0)).1) ∧ (pcells l)[k * 2 + 1]? = some (.int .i64 (l[k]?.getD (0, 0)).2) := by
  induction l with
  | nil => intro k hk; simp at hk
  | cons x l ih =>
    intro k hk
    have e : pcells (x :: l) = .int .i64 x.1 :: .int .i64 x.2 :: pcells l := by simp [pcells]
    rw [e]
    cases k with
    | zero => simp
    | succ k =>
      have := ih k (by simpa using hk)
      rw [show (k + 1) * 2 = k * 2 + 1 + 1 from by omega]
      simpa using this

/-- What hands back a new slice of pairs. -/
def PairsPost (l : List (Int × Int)) (w : World) (e : Ending) (w' : World) : Prop :=
  ∃ p c, e = .returned (.slice p l.length c) ∧ PairsAt w' w.heap.size w'.heap.size p l.length l ∧ w.grownBy w' none

theorem pairsAt_own {w : World} {base : Nat} {v : Value} {l : List (Int × Int)} (h : w.ownsRow base 38 2 v l.length (pcells l)) :
    ∃ p c, v = .slice p l.length c ∧ PairsAt w base w.heap.size p l.length l := by
  rcases h.2 with ⟨rfl, h0⟩ | ⟨g, cap, cur, rfl, hb, hg, _⟩
  · rw [h0]; exact ⟨none, 0, rfl, h0, fun h => absurd h (by omega)⟩
  · refine ⟨_, cap, rfl, rfl, fun hn => ⟨g, 0, rfl, hb, (Array.getElem?_eq_some_iff.1 hg).1, Nat.le_refl _, fun k hk => ?_⟩⟩
    have hc := h.cells (g := g) rfl
    have hadd : ∀ j, (⟨g, 0, none⟩ : Addr).add j = ⟨g, 0 + j, none⟩ := fun j => by unfold Addr.add; split <;> simp_all
    have g1 := hc (k * 2) _ (pcells_get l k hk).1
    have g2 := hc (k * 2 + 1) _ (pcells_get l k hk).2
    rw [hadd] at g1 g2
    exact ⟨g1, g2⟩

theorem pair_neq (x y z t : Int) (w : World) : (binOp .neq 38 (.agg #[.int .i64 x, .int .i64 y]) (.agg #[.int .i64 z, .int .i64 t])).run Tryd.prog w = .ok (.bool (!(x == z && y == t))) w := by
  rw [run_neq_struct, run_equalIn_agg _ _ _ _ _ (by kernel_rfl) Tryd.stoodInHeld38]
  have e : (Tryd.prog.fieldsOf 38).toList = [{ name := "A", type := 3, offset := 0, embedded := false, tag := "", pkgPath := "", byteOffset := 0 }, { name := "B", type := 3, offset := 1, embedded := false, tag := "", pkgPath := "", byteOffset := 8 }] := by kernel_rfl
  rw [e]
  simp [Op.eqFields, part, go_sem]
  cases h : (x == z) <;> cases h' : (y == t) <;> simp_all

theorem take_eq_succ {l1 l2 : List (Int × Int)} {k : Nat} (h1 : k < l1.length) (h2 : k < l2.length) (h : l1.take k = l2.take k) (e : l1[k]?.getD (0, 0) = l2[k]?.getD (0, 0)) : l1.take (k + 1) = l2.take (k + 1) := by
  rw [List.getElem?_eq_getElem h1, List.getElem?_eq_getElem h2] at e
  simp only [Option.getD_some] at e
  rw [List.take_succ_eq_append_getElem h1, List.take_succ_eq_append_getElem h2, h, e]

end Go.Proofs.YtdolcdededmlhaaDoor
