/- Nodes, arrows, legs in memory. -/
import Derived.Test.YtemnbkenihldgaaDoorColP
namespace Go.Proofs.YtemnbkenihldgaaDoor
open Go.RowKit

/-- A slice of objects. -/
structure NodesAt (w : World) (lo hi : Nat) (p : Option Addr) (n : Nat) (xs : List Nd) : Prop where
  len : xs.length = n
  cell : 0 < n → ∃ b off, p = some ⟨b, off, none⟩ ∧ lo ≤ b ∧ b < hi ∧ hi ≤ w.heap.size ∧ ∀ k, k < n → ∃ pl nl cl pq nq cq, w.cell? ⟨b, off + k * 2, none⟩ = some (.slice pl nl cl) ∧ w.cell? ⟨b, off + k * 2 + 1, none⟩ = some (.slice pq nq cq) ∧
    ObjAt w lo hi pl nl pq nq (ndA xs k).1 (ndA xs k).2 ∧ nl ≤ maxLen ∧ (pl = none → cl = 0) ∧ (pq = none → cq = 0)
/-- A slice of arrows. -/
structure ArrsAt (w : World) (lo hi : Nat) (p : Option Addr) (n : Nat) (xs : List Ar) : Prop where
  len : xs.length = n
  cell : 0 < n → ∃ b off, p = some ⟨b, off, none⟩ ∧ lo ≤ b ∧ b < hi ∧ hi ≤ w.heap.size ∧ ∀ k, k < n → ∃ pm nm cm, w.cell? ⟨b, off + k * 3, none⟩ = some (.int .i64 (arA xs k).1) ∧ w.cell? ⟨b, off + k * 3 + 1, none⟩ = some (.int .i64 (arA xs k).2.1) ∧ w.cell? ⟨b, off + k * 3 + 2, none⟩ = some (.slice pm nm cm) ∧
    ZsAt w lo hi pm nm (arA xs k).2.2
/-- A slice of slices of ints. -/
structure LegsAt (w : World) (lo hi : Nat) (p : Option Addr) (n : Nat) (xs : List (List Int)) : Prop where
  len : xs.length = n
  cell : 0 < n → ∃ b off, p = some ⟨b, off, none⟩ ∧ lo ≤ b ∧ b < hi ∧ hi ≤ w.heap.size ∧ ∀ k, k < n → ∃ pm nm cm, w.cell? ⟨b, off + k, none⟩ = some (.slice pm nm cm) ∧ ZsAt w lo hi pm nm (lgA xs k)
theorem cell_calm {w w' : World} (hg : w.grownBy w' none) {b o : Nat} {v : Value} (h : w.cell? ⟨b, o, none⟩ = some v) (hb : b < w.heap.size) : w'.cell? ⟨b, o, none⟩ = some v :=
  (World.cell?_of_block (a := ⟨b, o, none⟩) (hg.block b hb (by simp))).trans h
theorem NodesAt.calm {w w' : World} {lo hi n : Nat} {p : Option Addr} {xs : List Nd} (h : NodesAt w lo hi p n xs) (hg : w.grownBy w' none) : NodesAt w' lo hi p n xs :=
  ⟨h.len, fun hn => by
    obtain ⟨b, off, e, q1, q2, q3, hc⟩ := h.cell hn
    refine ⟨b, off, e, q1, q2, Nat.le_trans q3 hg.size, fun k hk => ?_⟩
    obtain ⟨pl, nl, cl, pq, nq, cq, c0, c1, ho, h1, h2, h3⟩ := hc k hk
    exact ⟨pl, nl, cl, pq, nq, cq, cell_calm hg c0 (by omega), cell_calm hg c1 (by omega), ho.calm hg, h1, h2, h3⟩⟩
theorem ArrsAt.calm {w w' : World} {lo hi n : Nat} {p : Option Addr} {xs : List Ar} (h : ArrsAt w lo hi p n xs) (hg : w.grownBy w' none) : ArrsAt w' lo hi p n xs :=
  ⟨h.len, fun hn => by
    obtain ⟨b, off, e, q1, q2, q3, hc⟩ := h.cell hn
    refine ⟨b, off, e, q1, q2, Nat.le_trans q3 hg.size, fun k hk => ?_⟩
    obtain ⟨pm, nm, cm, c0, c1, c2, hz⟩ := hc k hk
    exact ⟨pm, nm, cm, cell_calm hg c0 (by omega), cell_calm hg c1 (by omega), cell_calm hg c2 (by omega), hz.calm hg⟩⟩
theorem LegsAt.calm {w w' : World} {lo hi n : Nat} {p : Option Addr} {xs : List (List Int)} (h : LegsAt w lo hi p n xs) (hg : w.grownBy w' none) : LegsAt w' lo hi p n xs :=
  ⟨h.len, fun hn => by
    obtain ⟨b, off, e, q1, q2, q3, hc⟩ := h.cell hn
    refine ⟨b, off, e, q1, q2, Nat.le_trans q3 hg.size, fun k hk => ?_⟩
    obtain ⟨pm, nm, cm, c0, hz⟩ := hc k hk
    exact ⟨pm, nm, cm, cell_calm hg c0 (by omega), hz.calm hg⟩⟩
theorem nodesAt_nil (w : World) (lo hi : Nat) : NodesAt w lo hi none 0 [] := ⟨rfl, fun h => absurd h (by omega)⟩
theorem arrsAt_nil (w : World) (lo hi : Nat) : ArrsAt w lo hi none 0 [] := ⟨rfl, fun h => absurd h (by omega)⟩
theorem legsAt_nil (w : World) (lo hi : Nat) : LegsAt w lo hi none 0 [] := ⟨rfl, fun h => absurd h (by omega)⟩


/-- A block known whole. -/
def Blk (w : World) (g : Nat) (vs : Array Value) (t : TypeId) : Prop := w.heap[g]? = some (.cells vs t (0, 0))
theorem Blk.lt {w : World} {g : Nat} {vs : Array Value} {t : TypeId} (h : Blk w g vs t) : g < w.heap.size := (Array.getElem?_eq_some_iff.1 h).1
theorem Blk.new (w : World) (vs : Array Value) (t : TypeId) : Blk (w.alloc (.cells vs t)) w.heap.size vs t := heap_alloc_new w _
theorem Blk.calm {w w' : World} {g : Nat} {vs : Array Value} {t : TypeId} (h : Blk w g vs t) (hg : w.grownBy w' none) : Blk w' g vs t := (hg.block g h.lt (by simp)).trans h
theorem Blk.other {w w' : World} {g : Nat} {vs : Array Value} {t : TypeId} {row : Option Nat} (h : Blk w g vs t) (hg : w.grownBy w' row) (hr : some g ≠ row) : Blk w' g vs t := (hg.block g h.lt hr).trans h
theorem Blk.c0 {w : World} {g : Nat} {a : Value} {l : List Value} {t : TypeId} (h : Blk w g ⟨a :: l⟩ t) : w.cell? ⟨g, 0, none⟩ = some a := by
  have h' : w.heap[g]? = some (.cells ⟨a :: l⟩ t (0, 0)) := h
  simp [World.cell?, h']
theorem Blk.c1 {w : World} {g : Nat} {a b : Value} {l : List Value} {t : TypeId} (h : Blk w g ⟨a :: b :: l⟩ t) : w.cell? ⟨g, 1, none⟩ = some b := by
  have h' : w.heap[g]? = some (.cells ⟨a :: b :: l⟩ t (0, 0)) := h
  simp [World.cell?, h']
theorem Blk.c2 {w : World} {g : Nat} {a b c : Value} {l : List Value} {t : TypeId} (h : Blk w g ⟨a :: b :: c :: l⟩ t) : w.cell? ⟨g, 2, none⟩ = some c := by
  have h' : w.heap[g]? = some (.cells ⟨a :: b :: c :: l⟩ t (0, 0)) := h
  simp [World.cell?, h']
theorem Blk.free {w : World} {g : Nat} {vs : Array Value} {t : TypeId} (h : Blk w g vs t) (k : Nat) : w.frozen? ⟨g, k, none⟩ = false := by
  have h' : w.heap[g]? = some (.cells vs t (0, 0)) := h
  simp [World.frozen?, h']
/-- A diagram in a box. -/
abbrev BoxD (w : World) (g : Nat) (u v : Value) : Prop := Blk w g #[u, v] 37
/-- An arrow in a box. -/
abbrev BoxA (w : World) (g : Nat) (a b : Int) (v : Value) : Prop := Blk w g #[.int .i64 a, .int .i64 b, v] 45

/-- Few nodes and arrows, none of them great. -/
structure DFew (Ns : List Nd) (As : List Ar) : Prop where
  nn : Ns.length ≤ 10
  nod : ∀ k, k < Ns.length → (ndA Ns k).1.length ≤ 50 ∧ (ndA Ns k).2.length ≤ 200
  aa : As.length ≤ 12
  arr : ∀ a, a < As.length → (arA As a).2.2.length ≤ 60

end Go.Proofs.YtemnbkenihldgaaDoor
