/- Package push: tooLarge, behind, beside; slices.Grow, slices.Concat. -/
import Derived.Test.YtemnbkenihldgaaDoorObja
import Derived.Test.YtemnbkenihldgaaDoorArra
import Derived.Lib.AppendZerosOnto
/-! Package push: tooLarge, behind, beside; Go's own slices.Grow and slices.Concat over strings. -/
namespace Go.Proofs.YtemnbkenihldgaaDoor
open Go.RowKit Go.Shelf

/-- How many there are in the first k together. -/
def sumN (N : Nat → Nat) : Nat → Nat
  | 0 => 0
  | k + 1 => sumN N k + N k
theorem sumN_le {N : Nat → Nat} {m : Nat} (h : ∀ k, k < m → N k ≤ 1000000) : ∀ k, k ≤ m → sumN N k ≤ k * 1000000
  | 0, _ => Nat.le_refl _
  | k + 1, hk => by
    have h1 := sumN_le h k (by omega)
    have h2 := h k (by omega)
    show sumN N k + N k ≤ _
    omega

theorem ownsRow_sl {w : World} {base : Nat} {e : TypeId} {size n : Nat} {v : Value} {xs : List Value} (h : w.ownsRow base e size v n xs) : ∃ p c, v = .slice p n c := by
  rcases h.2 with ⟨e1, e2⟩ | ⟨g, cap, cur, e1, _⟩
  · exact ⟨none, 0, by rw [e1, e2]⟩
  · exact ⟨_, _, e1⟩
/-- What turns a new row alone makes new memory alone. -/
theorem ownsRow_new {w wr w2 : World} {e : TypeId} {size n : Nat} {v : Value} {xs : List Value} (h : w.grownBy wr none) (ho : wr.ownsRow w.heap.size e size v n xs) (hg : wr.grownBy w2 v.ownBlock) : w.grownBy w2 none := by
  rcases ho.2 with ⟨rfl, _⟩ | ⟨g, cap, cur, rfl, h1, _⟩
  · exact grownBy_trans h hg
  · exact grownBy_new h hg h1

/-- The first k of them, one behind the other. -/
def joinS (Ls : Nat → List ByteArray) : Nat → List ByteArray
  | 0 => []
  | k + 1 => joinS Ls k ++ Ls k
theorem scells_app (a b : List ByteArray) : scells (a ++ b) = scells a ++ scells b := by simp [scells]
theorem scells_len (a : List ByteArray) : (scells a).length = a.length := by simp [scells]

/-- The same places, with n others ahead of them. -/
def shL (n : Nat) (f : List Int) : List Int := f.map fun z => (n : Int) + z
theorem shL_len (n : Nat) (f : List Int) : (shL n f).length = f.length := by simp [shL]
def shK (n : Nat) (f : List Int) (k : Nat) : List Int := shL n (f.take k) ++ List.replicate (f.length - k) 0
theorem shK_len {n : Nat} {f : List Int} {k : Nat} (h : k ≤ f.length) : (shK n f k).length = f.length := by simp [shK, shL]; omega
theorem shK_zero (n : Nat) (f : List Int) : shK n f 0 = List.replicate f.length 0 := by simp [shK, shL]
theorem shK_end (n : Nat) (f : List Int) : shK n f f.length = shL n f := by simp [shK]
theorem shK_succ {n : Nat} {f : List Int} {k : Nat} (h : k < f.length) : (shK n f k).set k ((n : Int) + f[k]?.getD 0) = shK n f (k + 1) := by
  unfold shK
  have e : f.length - k = (f.length - (k + 1)) + 1 := by omega
  have hl : (shL n (f.take k)).length = k := by rw [shL_len, List.length_take]; omega
  rw [List.set_append_right _ _ (by omega), hl, Nat.sub_self, e, List.replicate_succ, List.set_cons_zero]
  have : f.take (k + 1) = f.take k ++ [f[k]?.getD 0] := by rw [List.take_add_one, List.getElem?_eq_getElem h]; rfl
  rw [this]
  simp [shL]
/-- Places that are few. -/
def tameL (f : List Int) : Prop := ∀ z ∈ f, 0 ≤ z ∧ z ≤ 1000000
theorem tameL_get {f : List Int} (h : tameL f) {k : Nat} (hk : k < f.length) : 0 ≤ f[k]?.getD 0 ∧ f[k]?.getD 0 ≤ 1000000 := by
  rw [List.getElem?_eq_getElem hk]
  exact h _ (List.getElem_mem hk)

end Go.Proofs.YtemnbkenihldgaaDoor
/-! Package push: beside: two objects, one behind the other. -/
namespace Go.Proofs.YtemnbkenihldgaaDoor
open Go.RowKit Go.Shelf

/-- A box that holds an object. -/
def BoxO (w : World) (g : Nat) (u v : Value) : Prop := w.heap[g]? = some (.cells #[u, v] 25 (0, 0))
theorem BoxO.lt {w : World} {g : Nat} {u v : Value} (h : BoxO w g u v) : g < w.heap.size := (Array.getElem?_eq_some_iff.1 h).1
theorem BoxO.new (w : World) (u v : Value) : BoxO (w.alloc (.cells #[u, v] 25)) w.heap.size u v := heap_alloc_new w _
theorem BoxO.c0 {w : World} {g : Nat} {u v : Value} (h : BoxO w g u v) : w.cell? ⟨g, 0, none⟩ = some u := by
  have h' : w.heap[g]? = some (.cells #[u, v] 25 (0, 0)) := h
  simp [World.cell?, h']
theorem BoxO.c1 {w : World} {g : Nat} {u v : Value} (h : BoxO w g u v) : w.cell? ⟨g, 1, none⟩ = some v := by
  have h' : w.heap[g]? = some (.cells #[u, v] 25 (0, 0)) := h
  simp [World.cell?, h']
theorem BoxO.free {w : World} {g : Nat} {u v : Value} (h : BoxO w g u v) (k : Nat) : w.frozen? ⟨g, k, none⟩ = false := by
  have h' : w.heap[g]? = some (.cells #[u, v] 25 (0, 0)) := h
  simp [World.frozen?, h']
theorem BoxO.calm {w w' : World} {g : Nat} {u v : Value} (h : BoxO w g u v) (hg : w.grownBy w' none) : BoxO w' g u v := (hg.block g h.lt (by simp)).trans h
theorem BoxO.other {w w' : World} {g : Nat} {u v : Value} {row : Option Nat} (h : BoxO w g u v) (hg : w.grownBy w' row) (hr : some g ≠ row) : BoxO w' g u v := (hg.block g h.lt hr).trans h
theorem BoxO.set0 {w : World} {g : Nat} {u v : Value} (h : BoxO w g u v) (x : Value) : BoxO (w.setCell ⟨g, 0, none⟩ x) g x v := by
  have h' : w.heap[g]? = some (.cells #[u, v] 25 (0, 0)) := h
  have := h.lt
  rw [BoxO]; simp only [World.setCell]; rw [Array.getElem?_modify, if_pos rfl, h']; simp
theorem BoxO.set1 {w : World} {g : Nat} {u v : Value} (h : BoxO w g u v) (x : Value) : BoxO (w.setCell ⟨g, 1, none⟩ x) g u x := by
  have h' : w.heap[g]? = some (.cells #[u, v] 25 (0, 0)) := h
  have := h.lt
  rw [BoxO]; simp only [World.setCell]; rw [Array.getElem?_modify, if_pos rfl, h']; simp

/-- Pairs, with n elements ahead of theirs. -/
def shP (n : Nat) (P : List (Int × Int)) : List (Int × Int) := P.map fun x => ((n : Int) + x.1, (n : Int) + x.2)
theorem shP_take {n : Nat} {P : List (Int × Int)} {k : Nat} (h : k < P.length) : shP n (P.take (k + 1)) = shP n (P.take k) ++ [((n : Int) + (P[k]?.getD (0, 0)).1, (n : Int) + (P[k]?.getD (0, 0)).2)] := by
  have : P.take (k + 1) = P.take k ++ [P[k]?.getD (0, 0)] := by rw [List.take_add_one, List.getElem?_eq_getElem h]; rfl
  rw [this]
  simp [shP]
theorem shP_len (n : Nat) (P : List (Int × Int)) : (shP n P).length = P.length := by simp [shP]
theorem shP_lenK {n k : Nat} {P : List (Int × Int)} (h : k ≤ P.length) : (shP n (P.take k)).length = k := by rw [shP_len, List.length_take]; omega

theorem ownsRow_set {w : World} {base : Nat} {e : TypeId} {size n : Nat} {v : Value} {xs : List Value} (h : w.ownsRow base e size v n xs) {p : Addr} (hp : p.block < base) (x : Value) : (w.setCell p x).ownsRow base e size v n xs := by
  refine ⟨h.1, ?_⟩
  rcases h.2 with h1 | ⟨g, cap, cur, e1, h1, h2, h3⟩
  · exact .inl h1
  · refine .inr ⟨g, cap, cur, e1, h1, ?_, h3⟩
    exact ((grownBy_setCell w p x).block g (Array.getElem?_eq_some_iff.1 h2).1 (by intro e; injection e; omega)).trans h2

theorem own_ne {w : World} {g n size : Nat} {e : TypeId} {v : Value} {xs : List Value} (h : w.ownsRow (g + 1) e size v n xs) : some g ≠ v.ownBlock := by
  rcases h.2 with ⟨rfl, _⟩ | ⟨g', cap, cur, rfl, h1, _⟩
  · simp [Value.ownBlock]
  · simp [Value.ownBlock]; omega
theorem ownsRow_new2 {w wr w2 : World} {base : Nat} {e : TypeId} {size n : Nat} {v : Value} {xs : List Value} (h : w.grownBy wr none) (ho : wr.ownsRow base e size v n xs) (hb : w.heap.size ≤ base) (hg : wr.grownBy w2 v.ownBlock) : w.grownBy w2 none :=
  ownsRow_new h (ownsRow_down ho hb) hg

end Go.Proofs.YtemnbkenihldgaaDoor
