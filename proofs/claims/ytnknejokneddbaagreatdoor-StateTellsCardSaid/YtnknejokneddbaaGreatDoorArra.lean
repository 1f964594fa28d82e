/- Package arrow: maps (slices of ints) in memory, the contracts of all its functions but Injective. -/
import Derived.Laws.CopyOwn
import Derived.Deep.AppendLies
import Derived.Test.YtnknejokneddbaaGreatDoorObja
/-! Package arrow: maps in memory, the contracts of has, Then, Identity, Same. -/
namespace Go.Proofs.YtnknejokneddbaaGreatDoor
open Go.RowKit

/-- A slice of ints that reads as l, in a block from lo to hi. -/
structure ZsAt (w : World) (lo hi : Nat) (p : Option Addr) (n : Nat) (l : List Int) : Prop where
 len : l.length = n
 cell : 0 < n → ∃ b off, p = some ⟨b, off, none⟩ ∧ lo ≤ b ∧ b < hi ∧ hi ≤ w.heap.size ∧ ∀ k, k < n → w.cell? ⟨b, off + k, none⟩ = some (.int .i64 (l[k]?.getD 0))

theorem ZsAt.calm {w w' : World} {lo hi : Nat} {p : Option Addr} {n : Nat} {l : List Int} (h : ZsAt w lo hi p n l) (hg : w.grownBy w' none) : ZsAt w' lo hi p n l := by
 refine ⟨h.len, fun hn => ?_⟩
 obtain ⟨b, off, hp, h1, h2, h3, hc⟩ := h.cell hn
 have hb : w'.heap[b]? = w.heap[b]? := hg.block b (by omega) (by simp)
 exact ⟨b, off, hp, h1, h2, Nat.le_trans h3 hg.size, fun k hk => (World.cell?_of_block (a := ⟨b, off + k, none⟩) hb).trans (hc k hk)⟩
theorem ZsAt.apart {w w' : World} {lo hi lo' hi' : Nat} {p : Option Addr} {n : Nat} {l : List Int} (h : ZsAt w lo hi p n l) (hg : Kept lo' hi' w w') (hd : hi ≤ lo' ∨ hi' ≤ lo) : ZsAt w' lo hi p n l := by
 refine ⟨h.len, fun hn => ?_⟩
 obtain ⟨b, off, hp, h1, h2, h3, hc⟩ := h.cell hn
 have hb : w'.heap[b]? = w.heap[b]? := hg.block b (by omega) (by omega)
 exact ⟨b, off, hp, h1, h2, Nat.le_trans h3 hg.size, fun k hk => (World.cell?_of_block (a := ⟨b, off + k, none⟩) hb).trans (hc k hk)⟩
theorem Tryz.infoZ3 : (Tryz.prog.info? 3).map (fun i => (i.zero, i.size, i.bytes)) = some (some (.int .i64 0), 1, 8) := by kernel_rfl

/-- The cells of ints. -/
def zcells (l : List Int) : List Value := l.map (.int .i64)
theorem zcells_get {l : List Int} {k : Nat} (hk : k < l.length) : (zcells l)[k]? = some (.int .i64 (l[k]?.getD 0)) := by
 unfold zcells
 rw [List.getElem?_map, List.getElem?_eq_getElem hk]
 rfl
theorem zcells_snoc (l : List Int) (x : Int) : zcells (l ++ [x]) = zcells l ++ [.int .i64 x] := by simp [zcells]

/-- A row of ints that is known whole. -/
def RowZ (w : World) (g : Nat) (l : List Int) : Prop := w.heap[g]? = some (.cells (zcells l).toArray 3 (0, 0))
theorem RowZ.lt {w : World} {g : Nat} {l : List Int} (h : RowZ w g l) : g < w.heap.size := (Array.getElem?_eq_some_iff.1 h).1
theorem RowZ.cell {w : World} {g : Nat} {l : List Int} (h : RowZ w g l) {k : Nat} (hk : k < l.length) : w.cell? ⟨g, k, none⟩ = some (.int .i64 (l[k]?.getD 0)) := by
 have h' : w.heap[g]? = some (.cells (zcells l).toArray 3 (0, 0)) := h
 simp only [World.cell?, h', List.getElem?_toArray]
 exact zcells_get hk
theorem RowZ.free {w : World} {g : Nat} {l : List Int} (h : RowZ w g l) (k : Nat) : w.frozen? ⟨g, k, none⟩ = false := by
 have h' : w.heap[g]? = some (.cells (zcells l).toArray 3 (0, 0)) := h
 simp [World.frozen?, h']
theorem RowZ.calm {w w' : World} {g : Nat} {l : List Int} (h : RowZ w g l) (hg : w.grownBy w' none) : RowZ w' g l := (hg.block g h.lt (by simp)).trans h
theorem RowZ.other {w w' : World} {g r : Nat} {l : List Int} (h : RowZ w g l) (hg : w.grownBy w' (some r)) (hr : r ≠ g) : RowZ w' g l := (hg.block g h.lt (by simpa using fun e => hr e.symm)).trans h
theorem RowZ.at {w : World} {g : Nat} {l : List Int} (h : RowZ w g l) {lo : Nat} (hl : lo ≤ g) : ZsAt w lo w.heap.size (some ⟨g, 0, none⟩) l.length l :=
 ⟨rfl, fun _ => ⟨g, 0, rfl, hl, h.lt, Nat.le_refl _, fun k hk => by rw [Nat.zero_add]; exact h.cell hk⟩⟩
theorem RowZ.set {w : World} {g : Nat} {l : List Int} (h : RowZ w g l) {k : Nat} (z : Int) : RowZ (w.setCell ⟨g, k, none⟩ (.int .i64 z)) g (l.set k z) := by
 have h' : w.heap[g]? = some (.cells (zcells l).toArray 3 (0, 0)) := h
 have h2 := heap_setCell_same w g k _ _ (.int .i64 z) h'
 rw [List.setIfInBounds_toArray] at h2
 unfold RowZ
 rw [h2]
 simp [zcells, List.map_set]
end Go.Proofs.YtnknejokneddbaaGreatDoor
/-! Package arrow: the contracts of keepsLabels, keepsPairs, Is, movesNothing, Inverse. -/
namespace Go.Proofs.YtnknejokneddbaaGreatDoor
open Go.RowKit

end Go.Proofs.YtnknejokneddbaaGreatDoor
