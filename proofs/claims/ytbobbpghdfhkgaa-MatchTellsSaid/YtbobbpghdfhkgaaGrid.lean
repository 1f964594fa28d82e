/- A table of rows of ints in memory: its headers in one block, each row in a block of its own; ti: the type of an int, tr: of a row. -/
import Derived.Test.YtbobbpghdfhkgaaBits
import Derived.Deep.OwnRows
namespace Go.Proofs.Ytbobbpghdfhkgaa
open Go.RowKit

/-- A row of ints in a block of its own. -/
def IntRow (ti : TypeId) (w : World) (b m : Nat) (f : Nat → Int) : Prop := ∃ cur : Array Value, w.heap[b]? = some (.cells cur ti (0, 0)) ∧ ∀ k, k < m → cur[k]? = some (.int .i64 (f k))

section
variable {ti : TypeId} {w w' : World} {b m : Nat} {f g : Nat → Int}
theorem IntRow.kept (h : IntRow ti w b m f) (e : w'.heap[b]? = w.heap[b]?) : IntRow ti w' b m f := by
  obtain ⟨cur, h1, h2⟩ := h
  exact ⟨cur, e.trans h1, h2⟩
theorem IntRow.cell (h : IntRow ti w b m f) {k : Nat} (hk : k < m) : w.cell? ⟨b, k, none⟩ = some (.int .i64 (f k)) := by
  obtain ⟨cur, h1, h2⟩ := h
  simp only [World.cell?, h1]
  exact h2 k hk
theorem IntRow.free (h : IntRow ti w b m f) (k : Nat) : w.frozen? ⟨b, k, none⟩ = false := by
  obtain ⟨cur, h1, h2⟩ := h
  simp only [World.frozen?, h1]
  simp
theorem IntRow.lt (h : IntRow ti w b m f) : b < w.heap.size := by
  obtain ⟨cur, h1, _⟩ := h
  exact (Array.getElem?_eq_some_iff.1 h1).1
theorem IntRow.congr (h : IntRow ti w b m f) (e : ∀ k, k < m → f k = g k) : IntRow ti w b m g := by
  obtain ⟨cur, h1, h2⟩ := h
  exact ⟨cur, h1, fun k hk => by rw [← e k hk]; exact h2 k hk⟩
theorem IntRow.set (h : IntRow ti w b m f) {k : Nat} (hk : k < m) (v : Int) : IntRow ti (w.setCell ⟨b, k, none⟩ (.int .i64 v)) b m (fun j => if j = k then v else f j) := by
  obtain ⟨cur, h1, h2⟩ := h
  refine ⟨_, heap_setCell_same w b k cur _ _ h1, fun j hj => ?_⟩
  have hl : k < cur.size := (Array.getElem?_eq_some_iff.1 (h2 k hk)).1
  by_cases e : j = k
  · subst e
    simp [hl]
  · show _ = some (Value.int .i64 (if j = k then v else f j))
    rw [if_neg e, ← h2 j hj, Array.getElem?_setIfInBounds_ne (fun e' => e e'.symm)]
theorem intRow_new (ti : TypeId) (w : World) {m : Nat} {cs : Array Value} (hcs : ∀ k, k < m → cs[k]? = some (.int .i64 0)) : IntRow ti (w.alloc (.cells cs ti)) w.heap.size m (fun _ => 0) :=
  ⟨_, World.alloc_heap_new w _, hcs⟩
theorem made_two (n k : Nat) (hk : k < n) : (madeCells #[.int .i64 0, .int .i64 0] n)[k]? = some (.int .i64 0) := by
  unfold madeCells
  rw [Array.getElem?_map, Array.getElem?_range, if_pos hk]
  rcases Nat.mod_two_eq_zero_or_one k with e | e <;> simp [e]
end

/-- A table of n headers; the rows from place s on are laid, m elements each, M ints in all. -/
structure Grid (ti tr : TypeId) (w : World) (lo mb n m M s : Nat) (rb : Nat → Nat) (f : Nat → Nat → Int) : Prop where
  base : lo ≤ mb
  sn : s ≤ n
  head : ∃ cur : Array Value, w.heap[mb]? = some (.cells cur tr (0, 0)) ∧ cur.size = n ∧ ∀ i, s ≤ i → i < n → cur[i]? = some (.slice (some ⟨rb i, 0, none⟩) m m)
  row : ∀ i, s ≤ i → i < n → IntRow ti w (rb i) M (f i)
  low : ∀ i, s ≤ i → i < n → lo ≤ rb i
  inj : ∀ i j, s ≤ i → i < n → s ≤ j → j < n → i ≠ j → rb i ≠ rb j

section
variable {ti tr : TypeId} {w w' : World} {lo mb n m M s : Nat} {rb : Nat → Nat} {f g : Nat → Nat → Int}
theorem Grid.mlt (h : Grid ti tr w lo mb n m M s rb f) : mb < w.heap.size := by
  obtain ⟨cur, h1, _⟩ := h.head
  exact (Array.getElem?_eq_some_iff.1 h1).1
theorem Grid.calm (h : Grid ti tr w lo mb n m M s rb f) (hg : w.grownBy w' none) : Grid ti tr w' lo mb n m M s rb f := by
  obtain ⟨cur, h1, h2⟩ := h.head
  exact ⟨h.base, h.sn, ⟨cur, (hg.block mb h.mlt (by simp)).trans h1, h2⟩, fun i h3 h4 => (h.row i h3 h4).kept (hg.block _ (h.row i h3 h4).lt (by simp)), h.low, h.inj⟩
theorem Grid.congr (h : Grid ti tr w lo mb n m M s rb f) (e : ∀ i k, s ≤ i → i < n → k < M → f i k = g i k) : Grid ti tr w lo mb n m M s rb g :=
  ⟨h.base, h.sn, h.head, fun i h1 h2 => (h.row i h1 h2).congr fun k hk => e i k h1 h2 hk, h.low, h.inj⟩
theorem Grid.hcell (h : Grid ti tr w lo mb n m M s rb f) {i : Nat} (h1 : s ≤ i) (h2 : i < n) : w.cell? ⟨mb, i, none⟩ = some (.slice (some ⟨rb i, 0, none⟩) m m) := by
  obtain ⟨cur, h3, _, h4⟩ := h.head
  simp only [World.cell?, h3]
  exact h4 i h1 h2
theorem Grid.hfree (h : Grid ti tr w lo mb n m M s rb f) (i : Nat) : w.frozen? ⟨mb, i, none⟩ = false := by
  obtain ⟨cur, h3, _⟩ := h.head
  simp only [World.frozen?, h3]
  simp
theorem Grid.cell (h : Grid ti tr w lo mb n m M s rb f) {i k : Nat} (h1 : s ≤ i) (h2 : i < n) (h3 : k < M) : w.cell? ⟨rb i, k, none⟩ = some (.int .i64 (f i k)) := (h.row i h1 h2).cell h3
theorem Grid.free (h : Grid ti tr w lo mb n m M s rb f) {i : Nat} (h1 : s ≤ i) (h2 : i < n) (k : Nat) : w.frozen? ⟨rb i, k, none⟩ = false := (h.row i h1 h2).free k
/-- Where a header is to be put. -/
theorem Grid.pre (h : Grid ti tr w lo mb n m M s rb f) {i : Nat} (hi : i < n) (o : Obj) : ∃ v, (w.alloc o).cell? ⟨mb, i, none⟩ = some v ∧ (w.alloc o).frozen? ⟨mb, i, none⟩ = false := by
  have hg := h.calm (World.grownBy_alloc w o none)
  obtain ⟨cur, h1, h2, _⟩ := hg.head
  refine ⟨cur[i]'(by omega), ?_, hg.hfree i⟩
  simp only [World.cell?, h1]
  exact Array.getElem?_eq_getElem (by omega)
theorem Grid.lower {lo' : Nat} (hl : lo' ≤ lo) (h : Grid ti tr w lo mb n m M s rb f) : Grid ti tr w lo' mb n m M s rb f :=
  ⟨Nat.le_trans hl h.base, h.sn, h.head, h.row, fun i h1 h2 => Nat.le_trans hl (h.low i h1 h2), h.inj⟩
/-- The rows lie apart from the headers. -/
theorem Grid.apart (ht : ti ≠ tr) (h : Grid ti tr w lo mb n m M s rb f) {i : Nat} (h1 : s ≤ i) (h2 : i < n) : rb i ≠ mb := by
  intro e
  obtain ⟨cur, h3, _⟩ := h.head
  obtain ⟨cur2, h4, _⟩ := h.row i h1 h2
  rw [e, h3] at h4
  simp at h4
  exact ht h4.2.symm

/-- An entry is put. -/
theorem Grid.put (ht : ti ≠ tr) (h : Grid ti tr w lo mb n m M s rb f) {i k : Nat} (h1 : s ≤ i) (h2 : i < n) (h3 : k < M) (v : Int) :
    Grid ti tr (w.setCell ⟨rb i, k, none⟩ (.int .i64 v)) lo mb n m M s rb (fun x y => if x = i ∧ y = k then v else f x y) := by
  obtain ⟨cur, h4, h5⟩ := h.head
  refine ⟨h.base, h.sn, ⟨cur, (Below.heap_setCell _ _ _ _ (fun e => h.apart ht h1 h2 e.symm)).trans h4, h5⟩, fun x h6 h7 => ?_, h.low, h.inj⟩
  by_cases e : x = i
  · subst e
    refine ((h.row x h1 h2).set h3 v).congr fun y _ => ?_
    simp
  · refine ((h.row x h6 h7).kept (Below.heap_setCell _ _ _ _ (h.inj x i h6 h7 h1 h2 e))).congr fun y _ => ?_
    rw [if_neg (fun e2 => e e2.1)]
theorem Grid.put_new {w0 : World} (h : Grid ti tr w w0.heap.size mb n m M s rb f) (hg : w0.grownBy w none) {i k : Nat} (h1 : s ≤ i) (h2 : i < n) (v : Value) : w0.grownBy (w.setCell ⟨rb i, k, none⟩ v) none :=
  grownBy_new hg (grownBy_setCell w ⟨rb i, k, none⟩ v) (h.low i h1 h2)

/-- The headers are made: no row yet. -/
theorem grid_new (ti tr : TypeId) (w : World) (n m M : Nat) (rb : Nat → Nat) (f : Nat → Nat → Int) : Grid ti tr (w.alloc (.cells (madeCells #[.slice none 0 0] n) tr)) w.heap.size w.heap.size n m M n rb f :=
  ⟨Nat.le_refl _, Nat.le_refl _, ⟨_, World.alloc_heap_new w _, by have := size_madeCells #[.slice none 0 0] n; simpa using this, fun i h1 h2 => absurd h2 (by omega)⟩, fun i h1 h2 => absurd h2 (by omega), fun i h1 h2 => absurd h2 (by omega), fun i j h1 h2 => absurd h2 (by omega)⟩

/-- One row more, of zeros, ahead of the others. -/
theorem Grid.more {cs : Array Value} (hcs : ∀ k, k < M → cs[k]? = some (.int .i64 0)) (ht : ti ≠ tr) (h : Grid ti tr w lo mb n m M (s + 1) rb f) (hlo : lo ≤ w.heap.size) :
    Grid ti tr ((w.alloc (.cells cs ti)).setCell ⟨mb, s, none⟩ (.slice (some ⟨w.heap.size, 0, none⟩) m m)) lo mb n m M s (fun i => if i = s then w.heap.size else rb i) (fun i => if i = s then fun _ => 0 else f i) := by
  have hsn := h.sn
  have hml := h.mlt
  obtain ⟨cur, h4, h5, h6⟩ := h.head
  have hga := World.grownBy_alloc w (.cells cs ti) none
  have h4' : (w.alloc (.cells cs ti)).heap[mb]? = some (.cells cur tr (0, 0)) := (hga.block mb hml (by simp)).trans h4
  have hother : ∀ x, x < w.heap.size → x ≠ mb → ((w.alloc (.cells cs ti)).setCell ⟨mb, s, none⟩ (.slice (some ⟨w.heap.size, 0, none⟩) m m)).heap[x]? = w.heap[x]? := fun x hx hne =>
    (Below.heap_setCell _ _ _ _ hne).trans (hga.block x hx (by simp))
  refine ⟨h.base, by omega, ⟨_, heap_setCell_same _ _ _ _ _ _ h4', by simpa using h5, fun i h7 h8 => ?_⟩, fun i h7 h8 => ?_, fun i h7 h8 => ?_, fun i j h7 h8 h9 h10 hne => ?_⟩
  · by_cases e : i = s
    · subst e
      simp [h5, h8]
    · rw [Array.getElem?_setIfInBounds_ne (fun e' => e e'.symm), h6 i (by omega) h8]
      simp only [if_neg e]
  · by_cases e : i = s
    · subst e
      simp only [if_true]
      refine (intRow_new ti w hcs).kept (Below.heap_setCell _ _ _ _ ?_)
      show w.heap.size ≠ mb
      omega
    · simp only [if_neg e]
      exact (h.row i (by omega) h8).kept (hother _ (h.row i (by omega) h8).lt (h.apart ht (by omega) h8))
  · by_cases e : i = s
    · simp only [if_pos e]; exact hlo
    · simp only [if_neg e]; exact h.low i (by omega) h8
  · by_cases e : i = s
    · have e2 : ¬ j = s := by omega
      simp only [if_pos e, if_neg e2]
      have := (h.row j (by omega) h10).lt
      omega
    · by_cases e2 : j = s
      · simp only [if_neg e, if_pos e2]
        have := (h.row i (by omega) h8).lt
        omega
      · simp only [if_neg e, if_neg e2]
        exact h.inj i j (by omega) h8 (by omega) h10 hne
theorem Grid.more_new {w0 : World} (h : Grid ti tr w w0.heap.size mb n m M s rb f) (hg : w0.grownBy w none) (o : Obj) (k : Nat) (v : Value) : w0.grownBy ((w.alloc o).setCell ⟨mb, k, none⟩ v) none :=
  grownBy_new (grownBy_trans hg (World.grownBy_alloc w o none)) (grownBy_setCell (w.alloc o) ⟨mb, k, none⟩ v) h.base
end

end Go.Proofs.Ytbobbpghdfhkgaa
