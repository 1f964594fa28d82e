/- Package arrow: maps (slices of ints) in memory, the contracts of all its functions but Injective. -/
import Derived.Test.YtcfhnfnhdhloiaaGreatObja
import Derived.Laws.CopyOwn
import Derived.Deep.AppendLies
/-! Package arrow: maps in memory, the contracts of has, Then, Identity, Same. -/
namespace Go.Proofs.YtcfhnfnhdhloiaaGreat
open Go.RowKit

/-- A slice of ints that reads as l, in a block from lo to hi. -/
structure ZsAt (w : World) (lo hi : Nat) (p : Option Addr) (n : Nat) (l : List Int) : Prop where
  len : l.length = n
  cell : 0 < n → ∃ b off, p = some ⟨b, off, none⟩ ∧ lo ≤ b ∧ b < hi ∧ hi ≤ w.heap.size ∧ ∀ k, k < n → w.cell? ⟨b, off + k, none⟩ = some (.int .i64 (l[k]?.getD 0))

theorem ZsAt.calm {w w' : World} {lo hi : Nat} {p : Option Addr} {n : Nat} {l : List Int} (h : ZsAt w lo hi p n l) (hg : w.grownBy w' none) : ZsAt w' lo hi p n l := by
  refine ⟨h.len, fun hn => ?_⟩
  obtain ⟨b, off, hp, h1, h2, h3, hc⟩ := h.cell hn
  have hb : w'.heap[b]? = w.heap[b]? := hg.block b (by omega) (by simp)
  exact ⟨b, off, hp, h1, h2, Nat.le_trans h3 hg.size, fun k hk => (World.cell?_of_block (a := ⟨b, off + k, none⟩) hb).trans (hc k hk)⟩
theorem ZsAt.apart {w w' : World} {lo hi lo' hi' : Nat} {p : Option Addr} {n : Nat} {l : List Int} (h : ZsAt w lo hi p n l) (hg : Kept lo' hi' w w') (hd : hi ≤ lo' ∨ hi' ≤ lo) : ZsAt w' lo hi p n l := by
  refine ⟨h.len, fun hn => ?_⟩
  obtain ⟨b, off, hp, h1, h2, h3, hc⟩ := h.cell hn
  have hb : w'.heap[b]? = w.heap[b]? := hg.block b (by omega) (by omega)
  exact ⟨b, off, hp, h1, h2, Nat.le_trans h3 hg.size, fun k hk => (World.cell?_of_block (a := ⟨b, off + k, none⟩) hb).trans (hc k hk)⟩
theorem ZsAt.wider {w : World} {lo hi : Nat} {p : Option Addr} {n : Nat} {l : List Int} (h : ZsAt w lo hi p n l) {lo' hi' : Nat} (h1 : lo' ≤ lo) (h2 : hi ≤ hi') (h3 : hi' ≤ w.heap.size) : ZsAt w lo' hi' p n l :=
  ⟨h.len, fun hn => by
    obtain ⟨b, off, hp, k1, k2, k3, hc⟩ := h.cell hn
    exact ⟨b, off, hp, by omega, by omega, h3, hc⟩⟩
theorem zsAt_nil (w : World) (lo hi : Nat) : ZsAt w lo hi none 0 [] := ⟨rfl, fun h => absurd h (by omega)⟩

theorem Tryz.infoZ3 : (Tryz.prog.info? 3).map (fun i => (i.zero, i.size, i.bytes)) = some (some (.int .i64 0), 1, 8) := by kernel_rfl

/-- The cells of ints. -/
def zcells (l : List Int) : List Value := l.map (.int .i64)
theorem zcells_len (l : List Int) : (zcells l).length = l.length := by simp [zcells]
theorem zcells_get {l : List Int} {k : Nat} (hk : k < l.length) : (zcells l)[k]? = some (.int .i64 (l[k]?.getD 0)) := by
  unfold zcells
  rw [List.getElem?_map, List.getElem?_eq_getElem hk]
  rfl
theorem zcells_one (l : List Int) : ∀ u ∈ zcells l, u.oneCell' = true := by
  intro u hu
  unfold zcells at hu
  rw [List.mem_map] at hu
  obtain ⟨x, _, rfl⟩ := hu
  rfl
theorem zcells_snoc (l : List Int) (x : Int) : zcells (l ++ [x]) = zcells l ++ [.int .i64 x] := by simp [zcells]

theorem zsAt_own {w : World} {base : Nat} {v : Value} {l : List Int} (h : w.ownsRow base 3 1 v l.length (zcells l)) :
    ∃ p c, v = .slice p l.length c ∧ ZsAt w base w.heap.size p l.length l := by
  rcases h.2 with ⟨rfl, h0⟩ | ⟨g, cap, cur, rfl, hb, hg, _⟩
  · rw [h0]; exact ⟨none, 0, rfl, h0, fun h => absurd h (by omega)⟩
  · refine ⟨_, cap, rfl, rfl, fun hn => ⟨g, 0, rfl, hb, (Array.getElem?_eq_some_iff.1 hg).1, Nat.le_refl _, fun k hk => ?_⟩⟩
    have hc := h.cells (g := g) rfl k _ (zcells_get hk)
    rw [add_off] at hc
    exact hc
theorem zs_news {w : World} {lo hi n : Nat} {ad : Addr} {l : List Int} (h : ZsAt w lo hi (some ad) n l) : ∀ j u, (zcells l)[j]? = some u → w.cell? (ad.add j) = some u := by
  intro j u hu
  have hj : j < l.length := by
    rcases Nat.lt_or_ge j l.length with h | h
    · exact h
    · rw [List.getElem?_eq_none (by unfold zcells; simpa using h)] at hu; cases hu
  rw [zcells_get hj] at hu
  cases hu
  have hl := h.len
  obtain ⟨b', off', e, _, _, _, hc⟩ := h.cell (by omega)
  cases e
  rw [add_off]
  exact hc j (by omega)

/-- A row of ints that is known whole. -/
def RowZ (w : World) (g : Nat) (l : List Int) : Prop := w.heap[g]? = some (.cells (zcells l).toArray 3 (0, 0))
theorem RowZ.lt {w : World} {g : Nat} {l : List Int} (h : RowZ w g l) : g < w.heap.size := (Array.getElem?_eq_some_iff.1 h).1
theorem RowZ.cell {w : World} {g : Nat} {l : List Int} (h : RowZ w g l) {k : Nat} (hk : k < l.length) : w.cell? ⟨g, k, none⟩ = some (.int .i64 (l[k]?.getD 0)) := by
  have h' : w.heap[g]? = some (.cells (zcells l).toArray 3 (0, 0)) := h
  simp only [World.cell?, h', List.getElem?_toArray]
  exact zcells_get hk
theorem RowZ.free {w : World} {g : Nat} {l : List Int} (h : RowZ w g l) (k : Nat) : w.frozen? ⟨g, k, none⟩ = false := by
  have h' : w.heap[g]? = some (.cells (zcells l).toArray 3 (0, 0)) := h
  simp [World.frozen?, h']
theorem RowZ.calm {w w' : World} {g : Nat} {l : List Int} (h : RowZ w g l) (hg : w.grownBy w' none) : RowZ w' g l := (hg.block g h.lt (by simp)).trans h
theorem RowZ.other {w w' : World} {g r : Nat} {l : List Int} (h : RowZ w g l) (hg : w.grownBy w' (some r)) (hr : r ≠ g) : RowZ w' g l := (hg.block g h.lt (by simpa using fun e => hr e.symm)).trans h
theorem RowZ.at {w : World} {g : Nat} {l : List Int} (h : RowZ w g l) {lo : Nat} (hl : lo ≤ g) : ZsAt w lo w.heap.size (some ⟨g, 0, none⟩) l.length l :=
  ⟨rfl, fun _ => ⟨g, 0, rfl, hl, h.lt, Nat.le_refl _, fun k hk => by rw [Nat.zero_add]; exact h.cell hk⟩⟩
theorem RowZ.at1 {w : World} {g : Nat} {l : List Int} (h : RowZ w g l) : ZsAt w g (g + 1) (some ⟨g, 0, none⟩) l.length l :=
  ⟨rfl, fun _ => ⟨g, 0, rfl, Nat.le_refl _, by omega, h.lt, fun k hk => by rw [Nat.zero_add]; exact h.cell hk⟩⟩
theorem RowZ.set {w : World} {g : Nat} {l : List Int} (h : RowZ w g l) {k : Nat} (z : Int) : RowZ (w.setCell ⟨g, k, none⟩ (.int .i64 z)) g (l.set k z) := by
  have h' : w.heap[g]? = some (.cells (zcells l).toArray 3 (0, 0)) := h
  have h2 := heap_setCell_same w g k _ _ (.int .i64 z) h'
  rw [List.setIfInBounds_toArray] at h2
  unfold RowZ
  rw [h2]
  simp [zcells, List.map_set]
theorem rowZ_made (w : World) (n : Nat) : RowZ (w.alloc (.cells (madeCells #[.int .i64 0] n) 3)) w.heap.size (List.replicate n 0) := by
  have h := World.alloc_heap_new w (.cells (madeCells #[.int .i64 0] n) 3)
  have e : madeCells #[.int .i64 0] n = (zcells (List.replicate n 0)).toArray := by
    apply Array.ext
    · simp [madeCells, zcells]
    · intro i h1 h2
      simp [madeCells, zcells, Nat.mod_one]
  rw [e] at h
  rw [e]
  exact h

/-- Whether there is such a place among n. -/
def hasZ (n : Nat) (z : Int) : Bool := decide (0 ≤ z) && decide (z < n)
theorem hasZ_iff {n : Nat} {z : Int} : hasZ n z = true ↔ 0 ≤ z ∧ z < n := by simp [hasZ]
theorem hasZ_not {n : Nat} {z : Int} : hasZ n z = false ↔ z < 0 ∨ (n : Int) ≤ z := by
  rw [← Bool.not_eq_true, hasZ_iff]; omega

theorem take_eqZ {l1 l2 : List Int} {k : Nat} (h1 : k < l1.length) (h2 : k < l2.length) (h : l1.take k = l2.take k) (e : l1[k]?.getD 0 = l2[k]?.getD 0) : l1.take (k + 1) = l2.take (k + 1) := by
  rw [List.getElem?_eq_getElem h1, List.getElem?_eq_getElem h2] at e
  simp only [Option.getD_some] at e
  rw [List.take_succ_eq_append_getElem h1, List.take_succ_eq_append_getElem h2, h, e]

/-- g behind f. -/
def thenL (f g : List Int) : List Int := f.map fun z => g[z.toNat]?.getD 0
def thenB (f : List Int) (n : Nat) : Bool := f.all (hasZ n)
theorem thenL_len (f g : List Int) : (thenL f g).length = f.length := by simp [thenL]
theorem all_takeZ {l : List Int} {k : Nat} (f : Int → Bool) (hk : k < l.length) : (l.take (k + 1)).all f = ((l.take k).all f && f (l[k]?.getD 0)) := by
  rw [List.take_succ_eq_append_getElem hk, List.getElem?_eq_getElem hk]
  simp only [List.all_append, List.all_cons, List.all_nil, Bool.and_true, Option.getD_some]
theorem all_outZ {l : List Int} {k : Nat} (f : Int → Bool) (hk : k < l.length) (h : f (l[k]?.getD 0) = false) : l.all f = false := by
  rw [List.getElem?_eq_getElem hk] at h
  rw [Bool.eq_false_iff]
  intro e
  have := List.all_eq_true.1 e _ (List.getElem_mem hk)
  rw [show f l[k] = false from h] at this
  cases this

/-- Half way: the first k places are g's, the others f's. -/
def thenK (f g : List Int) (k : Nat) : List Int := thenL (f.take k) g ++ f.drop k
theorem thenK_len (f g : List Int) (k : Nat) : (thenK f g k).length = f.length := by
  unfold thenK; rw [List.length_append, thenL_len, List.length_take, List.length_drop]; omega
theorem thenK_zero (f g : List Int) : thenK f g 0 = f := by simp [thenK, thenL]
theorem thenK_end (f g : List Int) : thenK f g f.length = thenL f g := by simp [thenK]
theorem thenK_get {f g : List Int} {k : Nat} (hk : k < f.length) : (thenK f g k)[k]?.getD 0 = f[k]?.getD 0 := by
  unfold thenK
  rw [List.getElem?_append_right (by rw [thenL_len, List.length_take]; omega), thenL_len, List.length_take, List.getElem?_drop]
  congr 2; omega
theorem thenK_succ {f g : List Int} {k : Nat} (hk : k < f.length) : (thenK f g k).set k (g[(f[k]?.getD 0).toNat]?.getD 0) = thenK f g (k + 1) := by
  unfold thenK
  have e : (thenL (f.take k) g).length = k := by rw [thenL_len, List.length_take]; omega
  rw [List.set_append_right _ _ (by omega), e, Nat.sub_self, List.drop_eq_getElem_cons hk, List.set_cons_zero, List.take_succ_eq_append_getElem hk, List.getElem?_eq_getElem hk]
  simp only [thenL, List.map_append, List.map_cons, List.map_nil, Option.getD_some, List.append_assoc, List.singleton_append]

theorem grown_of_below {a b : World} (k : Below a.heap.size a b) : a.grownBy b none := ⟨k.os, k.tape, k.output, k.size, fun i hi _ => k.block i hi⟩
theorem Tryz.sizeZ3 : (Tryz.prog.info? 3).map (·.size) = some 1 := by kernel_rfl

set_option maxRecDepth 20000 in
/-- All of a map goes over into a new row. -/
theorem copy_run (w : World) (p : Option Addr) (n c lo hi : Nat) (f : List Int) (hf : ZsAt w lo hi p n f) :
    ∃ w2, (Builtin.copy_ #[129, 129] 3 #[.slice (some ⟨w.heap.size, 0, none⟩) n n, .slice p n c]).run Tryz.prog (w.alloc (.cells (madeCells #[.int .i64 0] n) 3)) = .ok (.int .i64 n) w2 ∧ Hid (RowZ w2 w.heap.size f) ∧ Hid (w.grownBy w2 none) := by
  have hga := World.grownBy_alloc w (.cells (madeCells #[.int .i64 0] n) 3) none
  have hrow := rowZ_made w n
  have hlen := hf.len
  by_cases h0 : n = 0
  · subst h0
    have hr := run_copy_none (P := Tryz.prog) (w.alloc (.cells (madeCells #[.int .i64 0] 0) 3)) 129 129 3 3 (some ⟨w.heap.size, 0, none⟩) p 0 0 0 c Tryz.underlying129 Tryz.sizeZ3 rfl
    obtain rfl : f = [] := List.eq_nil_of_length_eq_zero hlen
    exact ⟨_, hr, Lib.hid hrow, Lib.hid hga⟩
  · have ha := hf.calm hga
    obtain ⟨b, off, rfl, _⟩ := ha.cell (by omega)
    have hr := run_copy_row (P := Tryz.prog) (w.alloc (.cells (madeCells #[.int .i64 0] n) 3)) 129 129 3 3 w.heap.size 0 n n ⟨b, off, none⟩ n c _ _ (zcells f) Tryz.underlying129 Tryz.sizeZ3 hrow (by rw [zcells_len, hlen]; exact (Nat.min_self n).symm) (zs_news ha) (by simp [zcells, hlen]) (zcells_one f)
    rw [zcells_len, hlen] at hr
    refine ⟨_, hr, Lib.hid ?_, Lib.hid ?_⟩
    · have h2 := setRow_heap (w.alloc (.cells (madeCells #[.int .i64 0] n) 3)) w.heap.size _ (((zcells (List.replicate n 0)).toArray.toList.take 0 ++ zcells f ++ (zcells (List.replicate n 0)).toArray.toList.drop (0 + n)).toArray) 3 (0, 0) hrow
      unfold RowZ
      rw [h2]
      congr 2
      rw [List.take_zero, List.nil_append, Nat.zero_add, List.drop_eq_nil_of_le (by simp [zcells]), List.append_nil]
    · exact grown_of_below (below_setRow (grownBy_below hga) (Nat.le_refl _) _)

/-- What Then leaves: a row of its own, or nothing. -/
def ThenPost (f g : List Int) (w : World) (e : Ending) (w' : World) : Prop :=
  w.grownBy w' none ∧ ((thenB f g.length = true ∧ ∃ b, e = .returned (.tuple #[.slice (some ⟨b, 0, none⟩) f.length f.length, .bool true]) ∧ w.heap.size ≤ b ∧ RowZ w' b (thenL f g)) ∨
    (thenB f g.length = false ∧ e = .returned (.tuple #[.slice none 0 0, .bool false])))

/-- What moves nothing. -/
def idL (n : Nat) : List Int := (List.range n).map fun i : Nat => (i : Int)
theorem idL_len (n : Nat) : (idL n).length = n := by simp [idL]
theorem idL_succ (n : Nat) : idL (n + 1) = idL n ++ [(n : Int)] := by simp [idL, List.range_succ]
def idK (n k : Nat) : List Int := idL k ++ List.replicate (n - k) 0
theorem idK_len {n k : Nat} (h : k ≤ n) : (idK n k).length = n := by simp [idK, idL_len]; omega
theorem idK_end (n : Nat) : idK n n = idL n := by simp [idK]
theorem idK_succ {n k : Nat} (h : k < n) : (idK n k).set k (k : Int) = idK n (k + 1) := by
  unfold idK
  have e : n - k = (n - (k + 1)) + 1 := by omega
  rw [List.set_append_right _ _ (by rw [idL_len]; omega), idL_len, Nat.sub_self, e, List.replicate_succ, List.set_cons_zero, idL_succ, List.append_assoc, List.singleton_append]

/-- A row of ints of its own. -/
def RowPost (l : List Int) (w : World) (e : Ending) (w' : World) : Prop := ∃ b, e = .returned (.slice (some ⟨b, 0, none⟩) l.length l.length) ∧ w.heap.size ≤ b ∧ RowZ w' b l ∧ w.grownBy w' none
/-- How many places an identity of z has. -/
def idN (z : Int) : Nat := (min (max z 0) 40).toNat

theorem ident_end (n : Nat) (w : World) : Hid (RowZ (w.alloc (.cells (madeCells #[.int .i64 0] n) 3)) w.heap.size (idK n 0)) ∧ Hid (w.grownBy (w.alloc (.cells (madeCells #[.int .i64 0] n) 3)) none) :=
  ⟨Lib.hid (by have := rowZ_made w n; simpa [idK, idL] using this), Lib.hid (World.grownBy_alloc _ _ _)⟩

theorem idN_nat {n : Nat} (h : n ≤ 40) : idN n = n := by unfold idN; omega

end Go.Proofs.YtcfhnfnhdhloiaaGreat
/-! Package arrow: the contracts of keepsLabels, keepsPairs, Is, movesNothing, Inverse. -/
namespace Go.Proofs.YtcfhnfnhdhloiaaGreat
open Go.RowKit

/-- The i-th element goes to one with the same label. -/
def lab1 (L L' : List ByteArray) (f : List Int) (i : Nat) : Bool := hasZ L'.length (f[i]?.getD 0) && decide (L[i]?.getD .empty = L'[(f[i]?.getD 0).toNat]?.getD .empty)
def labK (L L' : List ByteArray) (f : List Int) (k : Nat) : Bool := (List.range k).all (lab1 L L' f)
def labB (L L' : List ByteArray) (f : List Int) : Bool := decide (f.length = L.length) && labK L L' f f.length
theorem labK_succ (L L' : List ByteArray) (f : List Int) (k : Nat) : labK L L' f (k + 1) = (labK L L' f k && lab1 L L' f k) := by simp [labK, List.range_succ]
theorem labK_not {L L' : List ByteArray} {f : List Int} {k m : Nat} (hk : k < m) (h : lab1 L L' f k = false) : labK L L' f m = false := by
  rw [Bool.eq_false_iff]
  intro e
  have := List.all_eq_true.1 e k (List.mem_range.2 hk)
  rw [h] at this
  cases this
/-- A pair stays one. -/
def pr1 (N : Nat) (R : Nat → Nat → Bool) (f : List Int) (x : Int × Int) : Bool := hasI N R (f[x.1.toNat]?.getD 0) (f[x.2.toNat]?.getD 0)
def prB (N : Nat) (R : Nat → Nat → Bool) (P : List (Int × Int)) (f : List Int) : Bool := P.all (pr1 N R f)
theorem prB_succ {N : Nat} {R : Nat → Nat → Bool} {P : List (Int × Int)} {f : List Int} {k : Nat} (hk : k < P.length) : prB N R (P.take (k + 1)) f = (prB N R (P.take k) f && pr1 N R f (P[k]?.getD (0, 0))) := by
  unfold prB
  rw [List.take_succ_eq_append_getElem hk, List.getElem?_eq_getElem hk]
  simp only [List.all_append, List.all_cons, List.all_nil, Bool.and_true, Option.getD_some]
theorem prB_not {N : Nat} {R : Nat → Nat → Bool} {P : List (Int × Int)} {f : List Int} {k : Nat} (hk : k < P.length) (h : pr1 N R f (P[k]?.getD (0, 0)) = false) : prB N R P f = false := by
  rw [List.getElem?_eq_getElem hk] at h
  rw [Bool.eq_false_iff]
  intro e
  have := List.all_eq_true.1 e _ (List.getElem_mem hk)
  rw [show pr1 N R f P[k] = false from h] at this
  cases this
/-- Whether f is an arrow. -/
def arB (L : List ByteArray) (P : List (Int × Int)) (L' : List ByteArray) (P' : List (Int × Int)) (f : List Int) : Bool :=
  (chk L P == 0) && ((chk L' P' == 0) && (labB L L' f && prB (objN L' P') (objR L' P') P f))

theorem inI_of_all {n : Nat} {P : List (Int × Int)} {k : Nat} (h : allIn n P = true) (hk : k < P.length) : inI n (P[k]?.getD (0, 0)).1 (P[k]?.getD (0, 0)).2 := by
  rw [List.getElem?_eq_getElem hk, Option.getD_some]
  have := List.all_eq_true.1 h _ (List.getElem_mem hk)
  exact of_decide_eq_true this

theorem chk_in {L : List ByteArray} {P : List (Int × Int)} (h : chk L P = 0) : labErr L = 0 ∧ risesB P = true ∧ allIn L.length P = true ∧ grewC L.length (ofL L.length P) L.length = false := by
  unfold chk at h
  split at h
  · rename_i h1; exact absurd h h1
  · rename_i h1
    split at h
    · rename_i h2
      simp only [Bool.and_eq_true, Bool.not_eq_true'] at h2
      exact ⟨by simpa using h1, h2.1, h2.2.1, h2.2.2⟩
    · cases h

/-- Both, one behind the other, move nothing. -/
def stillB (f g : List Int) : Bool := thenB f g.length && decide (thenL f g = idL (idN f.length))

/-- Whether both are arrows, there and back, that move nothing. -/
def invB (L : List ByteArray) (P : List (Int × Int)) (L' : List ByteArray) (P' : List (Int × Int)) (f g : List Int) : Bool :=
  arB L P L' P' f && (arB L' P' L P g && (stillB f g && stillB g f))

end Go.Proofs.YtcfhnfnhdhloiaaGreat
