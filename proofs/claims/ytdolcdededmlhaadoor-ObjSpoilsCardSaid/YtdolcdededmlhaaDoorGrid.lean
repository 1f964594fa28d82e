/- Rows of ints of their own, and a row of such rows, in memory. -/
import Derived.Deep.AppendLies
import Derived.Deep.LoopGhost
import Derived.WalkMore
import Derived.Lib.OwnKind
import Derived.Test.YtdolcdededmlhaaDoorOrd
import Derived.Test.YtdolcdededmlhaaDoorRelO
namespace Go.Proofs.YtdolcdededmlhaaDoor
open Go.RowKit

theorem Tryd.infoI3 : (Tryd.prog.info? 3).map (fun i => (i.zero, i.size, i.bytes)) = some (some (.int .i64 0), 1, 8) := by kernel_rfl
theorem Tryd.infoI87 : (Tryd.prog.info? 87).map (fun i => (i.zero, i.size, i.bytes)) = some (some (.slice none 0 0), 1, 24) := by kernel_rfl

def iv (x : Nat) : Value := .int .i64 x
/-- The slice at block g is a row of its own that holds l. -/
def RowI (w : World) (base g c : Nat) (l : List Nat) : Prop := w.ownsRow base 3 1 (.slice (some ⟨g, 0, none⟩) l.length c) l.length (l.map iv)

theorem RowI.kept {w w' : World} {base g c : Nat} {l : List Nat} (h : RowI w base g c l) {row : Option Nat} (hg : w.grownBy w' row) (hr : row ≠ some g) : RowI w' base g c l :=
  World.ownsRow.kept h hg (.inr (by simpa [Value.ownBlock] using fun e => hr e.symm))
theorem RowI.calm {w w' : World} {base g c : Nat} {l : List Nat} (h : RowI w base g c l) (hg : w.grownBy w' none) : RowI w' base g c l := h.kept hg (by simp)
theorem RowI.lt {w : World} {base g c : Nat} {l : List Nat} (h : RowI w base g c l) : base ≤ g ∧ g < w.heap.size := World.ownsRow.lt h g rfl
theorem RowI.kind {w : World} {base g c : Nat} {l : List Nat} (h : RowI w base g c l) : ∃ c' fz, w.heap[g]? = some (.cells c' 3 fz) := Lib.ownsRow_kind h g rfl
theorem add_blk (g j : Nat) : (⟨g, 0, none⟩ : Addr).add j = ⟨g, j, none⟩ := by unfold Addr.add; split <;> simp_all
theorem RowI.cell {w : World} {base g c : Nat} {l : List Nat} (h : RowI w base g c l) {j x : Nat} (hx : l[j]? = some x) : w.cell? ⟨g, j, none⟩ = some (.int .i64 x) := by
  have := World.ownsRow.cells h (g := g) rfl j (iv x) (by rw [List.getElem?_map, hx]; rfl)
  rwa [add_blk] at this
theorem RowI.free {w : World} {base g c : Nat} {l : List Nat} (h : RowI w base g c l) (j : Nat) : w.frozen? ⟨g, j, none⟩ = false := by
  rcases h.2 with ⟨h0, _⟩ | ⟨g', cap, cur, hv, _, hb, _⟩
  · cases h0
  · cases hv
    simp [World.frozen?, hb]
theorem RowI.mono {w : World} {base base' g c : Nat} {l : List Nat} (h : RowI w base g c l) (hb : base' ≤ base) : RowI w base' g c l :=
  ⟨h.1, h.2.imp id fun ⟨g, cap, cur, h1, h2, h3⟩ => ⟨g, cap, cur, h1, Nat.le_trans hb h2, h3⟩⟩
/-- One cell of it set. -/
theorem RowI.set {w : World} {base g c : Nat} {l : List Nat} (h : RowI w base g c l) {j : Nat} (x : Nat) : RowI (w.setCell ⟨g, j, none⟩ (.int .i64 x)) base g c (l.set j x) := by
  obtain ⟨h0, h⟩ := h
  refine ⟨by simp, ?_⟩
  rcases h with ⟨hv, _⟩ | ⟨g', cap, cur, hv, h1, hb, h2, h3, h4, h5⟩
  · cases hv
  · cases hv
    refine .inr ⟨g, c, cur.setIfInBounds j (.int .i64 x), by simp, h1, ?_, by simpa using h2, h3, by simpa using h4, ?_⟩
    · exact heap_setCell_same w g j cur _ _ hb
    · simp only [Nat.mul_one, List.length_set] at h5 ⊢
      have e1 : (cur.setIfInBounds j (Value.int .i64 x)).toList = cur.toList.set j (.int .i64 x) := by simp
      rw [e1, List.take_set, h5, List.map_set]
      rfl

/-- The headers of rows. -/
def hdr (ib ic : Nat → Nat) (ls : List (List Nat)) : List Value := ls.mapIdx fun k l => .slice (some ⟨ib k, 0, none⟩) l.length (ic k)

structure Grid (w : World) (base : Nat) (v : Value) (ls : List (List Nat)) (ib ic : Nat → Nat) : Prop where
  out : w.ownsRow base 87 1 v ls.length (hdr ib ic ls)
  row : ∀ k l, ls[k]? = some l → RowI w base (ib k) (ic k) l
  ap : ∀ i j, i < ls.length → j < ls.length → ib i = ib j → i = j

theorem Grid.kept {w w' : World} {base : Nat} {v : Value} {ls : List (List Nat)} {ib ic : Nat → Nat} (h : Grid w base v ls ib ic) (hb : ∀ i, base ≤ i → i < w.heap.size → w'.heap[i]? = w.heap[i]?) : Grid w' base v ls ib ic := by
  have go : ∀ {e : TypeId} {v : Value} {n : Nat} {xs : List Value}, w.ownsRow base e 1 v n xs → w'.ownsRow base e 1 v n xs := by
    intro e v n xs h
    refine ⟨h.1, ?_⟩
    rcases h.2 with hn | ⟨g, cap, cur, rfl, h1, hgg, rest⟩
    · exact .inl hn
    · exact .inr ⟨g, cap, cur, rfl, h1, by rw [hb g h1 (Array.getElem?_eq_some_iff.1 hgg).1]; exact hgg, rest⟩
  exact ⟨go h.out, fun k l hl => go (h.row k l hl), h.ap⟩
theorem Grid.calm {w w' : World} {base : Nat} {v : Value} {ls : List (List Nat)} {ib ic : Nat → Nat} (h : Grid w base v ls ib ic) (hg : w.grownBy w' none) : Grid w' base v ls ib ic :=
  h.kept fun i _ hi => hg.block i hi (by simp)
theorem Grid.apart {w w' : World} {base : Nat} {v : Value} {ls : List (List Nat)} {ib ic : Nat → Nat} (h : Grid w base v ls ib ic) {r : Nat} (hg : w.grownBy w' (some r)) (ho : v.ownBlock ≠ some r) (hr : ∀ k, k < ls.length → ib k ≠ r) : Grid w' base v ls ib ic := by
  refine ⟨h.out.kept hg (.inr ho), fun k l hl => (h.row k l hl).kept hg ?_, h.ap⟩
  have hk := (List.getElem?_eq_some_iff.1 hl).1
  intro e
  exact hr k hk (Option.some.inj e).symm

theorem Grid.form {w : World} {base : Nat} {v : Value} {ls : List (List Nat)} {ib ic : Nat → Nat} (h : Grid w base v ls ib ic) (hn : 0 < ls.length) : ∃ g cap, v = .slice (some ⟨g, 0, none⟩) ls.length cap ∧ base ≤ g ∧ g < w.heap.size := h.out.form hn
/-- Whatever there is of it: a slice. -/
theorem Grid.slice {w : World} {base : Nat} {v : Value} {ls : List (List Nat)} {ib ic : Nat → Nat} (h : Grid w base v ls ib ic) : ∃ p cap, v = .slice p ls.length cap ∧ ∀ k, k < ls.length → ∃ g, p = some ⟨g, 0, none⟩ ∧ base ≤ g ∧ g < w.heap.size := by
  rcases h.out.2 with ⟨rfl, h0⟩ | ⟨g, cap, cur, rfl, h1, hb, _⟩
  · exact ⟨none, 0, by rw [h0], fun k hk => by omega⟩
  · exact ⟨_, cap, rfl, fun k _ => ⟨g, rfl, h1, (Array.getElem?_eq_some_iff.1 hb).1⟩⟩
theorem hdr_get {ib ic : Nat → Nat} {ls : List (List Nat)} {k : Nat} {l : List Nat} (h : ls[k]? = some l) : (hdr ib ic ls)[k]? = some (.slice (some ⟨ib k, 0, none⟩) l.length (ic k)) := by
  unfold hdr
  rw [List.getElem?_mapIdx, h]
  rfl
theorem Grid.head {w : World} {base g n cap : Nat} {ls : List (List Nat)} {ib ic : Nat → Nat} (h : Grid w base (.slice (some ⟨g, 0, none⟩) n cap) ls ib ic) {k : Nat} {l : List Nat} (hl : ls[k]? = some l) : w.cell? ⟨g, k, none⟩ = some (.slice (some ⟨ib k, 0, none⟩) l.length (ic k)) := by
  have := World.ownsRow.cells h.out (g := g) rfl k _ (hdr_get hl)
  rwa [add_blk] at this
theorem Grid.out_ne {w : World} {base : Nat} {v : Value} {ls : List (List Nat)} {ib ic : Nat → Nat} (h : Grid w base v ls ib ic) {k : Nat} (hk : k < ls.length) : v.ownBlock ≠ some (ib k) := by
  intro e
  obtain ⟨c1, f1, e1⟩ := Lib.ownsRow_kind h.out _ e
  obtain ⟨c2, f2, e2⟩ := (h.row k _ (List.getElem?_eq_getElem hk)).kind
  rw [e1] at e2
  simp at e2
theorem Grid.free {w : World} {base g n cap : Nat} {ls : List (List Nat)} {ib ic : Nat → Nat} (h : Grid w base (.slice (some ⟨g, 0, none⟩) n cap) ls ib ic) (j : Nat) : w.frozen? ⟨g, j, none⟩ = false := by
  rcases h.out.2 with ⟨h0, _⟩ | ⟨g', cap, cur, hv, _, hb, _⟩
  · cases h0
  · cases hv
    simp [World.frozen?, hb]
theorem grid_nil (w : World) (base : Nat) (ib ic : Nat → Nat) : Grid w base (.slice none 0 0) [] ib ic := ⟨World.ownsRow_nil _ _ _ _, fun k l h => by simp at h, fun i j h => by simp at h⟩
theorem hdr_len (ib ic : Nat → Nat) (ls : List (List Nat)) : (hdr ib ic ls).length = ls.length := by simp [hdr]

theorem hdr_congr {ib ic ib' ic' : Nat → Nat} {ls : List (List Nat)} (h : ∀ k, k < ls.length → ib k = ib' k ∧ ic k = ic' k) : hdr ib ic ls = hdr ib' ic' ls := by
  apply List.ext_getElem?
  intro k
  unfold hdr
  rw [List.getElem?_mapIdx, List.getElem?_mapIdx]
  cases e : ls[k]? with
  | none => rfl
  | some l =>
    obtain ⟨h1, h2⟩ := h k (List.getElem?_eq_some_iff.1 e).1
    simp [h1, h2]
theorem hdr_snoc (ib ic : Nat → Nat) (ls : List (List Nat)) (l : List Nat) : hdr ib ic (ls ++ [l]) = hdr ib ic ls ++ [.slice (some ⟨ib ls.length, 0, none⟩) l.length (ic ls.length)] := by
  simp [hdr, List.mapIdx_append]

/-- A class more. -/
theorem Grid.snoc {w w' : World} {base : Nat} {v v' : Value} {ls : List (List Nat)} {ib ic : Nat → Nat} {l : List Nat} {gl cl : Nat} (h : Grid w base v ls ib ic) (hg : w.grownBy w' v.ownBlock)
    (hl : RowI w' base gl cl l) (hne : ∀ k, k < ls.length → ib k ≠ gl) (ho : w'.ownsRow base 87 1 v' (ls.length + 1) (hdr ib ic ls ++ [.slice (some ⟨gl, 0, none⟩) l.length cl])) :
    Grid w' base v' (ls ++ [l]) (fun k => if k = ls.length then gl else ib k) (fun k => if k = ls.length then cl else ic k) := by
  refine ⟨?_, fun k m hk => ?_, fun i j hi hj e => ?_⟩
  · rw [hdr_snoc, List.length_append, List.length_singleton]
    rw [hdr_congr (ib := fun k => if k = ls.length then gl else ib k) (ic := fun k => if k = ls.length then cl else ic k) (ib' := ib) (ic' := ic) (fun k hk => by simp [Nat.ne_of_lt hk])]
    simpa using ho
  · by_cases hkl : k = ls.length
    · subst hkl
      simp at hk
      subst hk
      simpa using hl
    · have hk' : ls[k]? = some m := by
        rw [List.getElem?_append] at hk
        split at hk
        · exact hk
        · rename_i h1
          have : k - ls.length ≠ 0 := by omega
          rw [List.getElem?_singleton, if_neg this] at hk
          cases hk
      have hlt := (List.getElem?_eq_some_iff.1 hk').1
      simp only [if_neg hkl]
      exact (h.row k m hk').kept hg (h.out_ne hlt)
  · simp only [List.length_append, List.length_singleton] at hi hj
    split at e <;> split at e
    · omega
    · exact absurd e.symm (hne j (by omega))
    · exact absurd e (hne i (by omega))
    · exact h.ap i j (by omega) (by omega) e

/-- A class grown by appending, its header laid anew. -/
theorem Grid.grow {w w1 : World} {base g n cap : Nat} {ls : List (List Nat)} {ib ic : Nat → Nat} {k : Nat} {l l' : List Nat} {gl cl : Nat} (h : Grid w base (.slice (some ⟨g, 0, none⟩) n cap) ls ib ic) (hk : ls[k]? = some l)
    (hg : w.grownBy w1 (some (ib k))) (hl : RowI w1 base gl cl l') (hne : gl = ib k ∨ w.heap.size ≤ gl) :
    Grid (w1.setCell ⟨g, k, none⟩ (.slice (some ⟨gl, 0, none⟩) l'.length cl)) base (.slice (some ⟨g, 0, none⟩) n cap) (ls.set k l') (fun i => if i = k then gl else ib i) (fun i => if i = k then cl else ic i) ∧ w1.grownBy (w1.setCell ⟨g, k, none⟩ (.slice (some ⟨gl, 0, none⟩) l'.length cl)) (some g) := by
  have hkl := (List.getElem?_eq_some_iff.1 hk).1
  have hon := h.out_ne hkl
  have hgw : w1.grownBy (w1.setCell ⟨g, k, none⟩ (.slice (some ⟨gl, 0, none⟩) l'.length cl)) (some g) := grownBy_setCell w1 ⟨g, k, none⟩ _
  have ho1 : w1.ownsRow base 87 1 (.slice (some ⟨g, 0, none⟩) n cap) ls.length (hdr ib ic ls) := h.out.kept hg (.inr hon)
  have hgn : g ≠ ib k := fun e => hon (by simp [Value.ownBlock, e])
  obtain ⟨_, hlt⟩ := h.out.lt g rfl
  have hgl : g ≠ gl := by
    rcases hne with e | e
    · rw [e]; exact hgn
    · omega
  refine ⟨⟨?_, fun i m hi => ?_, fun i j hi hj e => ?_⟩, hgw⟩
  · obtain ⟨hlen, hrest⟩ := ho1
    rcases hrest with ⟨hv, _⟩ | ⟨g', cap', cur, hv, h1, hb, h2, h3, h4, h5⟩
    · cases hv
    · cases hv
      refine ⟨by rw [hdr_len]; simp, .inr ⟨g, cap, cur.setIfInBounds k (.slice (some ⟨gl, 0, none⟩) l'.length cl), by simp, h1, heap_setCell_same w1 g k cur _ _ hb, by simpa using h2, h3, by simpa using h4, ?_⟩⟩
      have e1 : (cur.setIfInBounds k (.slice (some ⟨gl, 0, none⟩) l'.length cl)).toList = cur.toList.set k (.slice (some ⟨gl, 0, none⟩) l'.length cl) := by simp
      rw [e1, List.length_set, List.take_set, h5]
      apply List.ext_getElem?
      intro i
      unfold hdr
      rw [List.getElem?_set, List.getElem?_mapIdx, List.getElem?_mapIdx, List.getElem?_set]
      by_cases e : k = i
      · subst e
        simp [hkl]
      · rw [if_neg e, if_neg e]
        cases ls[i]? with
        | none => rfl
        | some m =>
          have : i ≠ k := fun x => e x.symm
          simp [this]
  · rw [List.getElem?_set] at hi
    by_cases e : k = i
    · subst e
      rw [if_pos rfl, if_pos hkl] at hi
      cases hi
      simp only [if_true]
      exact hl.kept hgw (fun e => hgl (Option.some.inj e))
    · rw [if_neg e] at hi
      have hil := (List.getElem?_eq_some_iff.1 hi).1
      simp only [if_neg (fun x : i = k => e x.symm)]
      refine ((h.row i m hi).kept hg ?_).kept hgw ?_
      · intro e2
        exact e (h.ap k i hkl hil (Option.some.inj e2))
      · intro e2
        have := h.out_ne hil
        exact this (by simpa [Value.ownBlock] using (Option.some.inj e2))
  · rw [List.length_set] at hi hj
    split at e <;> split at e
    · omega
    · rename_i e1 e2
      rcases hne with e3 | e3
      · rw [e3] at e
        exact absurd (h.ap k j hkl hj e) (fun x => e2 x.symm)
      · have := (h.row j _ (List.getElem?_eq_getElem hj)).lt
        omega
    · rename_i e1 e2
      rcases hne with e3 | e3
      · rw [e3] at e
        exact absurd (h.ap i k hi hkl e) e1
      · have := (h.row i _ (List.getElem?_eq_getElem hi)).lt
        omega
    · exact h.ap i j hi hj e

end Go.Proofs.YtdolcdededmlhaaDoor
