/- The walk of the statement ArrowTurns: at every input it answers true and leaves all that lay as it lay. -/
import Derived.Test.YtjimgihfejjilaaKnow5
import Derived.Test.YtjimgihfejjilaaTurnP
namespace Go.Proofs.Ytjimgihfejjilaa
open Go.RowKit

theorem ne_type {w : World} {x y : Nat} {c1 c2 : Array Value} {t1 t2 : TypeId} {f1 f2 : Nat × Nat} (h1 : w.heap[x]? = some (.cells c1 t1 f1)) (h2 : w.heap[y]? = some (.cells c2 t2 f2)) (hne : t1 ≠ t2) : x ≠ y := by
  intro e
  subst e
  rw [h1] at h2
  simp only [Option.some.injEq, Obj.cells.injEq] at h2
  exact hne h2.2.1
theorem heap_ne {w : World} {b i x : Nat} {v : Value} (hne : x ≠ b) : (w.setCell ⟨b, i, none⟩ v).heap[x]? = w.heap[x]? := Below.heap_setCell _ _ _ _ hne
theorem own_blk {w : World} {base : Nat} {e : TypeId} {n : Nat} {v : Value} {xs : List Value} (h : w.ownsRow base e 1 v n xs) {x : Nat} (hx : v.ownBlock = some x) : base ≤ x ∧ ∃ cur, w.heap[x]? = some (.cells cur e (0, 0)) := by
  rcases h.2 with ⟨rfl, h0⟩ | ⟨g, cap, cur, rfl, hg, hh, _⟩
  · simp [Value.ownBlock] at hx
  · obtain rfl : g = x := by simpa [Value.ownBlock] using hx
    exact ⟨hg, cur, hh⟩
theorem own_keep {w w' : World} {base : Nat} {e : TypeId} {n : Nat} {v : Value} {xs : List Value} (h : w.ownsRow base e 1 v n xs) (hb : ∀ x, v.ownBlock = some x → w'.heap[x]? = w.heap[x]?) : w'.ownsRow base e 1 v n xs := by
  refine ⟨h.1, ?_⟩
  rcases h.2 with ⟨rfl, h0⟩ | ⟨g, cap, cur, rfl, hg, hh, h1, h2, h3, h4⟩
  · exact .inl ⟨rfl, h0⟩
  · exact .inr ⟨g, cap, cur, rfl, hg, (hb g (by simp [Value.ownBlock])).trans hh, h1, h2, h3, h4⟩

/-- Two boxes of objects whose labels are rows of their own, two maps: all apart. -/
structure TE (w wr : World) (A B F G : Nat) (va vb : Value) (lf lg : List Int) (la lb : List ByteArray) : Prop where
  bA : wr.heap[A]? = some (.cells #[va, .slice none 0 0] 25 (0, 0))
  bB : wr.heap[B]? = some (.cells #[vb, .slice none 0 0] 25 (0, 0))
  rF : RowZ wr F lf
  rG : RowZ wr G lg
  oa : wr.ownsRow w.heap.size 9 1 va la.length (scells la)
  ob : wr.ownsRow w.heap.size 9 1 vb lb.length (scells lb)
  ap : ∀ x, va.ownBlock = some x → vb.ownBlock ≠ some x
  nAB : A ≠ B
  nFG : F ≠ G
  zA : w.heap.size ≤ A
  zB : w.heap.size ≤ B
  zF : w.heap.size ≤ F
  zG : w.heap.size ≤ G
  g : w.grownBy wr none

section
variable {w wr : World} {A B F G : Nat} {va vb : Value} {lf lg : List Int} {la lb : List ByteArray}
theorem TE.calm {W : World} (h : TE w wr A B F G va vb lf lg la lb) (hg : wr.grownBy W none) : TE w W A B F G va vb lf lg la lb :=
  have lt : ∀ {x : Nat} {o : Obj}, wr.heap[x]? = some o → W.heap[x]? = some o := fun {x _} hx => (hg.block x (Array.getElem?_eq_some_iff.1 hx).1 (by simp)).trans hx
  ⟨lt h.bA, lt h.bB, lt h.rF, lt h.rG, ownsRow_calm h.oa hg, ownsRow_calm h.ob hg, h.ap, h.nAB, h.nFG, h.zA, h.zB, h.zF, h.zG, grownBy_trans h.g hg⟩
theorem TE.setF (h : TE w wr A B F G va vb lf lg la lb) (i : Nat) (z : Int) : TE w (wr.setCell ⟨F, i, none⟩ (.int .i64 z)) A B F G va vb (lf.set i z) lg la lb :=
  ⟨(heap_ne (ne_type h.bA h.rF (by decide))).trans h.bA, (heap_ne (ne_type h.bB h.rF (by decide))).trans h.bB, h.rF.set z, (heap_ne h.nFG.symm).trans h.rG,
    own_keep h.oa (fun x hx => by obtain ⟨_, cur, hc⟩ := own_blk h.oa hx; exact heap_ne (ne_type hc h.rF (by decide))), own_keep h.ob (fun x hx => by obtain ⟨_, cur, hc⟩ := own_blk h.ob hx; exact heap_ne (ne_type hc h.rF (by decide))),
    h.ap, h.nAB, h.nFG, h.zA, h.zB, h.zF, h.zG, grownBy_new h.g (grownBy_setCell wr ⟨F, i, none⟩ _) h.zF⟩
theorem TE.setG (h : TE w wr A B F G va vb lf lg la lb) (i : Nat) (z : Int) : TE w (wr.setCell ⟨G, i, none⟩ (.int .i64 z)) A B F G va vb lf (lg.set i z) la lb :=
  ⟨(heap_ne (ne_type h.bA h.rG (by decide))).trans h.bA, (heap_ne (ne_type h.bB h.rG (by decide))).trans h.bB, (heap_ne h.nFG).trans h.rF, h.rG.set z,
    own_keep h.oa (fun x hx => by obtain ⟨_, cur, hc⟩ := own_blk h.oa hx; exact heap_ne (ne_type hc h.rG (by decide))), own_keep h.ob (fun x hx => by obtain ⟨_, cur, hc⟩ := own_blk h.ob hx; exact heap_ne (ne_type hc h.rG (by decide))),
    h.ap, h.nAB, h.nFG, h.zA, h.zB, h.zF, h.zG, grownBy_new h.g (grownBy_setCell wr ⟨G, i, none⟩ _) h.zG⟩
theorem TE.cA (h : TE w wr A B F G va vb lf lg la lb) : wr.cell? ⟨A, 0, none⟩ = some va ∧ wr.frozen? ⟨A, 0, none⟩ = false := by simp [World.cell?, World.frozen?, h.bA]
theorem TE.cB (h : TE w wr A B F G va vb lf lg la lb) : wr.cell? ⟨B, 0, none⟩ = some vb ∧ wr.frozen? ⟨B, 0, none⟩ = false := by simp [World.cell?, World.frozen?, h.bB]
/-- A label more in the first. -/
theorem TE.appA {W : World} {va' : Value} {la' : List ByteArray} (h : TE w wr A B F G va vb lf lg la lb) (ho : W.ownsRow w.heap.size 9 1 va' la'.length (scells la')) (hg : wr.grownBy W va.ownBlock) (hn : ∀ x, va'.ownBlock = some x → va.ownBlock = some x ∨ wr.heap.size ≤ x) :
    (W.cell? ⟨A, 0, none⟩ = some va ∧ W.frozen? ⟨A, 0, none⟩ = false) ∧ TE w (W.setCell ⟨A, 0, none⟩ va') A B F G va' vb lf lg la' lb := by
  have lt : ∀ {x : Nat} {c : Array Value} {t : TypeId}, wr.heap[x]? = some (.cells c t (0, 0)) → t ≠ 9 → W.heap[x]? = some (.cells c t (0, 0)) := by
    intro x c t hx ht
    refine (hg.block x (Array.getElem?_eq_some_iff.1 hx).1 (fun e => ?_)).trans hx
    obtain ⟨_, cur, hc⟩ := own_blk h.oa e.symm
    exact ne_type hx hc ht rfl
  have a1 := lt h.bA (by decide)
  have b1 := lt h.bB (by decide)
  have f1 : RowZ W F lf := lt h.rF (by decide)
  have g1 : RowZ W G lg := lt h.rG (by decide)
  have hb : ∀ x, vb.ownBlock = some x → W.heap[x]? = wr.heap[x]? := by
    intro x hx
    obtain ⟨_, cur, hc⟩ := own_blk h.ob hx
    exact hg.block x (Array.getElem?_eq_some_iff.1 hc).1 (fun e => h.ap x e.symm hx)
  have ob1 := own_keep h.ob hb
  refine ⟨by simp [World.cell?, World.frozen?, a1], ?_, (heap_ne h.nAB.symm).trans b1, (heap_ne (ne_type f1 a1 (by decide))).trans f1, (heap_ne (ne_type g1 a1 (by decide))).trans g1, own_keep ho (fun x hx => ?_), own_keep ob1 (fun x hx => ?_), fun x hx hx2 => ?_, h.nAB, h.nFG, h.zA, h.zB, h.zF, h.zG, ?_⟩
  · have := heap_setCell_same W A 0 _ _ va' a1
    simpa using this
  · obtain ⟨_, cur, hc⟩ := own_blk ho hx
    exact heap_ne (ne_type hc a1 (by decide))
  · obtain ⟨_, cur, hc⟩ := own_blk ob1 hx
    exact heap_ne (ne_type hc a1 (by decide))
  · rcases hn x hx with e | e
    · exact h.ap x e hx2
    · obtain ⟨_, cur, hc⟩ := own_blk h.ob hx2
      have := (Array.getElem?_eq_some_iff.1 hc).1
      omega
  · have g2 : w.grownBy W none := by
      cases hv : va.ownBlock with
      | none => rw [hv] at hg; exact grownBy_trans h.g hg
      | some y => rw [hv] at hg; exact grownBy_new h.g hg (own_blk h.oa hv).1
    exact grownBy_new g2 (grownBy_setCell W ⟨A, 0, none⟩ _) h.zA
/-- A label more in the second. -/
theorem TE.appB {W : World} {vb' : Value} {lb' : List ByteArray} (h : TE w wr A B F G va vb lf lg la lb) (ho : W.ownsRow w.heap.size 9 1 vb' lb'.length (scells lb')) (hg : wr.grownBy W vb.ownBlock) (hn : ∀ x, vb'.ownBlock = some x → vb.ownBlock = some x ∨ wr.heap.size ≤ x) :
    (W.cell? ⟨B, 0, none⟩ = some vb ∧ W.frozen? ⟨B, 0, none⟩ = false) ∧ TE w (W.setCell ⟨B, 0, none⟩ vb') A B F G va vb' lf lg la lb' := by
  have lt : ∀ {x : Nat} {c : Array Value} {t : TypeId}, wr.heap[x]? = some (.cells c t (0, 0)) → t ≠ 9 → W.heap[x]? = some (.cells c t (0, 0)) := by
    intro x c t hx ht
    refine (hg.block x (Array.getElem?_eq_some_iff.1 hx).1 (fun e => ?_)).trans hx
    obtain ⟨_, cur, hc⟩ := own_blk h.ob e.symm
    exact ne_type hx hc ht rfl
  have a1 := lt h.bA (by decide)
  have b1 := lt h.bB (by decide)
  have f1 : RowZ W F lf := lt h.rF (by decide)
  have g1 : RowZ W G lg := lt h.rG (by decide)
  have hb : ∀ x, va.ownBlock = some x → W.heap[x]? = wr.heap[x]? := by
    intro x hx
    obtain ⟨_, cur, hc⟩ := own_blk h.oa hx
    exact hg.block x (Array.getElem?_eq_some_iff.1 hc).1 (fun e => h.ap x hx e.symm)
  have oa1 := own_keep h.oa hb
  refine ⟨by simp [World.cell?, World.frozen?, b1], (heap_ne h.nAB).trans a1, ?_, (heap_ne (ne_type f1 b1 (by decide))).trans f1, (heap_ne (ne_type g1 b1 (by decide))).trans g1, own_keep oa1 (fun x hx => ?_), own_keep ho (fun x hx => ?_), fun x hx hx2 => ?_, h.nAB, h.nFG, h.zA, h.zB, h.zF, h.zG, ?_⟩
  · have := heap_setCell_same W B 0 _ _ vb' b1
    simpa using this
  · obtain ⟨_, cur, hc⟩ := own_blk oa1 hx
    exact heap_ne (ne_type hc b1 (by decide))
  · obtain ⟨_, cur, hc⟩ := own_blk ho hx
    exact heap_ne (ne_type hc b1 (by decide))
  · rcases hn x hx2 with e | e
    · exact h.ap x hx e
    · obtain ⟨_, cur, hc⟩ := own_blk h.oa hx
      have := (Array.getElem?_eq_some_iff.1 hc).1
      omega
  · have g2 : w.grownBy W none := by
      cases hv : vb.ownBlock with
      | none => rw [hv] at hg; exact grownBy_trans h.g hg
      | some y => rw [hv] at hg; exact grownBy_new h.g hg (own_blk h.ob hv).1
    exact grownBy_new g2 (grownBy_setCell W ⟨B, 0, none⟩ _) h.zB
/-- A label of the second is another one. -/
theorem TE.setL {gb nb cb : Nat} (h : TE w wr A B F G va vb lf lg la lb) (hv : vb = .slice (some ⟨gb, 0, none⟩) nb cb) (y : Nat) (s : ByteArray) :
    TE w (wr.setCell ⟨gb, y, none⟩ (.string s)) A B F G va vb lf lg la (lb.set y s) := by
  have hx : vb.ownBlock = some gb := by rw [hv]; simp [Value.ownBlock]
  obtain ⟨hz, cur0, hc0⟩ := own_blk h.ob hx
  refine ⟨(heap_ne (ne_type h.bA hc0 (by decide))).trans h.bA, (heap_ne (ne_type h.bB hc0 (by decide))).trans h.bB, (heap_ne (ne_type h.rF hc0 (by decide))).trans h.rF, (heap_ne (ne_type h.rG hc0 (by decide))).trans h.rG,
    own_keep h.oa (fun x hx2 => heap_ne (fun e => h.ap x hx2 (by rw [e]; exact hx))), ?_, h.ap, h.nAB, h.nFG, h.zA, h.zB, h.zF, h.zG, grownBy_new h.g (grownBy_setCell wr ⟨gb, y, none⟩ _) hz⟩
  rw [List.length_set]
  refine ⟨by simp [scells], ?_⟩
  rcases h.ob.2 with ⟨e, _⟩ | ⟨g, cap, cur, e, hg, hh, h1, h2, h3, h4⟩
  · rw [hv] at e; cases e
  · have e2 : g = gb := by
      have : vb.ownBlock = some g := by rw [e]; simp [Value.ownBlock]
      rw [hx] at this
      exact (Option.some.inj this).symm
    subst e2
    refine .inr ⟨g, cap, cur.setIfInBounds y (.string s), e, hg, heap_setCell_same wr g y cur _ _ hh, h1, h2, by rw [Array.size_setIfInBounds]; exact h3, ?_⟩
    rw [Array.toList_setIfInBounds, List.take_set, h4]
    simp [scells, List.map_set]
end

/-- Strings in a row of their own, opened. -/
theorem own_open {w : World} {base n : Nat} {v : Value} {l : List ByteArray} (h : w.ownsRow base 9 1 v n (scells l)) (hl : l.length = n) (hn : 0 < n) : ∃ g c, v = .slice (some ⟨g, 0, none⟩) n c ∧ base ≤ g ∧ ∀ i, i < n → w.cell? ⟨g, i, none⟩ = some (.string (l[i]?.getD .empty)) ∧ w.frozen? ⟨g, i, none⟩ = false := by
  subst hl
  rcases h.2 with ⟨rfl, h0⟩ | ⟨g, cap, cur, rfl, hg, hh, _⟩
  · omega
  · refine ⟨g, cap, rfl, hg, fun i hi => ⟨?_, by simp [World.frozen?, hh]⟩⟩
    have hc := h.cells (g := g) rfl i _ (scells_get hi)
    rw [add_off, Nat.zero_add] at hc
    exact hc

/-- The same with pairs in the boxes. -/
structure UE (w wr : World) (A B F G : Nat) (va ya vb yb : Value) (lf lg : List Int) (la lb : List ByteArray) : Prop where
  bA : wr.heap[A]? = some (.cells #[va, ya] 25 (0, 0))
  bB : wr.heap[B]? = some (.cells #[vb, yb] 25 (0, 0))
  rF : RowZ wr F lf
  rG : RowZ wr G lg
  oa : wr.ownsRow w.heap.size 9 1 va la.length (scells la)
  ob : wr.ownsRow w.heap.size 9 1 vb lb.length (scells lb)
  nAB : A ≠ B
  zA : w.heap.size ≤ A
  zB : w.heap.size ≤ B
  g : w.grownBy wr none
section
variable {w wr : World} {A B F G : Nat} {va ya vb yb : Value} {lf lg : List Int} {la lb : List ByteArray}
theorem TE.ue (h : TE w wr A B F G va vb lf lg la lb) : UE w wr A B F G va (.slice none 0 0) vb (.slice none 0 0) lf lg la lb := ⟨h.bA, h.bB, h.rF, h.rG, h.oa, h.ob, h.nAB, h.zA, h.zB, h.g⟩
theorem UE.calm {W : World} (h : UE w wr A B F G va ya vb yb lf lg la lb) (hg : wr.grownBy W none) : UE w W A B F G va ya vb yb lf lg la lb :=
  have lt : ∀ {x : Nat} {o : Obj}, wr.heap[x]? = some o → W.heap[x]? = some o := fun {x _} hx => (hg.block x (Array.getElem?_eq_some_iff.1 hx).1 (by simp)).trans hx
  ⟨lt h.bA, lt h.bB, lt h.rF, lt h.rG, ownsRow_calm h.oa hg, ownsRow_calm h.ob hg, h.nAB, h.zA, h.zB, grownBy_trans h.g hg⟩
/-- A store that is none of these. -/
theorem UE.far {b i : Nat} {v : Value} (h : UE w wr A B F G va ya vb yb lf lg la lb) (hb : w.heap.size ≤ b) (h1 : A ≠ b) (h2 : B ≠ b) (h3 : F ≠ b) (h4 : G ≠ b) (h5 : ∀ x, va.ownBlock = some x → x ≠ b) (h6 : ∀ x, vb.ownBlock = some x → x ≠ b) : UE w (wr.setCell ⟨b, i, none⟩ v) A B F G va ya vb yb lf lg la lb :=
  ⟨(heap_ne h1).trans h.bA, (heap_ne h2).trans h.bB, (heap_ne h3).trans h.rF, (heap_ne h4).trans h.rG, own_keep h.oa (fun x hx => heap_ne (h5 x hx)), own_keep h.ob (fun x hx => heap_ne (h6 x hx)), h.nAB, h.zA, h.zB, grownBy_new h.g (grownBy_setCell wr ⟨b, i, none⟩ _) hb⟩
theorem UE.setA (h : UE w wr A B F G va ya vb yb lf lg la lb) (v : Value) : UE w (wr.setCell ⟨A, 1, none⟩ v) A B F G va v vb yb lf lg la lb :=
  ⟨by have := heap_setCell_same wr A 1 _ _ v h.bA; simpa using this, (heap_ne h.nAB.symm).trans h.bB, (heap_ne (ne_type h.rF h.bA (by decide))).trans h.rF, (heap_ne (ne_type h.rG h.bA (by decide))).trans h.rG,
    own_keep h.oa (fun x hx => by obtain ⟨_, cur, hc⟩ := own_blk h.oa hx; exact heap_ne (ne_type hc h.bA (by decide))), own_keep h.ob (fun x hx => by obtain ⟨_, cur, hc⟩ := own_blk h.ob hx; exact heap_ne (ne_type hc h.bA (by decide))),
    h.nAB, h.zA, h.zB, grownBy_new h.g (grownBy_setCell wr ⟨A, 1, none⟩ _) h.zA⟩
theorem UE.setB (h : UE w wr A B F G va ya vb yb lf lg la lb) (v : Value) : UE w (wr.setCell ⟨B, 1, none⟩ v) A B F G va ya vb v lf lg la lb :=
  ⟨(heap_ne h.nAB).trans h.bA, by have := heap_setCell_same wr B 1 _ _ v h.bB; simpa using this, (heap_ne (ne_type h.rF h.bB (by decide))).trans h.rF, (heap_ne (ne_type h.rG h.bB (by decide))).trans h.rG,
    own_keep h.oa (fun x hx => by obtain ⟨_, cur, hc⟩ := own_blk h.oa hx; exact heap_ne (ne_type hc h.bB (by decide))), own_keep h.ob (fun x hx => by obtain ⟨_, cur, hc⟩ := own_blk h.ob hx; exact heap_ne (ne_type hc h.bB (by decide))),
    h.nAB, h.zA, h.zB, grownBy_new h.g (grownBy_setCell wr ⟨B, 1, none⟩ _) h.zB⟩
theorem UE.cA (h : UE w wr A B F G va ya vb yb lf lg la lb) : wr.cell? ⟨A, 0, none⟩ = some va ∧ wr.cell? ⟨A, 1, none⟩ = some ya ∧ wr.frozen? ⟨A, 1, none⟩ = false := by simp [World.cell?, World.frozen?, h.bA]
theorem UE.cB (h : UE w wr A B F G va ya vb yb lf lg la lb) : wr.cell? ⟨B, 0, none⟩ = some vb ∧ wr.cell? ⟨B, 1, none⟩ = some yb ∧ wr.frozen? ⟨B, 1, none⟩ = false := by simp [World.cell?, World.frozen?, h.bB]
end

theorem strs_open {w : World} {g n hi : Nat} {l : List ByteArray} (hl : l.length = n) (hg : g < hi) (hz : hi ≤ w.heap.size) (h : ∀ i, i < n → w.cell? ⟨g, i, none⟩ = some (.string (l[i]?.getD .empty)) ∧ w.frozen? ⟨g, i, none⟩ = false) : StrsAt w 0 hi (some ⟨g, 0, none⟩) n l :=
  ⟨hl, fun _ => ⟨g, 0, rfl, Nat.zero_le _, hg, hz, fun i hi => by rw [Nat.zero_add]; exact (h i hi).1⟩⟩
theorem PairsAt.wide {w : World} {lo hi n : Nat} {p : Option Addr} {l : List (Int × Int)} (h : PairsAt w lo hi p n l) (hn : 0 < n) : PairsAt w 0 w.heap.size p n l :=
  ⟨h.len, fun _ => by
    obtain ⟨b, off, e, q1, q2, q3, hc⟩ := h.cell hn
    exact ⟨b, off, e, Nat.zero_le _, Nat.lt_of_lt_of_le q2 q3, Nat.le_refl _, hc⟩⟩
theorem zs_tail {w : World} {g n : Nat} {l : List Int} (h : RowZ w g l) (hl : l.length = n) : ZsAt w 0 w.heap.size (some ⟨g, 1, none⟩) (n - 1) (l.drop 1) :=
  ⟨by rw [List.length_drop, hl], fun hn => ⟨g, 1, rfl, Nat.zero_le _, h.lt, Nat.le_refl _, fun k hk => by rw [List.getElem?_drop]; exact h.cell (by omega)⟩⟩

theorem own_set {w : World} {base g n c y : Nat} {l : List ByteArray} {s : ByteArray} (h : w.ownsRow base 9 1 (.slice (some ⟨g, 0, none⟩) n c) n (scells l)) : (w.setCell ⟨g, y, none⟩ (.string s)).ownsRow base 9 1 (.slice (some ⟨g, 0, none⟩) n c) n (scells (l.set y s)) := by
  have hl := h.1
  refine ⟨by simpa [scells] using hl, ?_⟩
  rcases h.2 with ⟨e, _⟩ | ⟨g', cap, cur, e, hg, hh, h1, h2, h3, h4⟩
  · cases e
  · cases e
    refine .inr ⟨g, c, cur.setIfInBounds y (.string s), rfl, hg, heap_setCell_same w g y cur _ _ hh, h1, h2, by rw [Array.size_setIfInBounds]; exact h3, ?_⟩
    rw [Array.toList_setIfInBounds, List.take_set, h4]
    simp [scells, List.map_set]
theorem own_lt {w : World} {base g n c m : Nat} {l : List Value} (h : w.ownsRow base 9 1 (.slice (some ⟨g, 0, none⟩) n c) m l) : g < w.heap.size := by
  obtain ⟨_, cur, hc⟩ := own_blk h (x := g) (by simp [Value.ownBlock])
  exact (Array.getElem?_eq_some_iff.1 hc).1
theorem own_ty {w : World} {base g n c m : Nat} {l : List Value} (h : w.ownsRow base 9 1 (.slice (some ⟨g, 0, none⟩) n c) m l) : ∃ cur, w.heap[g]? = some (.cells cur 9 (0, 0)) := (own_blk h (x := g) (by simp [Value.ownBlock])).2
theorem own_is {g x n c : Nat} (h : (Value.slice (some ⟨g, 0, none⟩) n c).ownBlock = some x) : x = g := by simpa [Value.ownBlock] using h.symm
theorem heap_drew (w : World) (x : Nat) : w.drew.heap[x]? = w.heap[x]? := rfl

/-- All that ArrowTurns asks of: four objects in boxes, two maps. -/
structure FE (w W : World) (H A B C D F G ga gb gd P1 P2 k ca cb cd : Nat) (lf lg : List Int) (la lb ld : List ByteArray) (y0 y1 : Nat) : Prop where
  a : ObjAt W 0 H (some ⟨ga, 0, none⟩) k (some ⟨P1, 0, none⟩) 1 la [(0, 1)]
  b : ObjAt W 0 H (some ⟨gb, 0, none⟩) k (some ⟨P2, 0, none⟩) 1 lb [((y0 : Int), (y1 : Int))]
  c : ObjAt W 0 H (some ⟨gb, 0, none⟩) k none 0 lb []
  d : ObjAt W 0 H (some ⟨gd, 0, none⟩) k (some ⟨P2, 0, none⟩) 1 ld [((y0 : Int), (y1 : Int))]
  f : ZsAt W 0 H (some ⟨F, 0, none⟩) k lf
  f1 : ZsAt W 0 H (some ⟨F, 1, none⟩) (k - 1) (lf.drop 1)
  k' : ZsAt W 0 H (some ⟨G, 0, none⟩) k lg
  a0 : W.cell? ⟨A, 0, none⟩ = some (.slice (some ⟨ga, 0, none⟩) k ca)
  a1 : W.cell? ⟨A, 1, none⟩ = some (.slice (some ⟨P1, 0, none⟩) 1 1)
  b0 : W.cell? ⟨B, 0, none⟩ = some (.slice (some ⟨gb, 0, none⟩) k cb)
  b1 : W.cell? ⟨B, 1, none⟩ = some (.slice (some ⟨P2, 0, none⟩) 1 1)
  c0 : W.cell? ⟨C, 0, none⟩ = some (.slice (some ⟨gb, 0, none⟩) k cb)
  c1 : W.cell? ⟨C, 1, none⟩ = some (.slice none 0 0)
  d0 : W.cell? ⟨D, 0, none⟩ = some (.slice (some ⟨gd, 0, none⟩) k cd)
  d1 : W.cell? ⟨D, 1, none⟩ = some (.slice (some ⟨P2, 0, none⟩) 1 1)
  zA : A < H
  zB : B < H
  zC : C < H
  zD : D < H
  z : H ≤ W.heap.size
  g : w.grownBy W none
theorem FE.calm {w W W' : World} {H A B C D F G ga gb gd P1 P2 k ca cb cd : Nat} {lf lg : List Int} {la lb ld : List ByteArray} {y0 y1 : Nat} (h : FE w W H A B C D F G ga gb gd P1 P2 k ca cb cd lf lg la lb ld y0 y1) (hg : W.grownBy W' none) : FE w W' H A B C D F G ga gb gd P1 P2 k ca cb cd lf lg la lb ld y0 y1 := by
  have hz := h.z
  have kA := hg.block A (Nat.lt_of_lt_of_le h.zA hz) (by simp)
  have kB := hg.block B (Nat.lt_of_lt_of_le h.zB hz) (by simp)
  have kC := hg.block C (Nat.lt_of_lt_of_le h.zC hz) (by simp)
  have kD := hg.block D (Nat.lt_of_lt_of_le h.zD hz) (by simp)
  exact ⟨h.a.calm hg, h.b.calm hg, h.c.calm hg, h.d.calm hg, h.f.calm hg, h.f1.calm hg, h.k'.calm hg,
    (World.cell?_of_block (a := ⟨A, 0, none⟩) kA).trans h.a0, (World.cell?_of_block (a := ⟨A, 1, none⟩) kA).trans h.a1, (World.cell?_of_block (a := ⟨B, 0, none⟩) kB).trans h.b0, (World.cell?_of_block (a := ⟨B, 1, none⟩) kB).trans h.b1,
    (World.cell?_of_block (a := ⟨C, 0, none⟩) kC).trans h.c0, (World.cell?_of_block (a := ⟨C, 1, none⟩) kC).trans h.c1, (World.cell?_of_block (a := ⟨D, 0, none⟩) kD).trans h.d0, (World.cell?_of_block (a := ⟨D, 1, none⟩) kD).trans h.d1, h.zA, h.zB, h.zC, h.zD, Nat.le_trans hz hg.size, grownBy_trans h.g hg⟩

theorem grownBy_drew1 (w : World) : w.grownBy w.drew none := grownBy_drewN w 1 none
theorem pair_set (w : World) (a : Addr) (v : Value) (x y : Int) : PairsAt ((w.setCell a v).alloc (.cells #[.int .i64 x, .int .i64 y] 40)) w.heap.size (w.heap.size + 1) (some ⟨w.heap.size, 0, none⟩) 1 [(x, y)] := by
  have h := pairsAt_one (w.setCell a v) x y
  have e : (w.setCell a v).heap.size = w.heap.size := by simp [World.setCell]
  rw [e] at h
  exact h

theorem te_new (w w1 : World) (k : Nat) (hg : w.grownBy w1 none) (F G : Nat) (h : (F = w1.heap.size + 1 + 1 ∧ G = w1.heap.size + 1 + 1 + 1) ∨ (G = w1.heap.size + 1 + 1 ∧ F = w1.heap.size + 1 + 1 + 1)) :
    TE w ((((w1.alloc (.cells #[.slice none 0 0, .slice none 0 0] 25)).alloc (.cells #[.slice none 0 0, .slice none 0 0] 25)).alloc (.cells (madeCells #[.int .i64 0] k) 3)).alloc (.cells (madeCells #[.int .i64 0] k) 3)).drew w1.heap.size (w1.heap.size + 1) F G (.slice none 0 0) (.slice none 0 0) (List.replicate k 0) (List.replicate k 0) [] [] := by
  have z := hg.size
  have g1 := World.grownBy_alloc w1 (.cells #[.slice none 0 0, .slice none 0 0] 25) none
  have n1 := World.alloc_heap_new w1 (.cells #[.slice none 0 0, .slice none 0 0] 25)
  have s1 := World.size_alloc w1 (.cells #[.slice none 0 0, .slice none 0 0] 25)
  generalize w1.alloc (.cells #[.slice none 0 0, .slice none 0 0] 25) = w2 at *
  have g2 := World.grownBy_alloc w2 (.cells #[.slice none 0 0, .slice none 0 0] 25) none
  have n2 := World.alloc_heap_new w2 (.cells #[.slice none 0 0, .slice none 0 0] 25)
  have s2 := World.size_alloc w2 (.cells #[.slice none 0 0, .slice none 0 0] 25)
  generalize w2.alloc (.cells #[.slice none 0 0, .slice none 0 0] 25) = w3 at *
  have g3 := World.grownBy_alloc w3 (.cells (madeCells #[.int .i64 0] k) 3) none
  have n3 := rowZ_made w3 k
  have s3 := World.size_alloc w3 (.cells (madeCells #[.int .i64 0] k) 3)
  generalize w3.alloc (.cells (madeCells #[.int .i64 0] k) 3) = w4 at *
  have g4 := World.grownBy_alloc w4 (.cells (madeCells #[.int .i64 0] k) 3) none
  have n4 := rowZ_made w4 k
  generalize w4.alloc (.cells (madeCells #[.int .i64 0] k) 3) = w5 at *
  have g5 := grownBy_trans g4 (grownBy_drewN w5 1 none)
  have n5 := n4.calm (grownBy_drewN w5 1 none)
  rw [show w5.drewN 1 = w5.drew from rfl] at g5 n5
  have g35 := grownBy_trans g3 g5
  have g25 := grownBy_trans g2 g35
  have lt : ∀ {V : World} {x : Nat} {o : Obj}, V.heap[x]? = some o → V.grownBy w5.drew none → w5.drew.heap[x]? = some o := fun {V x _} hx hg => (hg.block x (Array.getElem?_eq_some_iff.1 hx).1 (by simp)).trans hx
  rw [s1] at n2
  have n3' := n3.calm g5
  rw [s2, s1] at n3'
  rw [s3, s2, s1] at n5
  have gw := grownBy_trans hg (grownBy_trans g1 g25)
  rcases h with ⟨rfl, rfl⟩ | ⟨rfl, rfl⟩
  · exact ⟨lt n1 g25, lt n2 g35, n3', n5, World.ownsRow_nil _ _ _ _, World.ownsRow_nil _ _ _ _, fun x hx => by simp [Value.ownBlock] at hx, by omega, by omega, z, by omega, by omega, by omega, gw⟩
  · exact ⟨lt n1 g25, lt n2 g35, n5, n3', World.ownsRow_nil _ _ _ _, World.ownsRow_nil _ _ _ _, fun x hx => by simp [Value.ownBlock] at hx, by omega, by omega, z, by omega, by omega, by omega, gw⟩

theorem cell_one_at (w : World) (o : Obj) (x : Value) (t : TypeId) : ∀ j u, [x][j]? = some u → ((w.alloc o).alloc (.cells #[x] t)).cell? ((⟨w.heap.size + 1, 0, none⟩ : Addr).add j) = some u := by
  have := cell_one_new (w.alloc o) x t
  rw [World.size_alloc] at this
  exact this
theorem scells_snoc (l : List ByteArray) (x : ByteArray) : scells (l ++ [x]) = scells l ++ [.string x] := by simp [scells]
theorem repl_snoc (j : Nat) : List.replicate (j + 1) ByteArray.empty = List.replicate j .empty ++ [.empty] := by rw [List.replicate_succ']
theorem own_or {g' x H n c : Nat} {v : Value} (h : v.ownBlock = some g' ∨ g' = H) (hx : (Value.slice (some ⟨g', 0, none⟩) n c).ownBlock = some x) : v.ownBlock = some x ∨ H ≤ x := by
  obtain rfl : g' = x := by simpa [Value.ownBlock] using hx
  exact h.imp id (fun e => by omega)

theorem conv_one (w : World) (j : Nat) : (convert 38 9 (.slice (some ⟨w.heap.size, 0, none⟩) 1 1)).run Try.prog (w.alloc (.cells #[.int .u8 ((97 : Int) + (j : Int))] 5)) = .ok (.string (labS j)) (w.alloc (.cells #[.int .u8 ((97 : Int) + (j : Int))] 5)) := by
  refine run_convert_bytes_arg _ 38 5 Try.underlying38 Try.underlying5 w.heap.size 0 1 1 [(97 : Int) + (j : Int)] rfl (fun i hi => ?_) _ Try.underlying9
  obtain rfl : i = 0 := by omega
  simp

set_option maxRecDepth 100000 in
set_option maxHeartbeats 8000000 in
theorem arrowTurns_in (n t k : Nat) (w : World) (hn : n < 256) (ht : t < 256) (hk : n % 10 + 2 = k) : Calls Try.prog 5 #[.int .u8 n, .int .u8 t] w fun e w' => e = .returned (.bool true) ∧ w.grownBy w' none := by
  obtain ⟨i0, hi', hz0, hz1, hz2⟩ := info_parts Try.info9
  have n0 : (0 : Int) ≤ n := by omega
  have n1 : (n : Int) < 256 := by omega
  have t0 : (0 : Int) ≤ t := by omega
  have t1 : (t : Int) < 256 := by omega
  have hk2 : 2 ≤ k := by omega
  have hk12 : k < 12 := by omega
  have HK := Lib.hid (show (n : Int) % 10 + 2 = (k : Int) by omega)
  have hmk := fun (w : World) => run_make_row' (P := Try.prog) 26 3 (.int .i64 0) 8 Try.underlying26 Try.infoZ3 rfl .i64 .i64 k (by omega) (by omega) w
  clear hk
  go_enter Try.func5, Try.ntmps5
  go_wp2_with fail
  refine (known5_c _).mono ?_
  rintro e w1 ⟨rfl, hg1⟩
  have HG1 := Lib.hid hg1
  clear hg1
  go_upto_region 5 with fail
  rw [HK.out]
  go_cut [8, 9] (fun s8 s9 wx => ∃ F G : Nat, s8 = .slice (some ⟨F, 0, none⟩) k k ∧ s9 = .slice (some ⟨G, 0, none⟩) k k ∧ TE w wx w1.heap.size (w1.heap.size + 1) F G (.slice none 0 0) (.slice none 0 0) (List.replicate k 0) (List.replicate k 0) [] [])
  case first =>
    go_wp2_with fail
    go_region
    · go_wp2_with fail
      go_meet
      exact ⟨_, _, rfl, rfl, te_new w w1 k HG1.out _ _ (.inl ⟨rfl, rfl⟩)⟩
    · go_wp2_with fail
      go_meet
      exact ⟨_, _, rfl, rfl, te_new w w1 k HG1.out _ _ (.inr ⟨rfl, rfl⟩)⟩
  case rest =>
    obtain ⟨F, G, rfl, rfl, hte⟩ := hcut
    generalize w1.heap.size + 1 = B at *
    generalize w1.heap.size = A at *
    have HTE0 := Lib.hid hte
    obtain ⟨s, hs⟩ : ∃ s, s = t % k := ⟨_, rfl⟩
    have hsk : s < k := by rw [hs]; exact Nat.mod_lt _ (by omega)
    have HTN : Hid (∀ j : Nat, ((j : Int) + (t : Int)) % (k : Int) = (tn k s j : Int)) := Lib.hid (fun j : Nat => by
      have : (j + t) % k = (j + s) % k := by rw [hs, Nat.add_mod_mod]
      unfold tn
      rw [← this]
      rfl)
    clear hs hte hmk
    go_wp2
    go_loopw [10] (fun i wr => ∃ (j : Nat) (va vb : Value), j ≤ k ∧ i = .int .i64 j ∧ TE w wr A B F G va vb (fK k s j) (gK k s j) (labs j) (List.replicate j .empty)) (fun i _ => k - (intOf i).toNat)
    case atStart => exact ⟨0, _, _, Nat.zero_le _, rfl, HTE0.out⟩
    case round =>
      obtain ⟨j, va, vb, hj, rfl, hte⟩ := hrel
      by_cases hjk : j < k
      · have j0 : (0 : Int) ≤ j := by omega
        have j1 : (j : Int) < k := by omega
        have j2 : (j : Int) ≤ 12 := by omega
        have hk0 : (0 : Int) < k := by omega
        have hmod := HTN.out j
        obtain ⟨y, HY⟩ : ∃ y, Hid (tn k s j = y) := ⟨_, Lib.hid rfl⟩
        rw [HY.out] at hmod
        have hyk : y < k := by rw [← HY.out]; exact Nat.mod_lt _ (by omega)
        have y0 : (0 : Int) ≤ y := by omega
        have y1 : (y : Int) < k := by omega
        have cF := hte.rF.cell (k := j) (by rw [fK_len]; exact hjk)
        have fF := hte.rF.free j
        have cG := hte.rG.cell (k := y) (by rw [gK_len]; exact hyk)
        have fG := hte.rG.free y
        have nFG := hte.nFG
        have nGF := hte.nFG.symm
        have HTE2 := Lib.hid ((hte.setF j (y : Int)).setG y (j : Int))
        clear hte HTE0
        generalize (fK k s j)[j]?.getD 0 = fv at *
        generalize (gK k s j)[y]?.getD 0 = gv at *
        go_upto_region 11 with fail
        generalize (wr.setCell ⟨F, j, none⟩ (.int .i64 (y : Int))).setCell ⟨G, y, none⟩ (.int .i64 (j : Int)) = W2 at *
        rw [← HY.out] at HTE2
        have HTE3 : Hid (TE w W2 A B F G va vb (fK k s (j + 1)) (gK k s (j + 1)) (labs j) (List.replicate j .empty)) := Lib.hid HTE2.out
        clear cF fF cG fG nFG nGF HTE2 hmod fv gv y0 y1
        have hcv := conv_one W2 j
        have cA := HTE3.out.cA.1
        have hg3 := grownBy_trans (World.grownBy_alloc W2 (.cells #[.int .u8 ((97 : Int) + (j : Int))] 5) none) (World.grownBy_alloc _ (.cells #[.string (labS j)] 9) none)
        have HTV := Lib.hid (HTE3.out.calm hg3)
        have hoa := HTV.out.oa
        rw [labs_len] at hoa
        have HOA := Lib.hid hoa
        have hbz := HTV.out.g.size
        clear hg3 hoa
        go_upto_region 12 with (at_builtin; refine wpList_append_lies _ rfl _ _ 22 rfl w.heap.size 9 i0 (.string .empty) 1 16 Try.underlying22 hi' hz0 hz1 hz2 rfl (by decide) va j (scells (labs j)) rfl HOA.out ⟨W2.heap.size + 1, 0, none⟩ 1 1 [.string (labS j)] rfl rfl (cell_one_at _ _ _ _) (by simp [Value.oneCell']) (by decide) (by unfold maxLen; omega) (by omega) hbz _ rfl ?_; intro g' cap' w9 hown' hgrow hor hlt'; have hA := HTV.out.appA (W := w9) (va' := .slice (some ⟨g', 0, none⟩) (j + 1) cap') (la' := labs (j + 1)) (by rw [labs_len, labs_succ, scells_snoc]; exact hown') hgrow (fun x hx => own_or hor hx); have cA9 := hA.1.1; have fA9 := hA.1.2; have HT9 := Lib.hid hA.2; clear hA hown' hgrow hor hlt')
        generalize w9.setCell ⟨A, 0, none⟩ (.slice (some ⟨g', 0, none⟩) (j + 1) cap') = W3 at *
        clear cA cA9 fA9 HTV HOA hcv HTE3 hbz
        have cB := HT9.out.cB.1
        have hg4 := World.grownBy_alloc W3 (.cells #[.string ⟨#[]⟩] 9) none
        have HTV := Lib.hid (HT9.out.calm hg4)
        have hob := HTV.out.ob
        rw [List.length_replicate] at hob
        have HOB := Lib.hid hob
        have hbz := HTV.out.g.size
        clear hg4 hob HT9
        go_wp2_with (at_builtin; refine wpList_append_lies _ rfl _ _ 22 rfl w.heap.size 9 i0 (.string .empty) 1 16 Try.underlying22 hi' hz0 hz1 hz2 rfl (by decide) vb j (scells (List.replicate j .empty)) rfl HOB.out ⟨W3.heap.size, 0, none⟩ 1 1 [.string ⟨#[]⟩] rfl rfl (cell_one_new _ _ _) (by simp [Value.oneCell']) (by decide) (by unfold maxLen; omega) (by omega) hbz _ rfl ?_; intro g2 cap2 w8 hown' hgrow hor hlt'; have hB := HTV.out.appB (W := w8) (vb' := .slice (some ⟨g2, 0, none⟩) (j + 1) cap2) (lb' := List.replicate (j + 1) .empty) (by rw [List.length_replicate, repl_snoc, scells_snoc]; exact hown') hgrow (fun x hx => own_or hor hx); have cB8 := hB.1.1; have fB8 := hB.1.2; have HT8 := Lib.hid hB.2; clear hB hown' hgrow hor hlt')
        exact ⟨⟨j + 1, _, _, by omega, by go_num, HT8.out⟩, by simp [intOf]; omega⟩
      · obtain rfl : k = j := by omega
        have j1 : ¬ ((k : Int) < k) := by omega
        have HTE1 := Lib.hid hte
        clear hte HTE0
        have hv1 := HTE1.out.oa
        have hv2 := HTE1.out.ob
        rw [labs_len] at hv1
        rw [List.length_replicate] at hv2
        obtain ⟨ga, ca, rfl, _⟩ := own_open hv1 (labs_len k) (by omega)
        obtain ⟨gb, cb, rfl, _⟩ := own_open hv2 (List.length_replicate) (by omega)
        clear hv1 hv2
        go_wp2
        go_loopw [11] (fun i wr => ∃ j : Nat, j ≤ k ∧ i = .int .i64 j ∧ TE w wr A B F G (.slice (some ⟨ga, 0, none⟩) k ca) (.slice (some ⟨gb, 0, none⟩) k cb) (fK k s k) (gK k s k) (labs k) (bK k s j)) (fun i _ => k - (intOf i).toNat)
        case atStart => exact ⟨0, Nat.zero_le _, rfl, HTE1.out⟩
        case round =>
          obtain ⟨j, hj, rfl, hte⟩ := hrel
          clear HTE1
          by_cases hjk : j < k
          · have j0 : (0 : Int) ≤ j := by omega
            have j1 : (j : Int) < k := by omega
            obtain ⟨y, HY⟩ : ∃ y, Hid (tn k s j = y) := ⟨_, Lib.hid rfl⟩
            have hyk : y < k := by rw [← HY.out]; exact Nat.mod_lt _ (by omega)
            have y0 : (0 : Int) ≤ y := by omega
            have y1 : (y : Int) < k := by omega
            have cF := hte.rF.cell (k := j) (by rw [fK_len]; exact hjk)
            rw [turn_f k hk12 s hsk j hjk, HY.out] at cF
            have hv1 := hte.oa
            have hv2 := hte.ob
            rw [labs_len] at hv1
            rw [bK_len] at hv2
            obtain ⟨_, _, e1, _, o1⟩ := own_open hv1 (labs_len k) (by omega)
            obtain ⟨_, _, e2, _, o2⟩ := own_open hv2 (bK_len k s j) (by omega)
            cases e1
            cases e2
            have cL := (o1 j hjk).1
            rw [labs_get hjk] at cL
            obtain ⟨cM, fM⟩ := o2 y hyk
            have cA := hte.cA.1
            have cB := hte.cB.1
            have HT2 := Lib.hid ((hte.setL rfl y (labS j)).calm (grownBy_drewN _ 1 none))
            rw [← HY.out] at HT2
            have HT3 : Hid (TE w ((wr.setCell ⟨gb, tn k s j, none⟩ (.string (labS j))).drewN 1) A B F G (.slice (some ⟨ga, 0, none⟩) k ca) (.slice (some ⟨gb, 0, none⟩) k cb) (fK k s k) (gK k s k) (labs k) (bK k s (j + 1))) := Lib.hid HT2.out
            rw [HY.out] at HT3
            clear hte o1 o2 hv1 hv2 HT2
            generalize (bK k s j)[y]?.getD .empty = mv at *
            generalize labS j = lv at *
            go_wp2
            go_region
            go_wp2
            exact ⟨⟨j + 1, by omega, by go_num, HT3.out⟩, by simp [intOf]; omega⟩
          · obtain rfl : k = j := by omega
            have j1 : ¬ ((k : Int) < k) := by omega
            have HTE2 := Lib.hid hte
            clear hte
            go_upto_region 17 with fail
            have HU := Lib.hid HTE2.out.ue
            have hsz := (Array.getElem?_eq_some_iff.1 HU.out.bA).1
            have hBP := (Array.getElem?_eq_some_iff.1 HU.out.bB).1
            obtain ⟨cA0, cA1, fA1⟩ := HU.out.cA
            clear HTE2
            go_upto_region 18 with fail
            have HU1 := Lib.hid ((HU.out.setA (.slice (some ⟨wr.heap.size, 0, none⟩) 1 1)).calm (World.grownBy_alloc _ (.cells #[.int .i64 0, .int .i64 1] 40) none))
            have HP1 := Lib.hid (pair_set wr ⟨A, 1, none⟩ (.slice (some ⟨wr.heap.size, 0, none⟩) 1 1) 0 1)
            generalize (wr.setCell ⟨A, 1, none⟩ (.slice (some ⟨wr.heap.size, 0, none⟩) 1 1)).alloc (.cells #[.int .i64 0, .int .i64 1] 40) = W1 at *
            generalize wr.heap.size = P1 at *
            clear cA0 cA1 fA1 HU hsz
            obtain ⟨cB0, cB1, fB1⟩ := HU1.out.cB
            have c0 := HU1.out.rF.cell (k := 0) (by rw [fK_len]; omega)
            have c1 := HU1.out.rF.cell (k := 1) (by rw [fK_len]; omega)
            rw [turn_f k hk12 s hsk 0 (by omega)] at c0
            rw [turn_f k hk12 s hsk 1 (by omega)] at c1
            have HTF := Lib.hid (turnF hk12 hsk hk2)
            have hy1 : tn k s 1 < k := Nat.mod_lt _ (by omega)
            have hk0 : (0 : Int) < k := by omega
            have hk1 : (1 : Int) < k := by omega
            have hszB := (Array.getElem?_eq_some_iff.1 HU1.out.bB).1
            generalize hY0 : tn k s 0 = y0 at *
            generalize hY1 : tn k s 1 = y1 at *
            have HY0 := Lib.hid hY0
            have HY1 := Lib.hid hY1
            clear hY0 hY1
            go_wp2
            go_region
            have HU2 := Lib.hid (((HU1.out.setB (.slice (some ⟨W1.heap.size, 0, none⟩) 1 1)).calm (World.grownBy_alloc _ (.cells #[.int .i64 (y0 : Int), .int .i64 (y1 : Int)] 40) none)).calm (grownBy_drew1 _))
            have HP2 := Lib.hid ((pair_set W1 ⟨B, 1, none⟩ (.slice (some ⟨W1.heap.size, 0, none⟩) 1 1) (y0 : Int) (y1 : Int)).calm (grownBy_drew1 _))
            have HP12 := Lib.hid (((HP1.out.apart (Kept.row (lo := B) (hi := B + 1) (grownBy_setCell W1 ⟨B, 1, none⟩ (.slice (some ⟨W1.heap.size, 0, none⟩) 1 1)) (Nat.le_refl _) (Nat.lt_succ_self _)) (.inr hBP)).calm (World.grownBy_alloc _ (.cells #[.int .i64 (y0 : Int), .int .i64 (y1 : Int)] 40) none)).calm (grownBy_drew1 _))
            generalize ((W1.setCell ⟨B, 1, none⟩ (.slice (some ⟨W1.heap.size, 0, none⟩) 1 1)).alloc (.cells #[.int .i64 (y0 : Int), .int .i64 (y1 : Int)] 40)).drew = W2 at *
            generalize W1.heap.size = P2 at *
            clear HU1 HP1 cB0 cB1 fB1 c0 c1 hszB
            obtain ⟨cB0, cB1, _⟩ := HU2.out.cB
            have hB2 := (Array.getElem?_eq_some_iff.1 HU2.out.bB).1
            go_upto_region 22 with fail
            have hgC := World.grownBy_alloc W2 (.cells #[.slice (some ⟨gb, 0, none⟩) k cb, .slice none 0 0] 25) none
            have hgD := World.grownBy_alloc (W2.alloc (.cells #[.slice (some ⟨gb, 0, none⟩) k cb, .slice none 0 0] 25)) (.cells #[.slice (some ⟨gb, 0, none⟩) k cb, .slice (some ⟨P2, 0, none⟩) 1 1] 25) none
            have hbC := World.alloc_heap_new W2 (.cells #[.slice (some ⟨gb, 0, none⟩) k cb, .slice none 0 0] 25)
            have hbD := World.alloc_heap_new (W2.alloc (.cells #[.slice (some ⟨gb, 0, none⟩) k cb, .slice none 0 0] 25)) (.cells #[.slice (some ⟨gb, 0, none⟩) k cb, .slice (some ⟨P2, 0, none⟩) 1 1] 25)
            have hbC3 := (hgD.block W2.heap.size (by simp) (by simp)).trans hbC
            rw [World.size_alloc] at hbD
            have HU3 := Lib.hid ((HU2.out.calm hgC).calm hgD)
            have HP13 := Lib.hid ((HP12.out.calm hgC).calm hgD)
            have HP23 := Lib.hid ((HP2.out.calm hgC).calm hgD)
            have hzC : W2.heap.size < ((W2.alloc (.cells #[.slice (some ⟨gb, 0, none⟩) k cb, .slice none 0 0] 25)).alloc (.cells #[.slice (some ⟨gb, 0, none⟩) k cb, .slice (some ⟨P2, 0, none⟩) 1 1] 25)).heap.size := by simp; omega
            have hA2 := (Array.getElem?_eq_some_iff.1 HU2.out.bA).1
            have hPC1 : P1 + 1 ≤ W2.heap.size := by obtain ⟨b, off, e, q1, q2, q3, _⟩ := HP12.out.cell (by decide); omega
            have hPC2 : P2 + 1 ≤ W2.heap.size := by obtain ⟨b, off, e, q1, q2, q3, _⟩ := HP2.out.cell (by decide); omega
            generalize (W2.alloc (.cells #[.slice (some ⟨gb, 0, none⟩) k cb, .slice none 0 0] 25)).alloc (.cells #[.slice (some ⟨gb, 0, none⟩) k cb, .slice (some ⟨P2, 0, none⟩) 1 1] 25) = W3 at *
            obtain ⟨D, hD⟩ : ∃ D, W2.heap.size + 1 = D := ⟨_, rfl⟩
            rw [hD] at hbD ⊢
            generalize W2.heap.size = C at *
            clear HU2 HP2 HP12 cB0 cB1 hbC hgC hgD
            have hbCh := Lib.hid hbC3
            have hbDh := Lib.hid hbD
            have HHD := Lib.hid hD
            obtain ⟨cB0, cB1, _⟩ := HU3.out.cB
            have hob := HU3.out.ob
            rw [bK_len] at hob
            obtain ⟨_, _, e2, zgb, o2⟩ := own_open hob (bK_len k s k) (by omega)
            cases e2
            have HNEWS : Hid (∀ j u, (scells (bK k s k))[j]? = some u → W3.cell? ((⟨gb, 0, none⟩ : Addr).add j) = some u) := Lib.hid (strs_news (strs_open (hi := W3.heap.size) (bK_len k s k) (by
              obtain ⟨_, cur, hc⟩ := own_blk hob (x := gb) (by simp [Value.ownBlock])
              exact (Array.getElem?_eq_some_iff.1 hc).1) (Nat.le_refl _) o2))
            have hsl : (scells (bK k s k)).length = k * 1 := by simp [scells, bK_len]
            have hkp : 0 < k := by omega
            clear hob o2 hbC3 hbD hD
            go_upto_region 23 with (at_builtin; refine wpList_append_own _ rfl _ _ 22 rfl W3.heap.size 9 i0 (.string .empty) 1 16 Try.underlying22 hi' hz0 hz1 hz2 rfl (by decide) (.slice none 0 0) 0 [] rfl (World.ownsRow_nil _ _ _ _) ⟨gb, 0, none⟩ k cb (scells (bK k s k)) rfl hsl HNEWS.out (scells_one _) (by unfold maxLen; omega) (by omega) (Nat.le_refl _) ?_; intro v' w4 hown' hgrow _; have hown2 : w4.ownsRow W3.heap.size 9 1 v' k (scells (bK k s k)) := (by simpa using hown'); have hop := own_open hown2 (bK_len k s k) hkp; obtain ⟨gd, cd, rfl, zgd, _⟩ := hop; have HOWN := Lib.hid hown2; have HGRW := Lib.hid (show W3.grownBy w4 none by simpa [Value.ownBlock] using hgrow); have cD4 : w4.cell? ⟨D, 0, none⟩ = some (.slice (some ⟨gb, 0, none⟩) k cb) ∧ w4.frozen? ⟨D, 0, none⟩ = false := (by have hb4 := (HGRW.out.block D (Array.getElem?_eq_some_iff.1 hbDh.out).1 (by simp)).trans hbDh.out; simp [World.cell?, World.frozen?, hb4]); have cD40 := cD4.1; have fD40 := cD4.2; clear hown' hgrow cD4 hown2)
            have hbC4 := (HGRW.out.block C (Array.getElem?_eq_some_iff.1 hbCh.out).1 (by simp)).trans hbCh.out
            have hbD4 := (HGRW.out.block D (Array.getElem?_eq_some_iff.1 hbDh.out).1 (by simp)).trans hbDh.out
            have hU4 := HU3.out.calm HGRW.out
            have hza := hU4.zA
            have hDC := HHD.out
            obtain ⟨cua, ta⟩ := own_ty hU4.oa
            obtain ⟨cub, tb⟩ := own_ty hU4.ob
            obtain ⟨cud, td⟩ := own_ty HOWN.out
            have hU5 := hU4.far (b := D) (i := 0) (v := .slice (some ⟨gd, 0, none⟩) k cd) (by omega) (by omega) (by omega) (ne_type hU4.rF hbD4 (by decide)) (ne_type hU4.rG hbD4 (by decide)) (fun x hx => by rw [own_is hx]; exact ne_type ta hbD4 (by decide)) (fun x hx => by rw [own_is hx]; exact ne_type tb hbD4 (by decide))
            have hbC5 : (w4.setCell ⟨D, 0, none⟩ (.slice (some ⟨gd, 0, none⟩) k cd)).heap[C]? = _ := (heap_ne (by omega)).trans hbC4
            have hbD5 := heap_setCell_same w4 D 0 _ _ (.slice (some ⟨gd, 0, none⟩) k cd) hbD4
            simp only [List.setIfInBounds_toArray, List.set_cons_zero] at hbD5
            have hown5 := own_keep (w' := w4.setCell ⟨D, 0, none⟩ (.slice (some ⟨gd, 0, none⟩) k cd)) HOWN.out (fun x hx => by rw [own_is hx]; exact heap_ne (ne_type td hbD4 (by decide)))
            have hp15 := (HP13.out.calm HGRW.out).apart (Kept.row (lo := D) (hi := D + 1) (grownBy_setCell w4 ⟨D, 0, none⟩ (.slice (some ⟨gd, 0, none⟩) k cd)) (Nat.le_refl _) (Nat.lt_succ_self _)) (.inl (by omega))
            have hp25 := (HP23.out.calm HGRW.out).apart (Kept.row (lo := D) (hi := D + 1) (grownBy_setCell w4 ⟨D, 0, none⟩ (.slice (some ⟨gd, 0, none⟩) k cd)) (Nat.le_refl _) (Nat.lt_succ_self _)) (.inl (by omega))
            have hga3 := own_lt HU3.out.oa
            have hgb3 := own_lt HU3.out.ob
            have hD3 := (Array.getElem?_eq_some_iff.1 hbDh.out).1
            clear hbC4 hbD4 hU4 ta tb td cua cub cud cD40 fD40 cB0 cB1
            generalize w4.setCell ⟨D, 0, none⟩ (.slice (some ⟨gd, 0, none⟩) k cd) = W5 at *
            obtain ⟨_, _, e5, _, o5⟩ := own_open hown5 (bK_len k s k) hkp
            cases e5
            obtain ⟨cT, fT⟩ := o5 y1 hy1
            have c1 := hU5.rF.cell (k := 1) (by rw [fK_len]; omega)
            rw [turn_f k hk12 s hsk 1 (by omega), HY1.out] at c1
            have cD0 : W5.cell? ⟨D, 0, none⟩ = some (.slice (some ⟨gd, 0, none⟩) k cd) := by simp [World.cell?, hbD5]
            have HU5 := Lib.hid hU5
            have HBC5 := Lib.hid hbC5
            have HBD5 := Lib.hid hbD5
            have HO5 := Lib.hid hown5
            have HP15 := Lib.hid hp15
            have HP25 := Lib.hid hp25
            have v0 : (0 : Int) ≤ y1 := by omega
            have v1 : (y1 : Int) < k := by omega
            clear hU5 hbC5 hbD5 hown5 hp15 hp25 o5 HU3 HP13 HP23 HOWN HGRW hbCh hbDh HNEWS
            generalize (bK k s k)[y1]?.getD .empty = mv at *
            go_wp2
            go_region
            obtain ⟨cud, td⟩ := own_ty HO5.out
            have hU6 := (HU5.out.far (b := gd) (i := y1) (v := .string ⟨#[111, 116, 104, 101, 114]⟩) (by omega) (by omega) (by omega) (ne_type HU5.out.rF td (by decide)) (ne_type HU5.out.rG td (by decide)) (fun x hx => by rw [own_is hx]; omega) (fun x hx => by rw [own_is hx]; omega)).calm (grownBy_drew1 _)
            have hbC6 : (W5.setCell ⟨gd, y1, none⟩ (.string ⟨#[111, 116, 104, 101, 114]⟩)).drew.heap[C]? = _ := (heap_ne (ne_type HBC5.out td (by decide))).trans HBC5.out
            have hbD6 : (W5.setCell ⟨gd, y1, none⟩ (.string ⟨#[111, 116, 104, 101, 114]⟩)).drew.heap[D]? = _ := (heap_ne (ne_type HBD5.out td (by decide))).trans HBD5.out
            have ho6 : (W5.setCell ⟨gd, y1, none⟩ (.string ⟨#[111, 116, 104, 101, 114]⟩)).drew.ownsRow W3.heap.size 9 1 (.slice (some ⟨gd, 0, none⟩) k cd) k (scells ((bK k s k).set y1 othS)) := ownsRow_calm (own_set HO5.out) (grownBy_drew1 _)
            have hp16 := ((HP15.out.apart (Kept.row (lo := gd) (hi := gd + 1) (grownBy_setCell W5 ⟨gd, y1, none⟩ (.string ⟨#[111, 116, 104, 101, 114]⟩)) (Nat.le_refl _) (Nat.lt_succ_self _)) (.inl (by omega))).calm (grownBy_drew1 _)).wide (by decide)
            have hp26 := ((HP25.out.apart (Kept.row (lo := gd) (hi := gd + 1) (grownBy_setCell W5 ⟨gd, y1, none⟩ (.string ⟨#[111, 116, 104, 101, 114]⟩)) (Nat.le_refl _) (Nat.lt_succ_self _)) (.inl (by omega))).calm (grownBy_drew1 _)).wide (by decide)
            generalize (W5.setCell ⟨gd, y1, none⟩ (.string ⟨#[111, 116, 104, 101, 114]⟩)).drew = W6 at *
            have ha6 := hU6.oa
            have hb6 := hU6.ob
            rw [labs_len] at ha6
            rw [bK_len] at hb6
            obtain ⟨_, _, e1, _, oa⟩ := own_open ha6 (labs_len k) hkp
            cases e1
            obtain ⟨_, _, e2, _, ob⟩ := own_open hb6 (bK_len k s k) hkp
            cases e2
            obtain ⟨_, _, e3, _, od⟩ := own_open ho6 (by rw [List.length_set]; exact bK_len k s k) hkp
            cases e3
            have sa := strs_open (labs_len k) (own_lt ha6) (Nat.le_refl _) oa
            have sb := strs_open (bK_len k s k) (own_lt hb6) (Nat.le_refl _) ob
            have sd := strs_open (by rw [List.length_set]; exact bK_len k s k) (own_lt ho6) (Nat.le_refl _) od
            have zf := hU6.rF.at (lo := 0) (Nat.zero_le _)
            have zg := hU6.rG.at (lo := 0) (Nat.zero_le _)
            rw [fK_len] at zf
            rw [gK_len] at zg
            have cA := hU6.cA
            have cB := hU6.cB
            have henv : FE w W6 W6.heap.size A B C D F G ga gb gd P1 P2 k ca cb cd (fK k s k) (gK k s k) (labs k) (bK k s k) ((bK k s k).set y1 othS) y0 y1 :=
              ⟨⟨sa, hp16⟩, ⟨sb, hp26⟩, ⟨sb, pairsAt_nil _ _ _⟩, ⟨sd, hp26⟩, zf, zs_tail hU6.rF (fK_len k s k), zg, cA.1, cA.2.1, cB.1, cB.2.1, by simp [World.cell?, hbC6], by simp [World.cell?, hbC6], by simp [World.cell?, hbD6], by simp [World.cell?, hbD6],
                (Array.getElem?_eq_some_iff.1 hU6.bA).1, (Array.getElem?_eq_some_iff.1 hU6.bB).1, (Array.getElem?_eq_some_iff.1 hbC6).1, (Array.getElem?_eq_some_iff.1 hbD6).1, Nat.le_refl _, hU6.g⟩
            have tf := HTF.out
            have q1 := tf.inv
            have q2 := tf.inj
            have q3 := tf.ac
            have q4 := tf.cb
            have q5 := tf.ad
            have q6 := tf.iac
            have q7 := tf.tl
            rw [HY0.out, HY1.out] at q1 q4 q5 q7
            have Q1 := Lib.hid q1
            have Q2 := Lib.hid q2
            have Q3 := Lib.hid q3
            have Q4 := Lib.hid q4
            have Q5 := Lib.hid q5
            have Q6 := Lib.hid q6
            have Q7 := Lib.hid q7
            have hk6 : k ≤ 1000000 := by omega
            have hk61 : k - 1 ≤ 1000000 := by omega
            have h16 : 1 ≤ 1000000 := by omega
            have h06 : 0 ≤ 1000000 := by omega
            have hk40 : k ≤ 40 := by omega
            have hki : (1 : Int) ≤ k := by omega
            have hkn1 : ¬ (k = 1) := by omega
            have HIL : Hid ((idL k).length ≤ 1000000) := Lib.hid (by rw [idL_len]; omega)
            clear q1 q2 q3 q4 q5 q6 q7 tf cA cB zf zg sa sb sd oa ob od ha6 hb6 ho6 hU6 hbC6 hbD6 hp16 hp26 td cT fT c1 cD0 HU5 HBC5 HBD5 HO5 HP15 HP25 HTF
            generalize W6.heap.size = H6 at *
            go_wp2_with fail
            try simp only [List.append_eq, List.cons_append, List.nil_append]
            have henv := henv.calm (grownBy_drew1 W6)
            go_region_held3 (fun w' => w'.cell? ⟨A, 0, none⟩ = some (.slice (some ⟨ga, 0, none⟩) k ca) ∧ w'.cell? ⟨A, 1, none⟩ = some (.slice (some ⟨P1, 0, none⟩) 1 1) ∧ w'.cell? ⟨B, 0, none⟩ = some (.slice (some ⟨gb, 0, none⟩) k cb) ∧ w'.cell? ⟨B, 1, none⟩ = some (.slice (some ⟨P2, 0, none⟩) 1 1) ∧ w'.cell? ⟨C, 0, none⟩ = some (.slice (some ⟨gb, 0, none⟩) k cb) ∧ w'.cell? ⟨C, 1, none⟩ = some (.slice none 0 0) ∧ w'.cell? ⟨D, 0, none⟩ = some (.slice (some ⟨gd, 0, none⟩) k cd) ∧ w'.cell? ⟨D, 1, none⟩ = some (.slice (some ⟨P2, 0, none⟩) 1 1)) (first | exact ⟨henv.a0, henv.a1, henv.b0, henv.b1, henv.c0, henv.c1, henv.d0, henv.d1⟩ | go_keep)
              (first
                | (go_at_call 12; (first | (with_reducible refine (arInv_r _ _ _ _ _ _ _ _ _ _ _ _ _ _ _ _ _ _ _ _ _ _ _ _ _ _ (labs k) (bK k s k) [(0, 1)] [((y0 : Int), (y1 : Int))] (fK k s k) (gK k s k) true _ henv.a henv.b henv.f henv.k' hk6 hk6 h16 h16 Q1.out).mono ?_) | (with_reducible refine (arInv_r _ _ _ _ _ _ _ _ _ _ _ _ _ _ _ _ _ _ _ _ _ _ _ _ _ _ (labs k) (bK k s k) [(0, 1)] [] (fK k s k) (gK k s k) false _ henv.a henv.c henv.f henv.k' hk6 hk6 h16 h06 Q6.out).mono ?_)); rintro e w9 ⟨rfl, hg⟩; have henv := henv.calm hg)
                | (go_at_call 18; refine (inj_r _ _ _ _ _ (fK k s k) true _ henv.f hk6 (fun h => by cases h) Q2.out).mono ?_; rintro e w9 ⟨rfl, hg⟩; have henv := henv.calm hg)
                | (go_at_call 15; refine (ident_c k k _ (idN_nat hk40)).mono ?_; rintro e w9 ⟨bz, rfl, _, hrow, hg⟩; have henv := henv.calm hg; have hzz := hrow.at1)
                | (go_at_call 10; (first | (with_reducible refine (arIs_r _ _ _ _ _ _ _ _ _ _ _ _ _ _ _ _ _ _ _ _ _ (labs k) (bK k s k) [(0, 1)] [] (fK k s k) false _ henv.a henv.c henv.f hk6 h16 h06 Q3.out).mono ?_) | (with_reducible refine (arIs_r _ _ _ _ _ _ _ _ _ _ _ _ _ _ _ _ _ _ _ _ _ (bK k s k) (bK k s k) [] [((y0 : Int), (y1 : Int))] (idL k) true _ henv.c henv.b hzz HIL.out h06 h16 Q4.out).mono ?_) | (with_reducible refine (arIs_r _ _ _ _ _ _ _ _ _ _ _ _ _ _ _ _ _ _ _ _ _ (labs k) ((bK k s k).set y1 othS) [(0, 1)] [((y0 : Int), (y1 : Int))] (fK k s k) false _ henv.a henv.d henv.f hk6 h16 h16 Q5.out).mono ?_) | (with_reducible refine (arIs_r _ _ _ _ _ _ _ _ _ _ _ _ _ _ _ _ _ _ _ _ _ (labs k) (bK k s k) [(0, 1)] [((y0 : Int), (y1 : Int))] ((fK k s k).drop 1) false _ henv.a henv.b henv.f1 hk61 h16 h16 Q7.out).mono ?_)); rintro e w9 ⟨rfl, hg⟩; have henv := henv.calm hg))
            have HG := Lib.hid henv.g
            clear henv
            go_wp2
            go_ret
            exact ⟨rfl, HG.out⟩

end Go.Proofs.Ytjimgihfejjilaa
