/- Package push: Sum, Equal, Push. -/
import Derived.Test.YtemnbkenihldgaaDoorPuse
import Derived.Test.YtemnbkenihldgaaDoorRefar
/-! Package push: the contract of Sum. -/
namespace Go.Proofs.YtemnbkenihldgaaDoor
open Go.RowKit Go.Shelf

/-- An object, two lists, an error: what is handed back, new. -/
def Res4 (L : List ByteArray) (P : List (Int × Int)) (I J : List Int) (r : Int) (w : World) (e : Ending) (w' : World) : Prop :=
  ∃ p c q d pi ci pj cj, e = .returned (.tuple #[.agg #[.slice p L.length c, .slice q P.length d], .slice pi I.length ci, .slice pj J.length cj, .int .i64 r]) ∧
    ObjAt w' w.heap.size w'.heap.size p L.length q P.length L P ∧ ZsAt w' w.heap.size w'.heap.size pi I.length I ∧ ZsAt w' w.heap.size w'.heap.size pj J.length J ∧ (p = none → c = 0) ∧ (q = none → d = 0) ∧ w.grownBy w' none
/-- The same with one list. -/
def Res3 (L : List ByteArray) (P : List (Int × Int)) (I : List Int) (r : Int) (w : World) (e : Ending) (w' : World) : Prop :=
  ∃ p c q d pi ci, e = .returned (.tuple #[.agg #[.slice p L.length c, .slice q P.length d], .slice pi I.length ci, .int .i64 r]) ∧
    ObjAt w' w.heap.size w'.heap.size p L.length q P.length L P ∧ ZsAt w' w.heap.size w'.heap.size pi I.length I ∧ (p = none → c = 0) ∧ (q = none → d = 0) ∧ w.grownBy w' none
theorem res4_nil {r : Int} {w w' : World} (h : w.grownBy w' none) : Res4 [] [] [] [] r w (.returned (.tuple #[.agg #[.slice none 0 0, .slice none 0 0], .slice none 0 0, .slice none 0 0, .int .i64 r])) w' :=
  ⟨none, 0, none, 0, none, 0, none, 0, rfl, ⟨strsAt_nil _ _ _, pairsAt_nil _ _ _⟩, zsAt_nil _ _ _, zsAt_nil _ _ _, fun _ => rfl, fun _ => rfl, h⟩
theorem res3_nil {r : Int} {w w' : World} (h : w.grownBy w' none) : Res3 [] [] [] r w (.returned (.tuple #[.agg #[.slice none 0 0, .slice none 0 0], .slice none 0 0, .int .i64 r])) w' :=
  ⟨none, 0, none, 0, none, 0, rfl, ⟨strsAt_nil _ _ _, pairsAt_nil _ _ _⟩, zsAt_nil _ _ _, fun _ => rfl, fun _ => rfl, h⟩
/-- Rows of their own, as an object. -/
theorem OwnObj.form {w : World} {base : Nat} {u v : Value} {L : List ByteArray} {P : List (Int × Int)} (h : OwnObj w base u v L P) : ∃ p c q d, u = .slice p L.length c ∧ v = .slice q P.length d ∧ ObjAt w base w.heap.size p L.length q P.length L P ∧ (p = none → c = 0) ∧ (q = none → d = 0) := by
  obtain ⟨p, c, q, d, rfl, rfl, ho⟩ := h.at
  refine ⟨p, c, q, d, rfl, rfl, ho, ?_, ?_⟩
  · rintro rfl
    rcases h.ls.2 with ⟨h5, _⟩ | ⟨g', cap, cur, h5, _⟩
    · injection h5
    · injection h5 with h6; cases h6
  · rintro rfl
    rcases h.ps.2 with ⟨h5, _⟩ | ⟨g', cap, cur, h5, _⟩
    · injection h5
    · injection h5 with h6; cases h6

/-- Objects side by side in a row, as tooLarge takes them. -/
theorem objs_two {w : World} {b : Nat} {u v u' v' : Value} {t : TypeId} {fz : Nat × Nat} (h : w.heap[b]? = some (.cells #[u, v, u', v'] t fz)) : w.cell? ⟨b, 0, none⟩ = some u ∧ w.cell? ⟨b, 1, none⟩ = some v ∧ w.cell? ⟨b, 2, none⟩ = some u' ∧ w.cell? ⟨b, 3, none⟩ = some v' := by
  simp [World.cell?, h]
/-- Boxes of objects, one behind the other, from w on. -/
def BoxEnv (w W : World) (l : List (Value × Value)) : Prop := w.grownBy W none ∧ ∀ k x, l[k]? = some x → BoxO W (w.heap.size + k) x.1 x.2
theorem BoxEnv.calm {w W W' : World} {l : List (Value × Value)} (h : BoxEnv w W l) (hg : W.grownBy W' none) : BoxEnv w W' l := ⟨grownBy_trans h.1 hg, fun k x hx => (h.2 k x hx).calm hg⟩
theorem boxEnv_three (w : World) (u v u' v' u2 v2 : Value) : BoxEnv w (((w.alloc (.cells #[u, v] 25)).alloc (.cells #[u', v'] 25)).alloc (.cells #[u2, v2] 25)) [(u, v), (u', v'), (u2, v2)] := by
  have g1 := World.grownBy_alloc w (.cells #[u, v] 25) none
  have g2 := World.grownBy_alloc (w.alloc (.cells #[u, v] 25)) (.cells #[u', v'] 25) none
  have g3 := World.grownBy_alloc ((w.alloc (.cells #[u, v] 25)).alloc (.cells #[u', v'] 25)) (.cells #[u2, v2] 25) none
  have b0 := BoxO.new w u v
  have b1 := BoxO.new (w.alloc (.cells #[u, v] 25)) u' v'
  have b2 := BoxO.new ((w.alloc (.cells #[u, v] 25)).alloc (.cells #[u', v'] 25)) u2 v2
  rw [World.size_alloc] at b1
  rw [World.size_alloc, World.size_alloc] at b2
  refine ⟨grownBy_trans g1 (grownBy_trans g2 g3), fun k x hx => ?_⟩
  match k, hx with
  | 0, hx => cases hx; exact b0.calm (grownBy_trans g2 g3)
  | 1, hx => cases hx; exact b1.calm g3
  | 2, hx => cases hx; exact b2
  | k + 3, hx => simp at hx
theorem boxEnv_four (w : World) (u v u' v' u2 v2 u3 v3 : Value) : BoxEnv w ((((w.alloc (.cells #[u, v] 25)).alloc (.cells #[u', v'] 25)).alloc (.cells #[u2, v2] 25)).alloc (.cells #[u3, v3] 25)) [(u, v), (u', v'), (u2, v2), (u3, v3)] := by
  have h3 := boxEnv_three w u v u' v' u2 v2
  have hs : (((w.alloc (.cells #[u, v] 25)).alloc (.cells #[u', v'] 25)).alloc (.cells #[u2, v2] 25)).heap.size = w.heap.size + 3 := by simp
  generalize ((w.alloc (.cells #[u, v] 25)).alloc (.cells #[u', v'] 25)).alloc (.cells #[u2, v2] 25) = W at *
  have g4 := World.grownBy_alloc W (.cells #[u3, v3] 25) none
  have b3 := BoxO.new W u3 v3
  rw [hs] at b3
  have h3' := h3.calm g4
  refine ⟨h3'.1, fun k x hx => ?_⟩
  match k, hx with
  | 0, hx => exact h3'.2 0 x hx
  | 1, hx => exact h3'.2 1 x hx
  | 2, hx => exact h3'.2 2 x hx
  | 3, hx => cases hx; exact b3
  | k + 4, hx => simp at hx
/-- Behind a store into the last one all is new still. -/
theorem BoxEnv.gr2 {w W : World} {l : List (Value × Value)} (h : BoxEnv w W l) {b : Nat} (hb : w.heap.size ≤ b) (x y : Value) : w.grownBy ((W.setCell ⟨b, 0, none⟩ x).setCell ⟨b, 1, none⟩ y) none :=
  grownBy_setCell_new _ (grownBy_setCell_new _ h.1 hb) hb

/-- The cells of the first boxes; the last one's, free. -/
theorem BoxEnv.two {w W : World} {x0 x1 x2 : Value × Value} (h : BoxEnv w W [x0, x1, x2]) : W.cell? ⟨w.heap.size, 0, none⟩ = some x0.1 ∧ W.cell? ⟨w.heap.size, 1, none⟩ = some x0.2 ∧ W.cell? ⟨w.heap.size + 1, 0, none⟩ = some x1.1 ∧ W.cell? ⟨w.heap.size + 1, 1, none⟩ = some x1.2 :=
  ⟨(h.2 0 _ rfl).c0, (h.2 0 _ rfl).c1, (h.2 1 _ rfl).c0, (h.2 1 _ rfl).c1⟩
theorem BoxEnv.third {w W : World} {x0 x1 x2 : Value × Value} {l : List (Value × Value)} (h : BoxEnv w W (x0 :: x1 :: x2 :: l)) : W.cell? ⟨w.heap.size + 1 + 1, 0, none⟩ = some x2.1 ∧ W.cell? ⟨w.heap.size + 1 + 1, 1, none⟩ = some x2.2 ∧ W.frozen? ⟨w.heap.size + 1 + 1, 0, none⟩ = false ∧ W.frozen? ⟨w.heap.size + 1 + 1, 1, none⟩ = false :=
  ⟨(h.2 2 _ rfl).c0, (h.2 2 _ rfl).c1, (h.2 2 _ rfl).free 0, (h.2 2 _ rfl).free 1⟩
theorem BoxEnv.set3 {w W : World} {x0 x1 x2 : Value × Value} (h : BoxEnv w W [x0, x1, x2]) (a b : Value) : BoxEnv w ((W.setCell ⟨w.heap.size + 1 + 1, 0, none⟩ a).setCell ⟨w.heap.size + 1 + 1, 1, none⟩ b) [x0, x1, (a, b)] := by
  have g1 := grownBy_setCell W ⟨w.heap.size + 1 + 1, 0, none⟩ a
  have g2 := grownBy_setCell (W.setCell ⟨w.heap.size + 1 + 1, 0, none⟩ a) ⟨w.heap.size + 1 + 1, 1, none⟩ b
  have hk : ∀ k x, k < 2 → BoxO W (w.heap.size + k) x.1 x.2 → BoxO ((W.setCell ⟨w.heap.size + 1 + 1, 0, none⟩ a).setCell ⟨w.heap.size + 1 + 1, 1, none⟩ b) (w.heap.size + k) (x : Value × Value).1 x.2 := by
    intro k x hk hx
    exact (hx.other g1 (by intro e; injection e with e; simp only at e; omega)).other g2 (by intro e; injection e with e; simp only at e; omega)
  refine ⟨h.gr2 (by omega) a b, fun k x hx => ?_⟩
  match k, hx with
  | 0, hx => exact hk 0 x (by omega) (h.2 0 x hx)
  | 1, hx => exact hk 1 x (by omega) (h.2 1 x hx)
  | 2, hx => cases hx; exact ((h.2 2 _ rfl).set0 a).set1 b
  | k + 3, hx => simp at hx

/-- What Sum answers. -/
def sumE (L : List ByteArray) (P : List (Int × Int)) (L' : List ByteArray) (P' : List (Int × Int)) : Int := if 40 < L.length + L'.length then 11 else if (chk L P == 0 && chk L' P' == 0) = true then 0 else 10

theorem idL_tame {n : Nat} (h : n ≤ 1000) : tameL (idL n) := by
  intro z hz
  unfold idL at hz
  obtain ⟨i, hi, rfl⟩ := List.mem_map.1 hz
  have := List.mem_range.1 hi
  omega

end Go.Proofs.YtemnbkenihldgaaDoor
/-! Package push: the contract of Equal. -/
namespace Go.Proofs.YtemnbkenihldgaaDoor
open Go.RowKit Go.Shelf

theorem objAt_wide {w : World} {p q : Option Addr} {n m lo hi : Nat} {L : List ByteArray} {P : List (Int × Int)} (h : ObjAt w lo hi p n q m L P) : ObjAt w 0 w.heap.size p n q m L P := by
  refine ⟨⟨h.ls.len, fun hn => ?_⟩, ⟨h.ps.len, fun hn => ?_⟩⟩
  · obtain ⟨b, off, e, q1, q2, q3, hc⟩ := h.ls.cell hn
    exact ⟨b, off, e, Nat.zero_le _, by omega, Nat.le_refl _, hc⟩
  · obtain ⟨b, off, e, q1, q2, q3, hc⟩ := h.ps.cell hn
    exact ⟨b, off, e, Nat.zero_le _, by omega, Nat.le_refl _, hc⟩

end Go.Proofs.YtemnbkenihldgaaDoor
/-! Package push: what Push needs: slices.Clone over ints, four boxes, facts on sums. -/
namespace Go.Proofs.YtemnbkenihldgaaDoor
open Go.RowKit Go.Shelf

/-- A copy of a slice of ints. -/
def CloneZPost (l : List Int) (w : World) (e : Ending) (w' : World) : Prop := ∃ p c, e = .returned (.slice p l.length c) ∧ ZsAt w' w.heap.size w'.heap.size p l.length l ∧ w.grownBy w' none

/-- The cells of four boxes. -/
theorem BoxEnv.three {w W : World} {x0 x1 x2 : Value × Value} {l : List (Value × Value)} (h : BoxEnv w W (x0 :: x1 :: x2 :: l)) : W.cell? ⟨w.heap.size, 0, none⟩ = some x0.1 ∧ W.cell? ⟨w.heap.size, 1, none⟩ = some x0.2 ∧ W.cell? ⟨w.heap.size + 1, 0, none⟩ = some x1.1 ∧ W.cell? ⟨w.heap.size + 1, 1, none⟩ = some x1.2 ∧ W.cell? ⟨w.heap.size + 1 + 1, 0, none⟩ = some x2.1 ∧ W.cell? ⟨w.heap.size + 1 + 1, 1, none⟩ = some x2.2 :=
  ⟨(h.2 0 _ rfl).c0, (h.2 0 _ rfl).c1, (h.2 1 _ rfl).c0, (h.2 1 _ rfl).c1, (h.2 2 _ rfl).c0, (h.2 2 _ rfl).c1⟩
theorem BoxEnv.fourth {w W : World} {x0 x1 x2 x3 : Value × Value} {l : List (Value × Value)} (h : BoxEnv w W (x0 :: x1 :: x2 :: x3 :: l)) : W.cell? ⟨w.heap.size + 1 + 1 + 1, 0, none⟩ = some x3.1 ∧ W.cell? ⟨w.heap.size + 1 + 1 + 1, 1, none⟩ = some x3.2 ∧ W.frozen? ⟨w.heap.size + 1 + 1 + 1, 0, none⟩ = false ∧ W.frozen? ⟨w.heap.size + 1 + 1 + 1, 1, none⟩ = false :=
  ⟨(h.2 3 _ rfl).c0, (h.2 3 _ rfl).c1, (h.2 3 _ rfl).free 0, (h.2 3 _ rfl).free 1⟩
theorem BoxEnv.set4 {w W : World} {x0 x1 x2 x3 : Value × Value} (h : BoxEnv w W [x0, x1, x2, x3]) (a b : Value) : BoxEnv w ((W.setCell ⟨w.heap.size + 1 + 1 + 1, 0, none⟩ a).setCell ⟨w.heap.size + 1 + 1 + 1, 1, none⟩ b) [x0, x1, x2, (a, b)] := by
  have g1 := grownBy_setCell W ⟨w.heap.size + 1 + 1 + 1, 0, none⟩ a
  have g2 := grownBy_setCell (W.setCell ⟨w.heap.size + 1 + 1 + 1, 0, none⟩ a) ⟨w.heap.size + 1 + 1 + 1, 1, none⟩ b
  have hk : ∀ k (x : Value × Value), k < 3 → BoxO W (w.heap.size + k) x.1 x.2 → BoxO ((W.setCell ⟨w.heap.size + 1 + 1 + 1, 0, none⟩ a).setCell ⟨w.heap.size + 1 + 1 + 1, 1, none⟩ b) (w.heap.size + k) x.1 x.2 := by
    intro k x hk hx
    exact (hx.other g1 (by intro e; injection e with e; simp only at e; omega)).other g2 (by intro e; injection e with e; simp only at e; omega)
  refine ⟨h.gr2 (by omega) a b, fun k x hx => ?_⟩
  match k, hx with
  | 0, hx => exact hk 0 x (by omega) (h.2 0 x hx)
  | 1, hx => exact hk 1 x (by omega) (h.2 1 x hx)
  | 2, hx => exact hk 2 x (by omega) (h.2 2 x hx)
  | 3, hx => cases hx; exact ((h.2 3 _ rfl).set0 a).set1 b
  | k + 4, hx => simp at hx

theorem RowZ.takeZ {w : World} {g : Nat} {l : List Int} (h : RowZ w g l) {n : Nat} (hn : n ≤ l.length) : ZsAt w g (g + 1) (some ⟨g, 0, none⟩) n (l.take n) := by
  refine ⟨by rw [List.length_take]; omega, fun _ => ⟨g, 0, rfl, Nat.le_refl _, by omega, h.lt, fun k hk => ?_⟩⟩
  rw [Nat.zero_add, List.getElem?_take_of_lt hk]
  exact h.cell (by omega)
theorem RowZ.dropZ {w : World} {g : Nat} {l : List Int} (h : RowZ w g l) {n m : Nat} (hn : n + m = l.length) : ZsAt w g (g + 1) (some ⟨g, n, none⟩) m (l.drop n) := by
  refine ⟨by rw [List.length_drop]; omega, fun _ => ⟨g, n, rfl, Nat.le_refl _, by omega, h.lt, fun k hk => ?_⟩⟩
  rw [List.getElem?_drop]
  exact h.cell (by omega)

theorem BoxO.far {W : World} {g b : Nat} {u v : Value} (h : BoxO W g u v) (hb : b ≠ g) (x y : Value) : ((W.setCell ⟨b, 0, none⟩ x).setCell ⟨b, 1, none⟩ y).cell? ⟨g, 0, none⟩ = some u ∧ ((W.setCell ⟨b, 0, none⟩ x).setCell ⟨b, 1, none⟩ y).cell? ⟨g, 1, none⟩ = some v := by
  have h1 := h.other (grownBy_setCell W ⟨b, 0, none⟩ x) (by intro e; injection e with e; exact hb e.symm)
  have h2 := h1.other (grownBy_setCell (W.setCell ⟨b, 0, none⟩ x) ⟨b, 1, none⟩ y) (by intro e; injection e with e; exact hb e.symm)
  exact ⟨h2.c0, h2.c1⟩

theorem lab_app {L L' : List ByteArray} (h : labErr L = 0) (h' : labErr L' = 0) (hl : L.length + L'.length ≤ 40) : labErr (L ++ L') = 0 := by
  have ha : ∀ {M : List ByteArray}, labErr M = 0 → M.all okS = true := by
    intro M hM
    have := lab_small hM
    unfold labErr at hM
    rw [if_neg (by omega)] at hM
    cases hb : M.all okS
    · rw [hb] at hM; cases hM
    · rfl
  exact lab_of_all (by rw [List.length_append]; omega) (by rw [List.all_append, ha h, ha h']; rfl)
theorem allIn_app {n n' : Nat} {P P' : List (Int × Int)} (h : allIn n P = true) (h' : allIn n' P' = true) : allIn (n + n') (P ++ shP n P') = true := by
  unfold allIn at h h' ⊢
  rw [List.all_eq_true] at h h' ⊢
  intro x hx
  rcases List.mem_append.1 hx with hx | hx
  · have h9 := of_decide_eq_true (h x hx)
    refine decide_eq_true ?_
    unfold inI at h9 ⊢
    omega
  · unfold shP at hx
    obtain ⟨y, hy, rfl⟩ := List.mem_map.1 hx
    have h9 := of_decide_eq_true (h' y hy)
    refine decide_eq_true ?_
    unfold inI at h9 ⊢
    simp only
    omega
theorem arB_hasZ {L L' : List ByteArray} {P P' : List (Int × Int)} {f : List Int} (h : arB L P L' P' f = true) : f.length = L.length ∧ ∀ z ∈ f, 0 ≤ z ∧ z < L'.length := by
  unfold arB at h
  simp only [Bool.and_eq_true] at h
  have hl := h.2.2.1
  unfold labB labK at hl
  simp only [Bool.and_eq_true, decide_eq_true_eq] at hl
  refine ⟨hl.1, fun z hz => ?_⟩
  obtain ⟨i, hi, rfl⟩ := List.getElem_of_mem hz
  have := (List.all_eq_true.1 hl.2) i (by simpa using hi)
  unfold lab1 at this
  rw [Bool.and_eq_true, hasZ_iff, List.getElem?_eq_getElem hi] at this
  exact this.1
theorem arB_tame {L L' : List ByteArray} {P P' : List (Int × Int)} {f : List Int} (h : arB L P L' P' f = true) (hl : L'.length ≤ 1000000) : tameL f := fun z hz => by
  have := (arB_hasZ h).2 z hz
  omega
theorem arB_chk {L L' : List ByteArray} {P P' : List (Int × Int)} {f : List Int} (h : arB L P L' P' f = true) : chk L P = 0 ∧ chk L' P' = 0 := by
  unfold arB at h
  simp only [Bool.and_eq_true, beq_iff_eq] at h
  exact ⟨h.1, h.2.1⟩

end Go.Proofs.YtemnbkenihldgaaDoor
/-! Package push: the contract of Push. -/
namespace Go.Proofs.YtemnbkenihldgaaDoor
open Go.RowKit Go.Shelf

end Go.Proofs.YtemnbkenihldgaaDoor
