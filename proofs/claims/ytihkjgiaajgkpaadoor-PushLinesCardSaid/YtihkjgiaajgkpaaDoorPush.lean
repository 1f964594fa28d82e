/- Package push: what Push needs: slices.Clone over ints, four boxes, facts on sums. -/
import Derived.Test.YtihkjgiaajgkpaaDoorPusg
namespace Go.Proofs.YtihkjgiaajgkpaaDoor
open Go.RowKit Go.Shelf

/-- A copy of a slice of ints. -/
def CloneZPost (l : List Int) (w : World) (e : Ending) (w' : World) : Prop := ∃ p c, e = .returned (.slice p l.length c) ∧ ZsAt w' w.heap.size w'.heap.size p l.length l ∧ w.grownBy w' none

set_option maxRecDepth 20000 in
set_option maxHeartbeats 1000000 in
theorem cloneZ_c (ad : Addr) (n c lo hi : Nat) (l : List Int) (w : World) (h : ZsAt w lo hi (some ad) n l) (hs : n ≤ 1000) :
    Calls Tryd.prog 34 #[.slice (some ad) n c] w (CloneZPost l w) := by
  obtain ⟨i0, hi', hz0, hz1, hz2⟩ := info_parts Tryd.infoZ3
  have hg0 := World.grownBy_alloc w (.cells #[] 3) none
  have hnews := Lib.hid (zs_news (h.calm hg0))
  have HL := Lib.hid h.len
  have hzl : (zcells l).length = n := by rw [zcells_len, HL.out]
  have hown0 : Hid ((w.alloc (.cells #[] 3)).ownsRow w.heap.size 3 1 (.slice (some ⟨w.heap.size, 0, none⟩) 0 0) 0 []) := Lib.hid (World.ownsRow_made w #[] 0 (Nat.le_refl _) (by decide) (by simp))
  have HZL := Lib.hid hzl
  clear h hzl
  have he : ∀ w : World, (binOp .eql 26 (.slice (some ad) n c) (.slice none 0 0)).run Tryd.prog w = .ok (.bool false) w := fun _ => rfl
  go_enter Tryd.func34, Tryd.ntmps34
  go_wp2_with (at_builtin; refine wpList_append_own _ rfl _ _ 26 rfl w.heap.size 3 i0 (.int .i64 0) 1 8 Tryd.underlying26 hi' hz0 hz1 hz2 rfl (by decide) (.slice (some ⟨w.heap.size, 0, none⟩) 0 0) 0 [] rfl hown0.out ad n c (zcells l) rfl (by rw [HZL.out]; omega) hnews.out (zcells_one l) (by unfold maxLen; omega) (by omega) (by simp) ?_; intro v' w1 hown hgrow _)
  have HO := Lib.hid hown
  have HG : Hid (w.grownBy w1 none) := Lib.hid (by
    have hgrow' : (w.alloc (.cells #[] 3)).grownBy w1 (some w.heap.size) := by simpa [Value.ownBlock] using hgrow
    exact grownBy_new hg0 hgrow' (Nat.le_refl _))
  clear hown hgrow
  go_ret
  have ho : w1.ownsRow w.heap.size 3 1 v' l.length (zcells l) := by
    rw [HL.out]
    simpa using HO.out
  obtain ⟨p, c', rfl, hz⟩ := zsAt_own ho
  exact ⟨p, c', rfl, hz, HG.out⟩

/-- The cells of four boxes. -/
theorem BoxEnv.three {w W : World} {x0 x1 x2 : Value × Value} {l : List (Value × Value)} (h : BoxEnv w W (x0 :: x1 :: x2 :: l)) : W.cell? ⟨w.heap.size, 0, none⟩ = some x0.1 ∧ W.cell? ⟨w.heap.size, 1, none⟩ = some x0.2 ∧ W.cell? ⟨w.heap.size + 1, 0, none⟩ = some x1.1 ∧ W.cell? ⟨w.heap.size + 1, 1, none⟩ = some x1.2 ∧ W.cell? ⟨w.heap.size + 1 + 1, 0, none⟩ = some x2.1 ∧ W.cell? ⟨w.heap.size + 1 + 1, 1, none⟩ = some x2.2 :=
  ⟨(h.2 0 _ rfl).c0, (h.2 0 _ rfl).c1, (h.2 1 _ rfl).c0, (h.2 1 _ rfl).c1, (h.2 2 _ rfl).c0, (h.2 2 _ rfl).c1⟩
theorem BoxEnv.fourth {w W : World} {x0 x1 x2 x3 : Value × Value} {l : List (Value × Value)} (h : BoxEnv w W (x0 :: x1 :: x2 :: x3 :: l)) : W.cell? ⟨w.heap.size + 1 + 1 + 1, 0, none⟩ = some x3.1 ∧ W.cell? ⟨w.heap.size + 1 + 1 + 1, 1, none⟩ = some x3.2 ∧ W.frozen? ⟨w.heap.size + 1 + 1 + 1, 0, none⟩ = false ∧ W.frozen? ⟨w.heap.size + 1 + 1 + 1, 1, none⟩ = false :=
  ⟨(h.2 3 _ rfl).c0, (h.2 3 _ rfl).c1, (h.2 3 _ rfl).free 0, (h.2 3 _ rfl).free 1⟩
theorem BoxEnv.set4 {w W : World} {x0 x1 x2 x3 : Value × Value} (h : BoxEnv w W [x0, x1, x2, x3]) (a b : Value) : BoxEnv w ((W.setCell ⟨w.heap.size + 1 + 1 + 1, 0, none⟩ a).setCell ⟨w.heap.size + 1 + 1 + 1, 1, none⟩ b) [x0, x1, x2, (a, b)] := by
  have g1 := grownBy_setCell W ⟨w.heap.size + 1 + 1 + 1, 0, none⟩ a
  have g2 := grownBy_setCell (W.setCell ⟨w.heap.size + 1 + 1 + 1, 0, none⟩ a) ⟨w.heap.size + 1 + 1 + 1, 1, none⟩ b
  have hk : ∀ k (x : Value × Value), k < 3 → BoxO W (w.heap.size + k) x.1 x.2 → BoxO ((W.setCell ⟨w.heap.size + 1 + 1 + 1, 0, none⟩ a).setCell ⟨w.heap.size + 1 + 1 + 1, 1, none⟩ b) (w.heap.size + k) x.1 x.2 := by
    intro k x hk hx
    exact (hx.other g1 (by intro e; injection e with e; simp only at e; omega)).other g2 (by intro e; injection e with e; simp only at e; omega)
  refine ⟨h.gr2 (by omega) a b, fun k x hx => ?_⟩
  match k, hx with
  | 0, hx => exact hk 0 x (by omega) (h.2 0 x hx)
  | 1, hx => exact hk 1 x (by omega) (h.2 1 x hx)
  | 2, hx => exact hk 2 x (by omega) (h.2 2 x hx)
  | 3, hx => cases hx; exact ((h.2 3 _ rfl).set0 a).set1 b
  | k + 4, hx => simp at hx

theorem RowZ.takeZ {w : World} {g : Nat} {l : List Int} (h : RowZ w g l) {n : Nat} (hn : n ≤ l.length) : ZsAt w g (g + 1) (some ⟨g, 0, none⟩) n (l.take n) := by
  refine ⟨by rw [List.length_take]; omega, fun _ => ⟨g, 0, rfl, Nat.le_refl _, by omega, h.lt, fun k hk => ?_⟩⟩
  rw [Nat.zero_add, List.getElem?_take_of_lt hk]
  exact h.cell (by omega)
theorem RowZ.dropZ {w : World} {g : Nat} {l : List Int} (h : RowZ w g l) {n m : Nat} (hn : n + m = l.length) : ZsAt w g (g + 1) (some ⟨g, n, none⟩) m (l.drop n) := by
  refine ⟨by rw [List.length_drop]; omega, fun _ => ⟨g, n, rfl, Nat.le_refl _, by omega, h.lt, fun k hk => ?_⟩⟩
  rw [List.getElem?_drop]
  exact h.cell (by omega)

theorem BoxO.far {W : World} {g b : Nat} {u v : Value} (h : BoxO W g u v) (hb : b ≠ g) (x y : Value) : ((W.setCell ⟨b, 0, none⟩ x).setCell ⟨b, 1, none⟩ y).cell? ⟨g, 0, none⟩ = some u ∧ ((W.setCell ⟨b, 0, none⟩ x).setCell ⟨b, 1, none⟩ y).cell? ⟨g, 1, none⟩ = some v := by
  have h1 := h.other (grownBy_setCell W ⟨b, 0, none⟩ x) (by intro e; injection e with e; exact hb e.symm)
  have h2 := h1.other (grownBy_setCell (W.setCell ⟨b, 0, none⟩ x) ⟨b, 1, none⟩ y) (by intro e; injection e with e; exact hb e.symm)
  exact ⟨h2.c0, h2.c1⟩

theorem lab_app {L L' : List ByteArray} (h : labErr L = 0) (h' : labErr L' = 0) (hl : L.length + L'.length ≤ 40) : labErr (L ++ L') = 0 := by
  have ha : ∀ {M : List ByteArray}, labErr M = 0 → M.all okS = true := by
    intro M hM
    have := lab_small hM
    unfold labErr at hM
    rw [if_neg (by omega)] at hM
    cases hb : M.all okS
    · rw [hb] at hM; cases hM
    · rfl
  exact lab_of_all (by rw [List.length_append]; omega) (by rw [List.all_append, ha h, ha h']; rfl)
theorem allIn_app {n n' : Nat} {P P' : List (Int × Int)} (h : allIn n P = true) (h' : allIn n' P' = true) : allIn (n + n') (P ++ shP n P') = true := by
  unfold allIn at h h' ⊢
  rw [List.all_eq_true] at h h' ⊢
  intro x hx
  rcases List.mem_append.1 hx with hx | hx
  · have h9 := of_decide_eq_true (h x hx)
    refine decide_eq_true ?_
    unfold inI at h9 ⊢
    omega
  · unfold shP at hx
    obtain ⟨y, hy, rfl⟩ := List.mem_map.1 hx
    have h9 := of_decide_eq_true (h' y hy)
    refine decide_eq_true ?_
    unfold inI at h9 ⊢
    simp only
    omega
theorem arB_hasZ {L L' : List ByteArray} {P P' : List (Int × Int)} {f : List Int} (h : arB L P L' P' f = true) : f.length = L.length ∧ ∀ z ∈ f, 0 ≤ z ∧ z < L'.length := by
  unfold arB at h
  simp only [Bool.and_eq_true] at h
  have hl := h.2.2.1
  unfold labB labK at hl
  simp only [Bool.and_eq_true, decide_eq_true_eq] at hl
  refine ⟨hl.1, fun z hz => ?_⟩
  obtain ⟨i, hi, rfl⟩ := List.getElem_of_mem hz
  have := (List.all_eq_true.1 hl.2) i (by simpa using hi)
  unfold lab1 at this
  rw [Bool.and_eq_true, hasZ_iff, List.getElem?_eq_getElem hi] at this
  exact this.1
theorem arB_tame {L L' : List ByteArray} {P P' : List (Int × Int)} {f : List Int} (h : arB L P L' P' f = true) (hl : L'.length ≤ 1000000) : tameL f := fun z hz => by
  have := (arB_hasZ h).2 z hz
  omega
theorem arB_chk {L L' : List ByteArray} {P P' : List (Int × Int)} {f : List Int} (h : arB L P L' P' f = true) : chk L P = 0 ∧ chk L' P' = 0 := by
  unfold arB at h
  simp only [Bool.and_eq_true, beq_iff_eq] at h
  exact ⟨h.1, h.2.1⟩

end Go.Proofs.YtihkjgiaajgkpaaDoor
