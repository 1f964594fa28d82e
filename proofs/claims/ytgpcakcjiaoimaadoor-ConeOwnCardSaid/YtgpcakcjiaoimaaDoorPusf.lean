/- Package push: Sum, Equal, Push. -/
import Derived.Test.YtgpcakcjiaoimaaDoorPuse
import Derived.Test.YtgpcakcjiaoimaaDoorRefar
/-! Package push: the contract of Sum. -/
namespace Go.Proofs.YtgpcakcjiaoimaaDoor
open Go.RowKit Go.Shelf

/-- An object, two lists, an error: what is handed back, new. -/
def Res4 (L : List ByteArray) (P : List (Int × Int)) (I J : List Int) (r : Int) (w : World) (e : Ending) (w' : World) : Prop :=
  ∃ p c q d pi ci pj cj, e = .returned (.tuple #[.agg #[.slice p L.length c, .slice q P.length d], .slice pi I.length ci, .slice pj J.length cj, .int .i64 r]) ∧
    ObjAt w' w.heap.size w'.heap.size p L.length q P.length L P ∧ ZsAt w' w.heap.size w'.heap.size pi I.length I ∧ ZsAt w' w.heap.size w'.heap.size pj J.length J ∧ (p = none → c = 0) ∧ (q = none → d = 0) ∧ w.grownBy w' none
/-- The same with one list. -/
def Res3 (L : List ByteArray) (P : List (Int × Int)) (I : List Int) (r : Int) (w : World) (e : Ending) (w' : World) : Prop :=
  ∃ p c q d pi ci, e = .returned (.tuple #[.agg #[.slice p L.length c, .slice q P.length d], .slice pi I.length ci, .int .i64 r]) ∧
    ObjAt w' w.heap.size w'.heap.size p L.length q P.length L P ∧ ZsAt w' w.heap.size w'.heap.size pi I.length I ∧ (p = none → c = 0) ∧ (q = none → d = 0) ∧ w.grownBy w' none
theorem res4_nil {r : Int} {w w' : World} (h : w.grownBy w' none) : Res4 [] [] [] [] r w (.returned (.tuple #[.agg #[.slice none 0 0, .slice none 0 0], .slice none 0 0, .slice none 0 0, .int .i64 r])) w' :=
  ⟨none, 0, none, 0, none, 0, none, 0, rfl, ⟨strsAt_nil _ _ _, pairsAt_nil _ _ _⟩, zsAt_nil _ _ _, zsAt_nil _ _ _, fun _ => rfl, fun _ => rfl, h⟩
theorem res3_nil {r : Int} {w w' : World} (h : w.grownBy w' none) : Res3 [] [] [] r w (.returned (.tuple #[.agg #[.slice none 0 0, .slice none 0 0], .slice none 0 0, .int .i64 r])) w' :=
  ⟨none, 0, none, 0, none, 0, rfl, ⟨strsAt_nil _ _ _, pairsAt_nil _ _ _⟩, zsAt_nil _ _ _, fun _ => rfl, fun _ => rfl, h⟩
/-- Rows of their own, as an object. -/
theorem OwnObj.form {w : World} {base : Nat} {u v : Value} {L : List ByteArray} {P : List (Int × Int)} (h : OwnObj w base u v L P) : ∃ p c q d, u = .slice p L.length c ∧ v = .slice q P.length d ∧ ObjAt w base w.heap.size p L.length q P.length L P ∧ (p = none → c = 0) ∧ (q = none → d = 0) := by
  obtain ⟨p, c, q, d, rfl, rfl, ho⟩ := h.at
  refine ⟨p, c, q, d, rfl, rfl, ho, ?_, ?_⟩
  · rintro rfl
    rcases h.ls.2 with ⟨h5, _⟩ | ⟨g', cap, cur, h5, _⟩
    · injection h5
    · injection h5 with h6; cases h6
  · rintro rfl
    rcases h.ps.2 with ⟨h5, _⟩ | ⟨g', cap, cur, h5, _⟩
    · injection h5
    · injection h5 with h6; cases h6

/-- Objects side by side in a row, as tooLarge takes them. -/
theorem objs_two {w : World} {b : Nat} {u v u' v' : Value} {t : TypeId} {fz : Nat × Nat} (h : w.heap[b]? = some (.cells #[u, v, u', v'] t fz)) : w.cell? ⟨b, 0, none⟩ = some u ∧ w.cell? ⟨b, 1, none⟩ = some v ∧ w.cell? ⟨b, 2, none⟩ = some u' ∧ w.cell? ⟨b, 3, none⟩ = some v' := by
  simp [World.cell?, h]
theorem large_two (b : Nat) (p q p' q' : Option Addr) (n c m d n' c' m' d' : Nat) (r : Bool) (w : World) (hn : n ≤ 1000) (hn' : n' ≤ 1000) (h : w.heap[b]? = some (.cells #[.slice p n c, .slice q m d, .slice p' n' c', .slice q' m' d'] 25 (0, 0))) (hr : decide (40 < n + n') = r) :
    Calls Tryd.prog 37 #[.slice (some ⟨b, 0, none⟩) 2 2] w fun e w' => e = .returned (.bool r) ∧ w.grownBy w' none := by
  obtain ⟨h1, h2, h3, h4⟩ := objs_two h
  refine tooLarge_c 2 b (fun k => if k = 0 then p else p') (fun k => if k = 0 then q else q') (fun k => if k = 0 then n else n') (fun k => if k = 0 then c else c') (fun k => if k = 0 then m else m') (fun k => if k = 0 then d else d') r w (Nat.le_refl _) (by intro k _; by_cases e : k = 0 <;> simp [e] <;> omega) ?_ (Array.getElem?_eq_some_iff.1 h).1 (by simpa [sumN] using hr)
  intro k hk
  rcases (show k = 0 ∨ k = 1 by omega) with rfl | rfl
  · exact ⟨h1, h2⟩
  · exact ⟨h3, h4⟩
theorem large_one (b : Nat) (p q : Option Addr) (n c m d : Nat) (r : Bool) (w : World) (hn : n ≤ 1000) (h : w.heap[b]? = some (.cells #[.slice p n c, .slice q m d] 25 (0, 0))) (hr : decide (40 < n) = r) :
    Calls Tryd.prog 37 #[.slice (some ⟨b, 0, none⟩) 1 1] w fun e w' => e = .returned (.bool r) ∧ w.grownBy w' none := by
  refine tooLarge_c 1 b (fun _ => p) (fun _ => q) (fun _ => n) (fun _ => c) (fun _ => m) (fun _ => d) r w (by omega) (by intro k _; show n ≤ _; omega) ?_ (Array.getElem?_eq_some_iff.1 h).1 (by simpa [sumN] using hr)
  intro k hk
  obtain rfl : k = 0 := by omega
  exact ⟨by simp [World.cell?, h], by simp [World.cell?, h]⟩

/-- Boxes of objects, one behind the other, from w on. -/
def BoxEnv (w W : World) (l : List (Value × Value)) : Prop := w.grownBy W none ∧ ∀ k x, l[k]? = some x → BoxO W (w.heap.size + k) x.1 x.2
theorem BoxEnv.calm {w W W' : World} {l : List (Value × Value)} (h : BoxEnv w W l) (hg : W.grownBy W' none) : BoxEnv w W' l := ⟨grownBy_trans h.1 hg, fun k x hx => (h.2 k x hx).calm hg⟩
theorem boxEnv_three (w : World) (u v u' v' u2 v2 : Value) : BoxEnv w (((w.alloc (.cells #[u, v] 25)).alloc (.cells #[u', v'] 25)).alloc (.cells #[u2, v2] 25)) [(u, v), (u', v'), (u2, v2)] := by
  have g1 := World.grownBy_alloc w (.cells #[u, v] 25) none
  have g2 := World.grownBy_alloc (w.alloc (.cells #[u, v] 25)) (.cells #[u', v'] 25) none
  have g3 := World.grownBy_alloc ((w.alloc (.cells #[u, v] 25)).alloc (.cells #[u', v'] 25)) (.cells #[u2, v2] 25) none
  have b0 := BoxO.new w u v
  have b1 := BoxO.new (w.alloc (.cells #[u, v] 25)) u' v'
  have b2 := BoxO.new ((w.alloc (.cells #[u, v] 25)).alloc (.cells #[u', v'] 25)) u2 v2
  rw [World.size_alloc] at b1
  rw [World.size_alloc, World.size_alloc] at b2
  refine ⟨grownBy_trans g1 (grownBy_trans g2 g3), fun k x hx => ?_⟩
  match k, hx with
  | 0, hx => cases hx; exact b0.calm (grownBy_trans g2 g3)
  | 1, hx => cases hx; exact b1.calm g3
  | 2, hx => cases hx; exact b2
  | k + 3, hx => simp at hx
theorem boxEnv_four (w : World) (u v u' v' u2 v2 u3 v3 : Value) : BoxEnv w ((((w.alloc (.cells #[u, v] 25)).alloc (.cells #[u', v'] 25)).alloc (.cells #[u2, v2] 25)).alloc (.cells #[u3, v3] 25)) [(u, v), (u', v'), (u2, v2), (u3, v3)] := by
  have h3 := boxEnv_three w u v u' v' u2 v2
  have hs : (((w.alloc (.cells #[u, v] 25)).alloc (.cells #[u', v'] 25)).alloc (.cells #[u2, v2] 25)).heap.size = w.heap.size + 3 := by simp
  generalize ((w.alloc (.cells #[u, v] 25)).alloc (.cells #[u', v'] 25)).alloc (.cells #[u2, v2] 25) = W at *
  have g4 := World.grownBy_alloc W (.cells #[u3, v3] 25) none
  have b3 := BoxO.new W u3 v3
  rw [hs] at b3
  have h3' := h3.calm g4
  refine ⟨h3'.1, fun k x hx => ?_⟩
  match k, hx with
  | 0, hx => exact h3'.2 0 x hx
  | 1, hx => exact h3'.2 1 x hx
  | 2, hx => exact h3'.2 2 x hx
  | 3, hx => cases hx; exact b3
  | k + 4, hx => simp at hx
/-- Behind a store into the last one all is new still. -/
theorem BoxEnv.gr2 {w W : World} {l : List (Value × Value)} (h : BoxEnv w W l) {b : Nat} (hb : w.heap.size ≤ b) (x y : Value) : w.grownBy ((W.setCell ⟨b, 0, none⟩ x).setCell ⟨b, 1, none⟩ y) none :=
  grownBy_setCell_new _ (grownBy_setCell_new _ h.1 hb) hb

/-- The cells of the first boxes; the last one's, free. -/
theorem BoxEnv.two {w W : World} {x0 x1 x2 : Value × Value} (h : BoxEnv w W [x0, x1, x2]) : W.cell? ⟨w.heap.size, 0, none⟩ = some x0.1 ∧ W.cell? ⟨w.heap.size, 1, none⟩ = some x0.2 ∧ W.cell? ⟨w.heap.size + 1, 0, none⟩ = some x1.1 ∧ W.cell? ⟨w.heap.size + 1, 1, none⟩ = some x1.2 :=
  ⟨(h.2 0 _ rfl).c0, (h.2 0 _ rfl).c1, (h.2 1 _ rfl).c0, (h.2 1 _ rfl).c1⟩
theorem BoxEnv.third {w W : World} {x0 x1 x2 : Value × Value} {l : List (Value × Value)} (h : BoxEnv w W (x0 :: x1 :: x2 :: l)) : W.cell? ⟨w.heap.size + 1 + 1, 0, none⟩ = some x2.1 ∧ W.cell? ⟨w.heap.size + 1 + 1, 1, none⟩ = some x2.2 ∧ W.frozen? ⟨w.heap.size + 1 + 1, 0, none⟩ = false ∧ W.frozen? ⟨w.heap.size + 1 + 1, 1, none⟩ = false :=
  ⟨(h.2 2 _ rfl).c0, (h.2 2 _ rfl).c1, (h.2 2 _ rfl).free 0, (h.2 2 _ rfl).free 1⟩
theorem BoxEnv.set3 {w W : World} {x0 x1 x2 : Value × Value} (h : BoxEnv w W [x0, x1, x2]) (a b : Value) : BoxEnv w ((W.setCell ⟨w.heap.size + 1 + 1, 0, none⟩ a).setCell ⟨w.heap.size + 1 + 1, 1, none⟩ b) [x0, x1, (a, b)] := by
  have g1 := grownBy_setCell W ⟨w.heap.size + 1 + 1, 0, none⟩ a
  have g2 := grownBy_setCell (W.setCell ⟨w.heap.size + 1 + 1, 0, none⟩ a) ⟨w.heap.size + 1 + 1, 1, none⟩ b
  have hk : ∀ k x, k < 2 → BoxO W (w.heap.size + k) x.1 x.2 → BoxO ((W.setCell ⟨w.heap.size + 1 + 1, 0, none⟩ a).setCell ⟨w.heap.size + 1 + 1, 1, none⟩ b) (w.heap.size + k) (x : Value × Value).1 x.2 := by
    intro k x hk hx
    exact (hx.other g1 (by intro e; injection e with e; simp only at e; omega)).other g2 (by intro e; injection e with e; simp only at e; omega)
  refine ⟨h.gr2 (by omega) a b, fun k x hx => ?_⟩
  match k, hx with
  | 0, hx => exact hk 0 x (by omega) (h.2 0 x hx)
  | 1, hx => exact hk 1 x (by omega) (h.2 1 x hx)
  | 2, hx => cases hx; exact ((h.2 2 _ rfl).set0 a).set1 b
  | k + 3, hx => simp at hx

/-- What Sum answers. -/
def sumE (L : List ByteArray) (P : List (Int × Int)) (L' : List ByteArray) (P' : List (Int × Int)) : Int := if 40 < L.length + L'.length then 11 else if (chk L P == 0 && chk L' P' == 0) = true then 0 else 10

theorem idL_tame {n : Nat} (h : n ≤ 1000) : tameL (idL n) := by
  intro z hz
  unfold idL at hz
  obtain ⟨i, hi, rfl⟩ := List.mem_map.1 hz
  have := List.mem_range.1 hi
  omega

end Go.Proofs.YtgpcakcjiaoimaaDoor
/-! Package push: the contract of Equal. -/
namespace Go.Proofs.YtgpcakcjiaoimaaDoor
open Go.RowKit Go.Shelf

theorem objAt_wide {w : World} {p q : Option Addr} {n m lo hi : Nat} {L : List ByteArray} {P : List (Int × Int)} (h : ObjAt w lo hi p n q m L P) : ObjAt w 0 w.heap.size p n q m L P := by
  refine ⟨⟨h.ls.len, fun hn => ?_⟩, ⟨h.ps.len, fun hn => ?_⟩⟩
  · obtain ⟨b, off, e, q1, q2, q3, hc⟩ := h.ls.cell hn
    exact ⟨b, off, e, Nat.zero_le _, by omega, Nat.le_refl _, hc⟩
  · obtain ⟨b, off, e, q1, q2, q3, hc⟩ := h.ps.cell hn
    exact ⟨b, off, e, Nat.zero_le _, by omega, Nat.le_refl _, hc⟩

end Go.Proofs.YtgpcakcjiaoimaaDoor
/-! Package push: what Push needs: slices.Clone over ints, four boxes, facts on sums. -/
namespace Go.Proofs.YtgpcakcjiaoimaaDoor
open Go.RowKit Go.Shelf

/-- A copy of a slice of ints. -/
def CloneZPost (l : List Int) (w : World) (e : Ending) (w' : World) : Prop := ∃ p c, e = .returned (.slice p l.length c) ∧ ZsAt w' w.heap.size w'.heap.size p l.length l ∧ w.grownBy w' none

set_option maxRecDepth 20000 in
set_option maxHeartbeats 1000000 in
theorem cloneZ_c (ad : Addr) (n c lo hi : Nat) (l : List Int) (w : World) (h : ZsAt w lo hi (some ad) n l) (hs : n ≤ 1000) :
    Calls Tryd.prog 41 #[.slice (some ad) n c] w (CloneZPost l w) := by
  obtain ⟨i0, hi', hz0, hz1, hz2⟩ := info_parts Tryd.infoZ3
  have hg0 := World.grownBy_alloc w (.cells #[] 3) none
  have hnews := Lib.hid (zs_news (h.calm hg0))
  have HL := Lib.hid h.len
  have hzl : (zcells l).length = n := by rw [zcells_len, HL.out]
  have hown0 : Hid ((w.alloc (.cells #[] 3)).ownsRow w.heap.size 3 1 (.slice (some ⟨w.heap.size, 0, none⟩) 0 0) 0 []) := Lib.hid (World.ownsRow_made w #[] 0 (Nat.le_refl _) (by decide) (by simp))
  have HZL := Lib.hid hzl
  clear h hzl
  have he : ∀ w : World, (binOp .eql 26 (.slice (some ad) n c) (.slice none 0 0)).run Tryd.prog w = .ok (.bool false) w := fun _ => rfl
  go_enter Tryd.func41, Tryd.ntmps41
  go_wp2_with (at_builtin; refine wpList_append_own _ rfl _ _ 26 rfl w.heap.size 3 i0 (.int .i64 0) 1 8 Tryd.underlying26 hi' hz0 hz1 hz2 rfl (by decide) (.slice (some ⟨w.heap.size, 0, none⟩) 0 0) 0 [] rfl hown0.out ad n c (zcells l) rfl (by rw [HZL.out]; omega) hnews.out (zcells_one l) (by unfold maxLen; omega) (by omega) (by simp) ?_; intro v' w1 hown hgrow _)
  have HO := Lib.hid hown
  have HG : Hid (w.grownBy w1 none) := Lib.hid (by
    have hgrow' : (w.alloc (.cells #[] 3)).grownBy w1 (some w.heap.size) := by simpa [Value.ownBlock] using hgrow
    exact grownBy_new hg0 hgrow' (Nat.le_refl _))
  clear hown hgrow
  go_ret
  have ho : w1.ownsRow w.heap.size 3 1 v' l.length (zcells l) := by
    rw [HL.out]
    simpa using HO.out
  obtain ⟨p, c', rfl, hz⟩ := zsAt_own ho
  exact ⟨p, c', rfl, hz, HG.out⟩

/-- The cells of four boxes. -/
theorem BoxEnv.three {w W : World} {x0 x1 x2 : Value × Value} {l : List (Value × Value)} (h : BoxEnv w W (x0 :: x1 :: x2 :: l)) : W.cell? ⟨w.heap.size, 0, none⟩ = some x0.1 ∧ W.cell? ⟨w.heap.size, 1, none⟩ = some x0.2 ∧ W.cell? ⟨w.heap.size + 1, 0, none⟩ = some x1.1 ∧ W.cell? ⟨w.heap.size + 1, 1, none⟩ = some x1.2 ∧ W.cell? ⟨w.heap.size + 1 + 1, 0, none⟩ = some x2.1 ∧ W.cell? ⟨w.heap.size + 1 + 1, 1, none⟩ = some x2.2 :=
  ⟨(h.2 0 _ rfl).c0, (h.2 0 _ rfl).c1, (h.2 1 _ rfl).c0, (h.2 1 _ rfl).c1, (h.2 2 _ rfl).c0, (h.2 2 _ rfl).c1⟩
theorem BoxEnv.fourth {w W : World} {x0 x1 x2 x3 : Value × Value} {l : List (Value × Value)} (h : BoxEnv w W (x0 :: x1 :: x2 :: x3 :: l)) : W.cell? ⟨w.heap.size + 1 + 1 + 1, 0, none⟩ = some x3.1 ∧ W.cell? ⟨w.heap.size + 1 + 1 + 1, 1, none⟩ = some x3.2 ∧ W.frozen? ⟨w.heap.size + 1 + 1 + 1, 0, none⟩ = false ∧ W.frozen? ⟨w.heap.size + 1 + 1 + 1, 1, none⟩ = false :=
  ⟨(h.2 3 _ rfl).c0, (h.2 3 _ rfl).c1, (h.2 3 _ rfl).free 0, (h.2 3 _ rfl).free 1⟩
theorem BoxEnv.set4 {w W : World} {x0 x1 x2 x3 : Value × Value} (h : BoxEnv w W [x0, x1, x2, x3]) (a b : Value) : BoxEnv w ((W.setCell ⟨w.heap.size + 1 + 1 + 1, 0, none⟩ a).setCell ⟨w.heap.size + 1 + 1 + 1, 1, none⟩ b) [x0, x1, x2, (a, b)] := by
  have g1 := grownBy_setCell W ⟨w.heap.size + 1 + 1 + 1, 0, none⟩ a
  have g2 := grownBy_setCell (W.setCell ⟨w.heap.size + 1 + 1 + 1, 0, none⟩ a) ⟨w.heap.size + 1 + 1 + 1, 1, none⟩ b
  have hk : ∀ k (x : Value × Value), k < 3 → BoxO W (w.heap.size + k) x.1 x.2 → BoxO ((W.setCell ⟨w.heap.size + 1 + 1 + 1, 0, none⟩ a).setCell ⟨w.heap.size + 1 + 1 + 1, 1, none⟩ b) (w.heap.size + k) x.1 x.2 := by
    intro k x hk hx
    exact (hx.other g1 (by intro e; injection e with e; simp only at e; omega)).other g2 (by intro e; injection e with e; simp only at e; omega)
  refine ⟨h.gr2 (by omega) a b, fun k x hx => ?_⟩
  match k, hx with
  | 0, hx => exact hk 0 x (by omega) (h.2 0 x hx)
  | 1, hx => exact hk 1 x (by omega) (h.2 1 x hx)
  | 2, hx => exact hk 2 x (by omega) (h.2 2 x hx)
  | 3, hx => cases hx; exact ((h.2 3 _ rfl).set0 a).set1 b
  | k + 4, hx => simp at hx

theorem RowZ.takeZ {w : World} {g : Nat} {l : List Int} (h : RowZ w g l) {n : Nat} (hn : n ≤ l.length) : ZsAt w g (g + 1) (some ⟨g, 0, none⟩) n (l.take n) := by
  refine ⟨by rw [List.length_take]; omega, fun _ => ⟨g, 0, rfl, Nat.le_refl _, by omega, h.lt, fun k hk => ?_⟩⟩
  rw [Nat.zero_add, List.getElem?_take_of_lt hk]
  exact h.cell (by omega)
theorem RowZ.dropZ {w : World} {g : Nat} {l : List Int} (h : RowZ w g l) {n m : Nat} (hn : n + m = l.length) : ZsAt w g (g + 1) (some ⟨g, n, none⟩) m (l.drop n) := by
  refine ⟨by rw [List.length_drop]; omega, fun _ => ⟨g, n, rfl, Nat.le_refl _, by omega, h.lt, fun k hk => ?_⟩⟩
  rw [List.getElem?_drop]
  exact h.cell (by omega)

theorem BoxO.far {W : World} {g b : Nat} {u v : Value} (h : BoxO W g u v) (hb : b ≠ g) (x y : Value) : ((W.setCell ⟨b, 0, none⟩ x).setCell ⟨b, 1, none⟩ y).cell? ⟨g, 0, none⟩ = some u ∧ ((W.setCell ⟨b, 0, none⟩ x).setCell ⟨b, 1, none⟩ y).cell? ⟨g, 1, none⟩ = some v := by
  have h1 := h.other (grownBy_setCell W ⟨b, 0, none⟩ x) (by intro e; injection e with e; exact hb e.symm)
  have h2 := h1.other (grownBy_setCell (W.setCell ⟨b, 0, none⟩ x) ⟨b, 1, none⟩ y) (by intro e; injection e with e; exact hb e.symm)
  exact ⟨h2.c0, h2.c1⟩

theorem lab_app {L L' : List ByteArray} (h : labErr L = 0) (h' : labErr L' = 0) (hl : L.length + L'.length ≤ 40) : labErr (L ++ L') = 0 := by
  have ha : ∀ {M : List ByteArray}, labErr M = 0 → M.all okS = true := by
    intro M hM
    have := lab_small hM
    unfold labErr at hM
    rw [if_neg (by omega)] at hM
    cases hb : M.all okS
    · rw [hb] at hM; cases hM
    · rfl
  exact lab_of_all (by rw [List.length_append]; omega) (by rw [List.all_append, ha h, ha h']; rfl)
theorem allIn_app {n n' : Nat} {P P' : List (Int × Int)} (h : allIn n P = true) (h' : allIn n' P' = true) : allIn (n + n') (P ++ shP n P') = true := by
  unfold allIn at h h' ⊢
  rw [List.all_eq_true] at h h' ⊢
  intro x hx
  rcases List.mem_append.1 hx with hx | hx
  · have h9 := of_decide_eq_true (h x hx)
    refine decide_eq_true ?_
    unfold inI at h9 ⊢
    omega
  · unfold shP at hx
    obtain ⟨y, hy, rfl⟩ := List.mem_map.1 hx
    have h9 := of_decide_eq_true (h' y hy)
    refine decide_eq_true ?_
    unfold inI at h9 ⊢
    simp only
    omega
theorem arB_hasZ {L L' : List ByteArray} {P P' : List (Int × Int)} {f : List Int} (h : arB L P L' P' f = true) : f.length = L.length ∧ ∀ z ∈ f, 0 ≤ z ∧ z < L'.length := by
  unfold arB at h
  simp only [Bool.and_eq_true] at h
  have hl := h.2.2.1
  unfold labB labK at hl
  simp only [Bool.and_eq_true, decide_eq_true_eq] at hl
  refine ⟨hl.1, fun z hz => ?_⟩
  obtain ⟨i, hi, rfl⟩ := List.getElem_of_mem hz
  have := (List.all_eq_true.1 hl.2) i (by simpa using hi)
  unfold lab1 at this
  rw [Bool.and_eq_true, hasZ_iff, List.getElem?_eq_getElem hi] at this
  exact this.1
theorem arB_tame {L L' : List ByteArray} {P P' : List (Int × Int)} {f : List Int} (h : arB L P L' P' f = true) (hl : L'.length ≤ 1000000) : tameL f := fun z hz => by
  have := (arB_hasZ h).2 z hz
  omega
theorem arB_chk {L L' : List ByteArray} {P P' : List (Int × Int)} {f : List Int} (h : arB L P L' P' f = true) : chk L P = 0 ∧ chk L' P' = 0 := by
  unfold arB at h
  simp only [Bool.and_eq_true, beq_iff_eq] at h
  exact ⟨h.1, h.2.1⟩

end Go.Proofs.YtgpcakcjiaoimaaDoor
/-! Package push: the contract of Push. -/
namespace Go.Proofs.YtgpcakcjiaoimaaDoor
open Go.RowKit Go.Shelf

set_option maxRecDepth 20000 in
set_option maxHeartbeats 2000000 in
theorem push_large1 (p0 q0 p q p' q' pf pg : Option Addr) (n0 c0 m0 d0 n c m d n' c' m' d' nf cf ng cg : Nat) (w : World) (hn0 : n0 ≤ 1000) (h : 40 < n0) :
    Calls Tryd.prog 22 #[.agg #[.slice p0 n0 c0, .slice q0 m0 d0], .agg #[.slice p n c, .slice q m d], .agg #[.slice p' n' c', .slice q' m' d'], .slice pf nf cf, .slice pg ng cg] w (Res4 [] [] [] [] 11 w) := by
  have HR := Lib.hid (show decide (40 < n0) = true by simpa using h)
  clear h
  go_enter Tryd.func22, Tryd.ntmps22
  go_wp2_with fail
  have he := boxEnv_four w (.slice p0 n0 c0) (.slice q0 m0 d0) (.slice p n c) (.slice q m d) (.slice p' n' c') (.slice q' m' d') (.slice none 0 0) (.slice none 0 0)
  have hs : ((((w.alloc (.cells #[.slice p0 n0 c0, .slice q0 m0 d0] 25)).alloc (.cells #[.slice p n c, .slice q m d] 25)).alloc (.cells #[.slice p' n' c', .slice q' m' d'] 25)).alloc (.cells #[.slice none 0 0, .slice none 0 0] 25)).heap.size = w.heap.size + 1 + 1 + 1 + 1 := by simp
  generalize (((w.alloc (.cells #[.slice p0 n0 c0, .slice q0 m0 d0] 25)).alloc (.cells #[.slice p n c, .slice q m d] 25)).alloc (.cells #[.slice p' n' c', .slice q' m' d'] 25)).alloc (.cells #[.slice none 0 0, .slice none 0 0] 25) = W3 at *
  have hb := heap_alloc_new W3 (.cells #[.slice p0 n0 c0, .slice q0 m0 d0] 25)
  rw [hs] at hb
  have he4 := he.calm (World.grownBy_alloc W3 (.cells #[.slice p0 n0 c0, .slice q0 m0 d0] 25) none)
  refine (large_one _ p0 q0 n0 c0 m0 d0 true _ hn0 hb HR.out).mono ?_
  rintro e w1 ⟨rfl, hg1⟩
  have he1 := he4.calm hg1
  have HE1 := Lib.hid he1
  clear he he4 hg1 hb hs
  obtain ⟨b20, b21, f20, f21⟩ := he1.fourth
  have HG := Lib.hid (he1.gr2 (b := w.heap.size + 1 + 1 + 1) (by omega) (.slice none 0 0) (.slice none 0 0))
  clear he1
  go_wp2
  refine bodyPost_ret (v := .tuple #[.agg #[.slice none 0 0, .slice none 0 0], .slice none 0 0, .slice none 0 0, .int .i64 11]) (by simp [results, Tryd.results22, go_sem, b20, b21]) rfl (res4_nil HG.out)

set_option maxRecDepth 20000 in
set_option maxHeartbeats 2000000 in
theorem push_large2 (p0 q0 p q p' q' pf pg : Option Addr) (n0 c0 m0 d0 n c m d n' c' m' d' nf cf ng cg : Nat) (w : World) (hn40 : n0 ≤ 40) (hn : n ≤ 1000) (hn' : n' ≤ 1000) (h : 40 < n + n') :
    Calls Tryd.prog 22 #[.agg #[.slice p0 n0 c0, .slice q0 m0 d0], .agg #[.slice p n c, .slice q m d], .agg #[.slice p' n' c', .slice q' m' d'], .slice pf nf cf, .slice pg ng cg] w (Res4 [] [] [] [] 11 w) := by
  have hn0 : n0 ≤ 1000 := by omega
  have HR := Lib.hid (show decide (40 < n0) = false by simp; omega)
  have HR2 := Lib.hid (show decide (40 < n + n') = true by simpa using h)
  clear h
  go_enter Tryd.func22, Tryd.ntmps22
  go_wp2_with fail
  have he := boxEnv_four w (.slice p0 n0 c0) (.slice q0 m0 d0) (.slice p n c) (.slice q m d) (.slice p' n' c') (.slice q' m' d') (.slice none 0 0) (.slice none 0 0)
  have hs : ((((w.alloc (.cells #[.slice p0 n0 c0, .slice q0 m0 d0] 25)).alloc (.cells #[.slice p n c, .slice q m d] 25)).alloc (.cells #[.slice p' n' c', .slice q' m' d'] 25)).alloc (.cells #[.slice none 0 0, .slice none 0 0] 25)).heap.size = w.heap.size + 1 + 1 + 1 + 1 := by simp
  generalize (((w.alloc (.cells #[.slice p0 n0 c0, .slice q0 m0 d0] 25)).alloc (.cells #[.slice p n c, .slice q m d] 25)).alloc (.cells #[.slice p' n' c', .slice q' m' d'] 25)).alloc (.cells #[.slice none 0 0, .slice none 0 0] 25) = W3 at *
  have hb := heap_alloc_new W3 (.cells #[.slice p0 n0 c0, .slice q0 m0 d0] 25)
  rw [hs] at hb
  have he4 := he.calm (World.grownBy_alloc W3 (.cells #[.slice p0 n0 c0, .slice q0 m0 d0] 25) none)
  refine (large_one _ p0 q0 n0 c0 m0 d0 false _ hn0 hb HR.out).mono ?_
  rintro e w1 ⟨rfl, hg1⟩
  have he1 := he4.calm hg1
  have HE1 := Lib.hid he1
  clear he he4 hg1 hb hs
  obtain ⟨a00, a01, b00, b01, b10, b11⟩ := he1.three
  clear he1
  go_wp2_with fail
  have hb2 := heap_alloc_new w1 (.cells #[.slice p n c, .slice q m d, .slice p' n' c', .slice q' m' d'] 25)
  have he5 := HE1.out.calm (World.grownBy_alloc w1 (.cells #[.slice p n c, .slice q m d, .slice p' n' c', .slice q' m' d'] 25) none)
  refine (large_two _ p q p' q' n c m d n' c' m' d' true _ hn hn' hb2 HR2.out).mono ?_
  rintro e w2 ⟨rfl, hg2⟩
  have he2 := he5.calm hg2
  have HE2 := Lib.hid he2
  clear he5 hg2 hb2 HE1
  obtain ⟨b20, b21, f20, f21⟩ := he2.fourth
  have HG := Lib.hid (he2.gr2 (b := w.heap.size + 1 + 1 + 1) (by omega) (.slice none 0 0) (.slice none 0 0))
  clear he2
  go_wp2
  refine bodyPost_ret (v := .tuple #[.agg #[.slice none 0 0, .slice none 0 0], .slice none 0 0, .slice none 0 0, .int .i64 11]) (by simp [results, Tryd.results22, go_sem, b20, b21]) rfl (res4_nil HG.out)

set_option maxRecDepth 20000 in
set_option maxHeartbeats 2000000 in
theorem push_form (p0 q0 p q p' q' pf pg : Option Addr) (n0 c0 m0 d0 n c m d n' c' m' d' nf cf ng cg : Nat) (lo0 hi0 lo hi lo' hi' lof hif log hig : Nat) (L0 L L' : List ByteArray) (P0 P P' : List (Int × Int)) (f g : List Int) (w : World) (h0 : ObjAt w lo0 hi0 p0 n0 q0 m0 L0 P0) (h : ObjAt w lo hi p n q m L P) (h' : ObjAt w lo' hi' p' n' q' m' L' P') (hf : ZsAt w lof hif pf nf f) (hg : ZsAt w log hig pg ng g) (hm0 : m0 ≤ 400000) (hm : m ≤ 400000) (hm' : m' ≤ 400000) (hnf : nf ≤ 1000000) (hng : ng ≤ 1000000) (hn40 : n0 ≤ 40) (hl : n + n' ≤ 40) (hno : (arB L0 P0 L P f && arB L0 P0 L' P' g) = false) :
    Calls Tryd.prog 22 #[.agg #[.slice p0 n0 c0, .slice q0 m0 d0], .agg #[.slice p n c, .slice q m d], .agg #[.slice p' n' c', .slice q' m' d'], .slice pf nf cf, .slice pg ng cg] w (Res4 [] [] [] [] 10 w) := by
  have hn0 : n0 ≤ 1000 := by omega
  have hn : n ≤ 1000 := by omega
  have hn' : n' ≤ 1000 := by omega
  have HR := Lib.hid (show decide (40 < n0) = false by simp; omega)
  have HR2 := Lib.hid (show decide (40 < n + n') = false by simp; omega)
  have H0 := Lib.hid h0
  have H := Lib.hid (objAt_wide h)
  have H' := Lib.hid (objAt_wide h')
  have HF := Lib.hid hf
  have HG0 := Lib.hid hg
  have HNO := Lib.hid hno
  clear h0 h h' hf hg hno
  go_enter Tryd.func22, Tryd.ntmps22
  go_wp2_with fail
  have he := boxEnv_four w (.slice p0 n0 c0) (.slice q0 m0 d0) (.slice p n c) (.slice q m d) (.slice p' n' c') (.slice q' m' d') (.slice none 0 0) (.slice none 0 0)
  have hs : ((((w.alloc (.cells #[.slice p0 n0 c0, .slice q0 m0 d0] 25)).alloc (.cells #[.slice p n c, .slice q m d] 25)).alloc (.cells #[.slice p' n' c', .slice q' m' d'] 25)).alloc (.cells #[.slice none 0 0, .slice none 0 0] 25)).heap.size = w.heap.size + 1 + 1 + 1 + 1 := by simp
  generalize (((w.alloc (.cells #[.slice p0 n0 c0, .slice q0 m0 d0] 25)).alloc (.cells #[.slice p n c, .slice q m d] 25)).alloc (.cells #[.slice p' n' c', .slice q' m' d'] 25)).alloc (.cells #[.slice none 0 0, .slice none 0 0] 25) = W3 at *
  have hb := heap_alloc_new W3 (.cells #[.slice p0 n0 c0, .slice q0 m0 d0] 25)
  rw [hs] at hb
  have he4 := he.calm (World.grownBy_alloc W3 (.cells #[.slice p0 n0 c0, .slice q0 m0 d0] 25) none)
  refine (large_one _ p0 q0 n0 c0 m0 d0 false _ hn0 hb HR.out).mono ?_
  rintro e w1 ⟨rfl, hg1⟩
  have he1 := he4.calm hg1
  have HE1 := Lib.hid he1
  clear he he4 hg1 hb hs
  obtain ⟨a00, a01, b00, b01, b10, b11⟩ := he1.three
  clear he1
  go_wp2_with fail
  have hb2 := heap_alloc_new w1 (.cells #[.slice p n c, .slice q m d, .slice p' n' c', .slice q' m' d'] 25)
  have he5 := HE1.out.calm (World.grownBy_alloc w1 (.cells #[.slice p n c, .slice q m d, .slice p' n' c', .slice q' m' d'] 25) none)
  refine (large_two _ p q p' q' n c m d n' c' m' d' false _ hn hn' hb2 HR2.out).mono ?_
  rintro e w2 ⟨rfl, hg2⟩
  have he2 := he5.calm hg2
  have HE2 := Lib.hid he2
  clear he5 hg2 hb2 HE1
  have ha := H0.out.calm he2.1
  have ho := H.out.calm he2.1
  have hof := HF.out.calm he2.1
  obtain ⟨a00, a01, b00, b01, b10, b11⟩ := he2.three
  clear he2
  go_wp2_with fail
  cases hr1 : arB L0 P0 L P f with
  | false =>
    have HR1 := Lib.hid hr1
    clear hr1
    refine (arIs_r p0 q0 p q pf n0 c0 m0 d0 n c m d nf cf _ _ _ _ _ _ L0 L P0 P f false _ ha ho hof hnf (by omega) (by omega) HR1.out).mono ?_
    rintro e w3 ⟨rfl, hg3⟩
    have he3 := HE2.out.calm hg3
    clear ha ho hof hg3
    obtain ⟨b20, b21, f20, f21⟩ := he3.fourth
    have HG := Lib.hid (he3.gr2 (b := w.heap.size + 1 + 1 + 1) (by omega) (.slice none 0 0) (.slice none 0 0))
    clear he3
    go_wp2
    refine bodyPost_ret (v := .tuple #[.agg #[.slice none 0 0, .slice none 0 0], .slice none 0 0, .slice none 0 0, .int .i64 10]) (by simp [results, Tryd.results22, go_sem, b20, b21]) rfl (res4_nil HG.out)
  | true =>
    have HR1 := Lib.hid hr1
    have HR3 := Lib.hid (show arB L0 P0 L' P' g = false by have := HNO.out; rw [hr1] at this; simpa using this)
    clear hr1
    refine (arIs_r p0 q0 p q pf n0 c0 m0 d0 n c m d nf cf _ _ _ _ _ _ L0 L P0 P f true _ ha ho hof hnf (by omega) (by omega) HR1.out).mono ?_
    rintro e w3 ⟨rfl, hg3⟩
    have he3 := HE2.out.calm hg3
    have HE3 := Lib.hid he3
    have ha := H0.out.calm he3.1
    have ho' := H'.out.calm he3.1
    have hog := HG0.out.calm he3.1
    obtain ⟨a00, a01, b00, b01, b10, b11⟩ := he3.three
    clear hof hg3 he3 ho
    go_wp2_with fail
    refine (arIs_r p0 q0 p' q' pg n0 c0 m0 d0 n' c' m' d' ng cg _ _ _ _ _ _ L0 L' P0 P' g false _ ha ho' hog hng (by omega) (by omega) HR3.out).mono ?_
    rintro e w4 ⟨rfl, hg4⟩
    have he4 := HE3.out.calm hg4
    clear ha ho' hog hg4
    obtain ⟨b20, b21, f20, f21⟩ := he4.fourth
    have HG := Lib.hid (he4.gr2 (b := w.heap.size + 1 + 1 + 1) (by omega) (.slice none 0 0) (.slice none 0 0))
    clear he4
    go_wp2
    refine bodyPost_ret (v := .tuple #[.agg #[.slice none 0 0, .slice none 0 0], .slice none 0 0, .slice none 0 0, .int .i64 10]) (by simp [results, Tryd.results22, go_sem, b20, b21]) rfl (res4_nil HG.out)

set_option maxRecDepth 20000 in
set_option maxHeartbeats 4000000 in
theorem push_ok (p0 q0 p q p' q' pf pg : Option Addr) (n0 c0 m0 d0 n c m d n' c' m' d' nf cf cg : Nat) (lo0 hi0 lo hi lo' hi' lof hif log hig : Nat) (L0 L L' : List ByteArray) (P0 P P' : List (Int × Int)) (f g : List Int) (w : World) (h0 : ObjAt w lo0 hi0 p0 n0 q0 m0 L0 P0) (h : ObjAt w lo hi p n q m L P) (h' : ObjAt w lo' hi' p' n' q' m' L' P') (hf : ZsAt w lof hif pf nf f) (hg : ZsAt w log hig pg nf g) (hm0 : m0 ≤ 400000) (hm : m ≤ 400000) (hm' : m' ≤ 400000) (hnf : nf ≤ 1000000) (hn40 : n0 ≤ 40) (hl : n + n' ≤ 40) (hq1 : arB L0 P0 L P f = true) (hq2 : arB L0 P0 L' P' g = true) (ht : Tab w) (hp0 : p = none → c = 0) (hp0' : p' = none → c' = 0) (hq0 : q = none → d = 0) :
    Calls Tryd.prog 22 #[.agg #[.slice p0 n0 c0, .slice q0 m0 d0], .agg #[.slice p n c, .slice q m d], .agg #[.slice p' n' c', .slice q' m' d'], .slice pf nf cf, .slice pg nf cg] w (Res4 (labG (L ++ L') (joinsL (n + n') f (shL n g))) (gluP (joinsL (n + n') f (shL n g)) (P ++ shP n P')) ((atZ (joinsL (n + n') f (shL n g))).take n) ((atZ (joinsL (n + n') f (shL n g))).drop n) 0 w) := by
  have HLS := Lib.hid (show labErr (L ++ L') = 0 from lab_app (chk_in (arB_chk hq1).2).1 (chk_in (arB_chk hq2).2).1 (by rw [h.ls.len, h'.ls.len]; exact hl))
  have HINb := Lib.hid (show allIn n' P' = true by have := (chk_in (arB_chk hq2).2).2.2.1; rwa [h'.ls.len] at this)
  have HIN := Lib.hid (show allIn (n + n') (P ++ shP n P') = true from allIn_app (by have := (chk_in (arB_chk hq1).2).2.2.1; rwa [h.ls.len] at this) HINb.out)
  have HTM := Lib.hid (show tameL g from arB_tame hq2 (by rw [h'.ls.len]; omega))
  have HLA := Lib.hid (show (L ++ L').length = n + n' by rw [List.length_append, h.ls.len, h'.ls.len])
  have HPA := Lib.hid (show (P ++ shP n P').length = m + m' by rw [List.length_append, shP_len, h.ps.len, h'.ps.len])
  have HT := Lib.hid ht
  have HP0 := Lib.hid hp0
  have HP0' := Lib.hid hp0'
  have HQ0 := Lib.hid hq0
  have hn0 : n0 ≤ 1000 := by omega
  have hn : n ≤ 1000 := by omega
  have hn' : n' ≤ 1000 := by omega
  have HR := Lib.hid (show decide (40 < n0) = false by simp; omega)
  have HR2 := Lib.hid (show decide (40 < n + n') = false by simp; omega)
  have H0 := Lib.hid h0
  have H := Lib.hid (objAt_wide h)
  have H' := Lib.hid (objAt_wide h')
  have HF := Lib.hid hf
  have HG0 := Lib.hid hg
  have HR1 := Lib.hid hq1
  have HR3 := Lib.hid hq2
  have hm2 : m + m' ≤ 2000000 := by omega
  clear h0 h h' hf hg hq1 hq2 ht hp0 hp0' hq0
  go_enter Tryd.func22, Tryd.ntmps22
  go_wp2_with fail
  have he := boxEnv_four w (.slice p0 n0 c0) (.slice q0 m0 d0) (.slice p n c) (.slice q m d) (.slice p' n' c') (.slice q' m' d') (.slice none 0 0) (.slice none 0 0)
  have hs : ((((w.alloc (.cells #[.slice p0 n0 c0, .slice q0 m0 d0] 25)).alloc (.cells #[.slice p n c, .slice q m d] 25)).alloc (.cells #[.slice p' n' c', .slice q' m' d'] 25)).alloc (.cells #[.slice none 0 0, .slice none 0 0] 25)).heap.size = w.heap.size + 1 + 1 + 1 + 1 := by simp
  generalize (((w.alloc (.cells #[.slice p0 n0 c0, .slice q0 m0 d0] 25)).alloc (.cells #[.slice p n c, .slice q m d] 25)).alloc (.cells #[.slice p' n' c', .slice q' m' d'] 25)).alloc (.cells #[.slice none 0 0, .slice none 0 0] 25) = W3 at *
  have hb := heap_alloc_new W3 (.cells #[.slice p0 n0 c0, .slice q0 m0 d0] 25)
  rw [hs] at hb
  have he4 := he.calm (World.grownBy_alloc W3 (.cells #[.slice p0 n0 c0, .slice q0 m0 d0] 25) none)
  refine (large_one _ p0 q0 n0 c0 m0 d0 false _ hn0 hb HR.out).mono ?_
  rintro e w1 ⟨rfl, hg1⟩
  have he1 := he4.calm hg1
  have HE1 := Lib.hid he1
  clear he he4 hg1 hb hs
  obtain ⟨a00, a01, b00, b01, b10, b11⟩ := he1.three
  clear he1
  go_wp2_with fail
  have hb2 := heap_alloc_new w1 (.cells #[.slice p n c, .slice q m d, .slice p' n' c', .slice q' m' d'] 25)
  have he5 := HE1.out.calm (World.grownBy_alloc w1 (.cells #[.slice p n c, .slice q m d, .slice p' n' c', .slice q' m' d'] 25) none)
  refine (large_two _ p q p' q' n c m d n' c' m' d' false _ hn hn' hb2 HR2.out).mono ?_
  rintro e w2 ⟨rfl, hg2⟩
  have he2 := he5.calm hg2
  have HE2 := Lib.hid he2
  clear he5 hg2 hb2 HE1
  have ha := H0.out.calm he2.1
  have ho := H.out.calm he2.1
  have hof := HF.out.calm he2.1
  obtain ⟨a00, a01, b00, b01, b10, b11⟩ := he2.three
  clear he2
  go_wp2_with fail
  refine (arIs_r p0 q0 p q pf n0 c0 m0 d0 n c m d nf cf _ _ _ _ _ _ L0 L P0 P f true _ ha ho hof hnf (by omega) (by omega) HR1.out).mono ?_
  rintro e w3 ⟨rfl, hg3⟩
  have he3 := HE2.out.calm hg3
  have HE3 := Lib.hid he3
  have ha := H0.out.calm he3.1
  have ho' := H'.out.calm he3.1
  have hog := HG0.out.calm he3.1
  obtain ⟨a00, a01, b00, b01, b10, b11⟩ := he3.three
  clear hof hg3 he3 ho
  go_wp2_with fail
  refine (arIs_r p0 q0 p' q' pg n0 c0 m0 d0 n' c' m' d' nf cg _ _ _ _ _ _ L0 L' P0 P' g true _ ha ho' hog hnf (by omega) (by omega) HR3.out).mono ?_
  rintro e w4 ⟨rfl, hg4⟩
  have he4 := HE3.out.calm hg4
  have HE4 := Lib.hid he4
  have ho := H.out.calm he4.1
  have ho' := H'.out.calm he4.1
  obtain ⟨a00, a01, b00, b01, b10, b11⟩ := he4.three
  clear ha hog he4 hg4 HE2 HE3
  have hn6 : n ≤ 1000000 := by omega
  have hn6' : n' ≤ 1000000 := by omega
  go_wp2_with fail
  refine (beside_c p q p' q' n c m d n' c' m' d' 0 w.heap.size L L' P P' _ ho ho' hn6 hn6' (by omega) (by omega) HP0.out HP0'.out HQ0.out HINb.out).mono ?_
  rintro e w5 ⟨uA, vA, rfl, hoA, hg5⟩
  obtain ⟨pu, cu, pv, cv, rfl, rfl, hobA, _, _⟩ := hoA.form
  rw [HLA.out, HPA.out] at hobA ⊢
  have he5 := HE4.out.calm hg5
  have HE5 := Lib.hid he5
  have hog := HG0.out.calm he5.1
  have HOA := Lib.hid hobA
  clear ho ho' he5 hg5 hoA hobA HE4
  go_wp2_with fail
  refine (behind_c n pg nf cg _ _ g _ hog hn6 hnf HTM.out).mono ?_
  rintro e w6 ⟨gD, rfl, hgD0, hrD, hg6⟩
  have hsl : (shL n g).length = nf := by rw [shL_len]; exact hog.len
  rw [hsl]
  have HSL := Lib.hid hsl
  have he6 := HE5.out.calm hg6
  have HE6 := Lib.hid he6
  have ht6 := HT.out.grown he6.1 (by simp)
  have hof := HF.out.calm he6.1
  have hobA := HOA.out.calm hg6
  have hrD' := hrD.at1
  rw [hsl] at hrD'
  clear hog he6 hg6 hrD hsl HE5
  go_wp2_with fail
  refine (fold_c pu pv pf (some ⟨gD, 0, none⟩) (n + n') cu (m + m') cv nf cf nf _ _ _ _ _ _ (L ++ L') (P ++ shP n P') f (shL n g) _ hobA hof hrD' HLS.out (by omega) hnf HIN.out ht6).mono ?_
  rintro e w7 ⟨u, v, gb, rfl, hown, hgb, hrow, hg7⟩
  obtain ⟨pu2, cu2, pv2, cv2, rfl, rfl, hob, hx1, hx2⟩ := hown.form
  have HJL := Lib.hid (joinsL_len (n + n') f (shL n g))
  have he7 := HE6.out.calm hg7
  have hbase : w.heap.size + 1 + 1 + 1 < w6.heap.size := (HE6.out.2 3 _ rfl).lt
  clear ht6 hof hobA hrD' hown HE6
  generalize hJ : joinsL (n + n') f (shL n g) = J at hob hrow he7 HJL
  have HJ := Lib.hid hJ
  clear hJ
  go_wp2_with fail
  rw [HJ.out]
  have hbo := BoxO.new w7 (.slice pu2 (labG (L ++ L') J).length cu2) (.slice pv2 (gluP J (P ++ shP n P')).length cv2)
  have hga := World.grownBy_alloc w7 (.cells #[.slice pu2 (labG (L ++ L') J).length cu2, .slice pv2 (gluP J (P ++ shP n P')).length cv2] 25) none
  have hb7 := (he7.2 3 _ rfl).lt
  have hne7 : w.heap.size + 1 + 1 + 1 ≠ w7.heap.size := by
    have h9 : w.heap.size + 1 + 1 + 1 < w7.heap.size := hb7
    omega
  have hatl : (atZ J).length = n + n' := by rw [atZ_len, HJL.out]
  generalize hX : (labG (L ++ L') J).length = lX at *
  generalize hY : (gluP J (P ++ shP n P')).length = lY at *
  have HXY := Lib.hid (And.intro hX hY)
  clear hX hY
  generalize hw8 : w7.alloc (.cells #[.slice pu2 lX cu2, .slice pv2 lY cv2] 25) = w8 at *
  clear hw8
  have hd : w8.grownBy w8.drew none := grownBy_drewN w8 1 none
  have g8 := grownBy_trans hga hd
  have henv := he7.calm g8
  have hbs := hbo.calm hd
  have hrw := hrow.calm g8
  have HG8 := Lib.hid (show w7.heap.size ≤ w8.drew.heap.size from g8.size)
  have HOB := Lib.hid (hob.calm g8)
  have hbx := And.intro hbs.c0 hbs.c1
  have hszw : w6.heap.size ≤ w8.drew.heap.size := Nat.le_trans hg7.size g8.size
  have HATL := Lib.hid hatl
  have nn0 : (0 : Int) ≤ n := by omega
  have nn1 : (n : Int) ≤ (n : Int) + n' := by omega
  have HX12 := Lib.hid (And.intro hx1 hx2)
  have hn3 : n ≤ n + n' := by omega
  have HTK := Lib.hid (show ∀ W, RowZ W gb (atZ J) → ZsAt W gb (gb + 1) (some ⟨gb, 0, none⟩) n ((atZ J).take n) from fun W h => h.takeZ (by omega))
  have HDR := Lib.hid (show ∀ W, RowZ W gb (atZ J) → ZsAt W gb (gb + 1) (some ⟨gb, n, none⟩) n' ((atZ J).drop n) from fun W h => h.dropZ (by omega))
  have HTKL := Lib.hid (show ((atZ J).take n).length = n by rw [List.length_take, hatl]; omega)
  have HDRL := Lib.hid (show ((atZ J).drop n).length = n' by rw [List.length_drop, hatl]; omega)
  generalize hTKE : (atZ J).take n = TK at *
  generalize hDRE : (atZ J).drop n = DR at *
  have HTKE := Lib.hid hTKE
  have HDRE := Lib.hid hDRE
  clear hTKE hDRE
  clear hbo hga he7 hob hrow hatl hg7 g8 hx1 hx2
  obtain ⟨ad, hzz, HDR2⟩ : ∃ ad : Addr, ((n' = 0) = True ∧ ad = ⟨gb, 0, none⟩ ∨ (n' = 0) = False ∧ ad = ⟨gb, n, none⟩) ∧ Hid (∀ W, RowZ W gb (atZ J) → ZsAt W gb (gb + 1) (some ad) n' DR) := by
    rcases Nat.eq_zero_or_pos n' with hz | hz
    · exact ⟨⟨gb, 0, none⟩, .inl ⟨by simp [hz], rfl⟩, Lib.hid (fun W h => ⟨HDRL.out, fun hp => by omega⟩)⟩
    · exact ⟨⟨gb, n, none⟩, .inr ⟨by simp; omega, rfl⟩, HDR⟩
  clear HDR
  rcases hzz with ⟨hzz, rfl⟩ | ⟨hzz, rfl⟩
  all_goals
    go_region_held3 (fun w' => w'.cell? ⟨w7.heap.size, 0, none⟩ = some (.slice pu2 lX cu2) ∧ w'.cell? ⟨w7.heap.size, 1, none⟩ = some (.slice pv2 lY cv2)) (first | exact hbx | exact hbs.far hne7 _ _ | go_keep)
      (first
        | (go_at_call 41
           (first
            | ((with_reducible refine (cloneZ_c ⟨gb, 0, none⟩ n (n + n') gb (gb + 1) TK _ (HTK.out _ hrw) hn).mono ?_); rintro e wA ⟨pA, cA, rfl, hzA, hgA⟩; have henv := henv.calm hgA; have hbs := hbs.calm hgA; have hrw := hrw.calm hgA; have hbx := And.intro hbs.c0 hbs.c1; obtain ⟨b20, b21, f20, f21⟩ := henv.fourth)
            | ((with_reducible refine (cloneZ_c _ n' n' gb (gb + 1) DR _ (HDR2.out _ hrw) hn').mono ?_); rintro e wB ⟨pB, cB, rfl, hzB, hgB⟩; have henv := henv.calm hgB; have hbs := hbs.calm hgB; have hrw := hrw.calm hgB; have hbx := And.intro hbs.c0 hbs.c1; obtain ⟨b20, b21, f20, f21⟩ := henv.fourth))))
    all_goals
      have henvF := henv.set4 (.slice pu2 lX cu2) (.slice pv2 lY cv2)
      have q1 := grownBy_setCell wB ⟨w.heap.size + 1 + 1 + 1, 0, none⟩ (.slice pu2 lX cu2)
      have q2 := grownBy_setCell (wB.setCell ⟨w.heap.size + 1 + 1 + 1, 0, none⟩ (.slice pu2 lX cu2)) ⟨w.heap.size + 1 + 1 + 1, 1, none⟩ (.slice pv2 lY cv2)
      have k1 := Kept.row q1 (Nat.le_refl _) (Nat.lt_succ_self _)
      have k2 := Kept.row q2 (Nat.le_refl _) (Nat.lt_succ_self _)
      have hobF := (((HOB.out.calm hgA).calm hgB).set (a := ⟨w.heap.size + 1 + 1 + 1, 0, none⟩) (by show w.heap.size + 1 + 1 + 1 < w6.heap.size; exact hbase) (.slice pu2 lX cu2)).set (a := ⟨w.heap.size + 1 + 1 + 1, 1, none⟩) (by show w.heap.size + 1 + 1 + 1 < w6.heap.size; exact hbase) (.slice pv2 lY cv2)
      have hszA := hgA.size
      have hzAF := ((hzA.calm hgB).apart k1 (.inr (by show w.heap.size + 1 + 1 + 1 + 1 ≤ w8.drew.heap.size; omega))).apart k2 (.inr (by show w.heap.size + 1 + 1 + 1 + 1 ≤ w8.drew.heap.size; omega))
      have hzBF := (hzB.apart k1 (.inr (by show w.heap.size + 1 + 1 + 1 + 1 ≤ wA.heap.size; omega))).apart k2 (.inr (by show w.heap.size + 1 + 1 + 1 + 1 ≤ wA.heap.size; omega))
      have s1 := q1.size
      have s2 := q2.size
      have sB := hgB.size
      have s7 : w7.heap.size ≤ w8.drew.heap.size := HG8.out
      have HOF := Lib.hid (hobF.wider (lo' := w.heap.size) (by omega) (Nat.le_trans s7 (Nat.le_trans hszA (Nat.le_trans sB (Nat.le_trans s1 s2)))) (Nat.le_refl _))
      have HZA := Lib.hid (hzAF.wider (lo' := w.heap.size) (by omega) (Nat.le_trans sB (Nat.le_trans s1 s2)) (Nat.le_refl _))
      have HZB := Lib.hid (hzBF.wider (lo' := w.heap.size) (by omega) (Nat.le_trans s1 s2) (Nat.le_refl _))
      obtain ⟨c20, c21, _, _⟩ := henvF.fourth
      have HGF := Lib.hid henvF.1
      clear henv henvF q1 q2 k1 k2 hobF hzAF hzBF hzA hzB hgA hgB hbs hrw hbx b20 b21 f20 f21 s1 s2 sB s7
      generalize hWF : (wB.setCell ⟨w.heap.size + 1 + 1 + 1, 0, none⟩ (.slice pu2 lX cu2)).setCell ⟨w.heap.size + 1 + 1 + 1, 1, none⟩ (.slice pv2 lY cv2) = WF at *
      clear hWF
      go_wp2
      refine bodyPost_ret (v := .tuple #[.agg #[.slice pu2 lX cu2, .slice pv2 lY cv2], .slice pA TK.length cA, .slice pB DR.length cB, .int .i64 0]) (by simp [results, Tryd.results22, go_sem, c20, c21]) rfl ?_
      obtain ⟨rfl, rfl⟩ := HXY.out
      rw [HJ.out, HTKE.out, HDRE.out]
      exact ⟨pu2, cu2, pv2, cv2, pA, cA, pB, cB, rfl, HOF.out, HZA.out, HZB.out, HX12.out.1, HX12.out.2, HGF.out⟩

end Go.Proofs.YtgpcakcjiaoimaaDoor
