/- Package push: the contract of Sum. -/
import Derived.Test.YtihkjgiaajgkpaaDoorPuse
import Derived.Test.YtihkjgiaajgkpaaDoorRefas
namespace Go.Proofs.YtihkjgiaajgkpaaDoor
open Go.RowKit Go.Shelf

/-- An object, two lists, an error: what is handed back, new. -/
def Res4 (L : List ByteArray) (P : List (Int × Int)) (I J : List Int) (r : Int) (w : World) (e : Ending) (w' : World) : Prop :=
  ∃ p c q d pi ci pj cj, e = .returned (.tuple #[.agg #[.slice p L.length c, .slice q P.length d], .slice pi I.length ci, .slice pj J.length cj, .int .i64 r]) ∧
    ObjAt w' w.heap.size w'.heap.size p L.length q P.length L P ∧ ZsAt w' w.heap.size w'.heap.size pi I.length I ∧ ZsAt w' w.heap.size w'.heap.size pj J.length J ∧ (p = none → c = 0) ∧ (q = none → d = 0) ∧ w.grownBy w' none
/-- The same with one list. -/
def Res3 (L : List ByteArray) (P : List (Int × Int)) (I : List Int) (r : Int) (w : World) (e : Ending) (w' : World) : Prop :=
  ∃ p c q d pi ci, e = .returned (.tuple #[.agg #[.slice p L.length c, .slice q P.length d], .slice pi I.length ci, .int .i64 r]) ∧
    ObjAt w' w.heap.size w'.heap.size p L.length q P.length L P ∧ ZsAt w' w.heap.size w'.heap.size pi I.length I ∧ (p = none → c = 0) ∧ (q = none → d = 0) ∧ w.grownBy w' none
theorem res4_nil {r : Int} {w w' : World} (h : w.grownBy w' none) : Res4 [] [] [] [] r w (.returned (.tuple #[.agg #[.slice none 0 0, .slice none 0 0], .slice none 0 0, .slice none 0 0, .int .i64 r])) w' :=
  ⟨none, 0, none, 0, none, 0, none, 0, rfl, ⟨strsAt_nil _ _ _, pairsAt_nil _ _ _⟩, zsAt_nil _ _ _, zsAt_nil _ _ _, fun _ => rfl, fun _ => rfl, h⟩
theorem res3_nil {r : Int} {w w' : World} (h : w.grownBy w' none) : Res3 [] [] [] r w (.returned (.tuple #[.agg #[.slice none 0 0, .slice none 0 0], .slice none 0 0, .int .i64 r])) w' :=
  ⟨none, 0, none, 0, none, 0, rfl, ⟨strsAt_nil _ _ _, pairsAt_nil _ _ _⟩, zsAt_nil _ _ _, fun _ => rfl, fun _ => rfl, h⟩
/-- Rows of their own, as an object. -/
theorem OwnObj.form {w : World} {base : Nat} {u v : Value} {L : List ByteArray} {P : List (Int × Int)} (h : OwnObj w base u v L P) : ∃ p c q d, u = .slice p L.length c ∧ v = .slice q P.length d ∧ ObjAt w base w.heap.size p L.length q P.length L P ∧ (p = none → c = 0) ∧ (q = none → d = 0) := by
  obtain ⟨p, c, q, d, rfl, rfl, ho⟩ := h.at
  refine ⟨p, c, q, d, rfl, rfl, ho, ?_, ?_⟩
  · rintro rfl
    rcases h.ls.2 with ⟨h5, _⟩ | ⟨g', cap, cur, h5, _⟩
    · injection h5
    · injection h5 with h6; cases h6
  · rintro rfl
    rcases h.ps.2 with ⟨h5, _⟩ | ⟨g', cap, cur, h5, _⟩
    · injection h5
    · injection h5 with h6; cases h6

/-- Objects side by side in a row, as tooLarge takes them. -/
theorem objs_two {w : World} {b : Nat} {u v u' v' : Value} {t : TypeId} {fz : Nat × Nat} (h : w.heap[b]? = some (.cells #[u, v, u', v'] t fz)) : w.cell? ⟨b, 0, none⟩ = some u ∧ w.cell? ⟨b, 1, none⟩ = some v ∧ w.cell? ⟨b, 2, none⟩ = some u' ∧ w.cell? ⟨b, 3, none⟩ = some v' := by
  simp [World.cell?, h]
theorem large_two (b : Nat) (p q p' q' : Option Addr) (n c m d n' c' m' d' : Nat) (r : Bool) (w : World) (hn : n ≤ 1000) (hn' : n' ≤ 1000) (h : w.heap[b]? = some (.cells #[.slice p n c, .slice q m d, .slice p' n' c', .slice q' m' d'] 25 (0, 0))) (hr : decide (40 < n + n') = r) :
    Calls Tryd.prog 30 #[.slice (some ⟨b, 0, none⟩) 2 2] w fun e w' => e = .returned (.bool r) ∧ w.grownBy w' none := by
  obtain ⟨h1, h2, h3, h4⟩ := objs_two h
  refine tooLarge_c 2 b (fun k => if k = 0 then p else p') (fun k => if k = 0 then q else q') (fun k => if k = 0 then n else n') (fun k => if k = 0 then c else c') (fun k => if k = 0 then m else m') (fun k => if k = 0 then d else d') r w (Nat.le_refl _) (by intro k _; by_cases e : k = 0 <;> simp [e] <;> omega) ?_ (Array.getElem?_eq_some_iff.1 h).1 (by simpa [sumN] using hr)
  intro k hk
  rcases (show k = 0 ∨ k = 1 by omega) with rfl | rfl
  · exact ⟨h1, h2⟩
  · exact ⟨h3, h4⟩
theorem large_one (b : Nat) (p q : Option Addr) (n c m d : Nat) (r : Bool) (w : World) (hn : n ≤ 1000) (h : w.heap[b]? = some (.cells #[.slice p n c, .slice q m d] 25 (0, 0))) (hr : decide (40 < n) = r) :
    Calls Tryd.prog 30 #[.slice (some ⟨b, 0, none⟩) 1 1] w fun e w' => e = .returned (.bool r) ∧ w.grownBy w' none := by
  refine tooLarge_c 1 b (fun _ => p) (fun _ => q) (fun _ => n) (fun _ => c) (fun _ => m) (fun _ => d) r w (by omega) (by intro k _; show n ≤ _; omega) ?_ (Array.getElem?_eq_some_iff.1 h).1 (by simpa [sumN] using hr)
  intro k hk
  obtain rfl : k = 0 := by omega
  exact ⟨by simp [World.cell?, h], by simp [World.cell?, h]⟩

/-- Boxes of objects, one behind the other, from w on. -/
def BoxEnv (w W : World) (l : List (Value × Value)) : Prop := w.grownBy W none ∧ ∀ k x, l[k]? = some x → BoxO W (w.heap.size + k) x.1 x.2
theorem BoxEnv.calm {w W W' : World} {l : List (Value × Value)} (h : BoxEnv w W l) (hg : W.grownBy W' none) : BoxEnv w W' l := ⟨grownBy_trans h.1 hg, fun k x hx => (h.2 k x hx).calm hg⟩
theorem boxEnv_three (w : World) (u v u' v' u2 v2 : Value) : BoxEnv w (((w.alloc (.cells #[u, v] 25)).alloc (.cells #[u', v'] 25)).alloc (.cells #[u2, v2] 25)) [(u, v), (u', v'), (u2, v2)] := by
  have g1 := World.grownBy_alloc w (.cells #[u, v] 25) none
  have g2 := World.grownBy_alloc (w.alloc (.cells #[u, v] 25)) (.cells #[u', v'] 25) none
  have g3 := World.grownBy_alloc ((w.alloc (.cells #[u, v] 25)).alloc (.cells #[u', v'] 25)) (.cells #[u2, v2] 25) none
  have b0 := BoxO.new w u v
  have b1 := BoxO.new (w.alloc (.cells #[u, v] 25)) u' v'
  have b2 := BoxO.new ((w.alloc (.cells #[u, v] 25)).alloc (.cells #[u', v'] 25)) u2 v2
  rw [World.size_alloc] at b1
  rw [World.size_alloc, World.size_alloc] at b2
  refine ⟨grownBy_trans g1 (grownBy_trans g2 g3), fun k x hx => ?_⟩
  match k, hx with
  | 0, hx => cases hx; exact b0.calm (grownBy_trans g2 g3)
  | 1, hx => cases hx; exact b1.calm g3
  | 2, hx => cases hx; exact b2
  | k + 3, hx => simp at hx
theorem boxEnv_four (w : World) (u v u' v' u2 v2 u3 v3 : Value) : BoxEnv w ((((w.alloc (.cells #[u, v] 25)).alloc (.cells #[u', v'] 25)).alloc (.cells #[u2, v2] 25)).alloc (.cells #[u3, v3] 25)) [(u, v), (u', v'), (u2, v2), (u3, v3)] := by
  have h3 := boxEnv_three w u v u' v' u2 v2
  have hs : (((w.alloc (.cells #[u, v] 25)).alloc (.cells #[u', v'] 25)).alloc (.cells #[u2, v2] 25)).heap.size = w.heap.size + 3 := by simp
  generalize ((w.alloc (.cells #[u, v] 25)).alloc (.cells #[u', v'] 25)).alloc (.cells #[u2, v2] 25) = W at *
  have g4 := World.grownBy_alloc W (.cells #[u3, v3] 25) none
  have b3 := BoxO.new W u3 v3
  rw [hs] at b3
  have h3' := h3.calm g4
  refine ⟨h3'.1, fun k x hx => ?_⟩
  match k, hx with
  | 0, hx => exact h3'.2 0 x hx
  | 1, hx => exact h3'.2 1 x hx
  | 2, hx => exact h3'.2 2 x hx
  | 3, hx => cases hx; exact b3
  | k + 4, hx => simp at hx
/-- Behind a store into the last one all is new still. -/
theorem BoxEnv.gr2 {w W : World} {l : List (Value × Value)} (h : BoxEnv w W l) {b : Nat} (hb : w.heap.size ≤ b) (x y : Value) : w.grownBy ((W.setCell ⟨b, 0, none⟩ x).setCell ⟨b, 1, none⟩ y) none :=
  grownBy_setCell_new _ (grownBy_setCell_new _ h.1 hb) hb

/-- The cells of the first boxes; the last one's, free. -/
theorem BoxEnv.two {w W : World} {x0 x1 x2 : Value × Value} (h : BoxEnv w W [x0, x1, x2]) : W.cell? ⟨w.heap.size, 0, none⟩ = some x0.1 ∧ W.cell? ⟨w.heap.size, 1, none⟩ = some x0.2 ∧ W.cell? ⟨w.heap.size + 1, 0, none⟩ = some x1.1 ∧ W.cell? ⟨w.heap.size + 1, 1, none⟩ = some x1.2 :=
  ⟨(h.2 0 _ rfl).c0, (h.2 0 _ rfl).c1, (h.2 1 _ rfl).c0, (h.2 1 _ rfl).c1⟩
theorem BoxEnv.third {w W : World} {x0 x1 x2 : Value × Value} {l : List (Value × Value)} (h : BoxEnv w W (x0 :: x1 :: x2 :: l)) : W.cell? ⟨w.heap.size + 1 + 1, 0, none⟩ = some x2.1 ∧ W.cell? ⟨w.heap.size + 1 + 1, 1, none⟩ = some x2.2 ∧ W.frozen? ⟨w.heap.size + 1 + 1, 0, none⟩ = false ∧ W.frozen? ⟨w.heap.size + 1 + 1, 1, none⟩ = false :=
  ⟨(h.2 2 _ rfl).c0, (h.2 2 _ rfl).c1, (h.2 2 _ rfl).free 0, (h.2 2 _ rfl).free 1⟩
theorem BoxEnv.set3 {w W : World} {x0 x1 x2 : Value × Value} (h : BoxEnv w W [x0, x1, x2]) (a b : Value) : BoxEnv w ((W.setCell ⟨w.heap.size + 1 + 1, 0, none⟩ a).setCell ⟨w.heap.size + 1 + 1, 1, none⟩ b) [x0, x1, (a, b)] := by
  have g1 := grownBy_setCell W ⟨w.heap.size + 1 + 1, 0, none⟩ a
  have g2 := grownBy_setCell (W.setCell ⟨w.heap.size + 1 + 1, 0, none⟩ a) ⟨w.heap.size + 1 + 1, 1, none⟩ b
  have hk : ∀ k x, k < 2 → BoxO W (w.heap.size + k) x.1 x.2 → BoxO ((W.setCell ⟨w.heap.size + 1 + 1, 0, none⟩ a).setCell ⟨w.heap.size + 1 + 1, 1, none⟩ b) (w.heap.size + k) (x : Value × Value).1 x.2 := by
    intro k x hk hx
    exact (hx.other g1 (by intro e; injection e with e; simp only at e; omega)).other g2 (by intro e; injection e with e; simp only at e; omega)
  refine ⟨h.gr2 (by omega) a b, fun k x hx => ?_⟩
  match k, hx with
  | 0, hx => exact hk 0 x (by omega) (h.2 0 x hx)
  | 1, hx => exact hk 1 x (by omega) (h.2 1 x hx)
  | 2, hx => cases hx; exact ((h.2 2 _ rfl).set0 a).set1 b
  | k + 3, hx => simp at hx

/-- What Sum answers. -/
def sumE (L : List ByteArray) (P : List (Int × Int)) (L' : List ByteArray) (P' : List (Int × Int)) : Int := if 40 < L.length + L'.length then 11 else if (chk L P == 0 && chk L' P' == 0) = true then 0 else 10

set_option maxRecDepth 20000 in
set_option maxHeartbeats 2000000 in
theorem sum_large (p q p' q' : Option Addr) (n c m d n' c' m' d' : Nat) (w : World) (hn : n ≤ 1000) (hn' : n' ≤ 1000) (h : 40 < n + n') :
    Calls Tryd.prog 16 #[.agg #[.slice p n c, .slice q m d], .agg #[.slice p' n' c', .slice q' m' d']] w (Res4 [] [] [] [] 11 w) := by
  have HR := Lib.hid (show decide (40 < n + n') = true by simpa using h)
  clear h
  go_enter Tryd.func16, Tryd.ntmps16
  go_wp2_with fail
  have he := boxEnv_three w (.slice p n c) (.slice q m d) (.slice p' n' c') (.slice q' m' d') (.slice none 0 0) (.slice none 0 0)
  have hs : (((w.alloc (.cells #[.slice p n c, .slice q m d] 25)).alloc (.cells #[.slice p' n' c', .slice q' m' d'] 25)).alloc (.cells #[.slice none 0 0, .slice none 0 0] 25)).heap.size = w.heap.size + 1 + 1 + 1 := by simp
  generalize ((w.alloc (.cells #[.slice p n c, .slice q m d] 25)).alloc (.cells #[.slice p' n' c', .slice q' m' d'] 25)).alloc (.cells #[.slice none 0 0, .slice none 0 0] 25) = W3 at *
  have hb := heap_alloc_new W3 (.cells #[.slice p n c, .slice q m d, .slice p' n' c', .slice q' m' d'] 25)
  rw [hs] at hb
  have he4 := he.calm (World.grownBy_alloc W3 (.cells #[.slice p n c, .slice q m d, .slice p' n' c', .slice q' m' d'] 25) none)
  refine (large_two _ p q p' q' n c m d n' c' m' d' true _ hn hn' hb HR.out).mono ?_
  rintro e w1 ⟨rfl, hg1⟩
  have he1 := he4.calm hg1
  have b2 := he1.2 2 _ rfl
  have b20 : w1.cell? ⟨w.heap.size + 1 + 1, 0, none⟩ = _ := b2.c0
  have b21 : w1.cell? ⟨w.heap.size + 1 + 1, 1, none⟩ = _ := b2.c1
  have f20 : w1.frozen? ⟨w.heap.size + 1 + 1, 0, none⟩ = _ := b2.free 0
  have f21 : w1.frozen? ⟨w.heap.size + 1 + 1, 1, none⟩ = _ := b2.free 1
  have HG := Lib.hid (he1.gr2 (b := w.heap.size + 1 + 1) (by omega) (.slice none 0 0) (.slice none 0 0))
  clear he he4 he1 b2 hg1 hb hs
  go_wp2
  refine bodyPost_ret (v := .tuple #[.agg #[.slice none 0 0, .slice none 0 0], .slice none 0 0, .slice none 0 0, .int .i64 11]) (by simp [results, Tryd.results16, go_sem, b20, b21]) rfl (res4_nil HG.out)

set_option maxRecDepth 20000 in
set_option maxHeartbeats 2000000 in
theorem sum_form (p q p' q' : Option Addr) (n c m d n' c' m' d' lo hi lo' hi' : Nat) (L L' : List ByteArray) (P P' : List (Int × Int)) (w : World) (h : ObjAt w lo hi p n q m L P) (h' : ObjAt w lo' hi' p' n' q' m' L' P') (hm : m ≤ 1000000) (hm' : m' ≤ 1000000) (hn : n ≤ 1000) (hn' : n' ≤ 1000) (hl : n + n' ≤ 40) (hno : (chk L P == 0 && chk L' P' == 0) = false) :
    Calls Tryd.prog 16 #[.agg #[.slice p n c, .slice q m d], .agg #[.slice p' n' c', .slice q' m' d']] w (Res4 [] [] [] [] 10 w) := by
  have HR := Lib.hid (show decide (40 < n + n') = false by simp; omega)
  have H := Lib.hid h
  have H' := Lib.hid h'
  have HNO := Lib.hid hno
  clear h h' hno
  go_enter Tryd.func16, Tryd.ntmps16
  go_wp2_with fail
  have he := boxEnv_three w (.slice p n c) (.slice q m d) (.slice p' n' c') (.slice q' m' d') (.slice none 0 0) (.slice none 0 0)
  have hs : (((w.alloc (.cells #[.slice p n c, .slice q m d] 25)).alloc (.cells #[.slice p' n' c', .slice q' m' d'] 25)).alloc (.cells #[.slice none 0 0, .slice none 0 0] 25)).heap.size = w.heap.size + 1 + 1 + 1 := by simp
  generalize ((w.alloc (.cells #[.slice p n c, .slice q m d] 25)).alloc (.cells #[.slice p' n' c', .slice q' m' d'] 25)).alloc (.cells #[.slice none 0 0, .slice none 0 0] 25) = W3 at *
  have hb := heap_alloc_new W3 (.cells #[.slice p n c, .slice q m d, .slice p' n' c', .slice q' m' d'] 25)
  rw [hs] at hb
  have he4 := he.calm (World.grownBy_alloc W3 (.cells #[.slice p n c, .slice q m d, .slice p' n' c', .slice q' m' d'] 25) none)
  refine (large_two _ p q p' q' n c m d n' c' m' d' false _ hn hn' hb HR.out).mono ?_
  rintro e w1 ⟨rfl, hg1⟩
  have he1 := he4.calm hg1
  have HE1 := Lib.hid he1
  have hbx := he1.two
  have ho1 := H.out.calm he1.1
  clear he he4 he1 hg1 hb hs
  obtain ⟨b00, b01, b10, b11⟩ := hbx
  go_wp2_with fail
  cases hr1 : (chk L P == 0) with
  | false =>
    have HR1 := Lib.hid hr1
    clear hr1
    refine (is_c p q n c m d _ _ L P false _ ho1 hm HR1.out).mono ?_
    rintro e w2 ⟨rfl, hg2⟩
    have he2 := HE1.out.calm hg2
    obtain ⟨b20, b21, f20, f21⟩ := he2.third
    have HG := Lib.hid (he2.gr2 (b := w.heap.size + 1 + 1) (by omega) (.slice none 0 0) (.slice none 0 0))
    clear he2 hg2 ho1
    go_wp2
    refine bodyPost_ret (v := .tuple #[.agg #[.slice none 0 0, .slice none 0 0], .slice none 0 0, .slice none 0 0, .int .i64 10]) (by simp [results, Tryd.results16, go_sem, b20, b21]) rfl (res4_nil HG.out)
  | true =>
    have HR1 := Lib.hid hr1
    have HR2 := Lib.hid (show (chk L' P' == 0) = false by have := HNO.out; rw [hr1] at this; simpa using this)
    clear hr1
    refine (is_c p q n c m d _ _ L P true _ ho1 hm HR1.out).mono ?_
    rintro e w2 ⟨rfl, hg2⟩
    have he2 := HE1.out.calm hg2
    have HE2 := Lib.hid he2
    have ho2 := H'.out.calm he2.1
    obtain ⟨b00, b01, b10, b11⟩ := he2.two
    clear he2 hg2 ho1
    go_wp2_with fail
    refine (is_c p' q' n' c' m' d' _ _ L' P' false _ ho2 hm' HR2.out).mono ?_
    rintro e w3 ⟨rfl, hg3⟩
    have he3 := HE2.out.calm hg3
    obtain ⟨b20, b21, f20, f21⟩ := he3.third
    have HG := Lib.hid (he3.gr2 (b := w.heap.size + 1 + 1) (by omega) (.slice none 0 0) (.slice none 0 0))
    clear he3 hg3 ho2
    go_wp2
    refine bodyPost_ret (v := .tuple #[.agg #[.slice none 0 0, .slice none 0 0], .slice none 0 0, .slice none 0 0, .int .i64 10]) (by simp [results, Tryd.results16, go_sem, b20, b21]) rfl (res4_nil HG.out)

theorem idL_tame {n : Nat} (h : n ≤ 1000) : tameL (idL n) := by
  intro z hz
  unfold idL at hz
  obtain ⟨i, hi, rfl⟩ := List.mem_map.1 hz
  have := List.mem_range.1 hi
  omega

set_option maxRecDepth 20000 in
set_option maxHeartbeats 4000000 in
theorem sum_ok (p q p' q' : Option Addr) (n c m d n' c' m' d' lo hi lo' hi' : Nat) (L L' : List ByteArray) (P P' : List (Int × Int)) (w : World) (h : ObjAt w lo hi p n q m L P) (h' : ObjAt w lo' hi' p' n' q' m' L' P') (hm : m ≤ 1000000) (hm' : m' ≤ 1000000) (hn : n ≤ 1000) (hn' : n' ≤ 1000) (hl : n + n' ≤ 40) (h1 : chk L P = 0) (h2 : chk L' P' = 0)
    (hp0 : p = none → c = 0) (hp0' : p' = none → c' = 0) (hq0 : q = none → d = 0) :
    Calls Tryd.prog 16 #[.agg #[.slice p n c, .slice q m d], .agg #[.slice p' n' c', .slice q' m' d']] w (Res4 (L ++ L') (P ++ shP n P') (idL n) (shL n (idL n')) 0 w) := by
  have HR := Lib.hid (show decide (40 < n + n') = false by simp; omega)
  have HIN : Hid (allIn n' P' = true) := Lib.hid (by have := (chk_in h2).2.2.1; rwa [h'.ls.len] at this)
  have hsz0 : 0 ≤ w.heap.size := Nat.zero_le _
  have hwid : ∀ {p q : Option Addr} {n m lo hi : Nat} {L : List ByteArray} {P : List (Int × Int)}, ObjAt w lo hi p n q m L P → ObjAt w 0 w.heap.size p n q m L P := fun h => by
    refine ⟨⟨h.ls.len, fun hn => ?_⟩, ⟨h.ps.len, fun hn => ?_⟩⟩
    · obtain ⟨b, off, e, q1, q2, q3, hc⟩ := h.ls.cell hn
      exact ⟨b, off, e, Nat.zero_le _, by omega, Nat.le_refl _, hc⟩
    · obtain ⟨b, off, e, q1, q2, q3, hc⟩ := h.ps.cell hn
      exact ⟨b, off, e, Nat.zero_le _, by omega, Nat.le_refl _, hc⟩
  have H := Lib.hid (hwid h)
  have H' := Lib.hid (hwid h')
  have HC := Lib.hid (show (chk L P == 0) = true by simpa using h1)
  have HC' := Lib.hid (show (chk L' P' == 0) = true by simpa using h2)
  have HP0 := Lib.hid hp0
  have HP0' := Lib.hid hp0'
  have HQ0 := Lib.hid hq0
  have HLL := Lib.hid h.ls.len
  have HLL' := Lib.hid h'.ls.len
  clear h h' h1 h2 hwid hp0 hp0' hq0
  go_enter Tryd.func16, Tryd.ntmps16
  go_wp2_with fail
  have he := boxEnv_three w (.slice p n c) (.slice q m d) (.slice p' n' c') (.slice q' m' d') (.slice none 0 0) (.slice none 0 0)
  have hs : (((w.alloc (.cells #[.slice p n c, .slice q m d] 25)).alloc (.cells #[.slice p' n' c', .slice q' m' d'] 25)).alloc (.cells #[.slice none 0 0, .slice none 0 0] 25)).heap.size = w.heap.size + 1 + 1 + 1 := by simp
  generalize ((w.alloc (.cells #[.slice p n c, .slice q m d] 25)).alloc (.cells #[.slice p' n' c', .slice q' m' d'] 25)).alloc (.cells #[.slice none 0 0, .slice none 0 0] 25) = W3 at *
  have hb := heap_alloc_new W3 (.cells #[.slice p n c, .slice q m d, .slice p' n' c', .slice q' m' d'] 25)
  rw [hs] at hb
  have he4 := he.calm (World.grownBy_alloc W3 (.cells #[.slice p n c, .slice q m d, .slice p' n' c', .slice q' m' d'] 25) none)
  refine (large_two _ p q p' q' n c m d n' c' m' d' false _ hn hn' hb HR.out).mono ?_
  rintro e w1 ⟨rfl, hg1⟩
  have he1 := he4.calm hg1
  have HE1 := Lib.hid he1
  have hbx := he1.two
  have ho1 := H.out.calm he1.1
  clear he he4 he1 hg1 hb hs
  obtain ⟨b00, b01, b10, b11⟩ := hbx
  go_wp2_with fail
  refine (is_c p q n c m d _ _ L P true _ ho1 hm HC.out).mono ?_
  rintro e w2 ⟨rfl, hg2⟩
  have he2 := HE1.out.calm hg2
  have HE2 := Lib.hid he2
  have ho2 := H'.out.calm he2.1
  obtain ⟨b00, b01, b10, b11⟩ := he2.two
  clear he2 hg2 ho1 HE1
  go_wp2_with fail
  refine (is_c p' q' n' c' m' d' _ _ L' P' true _ ho2 hm' HC'.out).mono ?_
  rintro e w3 ⟨rfl, hg3⟩
  have he3 := HE2.out.calm hg3
  have HE3 := Lib.hid he3
  obtain ⟨b00, b01, b10, b11⟩ := he3.two
  clear hg3 ho2 HE2
  go_wp2_with fail
  have henv := HE3.out.calm (grownBy_drewN w3 1 none)
  have HE4 := HE3
  have hbx := henv.two
  clear he3 HE3
  have hn6 : n ≤ 1000000 := by omega
  have hn6' : n' ≤ 1000000 := by omega
  have hid1 := Lib.hid (idN_nat (n := n) (by omega))
  have hid2 := Lib.hid (idN_nat (n := n') (by omega))
  go_region_held3 (fun w' => w'.cell? ⟨w.heap.size, 0, none⟩ = some (.slice p n c) ∧ w'.cell? ⟨w.heap.size, 1, none⟩ = some (.slice q m d) ∧ w'.cell? ⟨w.heap.size + 1, 0, none⟩ = some (.slice p' n' c') ∧ w'.cell? ⟨w.heap.size + 1, 1, none⟩ = some (.slice q' m' d')) (first | exact hbx | exact (henv.set3 _ _).two | go_keep)
    (first
      | (go_at_call 32; refine (beside_c p q p' q' n c m d n' c' m' d' 0 w.heap.size L L' P P' _ (H.out.calm henv.1) (H'.out.calm henv.1) hn6 hn6' hm hm' HP0.out HP0'.out HQ0.out HIN.out).mono ?_; rintro e wA ⟨uA, vA, rfl, hoA, hgA⟩; obtain ⟨pu, cu, pv, cv, rfl, rfl, hobA, hnA1, hnA2⟩ := hoA.form; have hszA := henv.1.size; have hobA := hobA; have henv := henv.calm hgA; have hbx := henv.two; obtain ⟨b20, b21, f20, f21⟩ := henv.third)
      | (go_at_call 23
         (first
          | ((with_reducible refine (ident_c (n : Int) n _ hid1.out).mono ?_); rintro e wB ⟨gB, rfl, hgB0, hrB, hgB⟩; have hszB := hgB.size; have henv := henv.calm hgB; have hbx := henv.two; obtain ⟨b20, b21, f20, f21⟩ := henv.third)
          | ((with_reducible refine (ident_c (n' : Int) n' _ hid2.out).mono ?_); rintro e wC ⟨gC, rfl, hgC0, hrC, hgC⟩; have hszC := hgC.size; have henv := henv.calm hgC; have hbx := henv.two; obtain ⟨b20, b21, f20, f21⟩ := henv.third)))
      | (go_at_call 33; refine (behind_c n (some ⟨gC, 0, none⟩) (idL n').length (idL n').length _ _ (idL n') _ hrC.at1 (by omega) (by rw [idL_len]; omega) (idL_tame hn')).mono ?_; rintro e wD ⟨gD, rfl, hgD0, hrD, hgD⟩; have hszD := hgD.size; have henv := henv.calm hgD; have hbx := henv.two; obtain ⟨b20, b21, f20, f21⟩ := henv.third))
  all_goals
    have hbase : w.heap.size + 1 + 1 < w3.heap.size := (HE4.out.2 2 _ rfl).lt
    have henvF := henv.set3 (.slice pu (L ++ L').length cu) (.slice pv (P ++ shP n P').length cv)
    have q1 := grownBy_setCell wD ⟨w.heap.size + 1 + 1, 0, none⟩ (.slice pu (L ++ L').length cu)
    have q2 := grownBy_setCell (wD.setCell ⟨w.heap.size + 1 + 1, 0, none⟩ (.slice pu (L ++ L').length cu)) ⟨w.heap.size + 1 + 1, 1, none⟩ (.slice pv (P ++ shP n P').length cv)
    have hobD := (((hobA.calm hgB).calm hgC).calm hgD)
    have hobF := (hobD.set (a := ⟨w.heap.size + 1 + 1, 0, none⟩) (by show w.heap.size + 1 + 1 < w3.drew.heap.size; exact hbase) (.slice pu (L ++ L').length cu)).set (a := ⟨w.heap.size + 1 + 1, 1, none⟩) (by show w.heap.size + 1 + 1 < w3.drew.heap.size; exact hbase) (.slice pv (P ++ shP n P').length cv)
    have hszA2 : w3.heap.size ≤ wA.heap.size := hgA.size
    have hrBF := (((hrB.calm hgC).calm hgD).other q1 (by show w.heap.size + 1 + 1 ≠ gB; omega)).other q2 (by show w.heap.size + 1 + 1 ≠ gB; omega)
    have hrDF := (hrD.other q1 (by show w.heap.size + 1 + 1 ≠ gD; omega)).other q2 (by show w.heap.size + 1 + 1 ≠ gD; omega)
    have hsF := henvF.1.size
    have hszF := q2.size
    have hszF1 := q1.size
    have HOB := Lib.hid (hobF.wider (lo' := w.heap.size) (by show w.heap.size ≤ w3.drew.heap.size; show w.heap.size ≤ w3.heap.size; omega) (Nat.le_trans (by omega) (Nat.le_trans hszF1 hszF)) (Nat.le_refl _))
    have HRB := Lib.hid (hrBF.at (lo := w.heap.size) (by omega))
    have HRD := Lib.hid (hrDF.at (lo := w.heap.size) (by omega))
    obtain ⟨c20, c21, _, _⟩ := henvF.third
    have HGF := Lib.hid henvF.1
    have HLA := Lib.hid (show (L ++ L').length = L.length + L'.length by simp)
    have HPA := Lib.hid (show (P ++ shP n P').length = P.length + (shP n P').length by simp)
    have HN1 := Lib.hid hnA1
    have HN2 := Lib.hid hnA2
    rw [HLA.out, HPA.out] at c20 c21 HOB HGF HRB HRD
    clear hobA hobD hobF hrB hrC hrD hrBF hrDF henv henvF q1 q2 hbx b20 b21 f20 f21 hnA1 hnA2 hgA hgB hgC hgD
    generalize hWF : (wD.setCell ⟨w.heap.size + 1 + 1, 0, none⟩ (.slice pu (L.length + L'.length) cu)).setCell ⟨w.heap.size + 1 + 1, 1, none⟩ (.slice pv (P.length + (shP n P').length) cv) = WF at *
    go_wp2
    refine bodyPost_ret (v := .tuple #[.agg #[.slice pu (L.length + L'.length) cu, .slice pv (P.length + (shP n P').length) cv], .slice (some ⟨gB, 0, none⟩) (idL n).length (idL n).length, .slice (some ⟨gD, 0, none⟩) (shL n (idL n')).length (shL n (idL n')).length, .int .i64 0]) (by simp [results, Tryd.results16, go_sem, c20, c21]) rfl ?_
    refine ⟨pu, cu, pv, cv, _, _, _, _, by rw [HLA.out, HPA.out], ?_, HRB.out, HRD.out, HN1.out, HN2.out, HGF.out⟩
    rw [HLA.out, HPA.out]
    exact HOB.out

end Go.Proofs.YtihkjgiaajgkpaaDoor
