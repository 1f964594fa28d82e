/- The contracts of Copy and Make of package obj. -/
import Derived.Test.YtdolcdededmlhaaDoorSame4
namespace Go.Proofs.YtdolcdededmlhaaDoor
open Go.RowKit

/-- An object in rows of its own. -/
structure OwnObj (w : World) (base : Nat) (u v : Value) (L : List ByteArray) (P : List (Int × Int)) : Prop where
  ls : w.ownsRow base 9 1 u L.length (scells L)
  ps : w.ownsRow base 38 2 v P.length (pcells P)

theorem OwnObj.at {w : World} {base : Nat} {u v : Value} {L : List ByteArray} {P : List (Int × Int)} (h : OwnObj w base u v L P) : ∃ p c q d, u = .slice p L.length c ∧ v = .slice q P.length d ∧ ObjAt w base w.heap.size p L.length q P.length L P := by
  obtain ⟨p, c, rfl, hp⟩ := strsAt_own h.ls
  obtain ⟨q, d, rfl, hq⟩ := pairsAt_own h.ps
  exact ⟨p, c, q, d, rfl, rfl, hp, hq⟩

theorem ownsRow_calm {w w' : World} {base : Nat} {e : TypeId} {size n : Nat} {v : Value} {xs : List Value} (h : w.ownsRow base e size v n xs) (hg : w.grownBy w' none) : w'.ownsRow base e size v n xs := by
  refine ⟨h.1, ?_⟩
  rcases h.2 with ⟨rfl, h0⟩ | ⟨g, cap, cur, rfl, hb, hh, h1, h2, h3, h4⟩
  · exact .inl ⟨rfl, h0⟩
  · exact .inr ⟨g, cap, cur, rfl, hb, (hg.block g (Array.getElem?_eq_some_iff.1 hh).1 (by simp)).trans hh, h1, h2, h3, h4⟩
theorem ownsRow_down {w : World} {base base' : Nat} {e : TypeId} {size n : Nat} {v : Value} {xs : List Value} (h : w.ownsRow base e size v n xs) (hb' : base' ≤ base) : w.ownsRow base' e size v n xs := by
  refine ⟨h.1, ?_⟩
  rcases h.2 with ⟨rfl, h0⟩ | ⟨g, cap, cur, rfl, hb, hh, h1, h2, h3, h4⟩
  · exact .inl ⟨rfl, h0⟩
  · exact .inr ⟨g, cap, cur, rfl, Nat.le_trans hb' hb, hh, h1, h2, h3, h4⟩

def CopyPost' (L : List ByteArray) (P : List (Int × Int)) (w : World) (e : Ending) (w' : World) : Prop :=
  ∃ u v, e = .returned (.agg #[u, v]) ∧ OwnObj w' w.heap.size u v L P ∧ w.grownBy w' none

/-- The last block, laid by a call's beginning, can still be written. -/
theorem box2f {w w1 : World} {x y : Value} {t : TypeId} (hg : (w.alloc (.cells #[x, y] t)).grownBy w1 none) : w1.frozen? ⟨w.heap.size, 0, none⟩ = false ∧ w1.frozen? ⟨w.heap.size, 1, none⟩ = false := by
  have hb : w1.heap[w.heap.size]? = (w.alloc (.cells #[x, y] t)).heap[w.heap.size]? := hg.block _ (by simp) (by simp)
  refine ⟨(World.frozen?_of_block (a := ⟨w.heap.size, 0, none⟩) hb).trans ?_, (World.frozen?_of_block (a := ⟨w.heap.size, 1, none⟩) hb).trans ?_⟩
  · simp
  · simp

theorem grownBy_setCell_new {w w1 : World} {p : Addr} (v : Value) (hg : w.grownBy w1 none) (hp : w.heap.size ≤ p.block) : w.grownBy (w1.setCell p v) none := grownBy_new hg (grownBy_setCell w1 p v) hp

theorem OwnObj.set {w : World} {base : Nat} {u v : Value} {L : List ByteArray} {P : List (Int × Int)} (h : OwnObj w base u v L P) {p : Addr} (hp : p.block < base) (x : Value) : OwnObj (w.setCell p x) base u v L P := by
  have key : ∀ {e : TypeId} {size n : Nat} {v : Value} {xs : List Value}, w.ownsRow base e size v n xs → (w.setCell p x).ownsRow base e size v n xs := by
    intro e size n v xs h
    refine ⟨h.1, ?_⟩
    rcases h.2 with ⟨rfl, h0⟩ | ⟨g, cap, cur, rfl, hb, hh, h1, h2, h3, h4⟩
    · exact .inl ⟨rfl, h0⟩
    · exact .inr ⟨g, cap, cur, rfl, hb, (Below.heap_setCell _ _ _ _ (by omega)).trans hh, h1, h2, h3, h4⟩
  exact ⟨key h.ls, key h.ps⟩

set_option maxRecDepth 20000 in
set_option maxHeartbeats 2000000 in
theorem objCopy_c (p q : Option Addr) (n c m d lo hi : Nat) (L : List ByteArray) (P : List (Int × Int)) (w : World) (h : ObjAt w lo hi p n q m L P) (hn : n ≤ 1000000) (hm : m ≤ 1000000) (hc : p = none → c = 0) (hd : q = none → d = 0) :
    Calls Tryd.prog 20 #[.agg #[.slice p n c, .slice q m d]] w (CopyPost' L P w) := by
  have hg0 := grownBy_trans (World.grownBy_alloc w (.cells #[.slice p n c, .slice q m d] 25) none) (World.grownBy_alloc _ (.cells #[.slice none 0 0, .slice none 0 0] 25) none)
  have hobj := h.calm hg0
  have HG0 := Lib.hid hg0
  have HC := Lib.hid hc
  have HD := Lib.hid hd
  clear h hg0 hc hd
  go_enter Tryd.func20, Tryd.ntmps20
  go_wp2_with fail
  go_region_held3 (fun w' => w'.cell? ⟨w.heap.size, 0, none⟩ = some (.slice p n c) ∧ w'.cell? ⟨w.heap.size, 1, none⟩ = some (.slice q m d)) (first | exact hbx | go_keep)
    (first
      | (go_at_call 38; refine (freshS_c p n c _ _ L _ (hobj.calm (grownBy_drewN _ 1 none)).ls hn HC.out).mono ?_; rintro e w1 ⟨u, rfl, hu, hg1⟩; obtain ⟨pu, cu, rfl, _⟩ := strsAt_own hu; have hg1 := grownBy_trans (grownBy_drewN _ 1 none) hg1; have hbx := (box22 hg1).1; have hob1 := hobj.calm hg1)
      | (go_at_call 39; refine (freshP_c q m d _ _ P _ hob1.ps hm HD.out).mono ?_; rintro e w2 ⟨v, rfl, hv, hg2⟩; obtain ⟨pv, cv, rfl, _⟩ := pairsAt_own hv; have hu := ownsRow_calm hu hg2; have hg2' := grownBy_trans hg1 hg2; have hbx := (box22 hg2').1; have hbr := (box22 hg2').2.1.1; have hbr2 := (box22 hg2').2.1.2; have hbf : w2.frozen? ⟨w.heap.size + 1, 0, none⟩ = false := (by simpa using (box2f hg2').1); have hbf2 : w2.frozen? ⟨w.heap.size + 1, 1, none⟩ = false := (by simpa using (box2f hg2').2)))
  all_goals
    have HG2 := Lib.hid (grownBy_trans HG0.out hg2')
    have HU := Lib.hid hu
    have HV := Lib.hid hv
    have hsz := hg1.size
    have hz : w.heap.size + 1 < w1.heap.size := by simp at hsz; omega
    clear hg1 hg2 hg2' hu hv hobj hob1
    go_wp2
    refine bodyPost_ret (v := .agg #[.slice pu L.length cu, .slice pv P.length cv]) (by simp [results, Tryd.results20, go_sem, hbr, hbr2]) rfl ⟨_, _, rfl, ?_, ?_⟩
    · have h0 : OwnObj w2 (w.heap.size + 2) (.slice pu L.length cu) (.slice pv P.length cv) L P := ⟨ownsRow_down HU.out (by simp), ownsRow_down HV.out (by omega)⟩
      have h1 := (h0.set (p := ⟨w.heap.size + 1, 0, none⟩) (by show w.heap.size + 1 < _; omega) (.slice pu L.length cu)).set (p := ⟨w.heap.size + 1, 1, none⟩) (by show w.heap.size + 1 < _; omega) (.slice pv P.length cv)
      exact ⟨ownsRow_down h1.ls (by omega), ownsRow_down h1.ps (by omega)⟩
    · exact grownBy_setCell_new _ (grownBy_setCell_new _ HG2.out (by show w.heap.size ≤ w.heap.size + 1; omega)) (by show w.heap.size ≤ w.heap.size + 1; omega)

def nilObj : Value := .agg #[.slice none 0 0, .slice none 0 0]

set_option maxHeartbeats 1000000 in
theorem make_lab (p : Option Addr) (n c lo hi : Nat) (L : List ByteArray) (k : Int) (pt : Option Addr) (w : World) (h : StrsAt w lo hi p n L) (hk : labErr L = k) (hk0 : k ≠ 0) :
    Calls Tryd.prog 23 #[.slice p n c, .pointer pt] w fun e w' => e = .returned (.tuple #[.agg #[.slice none 0 0, .slice none 0 0], .int .i64 k]) ∧ w.grownBy w' none := by
  have hg0 := World.grownBy_alloc w (.cells #[.slice none 0 0, .slice none 0 0] 25) none
  have H1 := Lib.hid (h.calm hg0)
  have HK := Lib.hid hk
  have hb : (k != 0) = true := by simpa using hk0
  have HG0 := Lib.hid hg0
  have hbf : (w.alloc (.cells #[.slice none 0 0, .slice none 0 0] 25)).frozen? ⟨w.heap.size, 0, none⟩ = false := by simp
  clear h hg0 hk hk0
  go_enter Tryd.func23, Tryd.ntmps23
  go_wp2_with fail
  refine (checkLabels_c _ _ _ _ _ L k _ (by exact H1.out) HK.out).mono ?_
  rintro e w1 ⟨rfl, h9⟩
  subst w1
  go_wp2
  refine bodyPost_ret (v := .tuple #[.agg #[.slice none 0 0, .slice none 0 0], .int .i64 k]) (by simp [results, Tryd.results23, go_sem]) rfl ⟨rfl, ?_⟩
  first | exact HG0.out | exact grownBy_setCell_new _ (grownBy_setCell_new _ HG0.out (Nat.le_refl _)) (Nat.le_refl _)

set_option maxHeartbeats 1000000 in
theorem make_no (p : Option Addr) (n c lo hi lo' hi' r k : Nat) (L : List ByteArray) (R : Nat → Nat → Bool) (w : World) (h : StrsAt w lo hi p n L) (hk : labErr L = 0) (hR : IsRel w lo' hi' r k R) (hne : k ≠ n) :
    Calls Tryd.prog 23 #[.slice p n c, .pointer (some ⟨r, 0, none⟩)] w fun e w' => e = .returned (.tuple #[.agg #[.slice none 0 0, .slice none 0 0], .int .i64 10]) ∧ w.grownBy w' none := by
  have hg0 := World.grownBy_alloc w (.cells #[.slice none 0 0, .slice none 0 0] 25) none
  have H1 := Lib.hid (h.calm hg0)
  have HR := Lib.hid (hR.calm hg0)
  have HK := Lib.hid hk
  have hb : ((k : Int) != (n : Int)) = true := by simp; omega
  have HG0 := Lib.hid hg0
  clear h hg0 hk hR hne
  go_enter Tryd.func23, Tryd.ntmps23
  go_wp2_with fail
  refine (checkLabels_c _ _ _ _ _ L 0 _ (by exact H1.out) HK.out).mono ?_
  rintro e w1 ⟨rfl, h9⟩
  subst w1
  go_wp2_with fail
  refine (relLen_c _ _ _ _ _ _ (by exact HR.out)).mono ?_
  rintro e w1 ⟨rfl, h9⟩
  subst w1
  go_wp2
  refine bodyPost_ret (v := .tuple #[.agg #[.slice none 0 0, .slice none 0 0], .int .i64 10]) (by simp [results, Tryd.results23, go_sem]) rfl ⟨rfl, ?_⟩
  first | exact HG0.out | exact grownBy_setCell_new _ (grownBy_setCell_new _ HG0.out (Nat.le_refl _)) (Nat.le_refl _)

set_option maxHeartbeats 1000000 in
theorem make_nil (p : Option Addr) (n c lo hi : Nat) (L : List ByteArray) (w : World) (h : StrsAt w lo hi p n L) (hk : labErr L = 0) (hne : n ≠ 0) :
    Calls Tryd.prog 23 #[.slice p n c, .pointer none] w fun e w' => e = .returned (.tuple #[.agg #[.slice none 0 0, .slice none 0 0], .int .i64 10]) ∧ w.grownBy w' none := by
  have hg0 := World.grownBy_alloc w (.cells #[.slice none 0 0, .slice none 0 0] 25) none
  have H1 := Lib.hid (h.calm hg0)
  have HK := Lib.hid hk
  have hb : (((0 : Nat) : Int) != (n : Int)) = true := by simp; omega
  have hb2 : ((0 : Int) != (n : Int)) = true := hb
  clear h hg0 hk hne
  go_enter Tryd.func23, Tryd.ntmps23
  go_wp2_with fail
  refine (checkLabels_c _ _ _ _ _ L 0 _ (by exact H1.out) HK.out).mono ?_
  rintro e w1 ⟨rfl, h9⟩
  subst w1
  go_wp2_with fail
  refine (relNew_mid 0 _ (by omega)).mono ?_
  rintro e w1 ⟨r, rfl, hR, hg1⟩
  have HR := Lib.hid hR
  have b0 := (box2 hg1).1
  have b1 := (box2 hg1).2.1
  have bf := (box2f hg1).1
  have bf1 := (box2f hg1).2
  have HG1 := Lib.hid (box2 hg1).2.2
  clear hR hg1
  go_wp2_with fail
  refine (relLen_c _ _ _ _ _ _ (by exact HR.out)).mono ?_
  rintro e w2 ⟨rfl, h9⟩
  subst w2
  go_wp2
  refine bodyPost_ret (v := .tuple #[.agg #[.slice none 0 0, .slice none 0 0], .int .i64 10]) (by simp [results, Tryd.results23, go_sem, b0, b1]) rfl ⟨rfl, ?_⟩
  exact grownBy_setCell_new _ (grownBy_setCell_new _ HG1.out (Nat.le_refl _)) (Nat.le_refl _)

def MakePost (L : List ByteArray) (P : List (Int × Int)) (w : World) (e : Ending) (w' : World) : Prop :=
  ∃ u v, e = .returned (.tuple #[.agg #[u, v], .int .i64 0]) ∧ OwnObj w' w.heap.size u v L P ∧ w.grownBy w' none

set_option maxHeartbeats 2000000 in
theorem make_ok (p : Option Addr) (n c lo hi lo' hi' r : Nat) (L : List ByteArray) (R : Nat → Nat → Bool) (w : World) (h : StrsAt w lo hi p n L) (hc : p = none → c = 0) (hk : labErr L = 0) (hR : IsRel w lo' hi' r n R) (ht : Tab w) :
    Calls Tryd.prog 23 #[.slice p n c, .pointer (some ⟨r, 0, none⟩)] w (MakePost L (pairsL n (clo n R) n) w) := by
  have hg0 := World.grownBy_alloc w (.cells #[.slice none 0 0, .slice none 0 0] 25) none
  have H1 := Lib.hid (h.calm hg0)
  have HR := Lib.hid (hR.calm hg0)
  have HT := Lib.hid (ht.grown hg0 (by simp))
  have HK := Lib.hid hk
  have HC := Lib.hid hc
  have hn : n ≤ 40 := by have := lab_small hk; rw [h.len] at this; exact this
  have hb : ((n : Int) != (n : Int)) = false := by simp
  clear h hg0 hk hR hc ht
  go_enter Tryd.func23, Tryd.ntmps23
  go_wp2_with fail
  refine (checkLabels_c _ _ _ _ _ L 0 _ (by exact H1.out) HK.out).mono ?_
  rintro e w1 ⟨rfl, h9⟩
  subst w1
  go_wp2_with fail
  refine (relLen_c _ _ _ _ _ _ (by exact HR.out)).mono ?_
  rintro e w1 ⟨rfl, h9⟩
  subst w1
  go_wp2_with fail
  refine (freshS_c _ _ _ _ _ L _ (by exact H1.out) (by omega) HC.out).mono ?_
  rintro e w1 ⟨u, rfl, hu, hg1⟩
  obtain ⟨pu, cu, rfl, _⟩ := strsAt_own hu
  have HU1 := Lib.hid hu
  have HG1 := Lib.hid hg1
  clear hu hg1
  go_wp2_with fail
  refine (closure_c _ _ _ _ R _ (by exact HR.out.calm HG1.out)).mono ?_
  rintro e w2 ⟨rc, rfl, hRC, hg2⟩
  have HU2 := Lib.hid (ownsRow_calm HU1.out hg2)
  have HG2 := Lib.hid (grownBy_trans HG1.out hg2)
  have HRC := Lib.hid hRC
  clear hg2 hRC
  go_wp2_with fail
  refine (relPairs_o _ _ _ _ (clo n R) _ (by exact HRC.out) (HT.out.grown HG2.out (by simp))).mono ?_
  rintro e w3 ⟨v, rfl, hv, hg3⟩
  obtain ⟨pv, cv, rfl, _⟩ := pairsAt_own hv
  have HU3 := Lib.hid (ownsRow_calm HU2.out hg3)
  have HV := Lib.hid hv
  have hg3' := grownBy_trans HG2.out hg3
  have b0 := (box2 hg3').1
  have b1 := (box2 hg3').2.1
  have bf := (box2f hg3').1
  have bf1 := (box2f hg3').2
  have HG3 := Lib.hid (box2 hg3').2.2
  have hz : w.heap.size + 1 ≤ w2.heap.size := by have := HG2.out.size; simp at this; omega
  clear hg3 hg3' hv
  generalize pairsL n (clo n R) n = P at *
  go_wp2
  refine bodyPost_ret (v := .tuple #[.agg #[.slice pu L.length cu, .slice pv P.length cv], .int .i64 0]) (by simp [results, Tryd.results23, go_sem, b0, b1]) rfl ⟨_, _, rfl, ?_, ?_⟩
  · have h0 : OwnObj w3 (w.heap.size + 1) (.slice pu L.length cu) (.slice pv P.length cv) L P := ⟨ownsRow_down HU3.out (by simp), ownsRow_down HV.out (by omega)⟩
    have h1 := (h0.set (p := ⟨w.heap.size, 0, none⟩) (by show w.heap.size < _; omega) (.slice pu L.length cu)).set (p := ⟨w.heap.size, 1, none⟩) (by show w.heap.size < _; omega) (.slice pv P.length cv)
    exact ⟨ownsRow_down h1.ls (by omega), ownsRow_down h1.ps (by omega)⟩
  · exact grownBy_setCell_new _ (grownBy_setCell_new _ HG3.out (Nat.le_refl _)) (Nat.le_refl _)

end Go.Proofs.YtdolcdededmlhaaDoor
