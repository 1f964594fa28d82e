/- Package colim: Of. -/
import Derived.Test.YtemnbkenihldgaaDoorColB
import Derived.Test.YtemnbkenihldgaaDoorColD
import Derived.Test.YtemnbkenihldgaaDoorColE
namespace Go.Proofs.YtemnbkenihldgaaDoor
open Go.RowKit Go.Shelf

/-- What Of hands back. -/
def ResD (A : List ByteArray) (B : List (Int × Int)) (Ls : List (List Int)) (r : Int) (w : World) (e : Ending) (w' : World) : Prop :=
  ∃ u v pl cl, e = .returned (.tuple #[.agg #[u, v], .slice pl Ls.length cl, .int .i64 r]) ∧ OwnObj w' w.heap.size u v A B ∧ LegsAt w' w.heap.size w'.heap.size pl Ls.length Ls ∧ w.grownBy w' none
theorem resD_nil {r : Int} {w w' : World} (h : w.grownBy w' none) : ResD [] [] [] r w (.returned (.tuple #[.agg #[.slice none 0 0, .slice none 0 0], .slice none 0 0, .int .i64 r])) w' :=
  ⟨_, _, none, 0, rfl, ⟨World.ownsRow_nil _ _ _ _, World.ownsRow_nil _ _ _ _⟩, legsAt_nil _ _ _, h⟩
theorem LegsAt.wider {w : World} {lo hi lo' hi' n : Nat} {p : Option Addr} {xs : List (List Int)} (h : LegsAt w lo hi p n xs) (h1 : lo' ≤ lo) (h2 : hi ≤ hi') (h3 : hi' ≤ w.heap.size) : LegsAt w lo' hi' p n xs :=
  ⟨h.len, fun hn => by
    obtain ⟨b, off, e, q1, q2, q3, hc⟩ := h.cell hn
    refine ⟨b, off, e, by omega, by omega, h3, fun k hk => ?_⟩
    obtain ⟨pm, nm, cm, c0, hz⟩ := hc k hk
    exact ⟨pm, nm, cm, c0, hz.wider h1 h2 h3⟩⟩
theorem LegsAt.apart {w w' : World} {lo hi lo' hi' n : Nat} {p : Option Addr} {xs : List (List Int)} (h : LegsAt w lo hi p n xs) (hg : Kept lo' hi' w w') (hd : hi ≤ lo' ∨ hi' ≤ lo) : LegsAt w' lo hi p n xs :=
  ⟨h.len, fun hn => by
    obtain ⟨b, off, e, q1, q2, q3, hc⟩ := h.cell hn
    refine ⟨b, off, e, q1, q2, Nat.le_trans q3 hg.size, fun k hk => ?_⟩
    obtain ⟨pm, nm, cm, c0, hz⟩ := hc k hk
    exact ⟨pm, nm, cm, hg.cell c0 (by omega) (by omega), hz.apart hg hd⟩⟩
theorem Blk.keptK {w w' : World} {g lo hi : Nat} {vs : Array Value} {t : TypeId} (h : Blk w g vs t) (hk : Kept lo hi w w') (hn : ¬ (lo ≤ g ∧ g < hi)) : Blk w' g vs t := (hk.block g h.lt hn).trans h
theorem TwoB.gr2 {w W : World} {g : Nat} {a b u v : Value} (h : TwoB w W g a b u v) (hg : w.heap.size ≤ g + 1) (x y : Value) : w.grownBy ((W.setCell ⟨g + 1, 0, none⟩ x).setCell ⟨g + 1, 1, none⟩ y) none :=
  grownBy_setCell_new _ (grownBy_setCell_new _ h.1 hg) hg
theorem joinsK_next {N : Nat} {Ns : List Nd} {As : List Ar} {a x : Nat} (ha : a < As.length) (hx : x < (arA As a).2.2.length) :
    joinsK (List.range N) (jF Ns As As.length) (jG Ns As As.length) (lenK As a + (x + 1)) = joinZ (joinsK (List.range N) (jF Ns As As.length) (jG Ns As As.length) (lenK As a + x)) ((stK Ns (arA As a).1.toNat : Int) + x) ((stK Ns (arA As a).2.1.toNat : Int) + (arA As a).2.2[x]?.getD 0) := by
  rw [← Nat.add_assoc, joinsK, jF_get Ns As ha hx, jG_get Ns As ha hx]

/-- What lies while Of works. -/
structure OE (w W : World) (g gs lu hu ub lo hi ls hs : Nat) (p : Option Addr) (n c : Nat) (va : Value) (pu pv : Option Addr) (N cu M cv : Nat) (Lb : List ByteArray) (P : List (Int × Int)) (J : List Nat) (Ns : List Nd) : Prop where
  two : TwoB w W g (.slice p n c) va (.slice none 0 0) (.slice none 0 0)
  sum : BoxO W gs (.slice pu N cu) (.slice pv M cv)
  uni : IsUn W lu hu ub J
  obj : ObjAt W ls hs pu N pv M Lb P
  nod : NodesAt W lo hi p n Ns
  tab : Tab W
theorem OE.calm {w W W' : World} {g gs lu hu ub lo hi ls hs n c N cu M cv : Nat} {p pu pv : Option Addr} {va : Value} {Lb : List ByteArray} {P : List (Int × Int)} {J : List Nat} {Ns : List Nd} (h : OE w W g gs lu hu ub lo hi ls hs p n c va pu pv N cu M cv Lb P J Ns) (hg : W.grownBy W' none) : OE w W' g gs lu hu ub lo hi ls hs p n c va pu pv N cu M cv Lb P J Ns :=
  ⟨h.two.calm hg, h.sum.calm hg, h.uni.calm hg, h.obj.calm hg, h.nod.calm hg, h.tab.grown hg (by simp)⟩
theorem OE.cells {w W : World} {g gs lu hu ub lo hi ls hs n c N cu M cv : Nat} {p pu pv : Option Addr} {va : Value} {Lb : List ByteArray} {P : List (Int × Int)} {J : List Nat} {Ns : List Nd} (h : OE w W g gs lu hu ub lo hi ls hs p n c va pu pv N cu M cv Lb P J Ns) :
    W.cell? ⟨gs, 0, none⟩ = some (.slice pu N cu) ∧ W.cell? ⟨gs, 1, none⟩ = some (.slice pv M cv) ∧ W.cell? ⟨g, 0, none⟩ = some (.slice p n c) := ⟨h.sum.c0, h.sum.c1, h.two.2.1.c0⟩

theorem OE.lt {w W : World} {g gs lu hu ub lo hi ls hs n c N cu M cv : Nat} {p pu pv : Option Addr} {va : Value} {Lb : List ByteArray} {P : List (Int × Int)} {J : List Nat} {Ns : List Nd} (h : OE w W g gs lu hu ub lo hi ls hs p n c va pu pv N cu M cv Lb P J Ns) : g + 1 < W.heap.size := h.two.2.2.lt
theorem OE.last {w W : World} {g gs lu hu ub lo hi ls hs n c N cu M cv : Nat} {p pu pv : Option Addr} {va : Value} {Lb : List ByteArray} {P : List (Int × Int)} {J : List Nat} {Ns : List Nd} (h : OE w W g gs lu hu ub lo hi ls hs p n c va pu pv N cu M cv Lb P J Ns) :
    W.cell? ⟨g + 1, 0, none⟩ = some (.slice none 0 0) ∧ W.cell? ⟨g + 1, 1, none⟩ = some (.slice none 0 0) ∧ W.frozen? ⟨g + 1, 0, none⟩ = false ∧ W.frozen? ⟨g + 1, 1, none⟩ = false := ⟨h.two.2.2.c0, h.two.2.2.c1, h.two.2.2.free 0, h.two.2.2.free 1⟩
theorem OE.far {w W : World} {g gs lu hu ub lo hi ls hs n c N cu M cv : Nat} {p pu pv : Option Addr} {va : Value} {Lb : List ByteArray} {P : List (Int × Int)} {J : List Nat} {Ns : List Nd} (h : OE w W g gs lu hu ub lo hi ls hs p n c va pu pv N cu M cv Lb P J Ns) (hne : g + 1 ≠ gs) (x y : Value) :
    ((W.setCell ⟨g + 1, 0, none⟩ x).setCell ⟨g + 1, 1, none⟩ y).cell? ⟨gs, 0, none⟩ = some (.slice pu N cu) ∧ ((W.setCell ⟨g + 1, 0, none⟩ x).setCell ⟨g + 1, 1, none⟩ y).cell? ⟨gs, 1, none⟩ = some (.slice pv M cv) ∧ ((W.setCell ⟨g + 1, 0, none⟩ x).setCell ⟨g + 1, 1, none⟩ y).cell? ⟨g, 0, none⟩ = some (.slice p n c) := by
  obtain ⟨h0, h1⟩ := h.sum.far hne x y
  have q1 := grownBy_setCell W ⟨g + 1, 0, none⟩ x
  have q2 := grownBy_setCell (W.setCell ⟨g + 1, 0, none⟩ x) ⟨g + 1, 1, none⟩ y
  exact ⟨h0, h1, ((h.two.2.1.other q1 (by intro e; have e2 : g = g + 1 := Option.some.inj e; omega)).other q2 (by intro e; have e2 : g = g + 1 := Option.some.inj e; omega)).c0⟩
/-- What is handed back at last. -/
theorem of9_end {w W : World} {g bA bC n : Nat} {uA vA : Value} {pC : Option Addr} {A : List ByteArray} {B : List (Int × Int)} {Ls : List (List Int)} {hiC : Nat} (hw : w.grownBy W none) (h1 : w.heap.size ≤ g + 1) (hA : g + 1 < bA) (hC : g + 1 < bC) (hb : BoxO W (g + 1) (.slice none 0 0) (.slice none 0 0)) (ho : OwnObj W bA uA vA A B) (hl : LegsAt W bC hiC pC n Ls) (hhi : hiC ≤ W.heap.size) :
    BoxO ((W.setCell ⟨g + 1, 0, none⟩ uA).setCell ⟨g + 1, 1, none⟩ vA) (g + 1) uA vA ∧ OwnObj ((W.setCell ⟨g + 1, 0, none⟩ uA).setCell ⟨g + 1, 1, none⟩ vA) w.heap.size uA vA A B ∧ LegsAt ((W.setCell ⟨g + 1, 0, none⟩ uA).setCell ⟨g + 1, 1, none⟩ vA) w.heap.size ((W.setCell ⟨g + 1, 0, none⟩ uA).setCell ⟨g + 1, 1, none⟩ vA).heap.size pC n Ls ∧ w.grownBy ((W.setCell ⟨g + 1, 0, none⟩ uA).setCell ⟨g + 1, 1, none⟩ vA) none := by
  have q1 := grownBy_setCell W ⟨g + 1, 0, none⟩ uA
  have q2 := grownBy_setCell (W.setCell ⟨g + 1, 0, none⟩ uA) ⟨g + 1, 1, none⟩ vA
  have ho2 := (ho.set (p := ⟨g + 1, 0, none⟩) hA uA).set (p := ⟨g + 1, 1, none⟩) hA vA
  have k1 : Kept (g + 1) (g + 1 + 1) W (W.setCell ⟨g + 1, 0, none⟩ uA) := Kept.row q1 (Nat.le_refl _) (Nat.lt_succ_self _)
  have k2 : Kept (g + 1) (g + 1 + 1) (W.setCell ⟨g + 1, 0, none⟩ uA) ((W.setCell ⟨g + 1, 0, none⟩ uA).setCell ⟨g + 1, 1, none⟩ vA) := Kept.row q2 (Nat.le_refl _) (Nat.lt_succ_self _)
  exact ⟨(hb.set0 _).set1 _, ⟨ownsRow_down ho2.ls (by omega), ownsRow_down ho2.ps (by omega)⟩, ((hl.apart k1 (.inr (by omega))).apart k2 (.inr (by omega))).wider (by omega) (Nat.le_trans hhi (Nat.le_trans q1.size q2.size)) (Nat.le_refl _), grownBy_setCell_new _ (grownBy_setCell_new _ hw h1) h1⟩
theorem OwnObj.calm9 {w w' : World} {base : Nat} {u v : Value} {L : List ByteArray} {P : List (Int × Int)} (h : OwnObj w base u v L P) (hg : w.grownBy w' none) : OwnObj w' base u v L P := ⟨ownsRow_calm h.ls hg, ownsRow_calm h.ps hg⟩
theorem fold9_d (p q : Option Addr) (N c m d lo0 hi0 lo hi b : Nat) (Lb : List ByteArray) (P : List (Int × Int)) (L : List Nat) (w : World) (h : ObjAt w lo0 hi0 p N q m Lb P) (hu : IsUn w lo hi b L) (hLN : L.length = N) (hlab : labErr Lb = 0) (hm : m ≤ 1000000) (hin : allIn N P = true) (ht : Tab w) :
    Calls Tryd.prog 27 #[.agg #[.slice p N c, .slice q m d], .pointer (some ⟨b, 0, none⟩)] w (fun e w' => ∃ pu nu cu pv nv cv, e = .returned (.agg #[.slice pu nu cu, .slice pv nv cv]) ∧ OwnObj w' w.heap.size (.slice pu nu cu) (.slice pv nv cv) (labG Lb L) (gluP L P) ∧ w.grownBy w' none) := by
  refine (fold9_c p q N c m d lo0 hi0 lo hi b Lb P L w h hu hLN hlab hm hin ht).mono ?_
  rintro e w' ⟨u, v, rfl, ho, hg⟩
  obtain ⟨pu, cu, rfl⟩ := ownsRow_sl ho.ls
  obtain ⟨pv, cv, rfl⟩ := ownsRow_sl ho.ps
  exact ⟨_, _, _, _, _, _, rfl, ho, hg⟩
theorem places9_c (lo hi b N : Nat) (L : List Nat) (w : World) (h : IsUn w lo hi b L) (hN : L.length = N) : Calls Tryd.prog 29 #[.pointer (some ⟨b, 0, none⟩)] w (fun e w' => ∃ g, e = .returned (.slice (some ⟨g, 0, none⟩) N N) ∧ ZsAt w' w.heap.size w'.heap.size (some ⟨g, 0, none⟩) N (atZ L) ∧ w.grownBy w' none) := by
  refine (placesU_c lo hi b L w h).mono ?_
  rintro e w' ⟨g, rfl, hr, hg⟩
  have hl : (placesL L).length = N := by rw [placesL_len, hN]
  have hz := zsAt_rowI hr
  rw [hl] at hz ⊢
  exact ⟨g, rfl, hz, hg⟩
theorem split9_c (gp N : Nat) (p : Option Addr) (n c lo hi loz hiz : Nat) (Ns : List Nd) (J : List Nat) (w : World) (h : NodesAt w lo hi p n Ns) (hz : ZsAt w loz hiz (some ⟨gp, 0, none⟩) N (atZ J)) (hN : J.length = N) (hJ : J.length = stK Ns Ns.length) (hn : n ≤ 10) (hs : stK Ns n ≤ 40) :
    Calls Tryd.prog 28 #[.slice (some ⟨gp, 0, none⟩) N N, .slice p n c] w (SplitPost n ((List.range Ns.length).map (legD Ns J)) w) := by
  subst hN
  exact split_c gp p n c lo hi loz hiz Ns J w h hz hJ hn hs

set_option maxRecDepth 20000 in
set_option maxHeartbeats 4000000 in
theorem of9_v (p q : Option Addr) (n c m d lo hi lo' hi' : Nat) (Ns : List Nd) (As : List Ar) (A : List ByteArray) (B : List (Int × Int)) (Ls : List (List Int)) (r : Int) (w : World) (hv : ColV Ns As A B Ls r) (hn : NodesAt w lo hi p n Ns) (ha : ArrsAt w lo' hi' q m As) (hf : DFew Ns As) (ht : Tab w) :
    Calls Tryd.prog 10 #[.agg #[.slice p n c, .slice q m d]] w (ResD A B Ls r w) := by
  have HV := Lib.hid hv
  have HN := Lib.hid hn
  have HA := Lib.hid ha
  have HF := Lib.hid hf
  have HT := Lib.hid ht
  have HNL := Lib.hid hn.len
  have HAL := Lib.hid ha.len
  have hn10 : n ≤ 10 := by rw [← hn.len]; exact hf.nn
  have hm12 : m ≤ 12 := by rw [← ha.len]; exact hf.aa
  have he := TwoB.new w (.slice p n c) (.slice q m d) (.slice none 0 0) (.slice none 0 0)
  clear hv hn ha hf ht
  go_enter Tryd.func10, Tryd.ntmps10
  go_wp2_with fail
  generalize (w.alloc (.cells #[.slice p n c, .slice q m d] 37)).alloc (.cells #[.slice none 0 0, .slice none 0 0] 25) = W0 at *
  have HE := Lib.hid he
  clear he
  generalize hgg : w.heap.size = g at *
  have HGG := Lib.hid hgg
  have hg1' : w.heap.size ≤ g + 1 := by omega
  clear hgg
  have nil11 : colR Ns As = 11 → A = [] ∧ B = [] ∧ Ls = [] ∧ r = 11 := fun h => by
    obtain ⟨h1, h2, h3, h4⟩ := HV.out
    rw [h] at h1
    rw [if_neg (by rw [h]; decide)] at h2 h3 h4
    exact ⟨h2, h3, h4, h1⟩
  have NIL11 := Lib.hid nil11
  clear nil11
  cases hmy : manyB Ns As with
  | true =>
    obtain ⟨rfl, rfl, rfl, rfl⟩ := NIL11.out (by unfold colR; rw [if_pos hmy])
    refine (tooMany_r p q n c m d true _ (by rw [← HNL.out, ← HAL.out]; exact hmy)).mono ?_
    rintro e w1 ⟨rfl, hg1⟩
    have he1 := HE.out.calm hg1
    have HG := Lib.hid (he1.gr2 hg1' (.slice none 0 0) (.slice none 0 0))
    obtain ⟨x0, x1, b0, b1⟩ := he1.cells
    have f0 := he1.2.2.free 0
    have f1 := he1.2.2.free 1
    clear hg1 hmy he1
    go_wp2
    exact bodyPost_ret (v := .tuple #[.agg #[.slice none 0 0, .slice none 0 0], .slice none 0 0, .int .i64 11]) (by simp [results, Tryd.results10, go_sem, b0, b1]) rfl (resD_nil HG.out)
  | false =>
    have HMY := Lib.hid hmy
    refine (tooMany_r p q n c m d false _ (by rw [← HNL.out, ← HAL.out]; exact hmy)).mono ?_
    rintro e w1 ⟨rfl, hg1⟩
    have he1 := HE.out.calm hg1
    have HE1 := Lib.hid he1
    obtain ⟨x0, x1, b0, b1⟩ := he1.cells
    clear hg1 hmy he1 HE
    go_wp2_with fail
    by_cases hs : 40 < stK Ns Ns.length
    · obtain ⟨rfl, rfl, rfl, rfl⟩ := NIL11.out (by unfold colR; rw [if_neg (by rw [HMY.out]; decide), if_pos hs])
      refine (tooLarge9_r p q n c m d _ _ Ns true _ (HN.out.calm HE1.out.1) hn10 (fun k hk => (HF.out.nod k hk).1) (decide_eq_true hs)).mono ?_
      rintro e w2 ⟨rfl, hg2⟩
      have he2 := HE1.out.calm hg2
      have HG := Lib.hid (he2.gr2 hg1' (.slice none 0 0) (.slice none 0 0))
      obtain ⟨x0, x1, b0, b1⟩ := he2.cells
      have f0 := he2.2.2.free 0
      have f1 := he2.2.2.free 1
      clear hg2 he2
      go_wp2
      exact bodyPost_ret (v := .tuple #[.agg #[.slice none 0 0, .slice none 0 0], .slice none 0 0, .int .i64 11]) (by simp [results, Tryd.results10, go_sem, b0, b1]) rfl (resD_nil HG.out)
    · have HSM : Hid (stK Ns Ns.length ≤ 40) := Lib.hid (by omega)
      refine (tooLarge9_r p q n c m d _ _ Ns false _ (HN.out.calm HE1.out.1) hn10 (fun k hk => (HF.out.nod k hk).1) (decide_eq_false hs)).mono ?_
      rintro e w2 ⟨rfl, hg2⟩
      have he2 := HE1.out.calm hg2
      have HE2 := Lib.hid he2
      obtain ⟨x0, x1, b0, b1⟩ := he2.cells
      clear hg2 he2 HE1
      go_wp2_with fail
      cases hdg : diagB Ns As with
      | false =>
        obtain ⟨rfl, rfl, rfl, rfl⟩ : A = [] ∧ B = [] ∧ Ls = [] ∧ r = 10 := by
          have h : colR Ns As = 10 := by unfold colR; rw [if_neg (by rw [HMY.out]; decide), if_neg hs, hdg]; rfl
          obtain ⟨h1, h2, h3, h4⟩ := HV.out
          rw [h] at h1
          rw [if_neg (by rw [h]; decide)] at h2 h3 h4
          exact ⟨h2, h3, h4, h1⟩
        refine (dIs_r p q n c m d _ _ _ _ Ns As false _ (HN.out.calm HE2.out.1) (HA.out.calm HE2.out.1) HF.out hdg).mono ?_
        rintro e w3 ⟨rfl, hg3⟩
        have he3 := HE2.out.calm hg3
        have HG := Lib.hid (he3.gr2 hg1' (.slice none 0 0) (.slice none 0 0))
        obtain ⟨x0, x1, b0, b1⟩ := he3.cells
        have f0 := he3.2.2.free 0
        have f1 := he3.2.2.free 1
        clear hg3 he3 hdg
        go_wp2
        exact bodyPost_ret (v := .tuple #[.agg #[.slice none 0 0, .slice none 0 0], .slice none 0 0, .int .i64 10]) (by simp [results, Tryd.results10, go_sem, b0, b1]) rfl (resD_nil HG.out)
      | true =>
        obtain ⟨e0, e1, e2, e3⟩ : A = labG (labsK Ns Ns.length) (joinsD Ns As) ∧ B = gluP (joinsD Ns As) (prsK Ns Ns.length) ∧ Ls = (List.range Ns.length).map (legD Ns (joinsD Ns As)) ∧ r = 0 := by
          have h : colR Ns As = 0 := by unfold colR; rw [if_neg (by rw [HMY.out]; decide), if_neg hs, if_pos hdg]
          obtain ⟨h1, h2, h3, h4⟩ := HV.out
          rw [h] at h1
          rw [if_pos h] at h2 h3 h4
          exact ⟨h2, h3, h4, h1⟩
        subst e3
        have E0 := Lib.hid e0
        have E1 := Lib.hid e1
        have E2 := Lib.hid e2
        have HDG := Lib.hid (diag_parts hdg)
        clear e0 e1 e2
        refine (dIs_r p q n c m d _ _ _ _ Ns As true _ (HN.out.calm HE2.out.1) (HA.out.calm HE2.out.1) HF.out hdg).mono ?_
        rintro e w3 ⟨rfl, hg3⟩
        have he3 := HE2.out.calm hg3
        have HE3 := Lib.hid he3
        obtain ⟨x0, x1, b0, b1⟩ := he3.cells
        clear hg3 he3 hdg HE2 HV NIL11
        go_wp2_with fail
        have hck := beside_chk Ns HDG.out.nod HSM.out
        have HCK := Lib.hid hck
        clear hck
        refine (beside9_c p n c _ _ Ns _ (HN.out.calm HE3.out.1) hn10 (by rw [← HNL.out]; exact HSM.out) (fun k hk => (HF.out.nod k (by rw [HNL.out]; exact hk)).2) (fun k hk => (chk_in (HDG.out.nod k (by rw [HNL.out]; exact hk))).2.2.1)).mono ?_
        rintro e w4 ⟨u, v, gst, rfl, hob, hgst, hrow, hg4⟩
        rw [← HNL.out] at hob
        obtain ⟨pu, cu, pv, cv, rfl, rfl, hoat, hpu, hpv⟩ := hob.form
        have he4 := HE3.out.calm hg4
        have hpl := prsK_len (Ns := Ns) (n := Ns.length) (fun k hk => (HF.out.nod k hk).2)
        have hNl := labsK_len Ns Ns.length
        have HOAT := Lib.hid hoat
        have HROW := Lib.hid hrow
        have hM : (prsK Ns Ns.length).length ≤ 2000 := by have := HF.out.nn; omega
        have HNLEN := Lib.hid hNl
        have hN40 : (labsK Ns Ns.length).length ≤ 40 := by rw [hNl]; exact HSM.out
        have hga := World.grownBy_alloc w4 (.cells #[.slice pu (labsK Ns Ns.length).length cu, .slice pv (prsK Ns Ns.length).length cv] 25) none
        have hbx := BoxO.new w4 (.slice pu (labsK Ns Ns.length).length cu) (.slice pv (prsK Ns Ns.length).length cv)
        have h4lt := he4.2.2.lt
        have he5 := he4.calm hga
        have HE5 := Lib.hid he5
        have HBX := Lib.hid hbx
        obtain ⟨x0, x1, b0, b1⟩ := he5.cells
        have s0 := hbx.c0
        have HOAT5 := Lib.hid (HOAT.out.calm hga)
        have HROW5 := Lib.hid (HROW.out.calm hga)
        have HCS := Lib.hid hoat.ls.len
        clear hob hoat hrow hg4 he4 hga hbx he5 hpl hNl HE3 HOAT HROW
        go_wp2_with fail
        generalize w4.alloc (.cells #[.slice pu (labsK Ns Ns.length).length cu, .slice pv (prsK Ns Ns.length).length cv] 25) = w5 at *
        have HGS := Lib.hid (show w4.heap.size = w4.heap.size ∧ g + 1 < w4.heap.size from ⟨rfl, h4lt⟩)
        generalize w4.heap.size = gs at *
        generalize hNN : (labsK Ns Ns.length).length = N at *
        generalize hMM : (prsK Ns Ns.length).length = M at *
        clear hNN hMM
        refine (newU_c N w5 (by omega)).mono ?_
        rintro e w6 ⟨ub, rfl, hu, hg6⟩
        have HU6 := Lib.hid hu
        have HG6 := Lib.hid hg6
        have he6 := HE5.out.calm hg6
        clear x0 x1 b0 b1 s0
        obtain ⟨x0, x1, b0, b1⟩ := he6.cells
        have HLO := Lib.hid (rfl : w5.heap.size = w5.heap.size)
        generalize w6.heap.size = hu6 at *
        clear hu hg6 he6
        go_wp2
        go_loopw [36] (fun i wr => ∃ a : Nat, a ≤ m ∧ i = .int .i64 a ∧ IsUn wr w5.heap.size hu6 ub (joinsK (List.range N) (jF Ns As As.length) (jG Ns As As.length) (lenK As a)) ∧ w5.grownBy wr none) (fun i _ => m - (intOf i).toNat)
        case atStart => exact ⟨0, Nat.zero_le _, rfl, HU6.out, HG6.out⟩
        case round =>
          obtain ⟨a, ha, rfl, hu, hgr⟩ := hrel
          have HU := Lib.hid hu
          have HGR := Lib.hid hgr
          by_cases ham : a < m
          · have a0 : (0 : Int) ≤ a := by omega
            have a1 : (a : Int) < m := by omega
            have hew := HE5.out.calm hgr
            obtain ⟨⟨fa, fb⟩, ⟨ta, tb⟩, hv⟩ := HDG.out.arr a (by rw [HAL.out]; exact ham)
            obtain ⟨bq, oq, rfl, q1, q2, q3, hc⟩ := HA.out.cell (by omega)
            obtain ⟨pm, nm, cm, c0, c1, c2, hz⟩ := hc a ham
            replace c0 := cell_calm hew.1 c0 (by omega)
            replace c1 := cell_calm hew.1 c1 (by omega)
            replace c2 := cell_calm hew.1 c2 (by omega)
            have htop := hu.top.2
            have hnm := HF.out.arr a (by rw [HAL.out]; exact ham)
            have HJX := Lib.hid (fun x (hx : x < nm) => joinsK_next (N := N) (Ns := Ns) (As := As) (a := a) (x := x) (by rw [HAL.out]; exact ham) (by rw [hz.len]; exact hx))
            have HLK : Hid (lenK As (a + 1) = lenK As a + nm) := Lib.hid (by rw [lenK, hz.len])
            rw [hz.len] at hnm
            obtain ⟨⟨z1, z2, l⟩, hx⟩ : ∃ x : Ar, x = arA As a := ⟨_, rfl⟩
            rw [← hx] at c0 c1 hz fa fb ta tb hv HJX
            simp only at c0 c1 hz fa fb ta tb hv HJX
            clear hx
            rw [HNL.out] at fb tb
            obtain ⟨fn, rfl⟩ := Int.eq_ofNat_of_zero_le fa
            obtain ⟨tn, rfl⟩ := Int.eq_ofNat_of_zero_le ta
            rw [Int.toNat_natCast, Int.toNat_natCast] at hv
            have hfn : fn < n := by omega
            have htn : tn < n := by omega
            have HHZ := Lib.hid (arB_hasZ hv)
            have hsf := stK_fit Ns (show fn < Ns.length by rw [HNL.out]; exact hfn)
            have hst := stK_fit Ns (show tn < Ns.length by rw [HNL.out]; exact htn)
            have hnl : nm = (ndA Ns fn).1.length := by rw [← HHZ.out.1, hz.len]
            rw [← hnl] at hsf
            rw [← HNLEN.out] at hsf hst
            have hga := World.grownBy_alloc wr (.cells #[.int .i64 fn, .int .i64 tn, .slice pm nm cm] 45) none
            have hbx := Blk.new wr #[.int .i64 fn, .int .i64 tn, .slice pm nm cm] 45
            have HBA := Lib.hid hbx
            have y2 := hbx.c2
            have HZ := Lib.hid hz
            have HGA := Lib.hid (grownBy_trans hgr hga)
            have HUA := Lib.hid (hu.calm hga)
            have HRA := Lib.hid ((HROW5.out.calm hgr).calm hga)
            have HZL := Lib.hid hz.len
            clear hc hz hga hgr hbx hew hv fa fb ta tb hu HU hnl
            go_wp2
            clear c0 c1 c2
            generalize wr.alloc (.cells #[.int .i64 fn, .int .i64 tn, .slice pm nm cm] 45) = wa at *
            generalize wr.heap.size = ga at *
            go_loopw [43] (fun i wr => ∃ x : Nat, x ≤ nm ∧ i = .int .i64 x ∧ IsUn wr w5.heap.size hu6 ub (joinsK (List.range N) (jF Ns As As.length) (jG Ns As As.length) (lenK As a + x)) ∧ Kept w5.heap.size hu6 wa wr ∧ w5.grownBy wr none) (fun i _ => nm - (intOf i).toNat)
            case atStart => exact ⟨0, Nat.zero_le _, rfl, HUA.out, Kept.refl _ _ _, HGA.out⟩
            case round =>
              obtain ⟨x, hx, rfl, hu, hkp, hgx⟩ := hrel
              generalize wr = wx at *
              have HUX := Lib.hid hu
              have HKX := Lib.hid hkp
              have HGX := Lib.hid hgx
              by_cases hxn : x < nm
              · have x00 : (0 : Int) ≤ x := by omega
                have x01 : (x : Int) < nm := by omega
                obtain ⟨bm, om, rfl, _, _, _, hcm⟩ := (HZ.out.calm (grownBy_trans HE5.out.1 hgx)).cell (by omega)
                have cx := hcm x hxn
                obtain ⟨lx0, lx1⟩ := HHZ.out.2 (l[x]?.getD 0) (by rw [List.getElem?_eq_getElem (by rw [HZL.out]; exact hxn)]; exact List.getElem_mem _)
                have HSTEP := Lib.hid (HJX.out x hxn)
                have hba := Blk.keptK HBA.out hkp (by omega)
                have y0 := hba.c0
                have y1 := hba.c1
                have hrz := HROW5.out.calm hgx
                have r0 := hrz.cell (k := fn) (by rw [stZ_len (Nat.le_refl _)]; exact hfn)
                have r1 := hrz.cell (k := tn) (by rw [stZ_len (Nat.le_refl _)]; exact htn)
                rw [stZ_get hfn] at r0
                rw [stZ_get htn] at r1
                rw [Int.toNat_natCast, Int.toNat_natCast] at HSTEP
                clear hcm hba hrz hu hkp hgx
                generalize l[x]?.getD 0 = lx at *
                generalize stK Ns fn = sf at *
                generalize stK Ns tn = st at *
                go_wp2
                refine wp_region_still_tail 15 (by kernel_rfl) (by kernel_rfl) ?_
                simp only [List.take_succ_cons, List.take_zero, List.drop_succ_cons, List.drop_zero]
                repeat still_step
                refine wpStill_nil ?_
                change wpList _ _ _ _ _ wx.drew
                clear cx y0 y1 r0 r1
                go_wp2_with fail
                refine (joinU_c w5.heap.size hu6 ub _ ((sf : Int) + x) ((st : Int) + lx) _ (HUX.out.calm (grownBy_drewN wx 1 none))).mono ?_
                rintro e w9 ⟨rfl, h9, hk9⟩
                have HU9 := Lib.hid (show IsUn w9 w5.heap.size hu6 ub (joinsK (List.range N) (jF Ns As As.length) (jG Ns As As.length) (lenK As a + (x + 1))) by rw [HSTEP.out]; exact h9)
                have HG9 := Lib.hid (Kept.new (grownBy_trans HGX.out (grownBy_drewN wx 1 none)) hk9 (Nat.le_refl _))
                have HK9 := Lib.hid ((HKX.out.trans (Kept.calm (grownBy_drewN wx 1 none))).trans hk9)
                clear h9 hk9
                go_wp2
                exact ⟨⟨x + 1, by omega, by go_num, HU9.out, HK9.out, HG9.out⟩, by simp [intOf]; omega⟩
              · obtain rfl : x = nm := by omega
                have x01 : ¬ ((x : Int) < x) := by omega
                clear hu hkp hgx
                go_wp2
                exact ⟨⟨a + 1, by omega, by go_num, by rw [HLK.out]; exact HUX.out, HGX.out⟩, by simp [intOf]; omega⟩
          · obtain rfl : a = m := by omega
            have a1 : ¬ ((a : Int) < a) := by omega
            have HJ : Hid (joinsK (List.range N) (jF Ns As As.length) (jG Ns As As.length) (lenK As a) = joinsD Ns As) := Lib.hid (by
              unfold joinsD joinsL
              rw [jF_len, HAL.out, ← labsK_len, HNLEN.out, labsK_len])
            rw [HJ.out] at hu
            have HJL : Hid ((joinsD Ns As).length = N ∧ (joinsD Ns As).length = stK Ns Ns.length) := Lib.hid ⟨by rw [joinsD_len, HNLEN.out], joinsD_len Ns As⟩
            have HLE := Lib.hid (chk_in HCK.out).1
            have HIN : Hid (allIn N (prsK Ns Ns.length) = true) := Lib.hid (by have := (chk_in HCK.out).2.2.1; rwa [labsK_len, ← HNLEN.out] at this)
            have hM6 : M ≤ 1000000 := by omega
            have hsn : stK Ns n ≤ 40 := by rw [← HNL.out]; exact HSM.out
            have hgsne : g + 1 ≠ gs := by
              intro e
              have h1 := HE5.out.2.2.lt
              have h2 := HGS.out
              omega
            have henv0 : OE w wr g gs w5.heap.size hu6 ub _ _ _ _ p n c (.slice q a d) pu pv N cu M cv (labsK Ns Ns.length) (prsK Ns Ns.length) (joinsD Ns As) Ns := ⟨HE5.out.calm hgr, HBX.out.calm hgr, hu, HOAT5.out.calm hgr, HN.out.calm (HE5.out.calm hgr).1, HT.out.grown (HE5.out.calm hgr).1 (by simp)⟩
            have hgd : wr.grownBy wr.drew none := grownBy_drewN wr 1 none
            have henv := henv0.calm hgd
            have hbx := henv.cells
            clear henv0 hu hgr hgd HU HGR
            go_wp2
            generalize joinsD Ns As = J at *
            generalize hLb : labsK Ns Ns.length = Lb at *
            generalize hPp : prsK Ns Ns.length = Pp at *
            clear hLb hPp
            go_region_held3 (fun w' => w'.cell? ⟨gs, 0, none⟩ = some (.slice pu N cu) ∧ w'.cell? ⟨gs, 1, none⟩ = some (.slice pv M cv) ∧ w'.cell? ⟨g, 0, none⟩ = some (.slice p n c)) (first | exact hbx | exact henv.far hgsne _ _ | go_keep)
              (first
              | (go_at_call 27; (with_reducible refine (fold9_d pu pv N cu M cv _ _ _ _ ub _ _ _ _ henv.obj henv.uni HJL.out.1 HLE.out hM6 HIN.out henv.tab).mono ?_); rintro e wA ⟨puA, nuA, cuA, pvA, nvA, cvA, rfl, hoA, hgA⟩; have hbA := henv.lt; have henv := henv.calm hgA; have hbx := henv.cells; have hlast := henv.last; obtain ⟨k0, k1, f0, f1⟩ := hlast; try have hzB := hzB.calm hgA; try have hlC := hlC.calm hgA)
              | (go_at_call 29; (with_reducible refine (places9_c _ _ ub N _ _ henv.uni HJL.out.1).mono ?_); rintro e wB ⟨gB, rfl, hzB, hgB⟩; have henv := henv.calm hgB; have hbx := henv.cells; try have hoA := hoA.calm9 hgB)
              | (go_at_call 28; (with_reducible refine (split9_c gB N p n c _ _ _ _ Ns _ _ henv.nod hzB HJL.out.1 HJL.out.2 hn10 hsn).mono ?_); rintro e wC ⟨pC, rfl, hlC, hgC⟩; have hbC := henv.lt; have henv := henv.calm hgC; have hbx := henv.cells; have hlast := henv.last; obtain ⟨k0, k1, f0, f1⟩ := hlast; try have hoA := hoA.calm9 hgC))
            all_goals
              have hfin := of9_end henv.two.1 hg1' hbA hbC henv.two.2.2 hoA hlC (by first | exact Nat.le_refl _ | exact hgA.size)
              clear hoA hlC hbx k0 k1 f0 f1 henv hzB
              generalize hW8 : (World.setCell (World.setCell _ ⟨g + 1, 0, none⟩ (.slice puA nuA cuA)) ⟨g + 1, 1, none⟩ (.slice pvA nvA cvA)) = W8 at *
              obtain ⟨z1, z2, z3, z4⟩ := hfin
              have y0 := z1.c0
              have y1 := z1.c1
              rw [← E0.out, ← E1.out] at z2
              rw [← E2.out] at z3
              have hLl : n = Ls.length := by rw [E2.out, List.length_map, List.length_range, HNL.out]
              go_wp2
              refine bodyPost_ret (v := .tuple #[.agg #[.slice puA nuA cuA, .slice pvA nvA cvA], .slice pC n n, .int .i64 0]) (by simp [results, Tryd.results10, go_sem, y0, y1]) rfl ⟨_, _, pC, n, by rw [← hLl], z2, ?_, z4⟩
              rw [← hLl]
              exact z3

end Go.Proofs.YtemnbkenihldgaaDoor
