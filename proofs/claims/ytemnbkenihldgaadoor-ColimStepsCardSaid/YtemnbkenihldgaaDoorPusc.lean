/- Package push: what fold answers, in plain words; classes; what lies while the classes come; regions that draw in a round. -/
import Derived.Test.YtemnbkenihldgaaDoorUnia
import Derived.Test.YtemnbkenihldgaaDoorPusa
import Derived.Test.YtemnbkenihldgaaDoorObja
import Derived.StillTailTactics
import Derived.OrdersHeld
import Derived.RegionTactic
/-! Plain: elements made one, class by class: labels, places, pairs of what is put together. -/
namespace Go.Proofs.YtemnbkenihldgaaDoor

/-- The least elements, one of each class. -/
def leadL (L : List Nat) : List Nat := (List.range L.length).filter fun j => decide (nx L j = j)
theorem leadL_len (L : List Nat) : (leadL L).length = cntR L L.length := rfl
/-- The labels of the classes. -/
def labG (Lb : List ByteArray) (L : List Nat) : List ByteArray := (leadL L).map fun e => Lb[e]?.getD .empty
theorem labG_len (Lb : List ByteArray) (L : List Nat) : (labG Lb L).length = cntR L L.length := by simp [labG, leadL_len]
/-- Where all go. -/
def atZ (L : List Nat) : List Int := (placesL L).map fun x : Nat => (x : Int)
theorem atZ_len (L : List Nat) : (atZ L).length = L.length := by simp [atZ, placesL_len]
theorem atZ_get {L : List Nat} {e : Nat} (h : e < L.length) : (atZ L)[e]?.getD 0 = (plc6 L e : Int) := by
  unfold atZ placesL
  rw [List.getElem?_map, List.getElem?_map, List.getElem?_range h]
  rfl
/-- Pairs as they go. -/
def mapP (a : List Int) (P : List (Int × Int)) : List (Int × Int) := P.map fun x => (a[x.1.toNat]?.getD 0, a[x.2.toNat]?.getD 0)
theorem mapP_len (a : List Int) (P : List (Int × Int)) : (mapP a P).length = P.length := by simp [mapP]
theorem mapP_get {a : List Int} {P : List (Int × Int)} {k : Nat} (h : k < P.length) : (mapP a P)[k]?.getD (0, 0) = (a[(P[k]?.getD (0, 0)).1.toNat]?.getD 0, a[(P[k]?.getD (0, 0)).2.toNat]?.getD 0) := by
  unfold mapP
  rw [List.getElem?_map, List.getElem?_eq_getElem h]
  rfl
/-- The relation of the classes, and their pairs. -/
def gluR (L : List Nat) (P : List (Int × Int)) : Nat → Nat → Bool := ofL (cntR L L.length) (mapP (atZ L) P)
def gluP (L : List Nat) (P : List (Int × Int)) : List (Int × Int) := pairsL (cntR L L.length) (clo (cntR L L.length) (gluR L P)) (cntR L L.length)
/-- The first k joins. -/
def joinsK (L : List Nat) (f g : List Int) : Nat → List Nat
  | 0 => L
  | k + 1 => joinZ (joinsK L f g k) (f[k]?.getD 0) (g[k]?.getD 0)
theorem joinsK_len (L : List Nat) (f g : List Int) (k : Nat) : (joinsK L f g k).length = L.length := by
  induction k with
  | zero => rfl
  | succ k ih => rw [joinsK, joinZ_len, ih]
/-- All joins of n elements. -/
def joinsL (n : Nat) (f g : List Int) : List Nat := joinsK (List.range n) f g f.length
theorem joinsL_len (n : Nat) (f g : List Int) : (joinsL n f g).length = n := by rw [joinsL, joinsK_len, List.length_range]

theorem plc6_lt {L : List Nat} (h : isL L) {e : Nat} (he : e < L.length) : plc6 L e < cntR L L.length :=
  cntR_lt (Nat.lt_of_le_of_lt (h.le e he) he) (h.fix e he)
theorem leads_eq {L : List Nat} (h : isL L) : leadsC (eqC L) L.length = leadL L := leads_cnt h (Nat.le_refl _)
theorem circ_len7 {L : List Nat} (h : isL L) : (circL (eqC L) L.length).length = cntR L L.length := circ_cnt h (Nat.le_refl _)
theorem cls_mem7 {L : List Nat} (h : isL L) {k : Nat} {l : List Nat} (hl : (circL (eqC L) L.length)[k]? = some l) (e : Nat) : e ∈ l ↔ e < L.length ∧ plc6 L e = k := by
  obtain ⟨x, hx, rfl⟩ := circ_get hl
  have hm := List.mem_of_getElem? hx
  rw [leads_eq h] at hm
  have hx1 : x < L.length ∧ nx L x = x := by simpa [leadL] using hm
  have hk : k = cntR L x := by
    have h1 := leads_at h (Nat.le_refl _) hx1.1 hx1.2
    obtain ⟨i2, j2⟩ := List.getElem?_eq_some_iff.1 hx
    exact (List.getElem?_inj i2 (leads_nodup _ _)).1 (hx.trans h1.symm)
  rw [mem_cls]
  constructor
  · rintro ⟨h1, h2⟩
    refine ⟨h1, ?_⟩
    have : nx L e = x := by
      rcases (oneC_iff _ _ _).1 h2 with rfl | ⟨h3, _⟩
      · exact hx1.2
      · have : nx L x = nx L e := by simpa [eqC] using h3
        rw [← this, hx1.2]
    rw [plc6, this, hk]
  · rintro ⟨h1, h2⟩
    refine ⟨h1, (oneC_iff _ _ _).2 ?_⟩
    have h3 := circ_at h (Nat.le_refl _) (Nat.lt_of_le_of_lt (h.le e h1) h1) h1
    rw [h2] at h3
    obtain ⟨y, hy, hy2⟩ := circ_get h3
    have : nx L e = x := by
      by_cases hlt : nx L e = x
      · exact hlt
      · exfalso
        have h4 := leads_at h (Nat.le_refl _) (Nat.lt_of_le_of_lt (h.le e h1) h1) (h.fix e h1)
        have h5 : cntR L (nx L e) = k := h2
        rw [h5, hx] at h4
        exact hlt (Option.some.inj h4).symm
    right
    simp [eqC, this, hx1.2]
theorem cls_head7 {L : List Nat} (h : isL L) {k : Nat} {l : List Nat} (hl : (circL (eqC L) L.length)[k]? = some l) : ∃ x r, l = x :: r ∧ (leadL L)[k]? = some x ∧ x < L.length := by
  obtain ⟨x, r, h1, h2, h3, _⟩ := circ_head hl
  rw [leads_eq h] at h2
  exact ⟨x, r, h1, h2, h3⟩
theorem labG_take {Lb : List ByteArray} {L : List Nat} {k x : Nat} (h : (leadL L)[k]? = some x) : (labG Lb L).take (k + 1) = (labG Lb L).take k ++ [Lb[x]?.getD .empty] := by
  rw [List.take_add_one, labG, List.getElem?_map, h]
  rfl

/-- Where they go, the first k classes done, and those of pre of the next one. -/
def whP (L : List Nat) (k : Nat) (pre : List Nat) : List Int := (List.range L.length).map fun e => if plc6 L e < k then (plc6 L e : Int) else if e ∈ pre then (k : Int) else 0
theorem whP_len (L : List Nat) (k : Nat) (pre : List Nat) : (whP L k pre).length = L.length := by simp [whP]
theorem whP_zero (L : List Nat) : whP L 0 [] = List.replicate L.length 0 := by
  apply List.ext_getElem
  · simp [whP]
  · intro i h1 h2
    simp [whP]
theorem whP_snoc {L : List Nat} {k e : Nat} {pre : List Nat} (h : plc6 L e = k) : (whP L k pre).set e (k : Int) = whP L k (pre ++ [e]) := by
  apply List.ext_getElem
  · simp [whP]
  · intro i h1 h2
    rw [List.getElem_set]
    by_cases hi : e = i
    · subst hi
      simp [whP, h]
    · have : i ≠ e := fun x => hi x.symm
      simp [whP, hi, this]
theorem whP_next {L : List Nat} {k : Nat} {l : List Nat} (h : ∀ e, e ∈ l ↔ e < L.length ∧ plc6 L e = k) : whP L k l = whP L (k + 1) [] := by
  apply List.ext_getElem
  · simp [whP]
  · intro i h1 h2
    have hi : i < L.length := by simpa [whP] using h1
    simp only [whP, List.getElem_map, List.getElem_range]
    have := h i
    by_cases a : plc6 L i < k
    · rw [if_pos a, if_pos (by omega)]
    · by_cases b : plc6 L i = k
      · rw [if_neg a, if_pos (this.2 ⟨hi, b⟩), if_pos (by omega), b]
      · rw [if_neg a, if_neg (fun x => b (this.1 x).2), if_neg (by omega)]
        simp
theorem whP_end {L : List Nat} (h : isL L) : whP L (cntR L L.length) [] = atZ L := by
  apply List.ext_getElem
  · simp [whP, atZ_len]
  · intro i h1 h2
    have hi : i < L.length := by simpa [whP] using h1
    have := plc6_lt h hi
    simp [whP, atZ, placesL, this]

theorem range_is (n : Nat) : isL (List.range n) := by have := rootL_is (range_down n); rwa [rootL_range] at this
theorem joinZ_is {L : List Nat} (h : isL L) (x y : Int) : isL (joinZ L x y) := by
  unfold joinZ
  split
  · rename_i hh
    rw [Bool.and_eq_true, hasZ_iff, hasZ_iff] at hh
    exact joinL_is h (by omega) (by omega)
  · exact h
theorem joinsK_is {L : List Nat} (h : isL L) (f g : List Int) (k : Nat) : isL (joinsK L f g k) := by
  induction k with
  | zero => exact h
  | succ k ih => exact joinZ_is ih _ _
theorem joinsL_is (n : Nat) (f g : List Int) : isL (joinsL n f g) := joinsK_is (range_is n) f g _

end Go.Proofs.YtemnbkenihldgaaDoor
/-! Package push: classes, which hands over each class with its place; a law for a range over a function that tells the body of memory which it made. -/
namespace Go.Proofs.YtemnbkenihldgaaDoor
open Go.RowKit Go.Shelf
attribute [local go_sem] Oper.semAt_some

/-- A range over a function, where the iterator tells the body what comes next and where it lies (Nx), and the body tells the iterator what its round has kept (Kp). No round leaves the loop. -/
theorem rangeTell {F : Fence} {n : Nat} {P : Program} {α : Type} {g : Operand} {ps : Array Tmp} {assign body : Code} {Q : Exit → Act → World → Prop} {a : Act} {w : World}
    (hro : F.round = none) (h1 : 1 ≤ n) {gf : Nat} {lb : Array Value} (hg : a.eval g = .func (.func gf) #[] lb) (hFg : F.fn gf) (eg : ∀ args w, (callFunc gf args).run P w = .ok (.enter gf args) w)
    {encs : α → Array Value} (hps : ∀ x, (encs x).size = ps.size) (I : List α → World → Prop) (hI : OwnFrom w.heap.size I) (h0 : I [] w) (S : List α → Prop)
    (Nx : List α × α → World → Prop) (hNx : OwnFrom w.heap.size Nx)
    (Kp : World → World → Prop) (hKt : ∀ {A B C : World}, Kp A B → Kp B C → Kp A C) (hKb : ∀ (W : World) (l : Nat) (o o' : Obj), w.heap.size ≤ l → W.heap[l]? = some o → o.isCells = false → Kp W (W.putObj l o'))
    (hit : ∀ (l : Nat) (R : World → Prop), (∀ A B, R A → A.grownBy B none → R B) → ∀ W, I [] W → R W →
      (∀ pre x W1, I pre W1 → R W1 → Nx (pre, x) W1 → YieldAt F (n - 1 - 1) P l (encs x) W1 fun e W' => e = .returned (.bool true) ∧ I (pre ++ [x]) W' ∧ R W' ∧ Kp W1 W') →
      CallsIn F (n - 1) P gf (#[.func (.yield l) #[] #[]] ++ lb) W fun e W' => (∃ v, e = .returned v) ∧ ∃ xs, S xs ∧ I xs W' ∧ R W')
    (a₁ : α → Act)
    (hassign : ∀ (l : Nat) (x : α) (W : World) (K : Act → World → Prop), K (a₁ x) W →
      assign.wpIn (F.inRound l) (n - 1 - 1) P (Exit.then K (fun _ _ _ => False)) { tmps := (ps.zip (encs x)).foldl (fun t (p, v) => t.setIfInBounds p v) a.tmps, defers := [] } W)
    (hbody : ∀ (l : Nat) (pre : List α) (x : α) (W : World), w.heap.size ≤ l → (∃ r, W.heap[l]? = some (.loop r)) → I pre W → Nx (pre, x) W → body.wpIn (F.inRound l) (n - 1 - 1) P (fun e _ W' => e = .normal ∧ KeepsFrom w.heap.size W W' ∧ I (pre ++ [x]) W' ∧ Kp W W') (a₁ x) W)
    (hdone : ∀ (D : Nat) (xs : List α) (W : World), w.heap.size ≤ D → S xs → I xs W → W.heap[D]? = some (.deferred (some [])) → Q .normal { a with defers := { target := .collected D, args := #[] } :: a.defers } W) :
    (Code.rangeFunc g ps assign body).wpIn F n P Q a w := by
  refine wpIn_rangeFunc fun fn hfn => ?_
  rw [hro]
  -- the record of the loop, ready, and as it lies
  let L0 : Loop := { state := .ready, pending := none, fn, tmps := a.tmps, params := ps, assign, body, defers := w.heap.size }
  let Rd : World → Prop := fun W => W.heap[w.heap.size]? = some (.deferred (some [])) ∧ W.heap[w.heap.size + 1]? = some (.loop L0)
  have hR : ∀ A B, Rd A → A.grownBy B none → Rd B := fun A B h hg => ⟨(hg.block _ (Array.getElem?_eq_some_iff.1 h.1).1 (by simp)).trans h.1, (hg.block _ (Array.getElem?_eq_some_iff.1 h.2).1 (by simp)).trans h.2⟩
  have hst : Rd ((w.alloc (.deferred (some []))).alloc (.loop L0)) := by
    refine ⟨(heap_alloc_old _ _ (by simp)).trans (heap_alloc_new w _), ?_⟩
    have := heap_alloc_new (w.alloc (.deferred (some []))) (.loop L0)
    rwa [World.size_alloc] at this
  have hI1 : I [] ((w.alloc (.deferred (some []))).alloc (.loop L0)) := hI.alloc _ (hI.alloc _ h0)
  refine ⟨w.heap.size + 1, [{ target := .collected w.heap.size, args := #[] }], (w.alloc (.deferred (some []))).alloc (.loop L0), { target := .fn (.func gf) lb, args := #[.func (.yield (w.heap.size + 1)) #[] #[]] }, (w.alloc (.deferred (some []))).alloc (.loop L0), gf,
    #[.func (.yield (w.heap.size + 1)) #[] #[]] ++ lb, (w.alloc (.deferred (some []))).alloc (.loop L0), run_enterLoop_outer _ _ _ _ _, ?_, ?_, ?_, fun _ => h1, ?_⟩
  · simp only [resolve, hg]
    simp [go_sem, L0]
  · intro f' hf'
    simp [Target.leads] at hf'
    subst hf'
    exact hFg
  · simp [invoke, go_sem, eg]
  · refine (hit (w.heap.size + 1) Rd hR _ hI1 hst ?_).mono ?_
    · intro pre x W hi hr hn
      refine ⟨fn, _, assign, body, run_yield (r := L0) hr.2 (hps x), roundIn_of_wpIn hfn (hassign _ x W _ ⟨_, run_beginRound hr.2 rfl, ?_⟩)⟩
      have hlt := (Array.getElem?_eq_some_iff.1 hr.2).1
      have hb : (W.putObj (w.heap.size + 1) (.loop { L0 with state := .busy })).heap[w.heap.size + 1]? = some (.loop { L0 with state := .busy }) := World.putObj_heap_same hlt
      have hd : (W.putObj (w.heap.size + 1) (.loop { L0 with state := .busy })).heap[w.heap.size]? = some (.deferred (some [])) := (World.putObj_heap_other (by omega)).trans hr.1
      have hk1 := hKb W (w.heap.size + 1) _ (.loop { L0 with state := .busy }) (by omega) hr.2 rfl
      refine wpIn_mono (hbody (w.heap.size + 1) pre x _ (by omega) ⟨_, hb⟩ (hI.putObj _ hi (by omega) hr.2 rfl) (hNx.putObj _ hn (by omega) hr.2 rfl)) ?_
      rintro e a3 W3 ⟨rfl, hk, hi3, hkp⟩
      have hb3 := hk.same _ _ (by omega) hb rfl
      have hd3 := hk.same _ _ (Nat.le_refl _) hd rfl
      exact ⟨_, _, run_endRound none hb3, rfl, hI.putObj _ hi3 (by omega) hb3 rfl, ⟨(World.putObj_heap_other (by omega)).trans hd3, World.putObj_heap_same (Array.getElem?_eq_some_iff.1 hb3).1⟩, hKt hk1 (hKt hkp (hKb W3 _ _ _ (by omega) hb3 rfl))⟩
    · rintro e W2 ⟨⟨v, rfl⟩, xs, hS, hi, hr⟩
      exact ⟨none, _, run_endLoop hr.2 (by simp [L0]), hdone _ xs _ (Nat.le_refl _) hS (hI.putObj _ hi (by omega) hr.2 rfl) ((World.putObj_heap_other (by omega)).trans hr.1)⟩

/-- Cells from n₀ on, but strings, lie as they lay. -/
def KeepG (n₀ : Nat) (W W' : World) : Prop := W.heap.size ≤ W'.heap.size ∧ ∀ (g : Nat) (cur : Array Value) (t : TypeId), n₀ ≤ g → t ≠ 9 → W.heap[g]? = some (.cells cur t (0, 0)) → W'.heap[g]? = some (.cells cur t (0, 0))
theorem KeepG.refl (n₀ : Nat) (W : World) : KeepG n₀ W W := ⟨Nat.le_refl _, fun _ _ _ _ _ h => h⟩
theorem KeepG.trans {n₀ : Nat} {A B C : World} (h : KeepG n₀ A B) (k : KeepG n₀ B C) : KeepG n₀ A C := ⟨Nat.le_trans h.1 k.1, fun g cur t h1 h2 h3 => k.2 g cur t h1 h2 (h.2 g cur t h1 h2 h3)⟩
theorem KeepG.calm {n₀ : Nat} {W W' : World} (h : W.grownBy W' none) : KeepG n₀ W W' := ⟨h.size, fun g cur t _ _ hg => (h.block g (Array.getElem?_eq_some_iff.1 hg).1 (by simp)).trans hg⟩
theorem KeepG.below {n₀ r : Nat} {W W' : World} (h : W.grownBy W' (some r)) (hr : r < n₀) : KeepG n₀ W W' := ⟨h.size, fun g cur t h1 _ hg => (h.block g (Array.getElem?_eq_some_iff.1 hg).1 (by intro e; injection e; omega)).trans hg⟩
theorem KeepG.put {n₀ : Nat} (W : World) (l : Nat) (o o' : Obj) (hl : W.heap[l]? = some o) (ho : o.isCells = false) : KeepG n₀ W (W.putObj l o') := by
  have hg := grownBy_putObj' W l o'
  refine ⟨hg.size, fun g cur t _ _ h => (hg.block g (Array.getElem?_eq_some_iff.1 h).1 ?_).trans h⟩
  intro e
  injection e with e
  subst e
  rw [h] at hl
  cases hl
  cases ho
theorem KeepG.own {n₀ base n size : Nat} {v : Value} {xs : List Value} {W W' : World} (hr : W.ownsRow base 9 size v n xs) (h : W.grownBy W' v.ownBlock) : KeepG n₀ W W' := by
  refine ⟨h.size, fun g cur t _ ht hg => (h.block g (Array.getElem?_eq_some_iff.1 hg).1 ?_).trans hg⟩
  rcases hr.2 with ⟨rfl, _⟩ | ⟨g', cap, cur', rfl, _, hgb, _⟩
  · simp [Value.ownBlock]
  · intro e
    obtain rfl : g = g' := by simpa [Value.ownBlock] using e
    rw [hg] at hgb
    simp at hgb
    exact ht hgb.2

theorem ownsRow_keepG {n₀ base n size : Nat} {e : TypeId} {v : Value} {xs : List Value} {W W' : World} (h : W.ownsRow base e size v n xs) (hb : n₀ ≤ base) (he : e ≠ 9) (hk : KeepG n₀ W W') : W'.ownsRow base e size v n xs := by
  refine ⟨h.1, ?_⟩
  rcases h.2 with h1 | ⟨g, cap, cur, e1, h1, h2, h3⟩
  · exact .inl h1
  · exact .inr ⟨g, cap, cur, e1, h1, hk.2 g cur e (by omega) he h2, h3⟩
theorem Grid.keepG {n₀ base : Nat} {W W' : World} {v : Value} {ls : List (List Nat)} {ib ic : Nat → Nat} (h : Grid W base v ls ib ic) (hb : n₀ ≤ base) (hk : KeepG n₀ W W') : Grid W' base v ls ib ic :=
  ⟨ownsRow_keepG h.out hb (by decide) hk, fun k l hl => ownsRow_keepG (h.row k l hl) hb (by decide) hk, h.ap⟩

/-- A class with its place, as it is handed over. -/
def encC (x : Nat × Value) : Array Value := #[.int .i64 (x.1 : Nat), x.2]
/-- What comes next, and where it lies. -/
def NxC (n₀ : Nat) (L : List Nat) (s : List (Nat × Value) × (Nat × Value)) (W : World) : Prop :=
  s.2.1 = s.1.length ∧ ∃ l g c, (circL (eqC L) L.length)[s.1.length]? = some l ∧ s.2.2 = .slice (some ⟨g, 0, none⟩) l.length c ∧ RowI W n₀ g c l
theorem nxC_own (B n₀ : Nat) (L : List Nat) : OwnFrom B (NxC n₀ L) := by
  rintro s W W' row ⟨h1, l, g, c, h2, h3, h4⟩ hg hr
  refine ⟨h1, l, g, c, h2, h3, h4.kept hg ?_⟩
  intro e
  obtain ⟨_, o, ho, hc⟩ := hr g e
  obtain ⟨c', fz, hk⟩ := h4.kind
  rw [hk] at ho
  cases ho
  cases hc

end Go.Proofs.YtemnbkenihldgaaDoor
/-! Package push: fold: an element for each class, where all go. -/
namespace Go.Proofs.YtemnbkenihldgaaDoor
open Go.RowKit Go.Shelf
attribute [local go_sem] Oper.semAt_some

theorem labG_ok {Lb : List ByteArray} {L : List Nat} (h : labErr Lb = 0) (hl : L.length = Lb.length) : labErr (labG Lb L) = 0 := by
  have h40 := lab_small h
  have hall : Lb.all okS = true := by
    unfold labErr at h
    rw [if_neg (by omega)] at h
    cases hb : Lb.all okS
    · rw [hb] at h; cases h
    · rfl
  unfold labErr
  have h1 : (labG Lb L).length ≤ 40 := by rw [labG_len]; have := cntR_le L L.length; omega
  rw [if_neg (by omega)]
  have h2 : (labG Lb L).all okS = true := by
    rw [List.all_eq_true]
    intro x hx
    unfold labG at hx
    obtain ⟨e, he, rfl⟩ := List.mem_map.1 hx
    have he : e < L.length := by have := (List.mem_filter.1 he).1; simpa using this
    rw [List.getElem?_eq_getElem (by omega)]
    exact (List.all_eq_true.1 hall) _ (List.getElem_mem _)
  rw [h2]
  rfl

/-- What lies in memory while the classes come: the first k labels, where all go. -/
structure FoldI (w0 W : World) (bs g gw lo hi u N : Nat) (L : List Nat) (Lb : List ByteArray) (k : Nat) (Z : List Int) : Prop where
  lab : ∃ pl cl, Boxed W (g + 1) 22 (.slice pl k cl) ∧ W.ownsRow bs 9 1 (.slice pl k cl) k (scells ((labG Lb L).take k))
  row : RowZ W gw Z
  whb : Boxed W g 28 (.slice (some ⟨gw, 0, none⟩) N N)
  uni : IsUn W lo hi u L
  gr : w0.grownBy W none
theorem FoldI.calm {w0 W W' : World} {bs g gw lo hi u N k : Nat} {L : List Nat} {Lb : List ByteArray} {Z : List Int} (h : FoldI w0 W bs g gw lo hi u N L Lb k Z) (hg : W.grownBy W' none) : FoldI w0 W' bs g gw lo hi u N L Lb k Z := by
  obtain ⟨pl, cl, h1, h2⟩ := h.lab
  exact ⟨⟨pl, cl, h1.kept hg (by simp), ownsRow_calm h2 hg⟩, h.row.calm hg, h.whb.kept hg (by simp), h.uni.calm hg, grownBy_trans h.gr hg⟩
theorem FoldI.setZ {w0 W : World} {bs g gw lo hi u N k : Nat} {L : List Nat} {Lb : List ByteArray} {Z : List Int} (h : FoldI w0 W bs g gw lo hi u N L Lb k Z) (h0 : w0.heap.size ≤ gw) (h1 : gw < g) (h2 : hi ≤ gw) (e : Nat) (z : Int) : FoldI w0 (W.setCell ⟨gw, e, none⟩ (.int .i64 z)) bs g gw lo hi u N L Lb k (Z.set e z) := by
  obtain ⟨pl, cl, h3, h4⟩ := h.lab
  have hg := grownBy_setCell W ⟨gw, e, none⟩ (.int .i64 z)
  have hne : some gw ≠ (Value.slice pl k cl).ownBlock := by
    rcases h4.2 with ⟨h5, _⟩ | ⟨g', cap, cur', h5, _, hgb, _⟩
    · rw [h5]; simp [Value.ownBlock]
    · rw [h5]
      intro e
      obtain rfl : gw = g' := by simpa [Value.ownBlock] using e
      rw [show W.heap[gw]? = _ from h.row] at hgb
      simp at hgb
  exact ⟨⟨pl, cl, h3.kept hg (by simp; omega), h4.kept hg (.inr hne.symm)⟩, h.row.set z, h.whb.kept hg (by simp; omega), h.uni.apart (Kept.row hg (Nat.le_refl gw) (Nat.lt_succ_self gw)) (.inl h2), grownBy_new h.gr hg h0⟩
theorem foldI_own {β : Type} {w0 : World} {bs g gw lo hi u N B : Nat} {L : List Nat} {Lb : List ByteArray} {k : β → Nat} {Z : β → List Int} (hB : hi ≤ B) (hB0 : w0.heap.size ≤ B) : OwnFrom B (fun s W => FoldI w0 W bs g gw lo hi u N L Lb (k s) (Z s)) := by
  rintro s W W' row ⟨⟨pl, cl, h1, h2⟩, h3, h4, h5, h6⟩ hg hr
  have hcell : ∀ {b : Nat} {cur : Array Value} {t : TypeId} {fz : Nat × Nat}, W.heap[b]? = some (.cells cur t fz) → some b ≠ row := by
    intro b cur t fz hb e
    obtain ⟨_, o, ho, hc⟩ := hr b e.symm
    rw [hb] at ho
    cases ho
    cases hc
  refine ⟨⟨pl, cl, h1.kept hg (hcell h1), ?_⟩, (hg.block gw h3.lt (hcell h3)).trans h3, h4.kept hg (hcell h4), ?_, ?_⟩
  · refine ⟨h2.1, ?_⟩
    rcases h2.2 with h7 | ⟨g', cap, cur, e1, h7, h8, h9⟩
    · exact .inl h7
    · exact .inr ⟨g', cap, cur, e1, h7, (hg.block g' (Array.getElem?_eq_some_iff.1 h8).1 (hcell h8)).trans h8, h9⟩
  · obtain ⟨p, c, F, h7, h8, h9⟩ := h5
    exact ⟨p, c, F, ownFrom_ug (β := Unit) (fun _ => F) hB () W W' row h7 hg hr, h8, h9⟩
  · refine ⟨hg.os.trans h6.os, hg.tape.trans h6.tape, hg.output.trans h6.output, Nat.le_trans h6.size hg.size, fun i hi hn => (hg.block i (Nat.lt_of_lt_of_le hi h6.size) ?_).trans (h6.block i hi hn)⟩
    intro e
    have := (hr i e.symm).1
    omega
theorem FoldI.lbl {w0 W w1 W2 : World} {bs g gw lo hi u N k : Nat} {L : List Nat} {Lb : List ByteArray} {Z : List Int} {x : Nat} {v v' : Value} (h : FoldI w0 W bs g gw lo hi u N L Lb k Z) (hbs : bs = w0.heap.size) (h1 : gw < g) (h2 : hi ≤ gw) (h0 : bs ≤ gw) (hx : (leadL L)[k]? = some x)
    (hv : Boxed W (g + 1) 22 v) (hr : W.ownsRow bs 9 1 v k (scells ((labG Lb L).take k)))
    (hc : W.grownBy w1 none) (hown' : W2.ownsRow bs 9 1 v' (k + 1) (scells ((labG Lb L).take k) ++ [.string (Lb[x]?.getD .empty)])) (hgrow : w1.grownBy W2 v.ownBlock) :
    Boxed W2 (g + 1) 22 v ∧ FoldI w0 (W2.setCell ⟨g + 1, 0, none⟩ v') bs g gw lo hi u N L Lb (k + 1) Z ∧ KeepsOthers W (W2.setCell ⟨g + 1, 0, none⟩ v') ∧ (∀ n₀, g + 1 < n₀ → KeepG n₀ W (W2.setCell ⟨g + 1, 0, none⟩ v')) := by
  have hr1 := ownsRow_calm hr hc
  have hv1 := hv.kept hc (by simp)
  have hvn := hv1.not_row (by decide) hr1
  have hv2 : Boxed W2 (g + 1) 22 v := hv1.kept hgrow hvn
  have hs := grownBy_setCell W2 ⟨g + 1, 0, none⟩ v'
  have hs' := grownBy_setCell' W2 (g + 1) v'
  have hk1 := h.calm hc
  have hne : ∀ {b : Nat} {cur : Array Value} {t : TypeId} {fz : Nat × Nat}, t ≠ 9 → w1.heap[b]? = some (.cells cur t fz) → some b ≠ v.ownBlock := by
    intro b cur t fz ht hb
    rcases hr1.2 with ⟨h5, _⟩ | ⟨g', cap, cur', h5, _, hgb, _⟩
    · rw [h5]; simp [Value.ownBlock]
    · rw [h5]
      intro e
      obtain rfl : b = g' := by simpa [Value.ownBlock] using e
      rw [hb] at hgb
      simp at hgb
      exact ht hgb.2.1
  have hgr2 : w0.grownBy W2 none := ownsRow_new hk1.gr (by rw [← hbs]; exact hr1) hgrow
  have hrow2 : RowZ W2 gw Z := (hgrow.block gw hk1.row.lt (hne (by decide) hk1.row)).trans hk1.row
  have hwb2 : Boxed W2 g 28 (.slice (some ⟨gw, 0, none⟩) N N) := hk1.whb.kept hgrow (hne (by decide) hk1.whb)
  refine ⟨hv2, ⟨?_, ?_, ?_, ?_, ?_⟩, ?_, ?_⟩
  · obtain ⟨p2, c2, rfl⟩ := ownsRow_sl hown'
    refine ⟨p2, c2, hv2.set _, ?_⟩
    have : scells ((labG Lb L).take (k + 1)) = scells ((labG Lb L).take k) ++ [.string (Lb[x]?.getD .empty)] := by rw [labG_take hx, scells_app]; first | done | rfl
    rw [this]
    exact hown'.kept hs' (.inr (hv2.not_row (by decide) hown').symm)
  · exact (hs.block gw hrow2.lt (by simp; omega)).trans hrow2
  · exact hwb2.kept hs (by simp)
  · obtain ⟨p, c, F, h7, h8, h9⟩ := hk1.uni
    refine ⟨p, c, F, ⟨h7.h1, h7.h2, Nat.le_trans h7.h3 (Nat.le_trans hgrow.size hs.size), h7.small, h7.nil, ?_, fun hn => ?_⟩, h8, h9⟩
    · refine (hs.block u (by have := (Array.getElem?_eq_some_iff.1 ((hgrow.block u (Array.getElem?_eq_some_iff.1 h7.box).1 (hne (by decide) h7.box)).trans h7.box)).1; exact this) (by simp; have := h7.h2; omega)).trans ?_
      exact (hgrow.block u (Array.getElem?_eq_some_iff.1 h7.box).1 (hne (by decide) h7.box)).trans h7.box
    · obtain ⟨g', e, k1, k2⟩ := h7.row hn
      obtain ⟨c', fz, hk⟩ := k2.kind
      have hb1 := hgrow.block g' k2.lt.2 (hne (by decide) hk)
      have hb2 := hs.block g' (Nat.lt_of_lt_of_le k2.lt.2 hgrow.size) (by simp; omega)
      exact ⟨g', e, k1, k2.block (hb2.trans hb1)⟩
  · exact grownBy_new hgr2 hs (by show _ ≤ g + 1; omega)
  · refine ((KeepsOthers.of_grownBy hc fun j o ej _ => by cases ej).trans (KeepsOthers.of_grownBy hgrow fun j o ej hj => ?_)).trans (KeepsOthers.setCell _ _ _)
    rcases hr1.2 with ⟨h5, _⟩ | ⟨g', cap, cur, h5, _, hgb, _⟩
    · rw [h5] at ej; simp [Value.ownBlock] at ej
    · rw [h5] at ej
      obtain rfl : g' = j := by simpa [Value.ownBlock] using ej
      rw [hgb] at hj; cases hj; rfl
  · intro n₀ hn₀
    exact ((KeepG.calm hc).trans (KeepG.own hr1 hgrow)).trans (KeepG.below hs (by show g + 1 < n₀; exact hn₀))

end Go.Proofs.YtemnbkenihldgaaDoor
/-! A region that draws, in the body of a range over a function: what it only reads comes first, what turns memory behind it, in one order. -/
namespace Go.Proofs.YtemnbkenihldgaaDoor
open Go.RowKit

/-- An operation in a round is what it is elsewhere, but for a deferred call. -/
theorem opIn_round {P : Program} {o : Oper} {a : Act} {w : World} {K : Act → World → Prop} {Q : Exit → Act → World → Prop} (l m : Nat) (hd : ∀ c, o.op ≠ .defer c) (h : o.wp P a w K Q) : o.wpIn (Fence.wide.inRound l) m P a w K Q := by
  refine ⟨fun _ _ => trivial, ?_⟩
  rw [Fence.inRound_round, Oper.semAt_some l _ _ hd]
  unfold Oper.wp at h
  generalize (execOp a.eval o).run P w = r at h
  have hno : ∀ {p : Prop}, (Fence.wide.inRound l).depth.isSome = true → p := fun hq => by cases hq
  cases r with
  | ok x w' =>
    cases x with
    | enter f args =>
      refine ⟨hno, CallsIn.inRound l (callsIn_wide.2 (Calls.mono h fun e w'' he => ?_))⟩
      cases e <;> exact he
    | row r args =>
      refine ⟨hno, fun c cs _ => ?_⟩
      obtain ⟨v, w2, r2, s2⟩ := h c cs
      exact ⟨v, w2, r2, stepsIn_wide.2 s2⟩
    | _ => first | exact h | exact h.elim
  | halt x w' => cases x <;> exact h

theorem anyIn_round {P : Program} {md : Region.Mode} {ops : Array Oper} {Q : Exit → Act → World → Prop} (l m : Nat) (hL : ¬ LetsOut Q) (hd : ∀ (i : Nat) (o : Oper), ops[i]? = some o → ∀ c, o.op ≠ .defer c) :
    ∀ (fuel : Nat) (listed : Array Bool) (a : Act) (w : World), wpAny P md ops Q fuel listed a w → wpAnyIn (Fence.wide.inRound l) m P md ops Q fuel listed a w := by
  intro fuel
  induction fuel with
  | zero => intro listed a w h; exact h
  | succ fuel ih =>
    intro listed a w h
    refine ⟨h.1, fun i hi => ?_⟩
    have h2 := h.2 i hi
    unfold wpOp at h2
    unfold wpOpIn
    cases ho : ops[i]? with
    | none => simp only [ho] at h2 ⊢; exact ih _ _ _ h2
    | some o =>
      simp only [ho] at h2 ⊢
      split
      · rename_i hw
        rw [if_pos hw] at h2
        rcases h2 with h2 | ⟨_, h2⟩
        · exact Oper.wpIn_mono (fun a w => ih _ a w) (opIn_round l m (hd i o ho) h2)
        · exact absurd h2 hL
      · rename_i hw
        rw [if_neg hw] at h2
        exact ⟨fun _ _ => trivial, ih _ _ _ h2⟩

/-- No deferred call among them. -/
def calmOps (l : List Oper) : Bool := l.all fun o => match o.op with | .defer _ => false | _ => true
theorem calmOps_of {l : List Oper} (h : calmOps l = true) (i : Nat) (o : Oper) (ho : l.toArray[i]? = some o) (c : Call) : o.op ≠ .defer c := by
  have hm : o ∈ l := List.mem_of_getElem? (by simpa using ho)
  have := (List.all_eq_true.1 h) o hm
  intro e
  rw [e] at this
  cases this

/-- append, whatever there is to be appended, as one step of a region that draws. -/
theorem step_append_own {P : Program} {ops : Array Oper} {o : Oper} {a : Act} {w : World} {K : Act → World → Prop} {Q : Exit → Act → World → Prop} {E : Prop} (hgd : o.guard = none) (s x : Operand) (t : TypeId)
    (ho : o.op = .call { callee := .builtin .append, args := #[s, x], argTypes := #[t, t] })
    (base : Nat) (e : TypeId) (i : TypeInfo) (z : Value) (size bytes : Nat) (ht : P.underlying t = some (.slice e)) (hi : P.info? e = some i) (hz : i.zero = some z)
    (hsize : i.size = size) (hby : i.bytes = bytes) (hzs : z.cells.size = size) (hsz : 0 < size)
    (v : Value) (n : Nat) (xs : List Value) (hs : a.eval s = v) (hown : w.ownsRow base e size v n xs)
    (ad : Addr) (m c : Nat) (news : List Value) (hx : a.eval x = .slice (some ad) m c) (hl : news.length = m * size) (hnews : ∀ j u, news[j]? = some u → w.cell? (ad.add j) = some u) (h1 : ∀ u ∈ news, u.oneCell' = true)
    (h63 : n + m ≤ maxLen) (hbytes : (n + m) * bytes ≤ 140737488355328) (hbase : base ≤ w.heap.size)
    (h : ∀ p' c' w', w'.ownsRow base e size (.slice p' (n + m) c') (n + m) (xs ++ news) → w.grownBy w' v.ownBlock → K (a.put o.dst (.slice p' (n + m) c')) w') :
    if Region.wanted o (yielded ops a.tmps) = true then Oper.wp P o a w K Q else E := by
  have hw : Region.wanted o (yielded ops a.tmps) = true := by simp [Region.wanted, hgd]
  rw [if_pos hw]
  refine wp_append_own w s x t ho base e i z size bytes ht hi hz hsize hby hzs hsz v n xs hs hown ad m c news hx hl hnews h1 h63 hbytes hbase fun v' w' h2 h3 _ => ?_
  obtain ⟨p', c', rfl⟩ : ∃ p' c', v' = .slice p' (n + m) c' := by
    rcases h2.2 with ⟨e1, e2⟩ | ⟨g, cap, cur, e1, _⟩
    · exact ⟨none, 0, by rw [e1, e2]⟩
    · exact ⟨_, _, e1⟩
  exact h p' c' w' h2 h3

/-- The beginning of such a walk: what is held behind each operation (S) is the prover's to choose. -/
theorem round_held {P : Program} {id m r : Nat} {Q : Exit → Act → World → Prop} {S : World → Prop} {a : Act} {w : World} {l : List Oper} (hm : P.follows .mixedOrders = true) (hd : calmOps l = true) (hL : ¬ LetsOut Q)
    (h : wpAnyH P .any l.toArray Q S l.length (Array.replicate l.length false) a w.drew) : (Code.region id l.toArray true).wpIn (Fence.wide.inRound r) m P Q a w := by
  refine wpIn_region_any hm (anyIn_round r m hL (fun i o ho => calmOps_of hd i o ho) _ _ _ _ (wpAny_of_held (S := S) _ _ _ _ ?_))
  have e : l.toArray.size = l.length := by simp
  rw [e]
  exact h

/-- A walk's next operation by itself. -/
theorem held_next {P : Program} {Q : Exit → Act → World → Prop} {S : World → Prop} {ops : Array Oper} {fuel : Nat} {listed : Array Bool} {a : Act} {w : World} (i : Nat) (hr : Region.ready .any ops listed = [i]) {o : Oper} (ho : ops[i]? = some o)
    (h : ∀ K : Act → World → Prop, (∀ a' w', S w' → wpAnyH P .any ops Q S fuel (listed.setIfInBounds i true) a' w' → K a' w') → if Region.wanted o (yielded ops a.tmps) = true then Oper.wp P o a w K Q else K (a.put o.dst undef) w) : wpAnyH P .any ops Q S (fuel + 1) listed a w := by
  refine wpAnyH_all hr (by simp) fun j hj => ?_
  obtain rfl : j = i := by simpa using hj
  exact wpOp_step ho (fun K hK => h K fun a' w' h1 h2 => hK a' w' ⟨h1, h2⟩)
/-- Two that may come up. -/
theorem held_two {P : Program} {Q : Exit → Act → World → Prop} {S : World → Prop} {ops : Array Oper} {fuel : Nat} {listed : Array Bool} {a : Act} {w : World} (i k : Nat) (hr : Region.ready .any ops listed = [i, k]) {o o' : Oper} (ho : ops[i]? = some o) (ho' : ops[k]? = some o')
    (h : ∀ K : Act → World → Prop, (∀ a' w', S w' → wpAnyH P .any ops Q S fuel (listed.setIfInBounds i true) a' w' → K a' w') → if Region.wanted o (yielded ops a.tmps) = true then Oper.wp P o a w K Q else K (a.put o.dst undef) w)
    (h' : ∀ K : Act → World → Prop, (∀ a' w', S w' → wpAnyH P .any ops Q S fuel (listed.setIfInBounds k true) a' w' → K a' w') → if Region.wanted o' (yielded ops a.tmps) = true then Oper.wp P o' a w K Q else K (a.put o'.dst undef) w) : wpAnyH P .any ops Q S (fuel + 1) listed a w := by
  refine wpAnyH_all hr (by simp) fun j hj => ?_
  rcases (by simpa using hj : j = i ∨ j = k) with rfl | rfl
  · exact wpOp_step ho (fun K hK => h K fun a' w' h1 h2 => hK a' w' ⟨h1, h2⟩)
  · exact wpOp_step ho' (fun K hK => h' K fun a' w' h1 h2 => hK a' w' ⟨h1, h2⟩)

theorem round_still_tail {P : Program} {id m r : Nat} {Q : Exit → Act → World → Prop} {a : Act} {w : World} {l : List Oper} (n : Nat) (hm : P.follows .mixedOrders = true) (hB : Region.lexTailB .any l.toArray n = true) (hd : calmOps l = true) (hL : ¬ LetsOut Q)
    (h : wpStill P l.toArray w.drew (fun a' => wpList P l.toArray Q (l.drop n) a' w.drew) (l.take n) a) : (Code.region id l.toArray true).wpIn (Fence.wide.inRound r) m P Q a w := by
  refine wpIn_region_any hm (anyIn_round r m hL (fun i o ho => calmOps_of hd i o ho) _ _ _ _ ?_)
  simp only [Region.lexTailB, Bool.and_eq_true, decide_eq_true_eq] at hB
  obtain ⟨⟨⟨⟨h1, h2⟩, h3⟩, h4⟩, h5⟩ := hB
  have h6 : n < l.length := by simpa using h2
  have e1 : (l.take n).length = n := by simp; omega
  have e2 : (l.drop n).length = l.toArray.size - n := by simp
  have hi : HeadInv .any l.toArray n (Array.replicate l.toArray.size false) := by
    refine ⟨by simp, ?_, ?_⟩
    · intro j oj _ hl
      rw [getD_replicate_false] at hl
      cases hl
    · exact fun t _ ht => getD_in (by simpa using ht) (getD_replicate_false _ _)
  have hH := wpAnyL_lex (md := .any) (g := l.toArray.size - n) h1 h3 h4 h2 (l.take n) 0 _ a (fun j hj => by
    have : j < n := by omega
    simp [this]) (by simpa using e1) hi (by rw [e1]; exact h5) h
  have hF := wpAny_of_head (Q' := Q) (g := l.toArray.size - n) (fun listed a' hl => by
    have := wpAny_of_seq (md := .any) (Q' := Q) (l.drop n) n listed a' w.drew (fun j => by simp [List.getElem?_drop]) (by rw [e2]; exact hl.1) hl.2
    rwa [e2] at this) _ _ _ hH
  rw [e1, show n + (l.toArray.size - n) = l.toArray.size by omega] at hF
  exact hF

end Go.Proofs.YtemnbkenihldgaaDoor
