/- Package union: plain classes; unions in memory, the contracts of all its functions. -/
import Derived.Test.YtemnbkenihldgaaDoorOrda
import Derived.Test.YtemnbkenihldgaaDoorObja
import Derived.Test.YtemnbkenihldgaaDoorArra
/-! Plain facts on elements in classes, each kept by what lies next on its way down to the least of its class: roots, ways, joins, places. -/
namespace Go.Proofs.YtemnbkenihldgaaDoor

/-- What lies next to e. -/
def nx (F : List Nat) (e : Nat) : Nat := F[e]?.getD 0
/-- All ways lead down. -/
def downF (F : List Nat) : Prop := ∀ e, e < F.length → nx F e ≤ e
def root (F : List Nat) (e : Nat) : Nat := if _h : nx F e < e then root F (nx F e) else e
termination_by e
def way (F : List Nat) (e : Nat) : List Nat := if _h : nx F e < e then e :: way F (nx F e) else [e]
termination_by e

theorem root_step {F : List Nat} {e : Nat} (h : nx F e < e) : root F e = root F (nx F e) := by rw [root, dif_pos h]
theorem root_end {F : List Nat} {e : Nat} (h : ¬ nx F e < e) : root F e = e := by rw [root, dif_neg h]
theorem way_step {F : List Nat} {e : Nat} (h : nx F e < e) : way F e = e :: way F (nx F e) := by rw [way, dif_pos h]
theorem way_end {F : List Nat} {e : Nat} (h : ¬ nx F e < e) : way F e = [e] := by rw [way, dif_neg h]

theorem root_le (F : List Nat) (e : Nat) : root F e ≤ e := by
  induction e using Nat.strongRecOn with
  | _ e ih =>
    by_cases h : nx F e < e
    · rw [root_step h]; have := ih _ h; omega
    · rw [root_end h]; exact Nat.le_refl _
theorem root_fix {F : List Nat} (hd : downF F) {e : Nat} (he : e < F.length) : nx F (root F e) = root F e := by
  induction e using Nat.strongRecOn with
  | _ e ih =>
    by_cases h : nx F e < e
    · rw [root_step h]; exact ih _ h (by omega)
    · rw [root_end h]; have := hd e he; omega
theorem root_of_fix {F : List Nat} {e : Nat} (h : nx F e = e) : root F e = e := root_end (by omega)
theorem fix_of_root {F : List Nat} (hd : downF F) {e : Nat} (he : e < F.length) (h : root F e = e) : nx F e = e := by
  by_cases h1 : nx F e < e
  · rw [root_step h1] at h; have := root_le F (nx F e); omega
  · have := hd e he; omega
theorem root_root {F : List Nat} (hd : downF F) {e : Nat} (he : e < F.length) : root F (root F e) = root F e := root_of_fix (root_fix hd he)
theorem mem_way {F : List Nat} {e x : Nat} (h : x ∈ way F e) : x ≤ e ∧ root F x = root F e := by
  induction e using Nat.strongRecOn with
  | _ e ih =>
    by_cases h1 : nx F e < e
    · rw [way_step h1, List.mem_cons] at h
      rcases h with rfl | h
      · exact ⟨Nat.le_refl _, rfl⟩
      · have := ih _ h1 h
        exact ⟨by omega, by rw [this.2, root_step h1]⟩
    · rw [way_end h1, List.mem_singleton] at h
      subst h
      exact ⟨Nat.le_refl _, rfl⟩
theorem root_mem (F : List Nat) (e : Nat) : root F e ∈ way F e := by
  induction e using Nat.strongRecOn with
  | _ e ih =>
    by_cases h : nx F e < e
    · rw [way_step h, root_step h]; exact List.mem_cons_of_mem _ (ih _ h)
    · rw [way_end h, root_end h]; simp
/-- The last of a way. -/
theorem way_last (F : List Nat) (e d : Nat) : (way F e).getLastD d = root F e := by
  induction e using Nat.strongRecOn generalizing d with
  | _ e ih =>
    by_cases h : nx F e < e
    · rw [way_step h, root_step h, List.getLastD_cons]; exact ih _ h _
    · rw [way_end h, root_end h]; rfl
theorem last_snoc (pre : List Nat) (x : Nat) (d : Int) : ((pre ++ [x]).map fun y : Nat => (y : Int)).getLastD d = x := by
  simp

/-- Those of a way set to v. -/
theorem setL_len6 (F pre : List Nat) (v : Nat) : (setL F pre v).length = F.length := by
  unfold setL
  induction pre generalizing F with
  | nil => rfl
  | cons a l ih => rw [List.foldl_cons, ih]; simp
theorem nx_set {F : List Nat} {x v e : Nat} (he : e < F.length) : nx (F.set x v) e = if x = e then v else nx F e := by
  unfold nx
  rw [List.getElem?_set]
  by_cases h : x = e
  · subst h; simp [he]
  · simp [h]
theorem nx_setL {F pre : List Nat} {v e : Nat} (he : e < F.length) : nx (setL F pre v) e = if e ∈ pre then v else nx F e := by
  unfold setL
  induction pre generalizing F with
  | nil => simp
  | cons a l ih =>
    rw [List.foldl_cons, ih (by simpa using he), nx_set he]
    by_cases h : e ∈ l
    · simp [h]
    · by_cases h2 : a = e
      · subst h2; simp [h]
      · have : e ≠ a := fun x => h2 x.symm
        simp [h, h2, this]
theorem setL_snoc6 (F pre : List Nat) (x v : Nat) : setL F (pre ++ [x]) v = (setL F pre v).set x v := by simp [setL]

/-- A way cut short: all on it lead to v, which is no more than its root. -/
theorem short_down {F : List Nat} (hd : downF F) {a v : Nat} (hv : v ≤ root F a) : downF (setL F (way F a) v) := by
  intro e he
  rw [setL_len6] at he
  rw [nx_setL he]
  split
  · rename_i h
    have h1 := mem_way h
    have := root_le F e
    omega
  · exact hd e he
theorem short_root {F : List Nat} {a v : Nat} (hv : v ≤ root F a) (hvl : v < F.length) (hf : nx F v = v) (e : Nat) (he : e < F.length) :
    root (setL F (way F a) v) e = if root F e = root F a then v else root F e := by
  have hfv : nx (setL F (way F a) v) v = v := by rw [nx_setL hvl]; split <;> first | rfl | exact hf
  induction e using Nat.strongRecOn with
  | _ e ih =>
    by_cases hm : e ∈ way F a
    · have h1 := mem_way hm
      have hx : nx (setL F (way F a) v) e = v := by rw [nx_setL he, if_pos hm]
      rw [if_pos h1.2]
      by_cases h2 : v < e
      · rw [root_step (by rw [hx]; exact h2), hx]
        exact root_of_fix hfv
      · rw [root_end (by rw [hx]; exact h2)]
        have := root_le F e
        omega
    · have hx : nx (setL F (way F a) v) e = nx F e := by rw [nx_setL he, if_neg hm]
      by_cases h2 : nx F e < e
      · rw [root_step (by rw [hx]; exact h2), hx, ih _ h2 (by omega), root_step h2]
      · rw [root_end (by rw [hx]; exact h2), root_end h2]
        rw [if_neg]
        intro h3
        exact hm (by rw [h3]; exact root_mem F a)

/-- Of each element the least one of its class. -/
def rootL (F : List Nat) : List Nat := (List.range F.length).map (root F)
theorem rootL_len (F : List Nat) : (rootL F).length = F.length := by simp [rootL]
theorem nx_rootL {F : List Nat} {e : Nat} (he : e < F.length) : nx (rootL F) e = root F e := by
  unfold nx rootL
  rw [List.getElem?_map, List.getElem?_range he]
  rfl
/-- Least elements of classes. -/
structure isL (L : List Nat) : Prop where
  le : ∀ e, e < L.length → nx L e ≤ e
  fix : ∀ e, e < L.length → nx L (nx L e) = nx L e
theorem rootL_is {F : List Nat} (hd : downF F) : isL (rootL F) := by
  constructor
  · intro e he
    rw [rootL_len] at he
    rw [nx_rootL he]
    exact root_le F e
  · intro e he
    rw [rootL_len] at he
    have := root_le F e
    rw [nx_rootL he, nx_rootL (by omega)]
    exact root_root hd he
theorem list_nx {L M : List Nat} (hl : L.length = M.length) (h : ∀ e, e < L.length → nx L e = nx M e) : L = M := by
  apply List.ext_getElem hl
  intro i h1 h2
  have := h i h1
  unfold nx at this
  rw [List.getElem?_eq_getElem h1, List.getElem?_eq_getElem h2] at this
  exact this

/-- The classes of a and b made one. -/
def joinL (L : List Nat) (a b : Nat) : List Nat := L.map fun x => if x = nx L a ∨ x = nx L b then min (nx L a) (nx L b) else x
theorem joinL_len (L : List Nat) (a b : Nat) : (joinL L a b).length = L.length := by simp [joinL]
theorem nx_joinL {L : List Nat} {a b e : Nat} (he : e < L.length) : nx (joinL L a b) e = if nx L e = nx L a ∨ nx L e = nx L b then min (nx L a) (nx L b) else nx L e := by
  unfold joinL
  have : nx (L.map fun x => if x = nx L a ∨ x = nx L b then min (nx L a) (nx L b) else x) e = (fun x => if x = nx L a ∨ x = nx L b then min (nx L a) (nx L b) else x) (nx L e) := by
    unfold nx
    rw [List.getElem?_map, List.getElem?_eq_getElem he]
    rfl
  exact this
theorem joinL_is {L : List Nat} (h : isL L) {a b : Nat} (ha : a < L.length) (hb : b < L.length) : isL (joinL L a b) := by
  have la := h.le a ha
  have lb := h.le b hb
  constructor
  · intro e he
    rw [joinL_len] at he
    rw [nx_joinL he]
    have := h.le e he
    split
    · rename_i h1
      rcases h1 with h1 | h1 <;> omega
    · exact this
  · intro e he
    rw [joinL_len] at he
    have le := h.le e he
    have fe := h.fix e he
    have fa := h.fix a ha
    have fb := h.fix b hb
    rw [nx_joinL he]
    split
    · rcases Nat.le_total (nx L a) (nx L b) with h2 | h2
      · rw [Nat.min_eq_left h2, nx_joinL (by omega), fa, if_pos (.inl rfl)]; exact Nat.min_eq_left h2
      · rw [Nat.min_eq_right h2, nx_joinL (by omega), fb, if_pos (.inr rfl)]; exact Nat.min_eq_right h2
    · rename_i h1
      rw [nx_joinL (by omega), fe, if_neg h1]

/-- What Join leaves: both ways cut short. -/
def joinF (F : List Nat) (a b : Nat) : List Nat :=
  setL (setL F (way F a) (min (root F a) (root F b))) (way (setL F (way F a) (min (root F a) (root F b))) b) (min (root F a) (root F b))
theorem joinF_len (F : List Nat) (a b : Nat) : (joinF F a b).length = F.length := by simp [joinF, setL_len6]
theorem join_facts {F : List Nat} (hd : downF F) {a b : Nat} (ha : a < F.length) (hb : b < F.length) : downF (joinF F a b) ∧ rootL (joinF F a b) = joinL (rootL F) a b := by
  have la := root_le F a
  have lb := root_le F b
  have fa := root_fix hd ha
  have fb := root_fix hd hb
  unfold joinF
  generalize hm : min (root F a) (root F b) = m
  have hml : m < F.length := by omega
  have hmf : nx F m = m := by
    rcases Nat.le_total (root F a) (root F b) with h | h
    · rw [Nat.min_eq_left h] at hm; subst hm; exact fa
    · rw [Nat.min_eq_right h] at hm; subst hm; exact fb
  have hma : m ≤ root F a := by omega
  have d1 := short_down hd hma
  have r1 := short_root hma hml hmf
  have l1 := setL_len6 F (way F a) m
  generalize hF1 : setL F (way F a) m = F1 at *
  have hrb := r1 b hb
  have hmb : m ≤ root F1 b := by rw [hrb]; split <;> omega
  have hrm : root F1 m = m := by
    rw [r1 m hml, root_of_fix hmf]
    split <;> rfl
  have hmf1 : nx F1 m = m := fix_of_root d1 (by omega) hrm
  have d2 := short_down d1 hmb
  have r2 := short_root hmb (by omega) hmf1
  refine ⟨d2, ?_⟩
  have l2 := setL_len6 F1 (way F1 b) m
  apply list_nx
  · rw [rootL_len, joinL_len, rootL_len]; omega
  · intro e he
    rw [rootL_len] at he
    rw [nx_rootL he, nx_joinL (by rw [rootL_len]; omega), nx_rootL (by omega), nx_rootL ha, nx_rootL hb, r2 e (by omega), r1 e (by omega), hrb]
    repeat' split
    all_goals omega

/-- n elements, each by itself. -/
theorem range_down (n : Nat) : downF (List.range n) := by
  intro e he
  simp at he
  unfold nx
  rw [List.getElem?_range he]
  exact Nat.le_refl _
theorem nx_range {n e : Nat} (he : e < n) : nx (List.range n) e = e := by unfold nx; rw [List.getElem?_range he]; rfl
theorem rootL_range (n : Nat) : rootL (List.range n) = List.range n := by
  apply list_nx
  · simp [rootL]
  · intro e he
    rw [rootL_len] at he
    have he' : e < n := by simpa using he
    rw [nx_rootL he, nx_range he', root_of_fix (nx_range he')]

/-- How many least elements are less than m. -/
def cntR (L : List Nat) (m : Nat) : Nat := ((List.range m).filter fun j => decide (nx L j = j)).length
theorem cntR_succ (L : List Nat) (m : Nat) : cntR L (m + 1) = cntR L m + if nx L m = m then 1 else 0 := by
  unfold cntR
  rw [List.range_succ, List.filter_append, List.length_append]
  by_cases h : nx L m = m <;> simp [h]
theorem cntR_le (L : List Nat) (m : Nat) : cntR L m ≤ m := by
  have := List.length_filter_le (fun j => decide (nx L j = j)) (List.range m)
  simpa [cntR] using this
theorem cntR_mono (L : List Nat) {m k : Nat} (h : m ≤ k) : cntR L m ≤ cntR L k := by
  induction k with
  | zero => obtain rfl : m = 0 := by omega
            exact Nat.le_refl _
  | succ k ih =>
    by_cases e : m = k + 1
    · subst e; exact Nat.le_refl _
    · have := ih (by omega)
      rw [cntR_succ]
      omega
theorem cntR_lt {L : List Nat} {m k : Nat} (h : m < k) (hf : nx L m = m) : cntR L m < cntR L k := by
  have := cntR_mono L (show m + 1 ≤ k from h)
  rw [cntR_succ, if_pos hf] at this
  omega
/-- The place of e's class. -/
def plc6 (L : List Nat) (e : Nat) : Nat := cntR L (nx L e)
def placesL (L : List Nat) : List Nat := (List.range L.length).map (plc6 L)
theorem placesL_len (L : List Nat) : (placesL L).length = L.length := by simp [placesL]
theorem nx_places {L : List Nat} {e : Nat} (he : e < L.length) : nx (placesL L) e = plc6 L e := by
  unfold nx placesL
  rw [List.getElem?_map, List.getElem?_range he]
  rfl
/-- Half way: the first k places. -/
def plK (L : List Nat) (k : Nat) : List Nat := (List.range k).map (plc6 L) ++ List.replicate (L.length - k) 0
theorem plK_len {L : List Nat} {k : Nat} (h : k ≤ L.length) : (plK L k).length = L.length := by simp [plK]; omega
theorem plK_end (L : List Nat) : plK L L.length = placesL L := by simp [plK, placesL]
theorem plK_zero (L : List Nat) : plK L 0 = List.replicate L.length 0 := by simp [plK]
theorem plK_get {L : List Nat} {k e : Nat} (h : e < k) : nx (plK L k) e = plc6 L e := by
  unfold nx plK
  rw [List.getElem?_append_left (by simpa using h), List.getElem?_map, List.getElem?_range h]
  rfl
theorem plK_succ {L : List Nat} {k : Nat} (h : k < L.length) : (plK L k).set k (plc6 L k) = plK L (k + 1) := by
  unfold plK
  have e : L.length - k = (L.length - (k + 1)) + 1 := by omega
  rw [List.set_append_right _ _ (by simp), List.length_map, List.length_range, Nat.sub_self, e, List.replicate_succ, List.set_cons_zero, List.range_succ, List.map_append, List.append_assoc]
  rfl
theorem plc_root {L : List Nat} {e : Nat} (h : nx L e = e) : plc6 L e = cntR L e := by unfold plc6; rw [h]

end Go.Proofs.YtemnbkenihldgaaDoor
/-! A range over an iterator whose body writes what the iterator reads; unions in memory; the iterator way; Least, shorten. -/
namespace Go.Proofs.YtemnbkenihldgaaDoor
open Go.RowKit Go.Shelf
attribute [local go_sem] Oper.semAt_some

/-- A range over a function, where the iterator is told what the body's rounds have made of the world so far (I), and tells the body what comes next (Nx). No round leaves the loop. -/
theorem rangeTold {F : Fence} {n : Nat} {P : Program} {α : Type} {g : Operand} {ps : Array Tmp} {assign body : Code} {Q : Exit → Act → World → Prop} {a : Act} {w : World}
    (hro : F.round = none) (h1 : 1 ≤ n) {gf : Nat} {lb : Array Value} (hg : a.eval g = .func (.func gf) #[] lb) (hFg : F.fn gf) (eg : ∀ args w, (callFunc gf args).run P w = .ok (.enter gf args) w)
    {encs : α → Array Value} (hps : ∀ x, (encs x).size = ps.size) (I : List α → World → Prop) (hI : OwnFrom w.heap.size I) (h0 : I [] w) (S : List α → Prop) (Nx : List α → α → Prop)
    (hit : ∀ (l : Nat) (R : World → Prop), (∀ A B, R A → A.grownBy B none → R B) → ∀ W, I [] W → R W →
      (∀ pre x W1, I pre W1 → R W1 → Nx pre x → YieldAt F (n - 1 - 1) P l (encs x) W1 fun e W' => e = .returned (.bool true) ∧ I (pre ++ [x]) W' ∧ R W') →
      CallsIn F (n - 1) P gf (#[.func (.yield l) #[] #[]] ++ lb) W fun e W' => (∃ v, e = .returned v) ∧ ∃ xs, S xs ∧ I xs W' ∧ R W')
    (a₁ : α → Act)
    (hassign : ∀ (l : Nat) (x : α) (W : World) (K : Act → World → Prop), K (a₁ x) W →
      assign.wpIn (F.inRound l) (n - 1 - 1) P (Exit.then K (fun _ _ _ => False)) { tmps := (ps.zip (encs x)).foldl (fun t (p, v) => t.setIfInBounds p v) a.tmps, defers := [] } W)
    (hbody : ∀ (l : Nat) (pre : List α) (x : α) (W : World), I pre W → Nx pre x → body.wpIn (F.inRound l) (n - 1 - 1) P (fun e _ W' => e = .normal ∧ KeepsFrom w.heap.size W W' ∧ I (pre ++ [x]) W') (a₁ x) W)
    (hdone : ∀ (D : Nat) (xs : List α) (W : World), w.heap.size ≤ D → S xs → I xs W → W.heap[D]? = some (.deferred (some [])) → Q .normal { a with defers := { target := .collected D, args := #[] } :: a.defers } W) :
    (Code.rangeFunc g ps assign body).wpIn F n P Q a w := by
  refine wpIn_rangeFunc fun fn hfn => ?_
  rw [hro]
  -- the record of the loop, ready, and as it lies
  let L0 : Loop := { state := .ready, pending := none, fn, tmps := a.tmps, params := ps, assign, body, defers := w.heap.size }
  let Rd : World → Prop := fun W => W.heap[w.heap.size]? = some (.deferred (some [])) ∧ W.heap[w.heap.size + 1]? = some (.loop L0)
  have hR : ∀ A B, Rd A → A.grownBy B none → Rd B := fun A B h hg => ⟨(hg.block _ (Array.getElem?_eq_some_iff.1 h.1).1 (by simp)).trans h.1, (hg.block _ (Array.getElem?_eq_some_iff.1 h.2).1 (by simp)).trans h.2⟩
  have hst : Rd ((w.alloc (.deferred (some []))).alloc (.loop L0)) := by
    refine ⟨(heap_alloc_old _ _ (by simp)).trans (heap_alloc_new w _), ?_⟩
    have := heap_alloc_new (w.alloc (.deferred (some []))) (.loop L0)
    rwa [World.size_alloc] at this
  have hI1 : I [] ((w.alloc (.deferred (some []))).alloc (.loop L0)) := hI.alloc _ (hI.alloc _ h0)
  refine ⟨w.heap.size + 1, [{ target := .collected w.heap.size, args := #[] }], (w.alloc (.deferred (some []))).alloc (.loop L0), { target := .fn (.func gf) lb, args := #[.func (.yield (w.heap.size + 1)) #[] #[]] }, (w.alloc (.deferred (some []))).alloc (.loop L0), gf,
    #[.func (.yield (w.heap.size + 1)) #[] #[]] ++ lb, (w.alloc (.deferred (some []))).alloc (.loop L0), run_enterLoop_outer _ _ _ _ _, ?_, ?_, ?_, fun _ => h1, ?_⟩
  · simp only [resolve, hg]
    simp [go_sem, L0]
  · intro f' hf'
    simp [Target.leads] at hf'
    subst hf'
    exact hFg
  · simp [invoke, go_sem, eg]
  · refine (hit (w.heap.size + 1) Rd hR _ hI1 hst ?_).mono ?_
    · intro pre x W hi hr hn
      refine ⟨fn, _, assign, body, run_yield (r := L0) hr.2 (hps x), roundIn_of_wpIn hfn (hassign _ x W _ ⟨_, run_beginRound hr.2 rfl, ?_⟩)⟩
      have hlt := (Array.getElem?_eq_some_iff.1 hr.2).1
      have hb : (W.putObj (w.heap.size + 1) (.loop { L0 with state := .busy })).heap[w.heap.size + 1]? = some (.loop { L0 with state := .busy }) := World.putObj_heap_same hlt
      have hd : (W.putObj (w.heap.size + 1) (.loop { L0 with state := .busy })).heap[w.heap.size]? = some (.deferred (some [])) := (World.putObj_heap_other (by omega)).trans hr.1
      refine wpIn_mono (hbody (w.heap.size + 1) pre x _ (hI.putObj _ hi (by omega) hr.2 rfl) hn) ?_
      rintro e a3 W3 ⟨rfl, hk, hi3⟩
      have hb3 := hk.same _ _ (by omega) hb rfl
      have hd3 := hk.same _ _ (Nat.le_refl _) hd rfl
      exact ⟨_, _, run_endRound none hb3, rfl, hI.putObj _ hi3 (by omega) hb3 rfl, (World.putObj_heap_other (by omega)).trans hd3, World.putObj_heap_same (Array.getElem?_eq_some_iff.1 hb3).1⟩
    · rintro e W2 ⟨⟨v, rfl⟩, xs, hS, hi, hr⟩
      exact ⟨none, _, run_endLoop hr.2 (by simp [L0]), hdone _ xs _ (Nat.le_refl _) hS (hI.putObj _ hi (by omega) hr.2 rfl) ((World.putObj_heap_other (by omega)).trans hr.1)⟩

/-- A union in memory: a box that holds a row of what lies next to each element. -/
structure IsUg (t : TypeId) (w : World) (lo hi b : Nat) (p : Option Addr) (c : Nat) (F : List Nat) : Prop where
  h1 : lo ≤ b
  h2 : b < hi
  h3 : hi ≤ w.heap.size
  small : F.length ≤ 1000
  nil : p = none → c = 0
  box : w.heap[b]? = some (.cells #[.slice p F.length c] t (0, 0))
  row : 0 < F.length → ∃ g, p = some ⟨g, 0, none⟩ ∧ g < hi ∧ RowI w lo g c F
theorem IsUg.cell {t : TypeId} {w : World} {lo hi b c : Nat} {p : Option Addr} {F : List Nat} (h : IsUg t w lo hi b p c F) : w.cell? ⟨b, 0, none⟩ = some (.slice p F.length c) := by
  simp [World.cell?, h.box]
theorem IsUg.calm {t : TypeId} {w w' : World} {lo hi b c : Nat} {p : Option Addr} {F : List Nat} (h : IsUg t w lo hi b p c F) (hg : w.grownBy w' none) : IsUg t w' lo hi b p c F :=
  ⟨h.h1, h.h2, Nat.le_trans h.h3 hg.size, h.small, h.nil, (hg.block b (by have := h.h2; have := h.h3; omega) (by simp)).trans h.box, fun hn => by
    obtain ⟨g, e, k1, k2⟩ := h.row hn
    exact ⟨g, e, k1, k2.calm hg⟩⟩
theorem RowI.block {w w' : World} {base g c : Nat} {l : List Nat} (h : RowI w base g c l) (hb : w'.heap[g]? = w.heap[g]?) : RowI w' base g c l := by
  refine ⟨h.1, ?_⟩
  rcases h.2 with ⟨h0, _⟩ | ⟨g', cap, cur, hv, h1, h2, h3⟩
  · cases h0
  · cases hv
    exact .inr ⟨g, c, cur, rfl, h1, hb.trans h2, h3⟩
theorem IsUg.apart {t : TypeId} {w w' : World} {lo hi lo' hi' b c : Nat} {p : Option Addr} {F : List Nat} (h : IsUg t w lo hi b p c F) (hg : Kept lo' hi' w w') (hd : hi ≤ lo' ∨ hi' ≤ lo) : IsUg t w' lo hi b p c F :=
  ⟨h.h1, h.h2, Nat.le_trans h.h3 hg.size, h.small, h.nil, (hg.block b (by have := h.h2; have := h.h3; omega) (by have := h.h1; have := h.h2; omega)).trans h.box, fun hn => by
    obtain ⟨g, e, k1, k2⟩ := h.row hn
    have := k2.lt
    exact ⟨g, e, k1, k2.block (hg.block g this.2 (by omega))⟩⟩
theorem IsUg.wider {t : TypeId} {w : World} {lo hi lo' hi' b c : Nat} {p : Option Addr} {F : List Nat} (h : IsUg t w lo hi b p c F) (h1 : lo' ≤ lo) (h2 : hi ≤ hi') (h3 : hi' ≤ w.heap.size) : IsUg t w lo' hi' b p c F :=
  ⟨Nat.le_trans h1 h.h1, Nat.lt_of_lt_of_le h.h2 h2, h3, h.small, h.nil, h.box, fun hn => by
    obtain ⟨g, e, k1, k2⟩ := h.row hn
    exact ⟨g, e, Nat.lt_of_lt_of_le k1 h2, k2.mono h1⟩⟩

theorem nx_get {F : List Nat} {e : Nat} (he : e < F.length) : F[e]? = some (nx F e) := by unfold nx; rw [List.getElem?_eq_getElem he]; rfl

/-- The way of whatever number. -/
def wayZ (F : List Nat) (z : Int) : List Nat := if hasZ F.length z then way F z.toNat else []

set_option maxRecDepth 100000 in
set_option maxHeartbeats 4000000 in
theorem way1_in (n : Nat) (hn : 1 ≤ n) (l Ba Bu lo hi b c : Nat) (p : Option Addr) (F : List Nat) (a : Int) (G : List Nat → List Nat) (I : List Nat → World → Prop) (R : World → Prop)
    (hab : ∀ pre A B, I pre A → A.grownBy B none → I pre B) (hR : ∀ A B, R A → A.grownBy B none → R B)
    (hU : ∀ pre W, I pre W → IsUg 84 W lo hi b p c (G pre) ∧ W.cell? ⟨Ba, 0, none⟩ = some (.int .i64 a) ∧ W.cell? ⟨Bu, 0, none⟩ = some (.pointer (some ⟨b, 0, none⟩)))
    (hGl : ∀ pre, (G pre).length = F.length) (hGe : ∀ pre e, e < F.length → e ∉ pre → nx (G pre) e = nx F e) (hd : downF F) (hs : F.length ≤ 1000)
    (hY : ∀ pre x W, I pre W → R W → pre ++ [x] <+: wayZ F a → YieldAt Fence.wide (n - 1) Tryd.prog l #[.int .i64 (x : Nat)] W fun e W' => e = .returned (.bool true) ∧ I (pre ++ [x]) W' ∧ R W')
    (W : World) (h0 : I [] W) (hr0 : R W) :
    CallsIn Fence.wide n Tryd.prog 72 #[.func (.yield l) #[] #[], .pointer (some ⟨Ba, 0, none⟩), .pointer (some ⟨Bu, 0, none⟩)] W fun e W' => (∃ v, e = .returned v) ∧ ∃ xs, xs = wayZ F a ∧ I xs W' ∧ R W' := by
  obtain ⟨u0, ca, cu⟩ := hU [] W h0
  have cb := u0.cell
  rw [hGl] at cb
  have HY := Lib.hid hY
  have HAB := Lib.hid hab
  have HR := Lib.hid hR
  have HU := Lib.hid hU
  have HGL := Lib.hid hGl
  have HGE := Lib.hid hGe
  have HD := Lib.hid hd
  have H0 := Lib.hid h0
  clear hY hab hR hU hGl hGe hd h0 u0
  refine callsIn_of_wp Tryd.func72 rfl trivial ?_ rfl
  simp only [Tryd.ntmps72, List.size_toArray, List.length_cons, List.length_nil, Nat.reduceAdd, Nat.reduceSub, Array.replicate_succ, Array.replicate_zero, List.push_toArray, List.append_toArray, List.nil_append, List.cons_append]
  by_cases a0 : a < 0
  · have hz : wayZ F a = [] := by unfold wayZ; rw [hasZ_not.2 (.inl a0)]; rfl
    have HZ := Lib.hid hz
    clear hz
    gi_wp2
    gi_region
    all_goals
      gi_wp2
      refine bodyPost_ret (results_none rfl _ _ _) rfl ?_
      exact ⟨⟨_, rfl⟩, _, HZ.out.symm, HAB.out _ _ _ H0.out (grownBy_drewN W 1 none), HR.out _ _ hr0 (grownBy_drewN W 1 none)⟩
  · have d0 : decide (a < 0) = false := by simpa using a0
    by_cases a1 : a < F.length
    · have d1 : decide ((F.length : Int) ≤ a) = false := by simp; omega
      obtain ⟨a, rfl⟩ := Int.eq_ofNat_of_zero_le (show 0 ≤ a by omega)
      have hz : wayZ F a = way F a := by unfold wayZ; rw [hasZ_iff.2 ⟨by omega, a1⟩]; rfl
      have HZ := Lib.hid hz
      have HA1 := Lib.hid (show a < F.length by omega)
      have d2 : decide (F.length ≤ a) = false := by simp; omega
      clear hz
      gi_wp2
      gi_region
      all_goals
        try simp only [d2]
        clear d1 d2 d0
        have HJ := Lib.hid (HAB.out _ _ _ H0.out (grownBy_drewN W 1 none))
        have HRJ := Lib.hid (HR.out _ _ hr0 (grownBy_drewN W 1 none))
        gi_wp2
        gi_loopw [4] (fun i wr => ∃ (e : Nat) (pre : List Nat), i = .int .i64 e ∧ Hid (e < F.length) ∧ Hid (way F a = pre ++ way F e) ∧ Hid (∀ x ∈ pre, e < x) ∧ I pre wr ∧ R wr) (fun i _ => (intOf i).toNat)
        case atStart => exact ⟨a, [], rfl, HA1, Lib.hid rfl, Lib.hid (by simp), HJ.out, HRJ.out⟩
        case round =>
          obtain ⟨e, pre, rfl, HE, HW, HP, hI, hr⟩ := hrel
          clear HJ HRJ ca cu cb
          obtain ⟨u1, ca, cu⟩ := HU.out pre wr hI
          have cb := u1.cell
          obtain ⟨g, hpg, hgh, hrow⟩ := u1.row (by rw [HGL.out]; have := HE.out; omega)
          have cr := hrow.cell (j := e) (nx_get (by rw [HGL.out]; exact HE.out))
          rw [HGE.out pre e HE.out (fun h => by have := HP.out e h; omega)] at cr
          rw [HGL.out] at cb
          have e0 : (0 : Int) ≤ e := by omega
          have e1 : (e : Int) < F.length := by have := HE.out; omega
          have hle := HD.out e HE.out
          have hpx : pre ++ [e] <+: wayZ F a := by
            rw [HZ.out, HW.out]
            by_cases h : nx F e < e
            · rw [way_step h]; exact ⟨way F (nx F e), by simp⟩
            · rw [way_end h]; exact List.prefix_refl _
          obtain ⟨fn, tmps, assign, body, hyy, hRn⟩ := HY.out pre e wr hI hr hpx
          subst hpg
          by_cases h : nx F e < e
          · have HN := Lib.hid (show way F a = (pre ++ [e]) ++ way F (nx F e) by rw [HW.out, way_step h]; simp)
            have HQ := Lib.hid (show ∀ x ∈ pre ++ [e], nx F e < x by
              intro x hx
              rw [List.mem_append, List.mem_singleton] at hx
              rcases hx with hx | hx
              · have := HP.out x hx; omega
              · omega)
            have hne : ((nx F e : Int) == (e : Int)) = false := by simp; omega
            have HL := Lib.hid (show nx F e < F.length by have := HE.out; omega)
            clear u1 hrow hpx hI hle
            generalize nx F e = y at *
            gi_wp2_with fail
            refine hRn.mono ?_
            rintro e9 W3 ⟨rfl, hI3, hr3⟩
            gi_wp2
            exact ⟨⟨y, pre ++ [e], rfl, HL, HN, HQ, hI3, hr3⟩, by simp [intOf]; omega⟩
          · have hne : ((nx F e : Int) == (e : Int)) = true := by simp; omega
            have HN := Lib.hid (show way F a = pre ++ [e] by rw [HW.out, way_end h])
            clear u1 hrow hpx hI hle
            generalize nx F e = y at *
            gi_wp2_with fail
            refine hRn.mono ?_
            rintro e9 W3 ⟨rfl, hI3, hr3⟩
            gi_wp2
            refine bodyPost_ret (results_none rfl _ _ _) rfl ?_
            exact ⟨⟨_, rfl⟩, _, by rw [HZ.out, HN.out], hI3, hr3⟩
    · have d1 : decide ((F.length : Int) ≤ a) = true := by simp; omega
      have hz : wayZ F a = [] := by unfold wayZ; rw [hasZ_not.2 (.inr (by omega))]; rfl
      have HZ := Lib.hid hz
      have a2 : (F.length : Int) ≤ a := by omega
      clear hz
      gi_wp2
      gi_region
      all_goals
        gi_wp2
        refine bodyPost_ret (results_none rfl _ _ _) rfl ?_
        exact ⟨⟨_, rfl⟩, _, HZ.out.symm, HAB.out _ _ _ H0.out (grownBy_drewN W 1 none), HR.out _ _ hr0 (grownBy_drewN W 1 none)⟩

end Go.Proofs.YtemnbkenihldgaaDoor
/-! Package union: the contracts of way, Least, shorten. -/
namespace Go.Proofs.YtemnbkenihldgaaDoor
open Go.RowKit Go.Shelf
attribute [local go_sem] Oper.semAt_some

set_option maxHeartbeats 1000000 in
theorem way_in (n : Nat) (p : Option Addr) (z : Int) (w : World) :
    CallsIn Fence.wide n Tryd.prog 59 #[.pointer p, .int .i64 z] w fun e w' => e = .returned (.func (.func 72) #[] #[.pointer (some ⟨w.heap.size + 1, 0, none⟩), .pointer (some ⟨w.heap.size, 0, none⟩)]) ∧
      w' = (w.alloc (.cells #[.pointer p] 61)).alloc (.cells #[.int .i64 z] 3) := by
  refine callsIn_of_wp Tryd.func59 rfl trivial ?_ rfl
  simp only [Tryd.ntmps59, List.size_toArray, List.length_cons, List.length_nil, Nat.reduceAdd, Nat.reduceSub, Array.replicate_succ, Array.replicate_zero, List.push_toArray, List.append_toArray, List.nil_append, List.cons_append]
  gi_wp2
  go_ret
  exact ⟨rfl, rfl⟩

/-- The last of those that were handed over; -1 of none. -/
def lastI (pre : List Nat) : Int := (pre.map fun y : Nat => (y : Int)).getLastD (-1)
theorem lastI_snoc (pre : List Nat) (x : Nat) : lastI (pre ++ [x]) = x := by simp [lastI]
theorem lastI_way (F : List Nat) (e : Nat) : lastI (way F e) = root F e := by
  have h : ∀ (l : List Nat) (x : Nat), lastI (x :: l) = ((x :: l).getLastD 0 : Nat) := by
    intro l
    induction l with
    | nil => intro x; rfl
    | cons y l ih =>
      intro x
      have := ih y
      simp only [lastI, List.map_cons, List.getLastD_cons] at this ⊢
      exact this
  have := way_last F e 0
  by_cases hx : nx F e < e
  · rw [way_step hx] at this ⊢; rw [h, this]
  · rw [way_end hx] at this ⊢; rw [h, this]
/-- The least one of z's class; -1 of none. -/
def leastZ (F : List Nat) (z : Int) : Int := if hasZ F.length z then (root F z.toNat : Int) else -1
theorem lastI_wayZ (F : List Nat) (z : Int) : lastI (wayZ F z) = leastZ F z := by
  unfold wayZ leastZ
  split
  · exact lastI_way F _
  · rfl

set_option maxRecDepth 100000 in
set_option maxHeartbeats 4000000 in
theorem least_in (n : Nat) (hn : 3 ≤ n) (lo hi b c : Nat) (p : Option Addr) (F : List Nat) (z : Int) (w : World) (hu : IsUg 84 w lo hi b p c F) (hd : downF F) :
    CallsIn Fence.wide n Tryd.prog 43 #[.pointer (some ⟨b, 0, none⟩), .int .i64 z] w fun e w' => e = .returned (.int .i64 (leastZ F z)) ∧ w.grownBy w' none := by
  have h1 : 1 ≤ n := by omega
  have hro : Fence.wide.round = none := rfl
  have HU := Lib.hid hu
  have HD := Lib.hid hd
  clear hu hd
  refine callsIn_of_wp_marks Tryd.func43 rfl trivial ?_ hro
  simp only [Tryd.ntmps43, List.size_toArray, List.length_cons, List.length_nil, Nat.reduceAdd, Nat.reduceSub, Array.replicate_succ, Array.replicate_zero, List.push_toArray, List.append_toArray, List.nil_append, List.cons_append]
  gi_wp2_with (refine ⟨trivial, ?_⟩; gi_at_call 59; refine (way_in (n - 1) _ _ _).mono ?_; rintro e w9 ⟨rfl, rfl⟩)
  have b1 := Boxed.new w 3 (.int .i64 (-1))
  have b2 := Boxed.new (w.alloc (.cells #[.int .i64 (-1)] 3)) 61 (.pointer (some ⟨b, 0, none⟩))
  have b3 := Boxed.new ((w.alloc (.cells #[.int .i64 (-1)] 3)).alloc (.cells #[.pointer (some ⟨b, 0, none⟩)] 61)) 3 (.int .i64 z)
  rw [World.size_alloc] at b2
  rw [World.size_alloc, World.size_alloc] at b3
  have hB0 : Below w.heap.size w (((w.alloc (.cells #[.int .i64 (-1)] 3)).alloc (.cells #[.pointer (some ⟨b, 0, none⟩)] 61)).alloc (.cells #[.int .i64 z] 3)) :=
    (((Below.refl _ w).alloc (Nat.le_refl _) _).alloc (by simp) _).alloc (by simp; omega) _
  refine rangeTold hro h1 (gf := 72) (lb := #[.pointer (some ⟨w.heap.size + 1 + 1, 0, none⟩), .pointer (some ⟨w.heap.size + 1, 0, none⟩)]) rfl trivial (enters_of Tryd.func72 (by kernel_rfl) rfl)
    (encs := fun x : Nat => #[.int .i64 (x : Nat)]) (fun _ => rfl)
    (fun pre W => Boxed W w.heap.size 3 (.int .i64 (lastI pre)) ∧ Boxed W (w.heap.size + 1) 61 (.pointer (some ⟨b, 0, none⟩)) ∧ Boxed W (w.heap.size + 1 + 1) 3 (.int .i64 z) ∧ Below w.heap.size w W)
    (OwnFrom.and (Own.from (boxed_own w.heap.size 3 (fun pre => .int .i64 (lastI pre))) _) (OwnFrom.and (Own.from (boxed_own (w.heap.size + 1) 61 (fun _ => .pointer (some ⟨b, 0, none⟩))) _) (OwnFrom.and (Own.from (boxed_own (w.heap.size + 1 + 1) 3 (fun _ => .int .i64 z)) _) (ownFrom_below (Nat.le_refl _) (by simp; omega)))))
    ⟨(b1.alloc _).alloc _, b2.alloc _, b3, hB0⟩
    (fun xs => xs = wayZ F z) (fun pre x => pre ++ [x] <+: wayZ F z) ?hit
    (fun x => { tmps := #[.pointer (some ⟨b, 0, none⟩), .int .i64 z, undef, undef, .int .i64 0, .pointer (some ⟨w.heap.size, 0, none⟩), .int .i64 (x : Nat), .pointer (some ⟨b, 0, none⟩), .int .i64 z, .func (.func 72) #[] #[.pointer (some ⟨w.heap.size + 1 + 1, 0, none⟩), .pointer (some ⟨w.heap.size + 1, 0, none⟩)], .int .i64 (x : Nat), undef, undef], defers := [] }) ?assign ?body ?done
  case hit =>
    intro l R hR W hI hr hY
    exact way1_in (n - 1) (by omega) l (w.heap.size + 1 + 1) (w.heap.size + 1) lo hi b c p F z (fun _ => F) _ R
      (fun pre A B h hg => ⟨h.1.kept hg (by simp), h.2.1.kept hg (by simp), h.2.2.1.kept hg (by simp), h.2.2.2.trans ((grownBy_below hg).mono h.2.2.2.size)⟩) hR
      (fun pre W h => ⟨HU.out.calm (below_grownBy h.2.2.2), h.2.2.1.cell, h.2.1.cell⟩) (fun _ => rfl) (fun _ _ _ _ => rfl) HD.out HU.out.small hY W hI hr
  case assign =>
    intro l x W K hK
    gi_wp2
    exact hK
  case body =>
    rintro l pre x W ⟨hv, hv2, hv3, hB⟩ _
    have hc := hv.cell
    have hf := hv.frozen
    gi_wp2
    refine ⟨(KeepsOthers.setCell _ _ _).from _, ?_, hv2.other (by omega) _, hv3.other (by omega) _, hB.setCell (p := ⟨w.heap.size, 0, none⟩) (Nat.le_refl _) _⟩
    rw [lastI_snoc]
    exact hv.set _
  case done =>
    rintro D ys W hD rfl ⟨hv, hv2, hv3, hB⟩ hK
    have hc := hv.cell
    have HB := Lib.hid hB
    clear hB hv2 hv3
    rw [lastI_wayZ] at hc
    gi_wp2
    refine ⟨by simp, .inl ⟨_, _, rfl, run_takeDeferred hK, ?_⟩⟩
    exact ⟨_, results_tmp rfl _ _ _, rfl, below_grownBy (HB.out.trans (belowK_b (w := w) (Nat.le_refl _) W D _ _ (by simp at hD; omega) hK rfl rfl))⟩

/-- Least: the least of its class; -1 of none. -/
theorem least_c (lo hi b c : Nat) (p : Option Addr) (F : List Nat) (z : Int) (w : World) (hu : IsUg 84 w lo hi b p c F) (hd : downF F) :
    Calls Tryd.prog 43 #[.pointer (some ⟨b, 0, none⟩), .int .i64 z] w fun e w' => e = .returned (.int .i64 (leastZ F z)) ∧ w.grownBy w' none :=
  callsIn_wide.1 (least_in 3 (Nat.le_refl _) lo hi b c p F z w hu hd)

theorem ownFrom_ug {β : Type} {t : TypeId} {lo hi b c B : Nat} {p : Option Addr} (f : β → List Nat) (hB : hi ≤ B) : OwnFrom B (fun s W => IsUg t W lo hi b p c (f s)) :=
  fun s A C row h hg hr => ⟨h.h1, h.h2, Nat.le_trans h.h3 hg.size, h.small, h.nil, (hg.block b (by have := h.h2; have := h.h3; omega) (fun e => by have := (hr b e.symm).1; have := h.h2; omega)).trans h.box, fun hn => by
    obtain ⟨g, e, k1, k2⟩ := h.row hn
    exact ⟨g, e, k1, k2.kept hg (fun e => by have := (hr g e).1; omega)⟩⟩
theorem ownFrom_kept {β : Type} {lo hi B : Nat} {w : World} (hB : w.heap.size ≤ B) : OwnFrom B (fun (_ : β) W => Kept lo hi w W) :=
  fun _ A C row h hg hr => ⟨hg.os.trans h.os, hg.tape.trans h.tape, hg.output.trans h.output, Nat.le_trans h.size hg.size, fun i hi hn => (hg.block i (Nat.lt_of_lt_of_le hi h.size) (fun e => by have := (hr i e.symm).1; omega)).trans (h.block i hi hn)⟩
theorem IsUg.set {t : TypeId} {w : World} {lo hi b c g : Nat} {F : List Nat} (h : IsUg t w lo hi b (some ⟨g, 0, none⟩) c F) (ht : t ≠ 3) (hn : 0 < F.length) (x v : Nat) : IsUg t (w.setCell ⟨g, x, none⟩ (.int .i64 v)) lo hi b (some ⟨g, 0, none⟩) c (F.set x v) := by
  obtain ⟨g', e, k1, k2⟩ := h.row hn
  cases e
  have hne : b ≠ g := by
    rintro rfl
    obtain ⟨c', fz, e⟩ := k2.kind
    rw [h.box] at e
    simp at e
    exact ht e.2.1
  refine ⟨h.h1, h.h2, by simpa [World.setCell] using h.h3, by simpa using h.small, h.nil, ?_, fun _ => ⟨g, rfl, k1, k2.set v⟩⟩
  rw [List.length_set]
  exact ((grownBy_setCell w ⟨g, x, none⟩ (.int .i64 v)).block b (by have := h.h2; have := h.h3; omega) (by simpa using hne)).trans h.box
theorem way_lt {F : List Nat} {z : Int} {x : Nat} (h : x ∈ wayZ F z) : x < F.length := by
  unfold wayZ at h
  split at h
  · rename_i hz
    have := (mem_way h).1
    have := hasZ_iff.1 hz
    omega
  · simp at h

set_option maxRecDepth 100000 in
set_option maxHeartbeats 4000000 in
theorem shorten_in (n : Nat) (hn : 3 ≤ n) (lo hi b c : Nat) (p : Option Addr) (F : List Nat) (z : Int) (v : Nat) (w : World) (hu : IsUg 84 w lo hi b p c F) (hd : downF F) :
    CallsIn Fence.wide n Tryd.prog 44 #[.pointer (some ⟨b, 0, none⟩), .int .i64 z, .int .i64 v] w fun e w' => e = .returned (.tuple #[]) ∧ IsUg 84 w' lo hi b p c (setL F (wayZ F z) v) ∧ Kept lo hi w w' := by
  have h1 : 1 ≤ n := by omega
  have hro : Fence.wide.round = none := rfl
  have HU := Lib.hid hu
  have HD := Lib.hid hd
  clear hu hd
  refine callsIn_of_wp_marks Tryd.func44 rfl trivial ?_ hro
  simp only [Tryd.ntmps44, List.size_toArray, List.length_cons, List.length_nil, Nat.reduceAdd, Nat.reduceSub, Array.replicate_succ, Array.replicate_zero, List.push_toArray, List.append_toArray, List.nil_append, List.cons_append]
  gi_wp2_with (refine ⟨trivial, ?_⟩; gi_at_call 59; refine (way_in (n - 1) _ _ _).mono ?_; rintro e w9 ⟨rfl, rfl⟩)
  have b1 := Boxed.new w 61 (.pointer (some ⟨b, 0, none⟩))
  have b2 := Boxed.new (w.alloc (.cells #[.pointer (some ⟨b, 0, none⟩)] 61)) 3 (.int .i64 (v : Nat))
  have b3 := Boxed.new ((w.alloc (.cells #[.pointer (some ⟨b, 0, none⟩)] 61)).alloc (.cells #[.int .i64 (v : Nat)] 3)) 61 (.pointer (some ⟨b, 0, none⟩))
  have b4 := Boxed.new (((w.alloc (.cells #[.pointer (some ⟨b, 0, none⟩)] 61)).alloc (.cells #[.int .i64 (v : Nat)] 3)).alloc (.cells #[.pointer (some ⟨b, 0, none⟩)] 61)) 3 (.int .i64 z)
  rw [World.size_alloc] at b2
  rw [World.size_alloc, World.size_alloc] at b3
  rw [World.size_alloc, World.size_alloc, World.size_alloc] at b4
  have hB0 : Below w.heap.size w ((((w.alloc (.cells #[.pointer (some ⟨b, 0, none⟩)] 61)).alloc (.cells #[.int .i64 (v : Nat)] 3)).alloc (.cells #[.pointer (some ⟨b, 0, none⟩)] 61)).alloc (.cells #[.int .i64 z] 3)) :=
    ((((Below.refl _ w).alloc (Nat.le_refl _) _).alloc (by simp) _).alloc (by simp; omega) _).alloc (by simp; omega) _
  have hh := HU.out.h3
  have hb := HU.out.h2
  refine rangeTold hro h1 (gf := 72) (lb := #[.pointer (some ⟨w.heap.size + 1 + 1 + 1, 0, none⟩), .pointer (some ⟨w.heap.size + 1 + 1, 0, none⟩)]) rfl trivial (enters_of Tryd.func72 (by kernel_rfl) rfl)
    (encs := fun x : Nat => #[.int .i64 (x : Nat)]) (fun _ => rfl)
    (fun pre W => Boxed W w.heap.size 61 (.pointer (some ⟨b, 0, none⟩)) ∧ Boxed W (w.heap.size + 1) 3 (.int .i64 (v : Nat)) ∧ Boxed W (w.heap.size + 1 + 1) 61 (.pointer (some ⟨b, 0, none⟩)) ∧ Boxed W (w.heap.size + 1 + 1 + 1) 3 (.int .i64 z) ∧ IsUg 84 W lo hi b p c (setL F pre v) ∧ Kept lo hi w W)
    (OwnFrom.and (Own.from (boxed_own w.heap.size 61 (fun _ => .pointer (some ⟨b, 0, none⟩))) _) (OwnFrom.and (Own.from (boxed_own (w.heap.size + 1) 3 (fun _ => .int .i64 (v : Nat))) _) (OwnFrom.and (Own.from (boxed_own (w.heap.size + 1 + 1) 61 (fun _ => .pointer (some ⟨b, 0, none⟩))) _) (OwnFrom.and (Own.from (boxed_own (w.heap.size + 1 + 1 + 1) 3 (fun _ => .int .i64 z)) _) (OwnFrom.and (ownFrom_ug (fun pre => setL F pre v) (by simp; omega)) (ownFrom_kept (by simp; omega)))))))
    ⟨((b1.alloc _).alloc _).alloc _, (b2.alloc _).alloc _, b3.alloc _, b4, HU.out.calm (below_grownBy hB0), Kept.calm (below_grownBy hB0)⟩
    (fun xs => xs = wayZ F z) (fun pre x => pre ++ [x] <+: wayZ F z) ?hit
    (fun x => { tmps := #[.pointer (some ⟨b, 0, none⟩), .int .i64 z, .int .i64 (v : Nat), .pointer (some ⟨w.heap.size, 0, none⟩), undef, .pointer (some ⟨w.heap.size + 1, 0, none⟩), .int .i64 (x : Nat), .pointer (some ⟨b, 0, none⟩), .int .i64 z, .func (.func 72) #[] #[.pointer (some ⟨w.heap.size + 1 + 1 + 1, 0, none⟩), .pointer (some ⟨w.heap.size + 1 + 1, 0, none⟩)], .int .i64 (x : Nat), undef, undef, undef, undef, undef, undef, undef], defers := [] }) ?assign ?body ?done
  case hit =>
    intro l R hR W hI hr hY
    exact way1_in (n - 1) (by omega) l (w.heap.size + 1 + 1 + 1) (w.heap.size + 1 + 1) lo hi b c p F z (fun pre => setL F pre v) _ R
      (fun pre A B h hg => ⟨h.1.kept hg (by simp), h.2.1.kept hg (by simp), h.2.2.1.kept hg (by simp), h.2.2.2.1.kept hg (by simp), h.2.2.2.2.1.calm hg, h.2.2.2.2.2.trans (Kept.calm hg)⟩) hR
      (fun pre W h => ⟨h.2.2.2.2.1, h.2.2.2.1.cell, h.2.2.1.cell⟩) (fun pre => setL_len6 F pre v) (fun pre e he hm => by rw [nx_setL he, if_neg hm]) HD.out HU.out.small hY W hI hr
  case assign =>
    intro l x W K hK
    gi_wp2
    exact hK
  case body =>
    rintro l pre x W ⟨hv1, hv2, hv3, hv4, hU, hK⟩ hpx
    have hxl : x < F.length := way_lt (hpx.subset (by simp))
    have hl := setL_len6 F pre v
    have hrow := hU.row (by omega)
    obtain ⟨g, rfl, hgh, hrow⟩ := hrow
    have c1 := hv1.cell
    have c2 := hv2.cell
    have cb := hU.cell
    rw [hl] at cb
    have cr := hrow.cell (j := x) (nx_get (by omega))
    have fr := hrow.free x
    have x0 : (0 : Int) ≤ x := by omega
    have x1 : (x : Int) < F.length := by omega
    have HPOST : Hid (∀ W', W' = (W.drewN 1).setCell ⟨g, x, none⟩ (.int .i64 (v : Nat)) → KeepsFrom (w.heap.size + 1 + 1 + 1 + 1) W W' ∧ (Boxed W' w.heap.size 61 (.pointer (some ⟨b, 0, none⟩)) ∧ Boxed W' (w.heap.size + 1) 3 (.int .i64 (v : Nat)) ∧ Boxed W' (w.heap.size + 1 + 1) 61 (.pointer (some ⟨b, 0, none⟩)) ∧ Boxed W' (w.heap.size + 1 + 1 + 1) 3 (.int .i64 z) ∧ IsUg 84 W' lo hi b (some ⟨g, 0, none⟩) c (setL F (pre ++ [x]) v) ∧ Kept lo hi w W')) := Lib.hid (by
      rintro W' rfl
      have hs : W.grownBy ((W.drewN 1).setCell ⟨g, x, none⟩ (.int .i64 (v : Nat))) (some g) := grownBy_trans (grownBy_drewN W 1 _) (grownBy_setCell (W.drewN 1) ⟨g, x, none⟩ _)
      have hlg := hrow.lt.1
      refine ⟨KeepsFrom.of_grownBy hs (fun j e => by cases e; omega), hv1.kept hs (by simp; omega), hv2.kept hs (by simp; omega), hv3.kept hs (by simp; omega), hv4.kept hs (by simp; omega), ?_, hK.trans (Kept.row hs hlg hgh)⟩
      rw [setL_snoc6]
      exact (hU.calm (grownBy_drewN W 1 none)).set (by decide) (by omega) x v)
    clear hv1 hv2 hv3 hv4 hU hK hrow hpx
    gi_wp2
    gi_region
    all_goals
      gi_wp2
      obtain ⟨k1, k2⟩ := HPOST.out _ rfl
      exact ⟨k1, k2⟩
  case done =>
    rintro D ys W hD rfl ⟨hv1, hv2, hv3, hv4, hU, hK'⟩ hK
    have HU2 := Lib.hid hU
    have HK2 := Lib.hid hK'
    clear hU hK' hv1 hv2 hv3 hv4
    gi_wp2
    refine ⟨by simp, .inl ⟨_, _, rfl, run_takeDeferred hK, ?_⟩⟩
    have hg := grownBy_putObj' W D (.deferred none)
    simp at hD
    refine ⟨_, results_none rfl _ _ _, rfl, ?_, ?_⟩
    · exact HU2.out.apart (Kept.row (lo := D) (hi := D + 1) hg (Nat.le_refl _) (by omega)) (.inl (by omega))
    · have h9 := HK2.out
      exact ⟨hg.os.trans h9.os, hg.tape.trans h9.tape, hg.output.trans h9.output, Nat.le_trans h9.size hg.size, fun i hi hn => (hg.block i (Nat.lt_of_lt_of_le hi h9.size) (by simp; omega)).trans (h9.block i hi hn)⟩

/-- shorten: all on z's way lead to v. -/
theorem shorten_c (lo hi b c : Nat) (p : Option Addr) (F : List Nat) (z : Int) (v : Nat) (w : World) (hu : IsUg 84 w lo hi b p c F) (hd : downF F) :
    Calls Tryd.prog 44 #[.pointer (some ⟨b, 0, none⟩), .int .i64 z, .int .i64 v] w fun e w' => e = .returned (.tuple #[]) ∧ IsUg 84 w' lo hi b p c (setL F (wayZ F z) v) ∧ Kept lo hi w w' :=
  callsIn_wide.1 (shorten_in 3 (Nat.le_refl _) lo hi b c p F z v w hu hd)

end Go.Proofs.YtemnbkenihldgaaDoor
/-! Package union: the contracts of New, Len, Copy, Same, Join. -/
namespace Go.Proofs.YtemnbkenihldgaaDoor
open Go.RowKit

/-- A union whose classes have the least elements L. -/
def IsUn (w : World) (lo hi b : Nat) (L : List Nat) : Prop := ∃ p c F, IsUg 84 w lo hi b p c F ∧ downF F ∧ rootL F = L
theorem IsUn.calm {w w' : World} {lo hi b : Nat} {L : List Nat} (h : IsUn w lo hi b L) (hg : w.grownBy w' none) : IsUn w' lo hi b L := by
  obtain ⟨p, c, F, h1, h2, h3⟩ := h
  exact ⟨p, c, F, h1.calm hg, h2, h3⟩
theorem IsUn.apart {w w' : World} {lo hi lo' hi' b : Nat} {L : List Nat} (h : IsUn w lo hi b L) (hg : Kept lo' hi' w w') (hd : hi ≤ lo' ∨ hi' ≤ lo) : IsUn w' lo hi b L := by
  obtain ⟨p, c, F, h1, h2, h3⟩ := h
  exact ⟨p, c, F, h1.apart hg hd, h2, h3⟩
theorem IsUn.top {w : World} {lo hi b : Nat} {L : List Nat} (h : IsUn w lo hi b L) : lo < hi ∧ hi ≤ w.heap.size := by
  obtain ⟨p, c, F, h1, _⟩ := h
  have := h1.h1
  have := h1.h2
  exact ⟨by omega, h1.h3⟩
theorem IsUn.is {w : World} {lo hi b : Nat} {L : List Nat} (h : IsUn w lo hi b L) : isL L ∧ L.length ≤ 1000 := by
  obtain ⟨p, c, F, h1, h2, rfl⟩ := h
  exact ⟨rootL_is h2, by rw [rootL_len]; exact h1.small⟩

theorem rowI_of {w : World} {base g : Nat} {l : List Nat} (h : w.heap[g]? = some (.cells (l.map iv).toArray 3 (0, 0))) (hb : base ≤ g) (hl : l.length ≤ 1000) : RowI w base g l.length l :=
  ⟨by simp, .inr ⟨g, l.length, (l.map iv).toArray, rfl, hb, h, Nat.le_refl _, by unfold maxLen; omega, by simp, by simp [List.take_of_length_le]⟩⟩
theorem made_iv (n : Nat) : madeCells #[.int .i64 0] n = ((List.replicate n 0).map iv).toArray := by
  apply Array.ext
  · simp [madeCells]
  · intro i h1 h2
    simp [madeCells, Nat.mod_one, iv]

/-- The first k of n elements, each by itself; zeros behind. -/
def idR (n k : Nat) : List Nat := List.range k ++ List.replicate (n - k) 0
theorem idR_len {n k : Nat} (h : k ≤ n) : (idR n k).length = n := by simp [idR]; omega
theorem idR_end (n : Nat) : idR n n = List.range n := by simp [idR]
theorem idR_zero (n : Nat) : idR n 0 = List.replicate n 0 := by simp [idR]
theorem idR_succ {n k : Nat} (h : k < n) : (idR n k).set k k = idR n (k + 1) := by
  unfold idR
  have e : n - k = (n - (k + 1)) + 1 := by omega
  rw [List.set_append_right _ _ (by simp), List.length_range, Nat.sub_self, e, List.replicate_succ, List.set_cons_zero, List.range_succ, List.append_assoc, List.singleton_append]

/-- What makes a new union leaves. -/
def MadeU (L : List Nat) (w : World) (e : Ending) (w' : World) : Prop := ∃ b, e = .returned (.pointer (some ⟨b, 0, none⟩)) ∧ IsUn w' w.heap.size w'.heap.size b L ∧ w.grownBy w' none

set_option maxRecDepth 20000 in
theorem newU_start (n : Nat) (hn : n ≤ 1000) (w : World) : Hid (IsUg 84 ((w.alloc (.cells (madeCells #[.int .i64 0] n) 3)).alloc (.cells #[.slice (some ⟨w.heap.size, 0, none⟩) n n] 84)) w.heap.size (w.heap.size + 2) (w.heap.size + 1) (some ⟨w.heap.size, 0, none⟩) n (idR n 0)) ∧
    Hid (w.grownBy ((w.alloc (.cells (madeCells #[.int .i64 0] n) 3)).alloc (.cells #[.slice (some ⟨w.heap.size, 0, none⟩) n n] 84)) none) := by
  have hg := grownBy_trans (World.grownBy_alloc w (.cells (madeCells #[.int .i64 0] n) 3) none) (World.grownBy_alloc _ (.cells #[.slice (some ⟨w.heap.size, 0, none⟩) n n] 84) none)
  have h1 := heap_alloc_new w (.cells (madeCells #[.int .i64 0] n) 3)
  have h2 := heap_alloc_new (w.alloc (.cells (madeCells #[.int .i64 0] n) 3)) (.cells #[.slice (some ⟨w.heap.size, 0, none⟩) n n] 84)
  rw [World.size_alloc] at h2
  have hl := idR_len (Nat.zero_le n)
  refine ⟨Lib.hid ⟨by omega, by omega, by simp, by omega, by simp, by rw [hl]; exact h2, fun _ => ⟨w.heap.size, rfl, by omega, ?_⟩⟩, Lib.hid hg⟩
  have h3 : ((w.alloc (.cells (madeCells #[.int .i64 0] n) 3)).alloc (.cells #[.slice (some ⟨w.heap.size, 0, none⟩) n n] 84)).heap[w.heap.size]? = some (.cells ((idR n 0).map iv).toArray 3 (0, 0)) := by
    rw [heap_alloc_old _ _ (by simp), h1, made_iv, idR_zero]
  have := rowI_of h3 (Nat.le_refl _) (by omega)
  rw [hl] at this
  exact this

set_option maxRecDepth 20000 in
set_option maxHeartbeats 1000000 in
theorem newU_c (n : Nat) (w : World) (hn : n < 1000) : Calls Tryd.prog 25 #[.int .i64 n] w (MadeU (List.range n) w) := by
  have hmk := run_make_row' (P := Tryd.prog) 28 3 (.int .i64 0) 8 Tryd.underlying28 Tryd.infoZ3 rfl .i64 .i64 n (by omega) (by omega) w
  obtain ⟨HU0, HG0⟩ := newU_start n (by omega) w
  have fin : ∀ wr, IsUg 84 wr w.heap.size (w.heap.size + 2) (w.heap.size + 1) (some ⟨w.heap.size, 0, none⟩) n (idR n n) → w.grownBy wr none → MadeU (List.range n) w (.returned (.pointer (some ⟨w.heap.size + 1, 0, none⟩))) wr := by
    intro wr h hg
    rw [idR_end] at h
    exact ⟨_, rfl, ⟨_, _, _, h.wider (Nat.le_refl _) h.h3 (Nat.le_refl _), range_down n, rootL_range n⟩, hg⟩
  have FIN := Lib.hid fin
  clear fin
  rcases Nat.eq_zero_or_pos n with rfl | h0
  · have hmk0 : (Instr.makeSlice 28 (.int .i64 0) (.int .i64 0)).run Tryd.prog w = .ok (.slice (some ⟨w.heap.size, 0, none⟩) 0 0) (w.alloc (.cells (madeCells #[.int .i64 0] 0) 3)) := hmk
    clear hmk
    go_enter Tryd.func25, Tryd.ntmps25
    have hc := HU0.out.cell
    rw [idR_len (Nat.le_refl 0)] at hc
    go_wp2
    go_loopw [16] (fun i wr => i = .int .i64 0 ∧ wr = ((w.alloc (.cells (madeCells #[.int .i64 0] 0) 3)).alloc (.cells #[.slice (some ⟨w.heap.size, 0, none⟩) 0 0] 84))) (fun _ _ => 0)
    case atStart => exact ⟨rfl, rfl⟩
    case round =>
      obtain ⟨rfl, rfl⟩ := hrel
      go_wp2
      go_ret
      exact FIN.out _ HU0.out HG0.out
  · have n1 : (0 : Int) < n := by omega
    have n2 : (n : Int) < 1000 := by omega
    go_enter Tryd.func25, Tryd.ntmps25
    have hc := HU0.out.cell
    rw [idR_len (Nat.zero_le n)] at hc
    go_wp2
    generalize hgb : w.heap.size = gb at *
    have HGB := Lib.hid hgb
    clear hgb
    go_loopw [16] (fun i wr => ∃ k : Nat, k ≤ n ∧ i = .int .i64 k ∧ IsUg 84 wr gb (gb + 2) (gb + 1) (some ⟨gb, 0, none⟩) n (idR n k) ∧ w.grownBy wr none) (fun i _ => n - (intOf i).toNat)
    case atStart => exact ⟨0, Nat.zero_le _, rfl, HU0.out, HG0.out⟩
    case round =>
      obtain ⟨k, hk, rfl, hu, hgr⟩ := hrel
      clear hc
      by_cases hkn : k < n
      · have k0 : (0 : Int) ≤ k := by omega
        have k1 : (k : Int) < n := by omega
        have hc := hu.cell
        have hl := idR_len hk
        rw [hl] at hc
        obtain ⟨g, e, hgh, hrow⟩ := hu.row (by omega)
        cases e
        have hcl := hrow.cell (j := k) (nx_get (by omega))
        have hfz := hrow.free k
        have HS := Lib.hid (hu.set (by decide) (by omega) k k)
        have HST := Lib.hid (idR_succ hkn)
        have HGS := Lib.hid (grownBy_new hgr (grownBy_setCell wr ⟨gb, k, none⟩ (.int .i64 (k : Int))) (by rw [HGB.out]; exact Nat.le_refl _))
        clear hrow hgr hu HU0 HG0 hl
        generalize nx (idR n k) k = v at *
        go_wp2
        exact ⟨⟨k + 1, by omega, by go_num, by rw [← HST.out]; exact HS.out, HGS.out⟩, by simp [intOf]; omega⟩
      · obtain rfl : k = n := by omega
        have HU := Lib.hid hu
        have HG := Lib.hid hgr
        clear hu hgr
        go_wp2
        go_ret
        exact FIN.out _ HU.out HG.out

set_option maxRecDepth 20000 in
theorem rowI_news {w : World} {base g c : Nat} {l : List Nat} (h : RowI w base g c l) : ∀ j u, (l.map iv)[j]? = some u → w.cell? ((⟨g, 0, none⟩ : Addr).add j) = some u := by
  intro j u hu
  rw [List.getElem?_map, Option.map_eq_some_iff] at hu
  obtain ⟨x, hx, rfl⟩ := hu
  rw [add_blk]
  exact h.cell hx
set_option maxRecDepth 20000 in
theorem iv_one (l : List Nat) : ∀ u ∈ l.map iv, u.oneCell' = true := by
  intro u hu
  rw [List.mem_map] at hu
  obtain ⟨x, _, rfl⟩ := hu
  rfl

def CloneIPost (F : List Nat) (w : World) (e : Ending) (w' : World) : Prop := ∃ p' c', e = .returned (.slice p' F.length c') ∧ (p' = none → c' = 0) ∧ (0 < F.length → ∃ g', p' = some ⟨g', 0, none⟩ ∧ RowI w' w.heap.size g' c' F) ∧ w.grownBy w' none

/-- Least elements of numbers. -/
def leastL (L : List Nat) (z : Int) : Int := if hasZ L.length z then (nx L z.toNat : Int) else -1
theorem leastZ_L (F : List Nat) (z : Int) : leastZ F z = leastL (rootL F) z := by
  unfold leastZ leastL
  rw [rootL_len]
  split
  · rename_i h
    have := hasZ_iff.1 h
    rw [nx_rootL (by omega)]
  · rfl
set_option maxRecDepth 20000 in
theorem leastU_c (lo hi b : Nat) (L : List Nat) (z r : Int) (w : World) (h : IsUn w lo hi b L) (hr : leastL L z = r) : Calls Tryd.prog 43 #[.pointer (some ⟨b, 0, none⟩), .int .i64 z] w fun e w' => e = .returned (.int .i64 r) ∧ w.grownBy w' none := by
  obtain ⟨p, c, F, h1, h2, rfl⟩ := h
  rw [← hr, ← leastZ_L]
  exact least_c lo hi b c p F z w h1 h2

/-- Whether two numbers are one. -/
def sameL (L : List Nat) (x y : Int) : Bool := hasZ L.length x && (hasZ L.length y && decide (nx L x.toNat = nx L y.toNat))
theorem leastL_yes {L : List Nat} {z : Int} (h : hasZ L.length z = true) : leastL L z = nx L z.toNat := by unfold leastL; rw [if_pos h]
theorem leastL_no {L : List Nat} {z : Int} (h : hasZ L.length z = false) : leastL L z = -1 := by unfold leastL; rw [h]; rfl

/-- What Join makes of least elements; whether it brings anything. -/
def joinZ (L : List Nat) (x y : Int) : List Nat := if hasZ L.length x && hasZ L.length y then joinL L x.toNat y.toNat else L
def joinUB (L : List Nat) (x y : Int) : Bool := hasZ L.length x && (hasZ L.length y && decide (nx L x.toNat ≠ nx L y.toNat))
theorem joinZ_len (L : List Nat) (x y : Int) : (joinZ L x y).length = L.length := by unfold joinZ; split <;> simp [joinL_len]
def JoinPost (lo hi b : Nat) (L : List Nat) (r : Bool) (w : World) (e : Ending) (w' : World) : Prop := e = .returned (.bool r) ∧ IsUn w' lo hi b L ∧ Kept lo hi w w'

set_option maxHeartbeats 2000000 in
theorem joinU_c (lo hi b : Nat) (L : List Nat) (x y : Int) (w : World) (h : IsUn w lo hi b L) : Calls Tryd.prog 26 #[.pointer (some ⟨b, 0, none⟩), .int .i64 x, .int .i64 y] w (JoinPost lo hi b (joinZ L x y) (joinUB L x y) w) := by
  obtain ⟨p, c, F, hu, hd, rfl⟩ := h
  have HU := Lib.hid hu
  have HD := Lib.hid hd
  have hsm := hu.small
  clear hu hd
  cases hx : hasZ F.length x
  · have HX : Hid (leastZ F x = -1) := Lib.hid (by unfold leastZ; rw [hx]; rfl)
    have HP : Hid (∀ w', w.grownBy w' none → JoinPost lo hi b (joinZ (rootL F) x y) (joinUB (rootL F) x y) w (.returned (.bool false)) w') := Lib.hid (by
      intro w' hg
      have e1 : joinZ (rootL F) x y = rootL F := by unfold joinZ; rw [rootL_len, hx]; rfl
      have e2 : joinUB (rootL F) x y = false := by unfold joinUB; rw [rootL_len, hx]; rfl
      rw [e1, e2]
      exact ⟨rfl, ⟨p, c, F, HU.out.calm hg, HD.out, rfl⟩, Kept.calm hg⟩)
    clear hx
    go_enter Tryd.func26, Tryd.ntmps26
    go_wp2_with fail
    refine (least_c lo hi b c p F x _ HU.out HD.out).mono ?_
    rintro e w1 ⟨rfl, hg⟩
    rw [HX.out]
    have HG := Lib.hid hg
    clear hg
    go_wp2_with fail
    refine (least_c lo hi b c p F y _ (HU.out.calm HG.out) HD.out).mono ?_
    rintro e w2 ⟨rfl, hg⟩
    have HG2 := Lib.hid (grownBy_trans HG.out hg)
    clear hg
    generalize leastZ F y = u at *
    go_wp2
    go_ret
    exact HP.out _ HG2.out
  · have HX : Hid (leastZ F x = root F x.toNat) := Lib.hid (by unfold leastZ; rw [if_pos hx])
    have x1 := hasZ_iff.1 hx
    cases hy : hasZ F.length y
    · have HY : Hid (leastZ F y = -1) := Lib.hid (by unfold leastZ; rw [hy]; rfl)
      have HP : Hid (∀ w', w.grownBy w' none → JoinPost lo hi b (joinZ (rootL F) x y) (joinUB (rootL F) x y) w (.returned (.bool false)) w') := Lib.hid (by
        intro w' hg
        have e1 : joinZ (rootL F) x y = rootL F := by unfold joinZ; rw [rootL_len, hx, hy]; rfl
        have e2 : joinUB (rootL F) x y = false := by unfold joinUB; rw [rootL_len, hx, hy]; rfl
        rw [e1, e2]
        exact ⟨rfl, ⟨p, c, F, HU.out.calm hg, HD.out, rfl⟩, Kept.calm hg⟩)
      clear hx hy x1
      have hn0 : ¬ ((root F x.toNat : Int) < 0) := by omega
      go_enter Tryd.func26, Tryd.ntmps26
      go_wp2_with fail
      refine (least_c lo hi b c p F x _ HU.out HD.out).mono ?_
      rintro e w1 ⟨rfl, hg⟩
      rw [HX.out]
      have HG := Lib.hid hg
      clear hg
      go_wp2_with fail
      refine (least_c lo hi b c p F y _ (HU.out.calm HG.out) HD.out).mono ?_
      rintro e w2 ⟨rfl, hg⟩
      rw [HY.out]
      have HG2 := Lib.hid (grownBy_trans HG.out hg)
      clear hg
      generalize root F x.toNat = u at *
      go_wp2
      go_ret
      exact HP.out _ HG2.out
    · have HY : Hid (leastZ F y = root F y.toNat) := Lib.hid (by unfold leastZ; rw [if_pos hy])
      have y1 := hasZ_iff.1 hy
      obtain ⟨a, rfl⟩ := Int.eq_ofNat_of_zero_le x1.1
      obtain ⟨d, rfl⟩ := Int.eq_ofNat_of_zero_le y1.1
      have ha : a < F.length := by omega
      have hb : d < F.length := by omega
      have la := root_le F a
      have lb := root_le F d
      have wa : wayZ F (a : Int) = way F a := by unfold wayZ; rw [if_pos hx]; rfl
      have HJ := Lib.hid (join_facts HD.out ha hb)
      have HP : Hid (∀ w', Kept lo hi w w' → IsUg 84 w' lo hi b p c (joinF F a d) → ∀ r, r = decide (root F a ≠ root F d) → JoinPost lo hi b (joinZ (rootL F) a d) (joinUB (rootL F) a d) w (.returned (.bool r)) w') := Lib.hid (by
        rintro w' hk hu r rfl
        have e1 : joinZ (rootL F) a d = joinL (rootL F) a d := by unfold joinZ; rw [rootL_len, hx, hy]; rfl
        have e2 : joinUB (rootL F) a d = decide (root F a ≠ root F d) := by
          unfold joinUB
          rw [rootL_len, hx, hy]
          show (true && (true && decide (nx (rootL F) a ≠ nx (rootL F) d))) = _
          rw [nx_rootL ha, nx_rootL hb]
          simp
        rw [e1, e2]
        exact ⟨rfl, ⟨p, c, _, hu, HJ.out.1, HJ.out.2⟩, hk⟩)
      have hm : ∀ m : Nat, m = min (root F a) (root F d) → Hid (joinF F a d = setL (setL F (way F a) m) (way (setL F (way F a) m) d) m) ∧ Hid (downF (setL F (way F a) m)) ∧ Hid (wayZ (setL F (way F a) m) (d : Int) = way (setL F (way F a) m) d) := by
        rintro m rfl
        refine ⟨Lib.hid rfl, Lib.hid (short_down HD.out (by omega)), Lib.hid ?_⟩
        unfold wayZ
        rw [setL_len6, if_pos hy]
        rfl
      have HWA := Lib.hid wa
      clear wa hx hy x1 y1 ha hb HJ
      have HX' : Hid (leastZ F (a : Int) = (root F a : Int)) := HX
      have HY' : Hid (leastZ F (d : Int) = (root F d : Int)) := HY
      clear HX HY
      by_cases hab : root F a < root F d
      · obtain ⟨HM1, HM2, HM3⟩ := hm (root F a) (by omega)
        have HR := Lib.hid (HP.out · · · true (by simp; omega))
        clear hm HP
        have hn0 : ¬ ((root F a : Int) < 0) := by omega
        have hn1 : ¬ ((root F d : Int) < 0) := by omega
        have hne : ((root F a : Int) != (root F d : Int)) = true := by simp; omega
        have hlt : (root F a : Int) < root F d := by omega
        generalize root F a = u at *
        generalize root F d = v at *
        go_enter Tryd.func26, Tryd.ntmps26
        go_wp2_with fail
        refine (least_c lo hi b c p F a _ HU.out HD.out).mono ?_
        rintro e w1 ⟨rfl, hg⟩
        rw [HX'.out]
        have HG := Lib.hid hg
        clear hg
        go_wp2_with fail
        refine (least_c lo hi b c p F d _ (HU.out.calm HG.out) HD.out).mono ?_
        rintro e w2 ⟨rfl, hg⟩
        rw [HY'.out]
        have HG2 := Lib.hid (grownBy_trans HG.out hg)
        clear hg
        go_wp2_with fail
        refine (shorten_c lo hi b c p F a u _ (HU.out.calm HG2.out) HD.out).mono ?_
        rintro e w3 ⟨rfl, hu3, hk3⟩
        rw [HWA.out] at hu3
        have HU3 := Lib.hid hu3
        have HK3 := Lib.hid ((Kept.calm HG2.out).trans hk3)
        clear hu3 hk3
        go_wp2_with fail
        refine (shorten_c lo hi b c p _ d u _ HU3.out HM2.out).mono ?_
        rintro e w4 ⟨rfl, hu4, hk4⟩
        rw [HM3.out, ← HM1.out] at hu4
        have HU4 := Lib.hid hu4
        have HK4 := Lib.hid (HK3.out.trans hk4)
        clear hu4 hk4
        go_wp2
        go_ret
        exact HR.out _ HK4.out HU4.out
      · by_cases hba : root F d < root F a
        · obtain ⟨HM1, HM2, HM3⟩ := hm (root F d) (by omega)
          have HR := Lib.hid (HP.out · · · true (by simp; omega))
          clear hm HP
          have hn0 : ¬ ((root F a : Int) < 0) := by omega
          have hn1 : ¬ ((root F d : Int) < 0) := by omega
          have hne : ((root F a : Int) != (root F d : Int)) = true := by simp; omega
          have hlt : (root F d : Int) < root F a := by omega
          have hlt2 : ¬ (root F a : Int) < root F d := by omega
          generalize root F a = u at *
          generalize root F d = v at *
          go_enter Tryd.func26, Tryd.ntmps26
          go_wp2_with fail
          refine (least_c lo hi b c p F a _ HU.out HD.out).mono ?_
          rintro e w1 ⟨rfl, hg⟩
          rw [HX'.out]
          have HG := Lib.hid hg
          clear hg
          go_wp2_with fail
          refine (least_c lo hi b c p F d _ (HU.out.calm HG.out) HD.out).mono ?_
          rintro e w2 ⟨rfl, hg⟩
          rw [HY'.out]
          have HG2 := Lib.hid (grownBy_trans HG.out hg)
          clear hg
          go_wp2_with fail
          refine (shorten_c lo hi b c p F a v _ (HU.out.calm HG2.out) HD.out).mono ?_
          rintro e w3 ⟨rfl, hu3, hk3⟩
          rw [HWA.out] at hu3
          have HU3 := Lib.hid hu3
          have HK3 := Lib.hid ((Kept.calm HG2.out).trans hk3)
          clear hu3 hk3
          go_wp2_with fail
          refine (shorten_c lo hi b c p _ d v _ HU3.out HM2.out).mono ?_
          rintro e w4 ⟨rfl, hu4, hk4⟩
          rw [HM3.out, ← HM1.out] at hu4
          have HU4 := Lib.hid hu4
          have HK4 := Lib.hid (HK3.out.trans hk4)
          clear hu4 hk4
          go_wp2
          go_ret
          exact HR.out _ HK4.out HU4.out
        · have heq : root F d = root F a := by omega
          rw [heq] at HY' HP hm
          obtain ⟨HM1, HM2, HM3⟩ := hm (root F a) (by omega)
          have HR := Lib.hid (HP.out · · · false (by simp))
          clear hm HP lb hab hba heq
          have hn0 : ¬ ((root F a : Int) < 0) := by omega
          have hne : ((root F a : Int) != (root F a : Int)) = false := by simp
          generalize root F a = u at *
          go_enter Tryd.func26, Tryd.ntmps26
          go_wp2_with fail
          refine (least_c lo hi b c p F a _ HU.out HD.out).mono ?_
          rintro e w1 ⟨rfl, hg⟩
          rw [HX'.out]
          have HG := Lib.hid hg
          clear hg
          go_wp2_with fail
          refine (least_c lo hi b c p F d _ (HU.out.calm HG.out) HD.out).mono ?_
          rintro e w2 ⟨rfl, hg⟩
          rw [HY'.out]
          have HG2 := Lib.hid (grownBy_trans HG.out hg)
          clear hg
          go_wp2_with fail
          refine (shorten_c lo hi b c p F a u _ (HU.out.calm HG2.out) HD.out).mono ?_
          rintro e w3 ⟨rfl, hu3, hk3⟩
          rw [HWA.out] at hu3
          have HU3 := Lib.hid hu3
          have HK3 := Lib.hid ((Kept.calm HG2.out).trans hk3)
          clear hu3 hk3
          go_wp2_with fail
          refine (shorten_c lo hi b c p _ d u _ HU3.out HM2.out).mono ?_
          rintro e w4 ⟨rfl, hu4, hk4⟩
          rw [HM3.out, ← HM1.out] at hu4
          have HU4 := Lib.hid hu4
          have HK4 := Lib.hid (HK3.out.trans hk4)
          clear hu4 hk4
          go_wp2
          go_ret
          exact HR.out _ HK4.out HU4.out

end Go.Proofs.YtemnbkenihldgaaDoor
/-! Package union: the contracts of Places, Classes. -/
namespace Go.Proofs.YtemnbkenihldgaaDoor
open Go.RowKit

/-- What hands back a row of numbers of its own. -/
def RowIPost (l : List Nat) (w : World) (e : Ending) (w' : World) : Prop := ∃ g, e = .returned (.slice (some ⟨g, 0, none⟩) l.length l.length) ∧ RowI w' w.heap.size g l.length l ∧ w.grownBy w' none

theorem places_start (L : List Nat) (n : Nat) (hl : L.length = n) (hn : n ≤ 1000) (w : World) : Hid (RowI (w.alloc (.cells (madeCells #[.int .i64 0] n) 3)) w.heap.size w.heap.size n (plK L 0)) ∧ Hid (w.grownBy (w.alloc (.cells (madeCells #[.int .i64 0] n) 3)) none) := by
  refine ⟨Lib.hid ?_, Lib.hid (World.grownBy_alloc _ _ _)⟩
  have h := heap_alloc_new w (.cells (madeCells #[.int .i64 0] n) 3)
  rw [made_iv] at h
  have h2 := plK_zero L
  rw [hl] at h2
  rw [← h2] at h
  have := rowI_of h (Nat.le_refl _) (by rw [h2]; simp; omega)
  rw [made_iv, ← h2]
  have e : (plK L 0).length = n := by rw [h2]; simp
  rw [e] at this
  exact this

set_option maxRecDepth 20000 in
set_option maxHeartbeats 2000000 in
theorem placesU_c (lo hi b : Nat) (L : List Nat) (w : World) (h : IsUn w lo hi b L) : Calls Tryd.prog 29 #[.pointer (some ⟨b, 0, none⟩)] w (RowIPost (placesL L) w) := by
  obtain ⟨p, c, F, hu, hd, hL⟩ := h
  have hc := hu.cell
  have hsm := hu.small
  have HU := Lib.hid hu
  have HD := Lib.hid hd
  have HLE := Lib.hid hL
  have HLL : Hid (L.length = F.length) := Lib.hid (by rw [← hL, rootL_len])
  have HROW := Lib.hid hu.row
  generalize hN : F.length = n at *
  have HN := Lib.hid hN
  have HIS := Lib.hid (rootL_is hd)
  rw [hL] at HIS
  clear hu hd hN hL
  have hmk := run_make_row' (P := Tryd.prog) 28 3 (.int .i64 0) 8 Tryd.underlying28 Tryd.infoZ3 rfl .i64 .i64 n (by omega) (by omega) w
  obtain ⟨HR0, HG0⟩ := places_start L n HLL.out hsm w
  have hc2 : (w.alloc (.cells (madeCells #[.int .i64 0] n) 3)).cell? ⟨b, 0, none⟩ = some (.slice p n c) := by
    have := (HU.out.calm HG0.out).cell
    rwa [HN.out] at this
  go_enter Tryd.func29, Tryd.ntmps29
  go_wp2
  generalize hgb : w.heap.size = gb at *
  have HGB := Lib.hid hgb
  clear hgb hc2
  go_loopw [4, 18] (fun q i wr => ∃ k : Nat, k ≤ n ∧ i = .int .i64 k ∧ q = .int .i64 (cntR L k) ∧ RowI wr gb gb n (plK L k) ∧ w.grownBy wr none) (fun _ i _ => n - (intOf i).toNat)
  case atStart => exact ⟨0, Nat.zero_le _, rfl, rfl, HR0.out, HG0.out⟩
  case round =>
    obtain ⟨k, hk, rfl, rfl, hrow, hgr⟩ := hrel
    by_cases hkn : k < n
    · have k0 : (0 : Int) ≤ k := by omega
      have k1 : (k : Int) < n := by omega
      have hcn : (cntR L k : Int) ≤ 1000 := by have := cntR_le L k; omega
      obtain ⟨g, rfl, hgh, hrow2⟩ := HROW.out (by omega)
      have hx := (hrow2.calm hgr).cell (j := k) (nx_get (by rw [HN.out]; exact hkn))
      have hle := HD.out k (by rw [HN.out]; exact hkn)
      have hfz := hrow.free k
      have hkl : k < (plK L k).length := by rw [plK_len (by rw [HLL.out]; exact hk), HLL.out]; exact hkn
      have hcur := hrow.cell (j := k) (nx_get hkl)
      have HST := Lib.hid (plK_succ (L := L) (k := k) (by rw [HLL.out]; exact hkn))
      have HSET := Lib.hid (fun v => hrow.set (j := k) v)
      have HGS := Lib.hid (fun v : Nat => grownBy_new hgr (grownBy_setCell wr ⟨gb, k, none⟩ (.int .i64 (v : Int))) (by rw [HGB.out]; exact Nat.le_refl _))
      have hcs := cntR_succ L k
      by_cases he : nx F k = k
      · have hLk : nx L k = k := by rw [← HLE.out, nx_rootL (by rw [HN.out]; exact hkn)]; exact root_of_fix he
        have HPL := Lib.hid (plc_root hLk)
        rw [if_pos hLk] at hcs
        have HCS := Lib.hid hcs
        rw [he] at hx
        clear hcs hLk he hle hrow hgr hrow2 HR0 HG0 hkl HROW
        generalize nx (plK L k) k = v at *
        generalize cntR L k = q at *
        go_wp2
        refine ⟨⟨k + 1, by omega, by go_num, by rw [HCS.out]; go_num, ?_, ?_⟩, by simp [intOf]; omega⟩
        · rw [← HST.out, HPL.out]
          exact HSET.out _
        · exact HGS.out _
      · have hlt : nx F k < k := by omega
        have hroot : nx L k = root F (nx F k) := by rw [← HLE.out, nx_rootL (by rw [HN.out]; exact hkn)]; exact root_step hlt
        have hLk : ¬ nx L k = k := by have := root_le F (nx F k); omega
        have hpl : plc6 L (nx F k) = plc6 L k := by
          unfold plc6
          rw [hroot, ← HLE.out, nx_rootL (by rw [HN.out]; omega)]
        have hy := hrow.cell (j := nx F k) (nx_get (by omega))
        rw [plK_get hlt, hpl] at hy
        rw [if_neg hLk, Nat.add_zero] at hcs
        have HCS := Lib.hid hcs
        have hne : ((nx F k : Int) == (k : Int)) = false := by simp; omega
        have n0 : (0 : Int) ≤ nx F k := by omega
        have n1 : (nx F k : Int) < n := by omega
        clear hcs hLk he hle hrow hgr hrow2 HR0 HG0 hkl HROW hroot hpl
        generalize nx (plK L k) k = v at *
        generalize nx F k = m at *
        generalize cntR L k = q at *
        have HST2 := HST
        have HS2 := Lib.hid (HSET.out (plc6 L k))
        have HG2 := Lib.hid (HGS.out (plc6 L k))
        clear HST HSET HGS
        generalize plc6 L k = u at *
        go_wp2
        refine ⟨⟨k + 1, by omega, by go_num, by rw [HCS.out]; rfl, ?_, ?_⟩, by simp [intOf]; omega⟩
        · rw [← HST2.out]
          exact HS2.out
        · exact HG2.out
    · obtain rfl : k = n := by omega
      have HRW := Lib.hid hrow
      have HGR := Lib.hid hgr
      clear hrow hgr
      go_wp2
      go_ret
      have hpl := placesL_len L
      refine ⟨gb, by rw [hpl, HLL.out]; rfl, ?_, HGR.out⟩
      have := HRW.out
      rw [← HLL.out, plK_end] at this
      rw [hpl, HGB.out]
      exact this

/-- Being one, as a relation. -/
def eqC (L : List Nat) (a b : Nat) : Bool := decide (nx L a = nx L b)
theorem eqC_trans (L : List Nat) : Trans (eqC L) := by
  intro a b c h1 h2
  unfold eqC at *
  simp only [decide_eq_true_eq] at *
  exact h1.trans h2
theorem eqC_lead {L : List Nat} (h : isL L) {a : Nat} (ha : a < L.length) : leadC (eqC L) a = decide (nx L a = a) := by
  by_cases e : nx L a = a
  · rw [decide_eq_true e, leadC_iff]
    intro b hb
    have := h.le b (by omega)
    simp only [oneC, eqC, Bool.or_eq_false_iff, decide_eq_false_iff_not, Bool.and_eq_false_iff]
    exact ⟨by omega, .inl (by omega)⟩
  · rw [decide_eq_false e, Bool.eq_false_iff]
    intro hl
    rw [leadC_iff] at hl
    have h1 := h.le a ha
    have h2 := hl (nx L a) (by omega)
    have h3 := h.fix a ha
    rw [Bool.eq_false_iff] at h2
    apply h2
    rw [oneC_iff]
    right
    simp [eqC, h3]
theorem leads_cnt {L : List Nat} (h : isL L) {a : Nat} (ha : a ≤ L.length) : leadsC (eqC L) a = (List.range a).filter (fun j => decide (nx L j = j)) := by
  unfold leadsC
  apply List.filter_congr
  intro x hx
  exact eqC_lead h (by have := List.mem_range.1 hx; omega)
theorem circ_cnt {L : List Nat} (h : isL L) {a : Nat} (ha : a ≤ L.length) : (circL (eqC L) a).length = cntR L a := by
  rw [circ_length, leads_cnt h ha]
  rfl
theorem leads_at {L : List Nat} (h : isL L) {a m : Nat} (ha : a ≤ L.length) (hm : m < a) (hf : nx L m = m) : (leadsC (eqC L) a)[cntR L m]? = some m := by
  rw [leads_cnt h ha]
  induction a with
  | zero => omega
  | succ a ih =>
    rw [List.range_succ, List.filter_append]
    by_cases e : m = a
    · subst e
      rw [List.getElem?_append_right (by unfold cntR; exact Nat.le_refl _)]
      unfold cntR
      rw [Nat.sub_self]
      simp [hf]
    · have h1 := ih (by omega) (by omega)
      rw [List.getElem?_append_left (List.getElem?_eq_some_iff.1 h1).1]
      exact h1
theorem circ_at {L : List Nat} (h : isL L) {a e : Nat} (ha : a ≤ L.length) (hm : nx L e < a) (he : e < L.length) : (circL (eqC L) a)[plc6 L e]? = some (clsC (eqC L) a (nx L e)) := by
  unfold circL
  rw [List.getElem?_map]
  unfold plc6
  rw [leads_at h ha hm (h.fix e he)]
  rfl
/-- One element more: into its class, or a class of its own. -/
theorem circ_old {L : List Nat} (h : isL L) {e : Nat} (he : e < L.length) (hlt : nx L e < e) : circL (eqC L) (e + 1) = (circL (eqC L) e).set (plc6 L e) (clsC (eqC L) e (nx L e) ++ [e]) := by
  have hf := h.fix e he
  refine circ_hit (eqC_trans L) (circ_at h (by omega) hlt he) (leads_at h (by omega) hlt hf) ?_
  simp [eqC, hf]
theorem circ_new {L : List Nat} (h : isL L) {e : Nat} (he : e < L.length) (heq : nx L e = e) : circL (eqC L) (e + 1) = circL (eqC L) e ++ [[e]] := by
  refine circ_miss (eqC_trans L) ?_
  intro k x hx hc
  have hm := mem_leads.1 (List.mem_of_getElem? hx)
  have := h.le x (by omega)
  have h2 := hc.1
  unfold eqC at h2
  simp only [decide_eq_true_eq] at h2
  omega

/-- The classes so far, in memory of their own. -/
def IsGrid6 (w : World) (base : Nat) (v : Value) (ls : List (List Nat)) : Prop := ∃ ib ic, Grid w base v ls ib ic
def GridPost6 (ls : List (List Nat)) (w : World) (e : Ending) (w' : World) : Prop := ∃ v, e = .returned v ∧ IsGrid6 w' w.heap.size v ls ∧ w.grownBy w' none

theorem Grid.down {w : World} {base base' : Nat} {v : Value} {ls : List (List Nat)} {ib ic : Nat → Nat} (h : Grid w base v ls ib ic) (hb : base' ≤ base) : Grid w base' v ls ib ic :=
  ⟨ownsRow_down h.out hb, fun k l hl => (h.row k l hl).mono hb, h.ap⟩
/-- One cell of a row of its own set. -/
theorem ownsRow_setAt {w : World} {base g n cap k : Nat} {e : TypeId} {xs : List Value} (h : w.ownsRow base e 1 (.slice (some ⟨g, 0, none⟩) n cap) n xs) (v : Value) : (w.setCell ⟨g, k, none⟩ v).ownsRow base e 1 (.slice (some ⟨g, 0, none⟩) n cap) n (xs.set k v) := by
  obtain ⟨h0, h⟩ := h
  refine ⟨by simpa using h0, ?_⟩
  rcases h with ⟨hv, _⟩ | ⟨g', cap', cur, hv, h1, hb, h2, h3, h4, h5⟩
  · cases hv
  · cases hv
    refine .inr ⟨g, cap, cur.setIfInBounds k v, rfl, h1, heap_setCell_same w g k cur _ _ hb, h2, h3, by simpa using h4, ?_⟩
    have e1 : (cur.setIfInBounds k v).toList = cur.toList.set k v := by simp
    rw [e1, List.take_set, h5]
theorem ownsRow_free {w : World} {base g n cap : Nat} {e : TypeId} {xs : List Value} (h : w.ownsRow base e 1 (.slice (some ⟨g, 0, none⟩) n cap) n xs) (k : Nat) : w.frozen? ⟨g, k, none⟩ = false := by
  rcases h.2 with ⟨hv, _⟩ | ⟨g', cap', cur, hv, h1, hb, _⟩
  · cases hv
  · cases hv
    simp [World.frozen?, hb]
theorem ownsRow_at {w : World} {base g n cap k : Nat} {e : TypeId} {xs : List Value} {x : Value} (h : w.ownsRow base e 1 (.slice (some ⟨g, 0, none⟩) n cap) n xs) (hx : xs[k]? = some x) : w.cell? ⟨g, k, none⟩ = some x := by
  have := World.ownsRow.cells h (g := g) rfl k x hx
  rwa [add_blk] at this

set_option maxRecDepth 20000 in
set_option maxHeartbeats 4000000 in
theorem classesU_c (lo hi b : Nat) (L : List Nat) (w : World) (h : IsUn w lo hi b L) : Calls Tryd.prog 45 #[.pointer (some ⟨b, 0, none⟩)] w (GridPost6 (circL (eqC L) L.length) w) := by
  obtain ⟨i0, hi0, hz0, hz1, hz2⟩ := info_parts Tryd.infoI3
  obtain ⟨j0, hj0, hy0, hy1, hy2⟩ := info_parts Tryd.infoI28
  obtain ⟨his, hsm⟩ := h.is
  have H := Lib.hid h
  have HIS := Lib.hid his
  clear h his
  have HPL := Lib.hid (placesL_len L)
  generalize hN : L.length = n at *
  have HN := Lib.hid hN
  clear hN
  go_enter Tryd.func45, Tryd.ntmps45
  go_wp2_with fail
  refine (placesU_c lo hi b L _ H.out).mono ?_
  rintro e w1 ⟨pg, rfl, hrowp, hg1⟩
  rw [HPL.out]
  rw [HPL.out] at hrowp
  have HRP := Lib.hid hrowp
  have HG1 := Lib.hid hg1
  clear hrowp hg1
  go_wp2
  go_loopw [3, 9] (fun v i wr => ∃ a : Nat, a ≤ n ∧ i = .int .i64 a ∧ IsGrid6 wr w1.heap.size v (circL (eqC L) a) ∧ w1.grownBy wr none) (fun _ i _ => n - (intOf i).toNat)
  case atStart => exact ⟨0, Nat.zero_le _, rfl, ⟨fun _ => 0, fun _ => 0, grid_nil _ _ _ _⟩, grownBy_refl _ _⟩
  case round =>
    obtain ⟨a, ha, rfl, ⟨ib, ic, hgrid⟩, hgr⟩ := hrel
    obtain ⟨qg, cap, rfl, hqg⟩ := hgrid.slice
    have hlen := circ_cnt HIS.out (a := a) (by rw [HN.out]; exact ha)
    have hcl := cntR_le L a
    by_cases han : a < n
    · have a0 : (0 : Int) ≤ a := by omega
      have a1 : (a : Int) < n := by omega
      have hpc := (HRP.out.calm hgr).cell (j := a) (nx_get (by rw [placesL_len, HN.out]; exact han))
      rw [nx_places (by rw [HN.out]; exact han)] at hpc
      by_cases hold : nx L a < a
      · -- into a class that is there
        have HST := Lib.hid (circ_old HIS.out (by rw [HN.out]; exact han) hold)
        have hat := circ_at HIS.out (a := a) (e := a) (by rw [HN.out]; exact ha) hold (by rw [HN.out]; exact han)
        have hplt : plc6 L a < (circL (eqC L) a).length := (List.getElem?_eq_some_iff.1 hat).1
        obtain ⟨g, rfl, hgb, hgl⟩ := hqg (plc6 L a) hplt
        have hhead := hgrid.head hat
        have hrw := hgrid.row _ _ hat
        have hle := cls_le (eqC L) a (nx L a)
        have HGN : Hid (some g ≠ (Value.slice (some ⟨ib (plc6 L a), 0, none⟩) (clsC (eqC L) a (nx L a)).length (ic (plc6 L a))).ownBlock) := Lib.hid (by
          have := hgrid.out_ne hplt
          simpa [Value.ownBlock] using this)
        have hsz := hgr.size
        have HCA : Hid (∀ o, (wr.alloc o).cell? ⟨g, plc6 L a, none⟩ = some (.slice (some ⟨ib (plc6 L a), 0, none⟩) (clsC (eqC L) a (nx L a)).length (ic (plc6 L a)))) := Lib.hid fun o => (World.cell?_of_block (a := ⟨g, plc6 L a, none⟩) ((World.grownBy_alloc wr o none).block g hgl (by simp))).trans hhead
        have HFA : Hid (∀ o, (wr.alloc o).frozen? ⟨g, plc6 L a, none⟩ = false) := Lib.hid fun o => (World.frozen?_of_block (a := ⟨g, plc6 L a, none⟩) ((World.grownBy_alloc wr o none).block g hgl (by simp))).trans (hgrid.free (plc6 L a))
        rw [hlen] at hplt
        have p0 : (0 : Int) ≤ plc6 L a := by omega
        have p1 : (plc6 L a : Int) < cntR L a := by omega
        have hne : ((plc6 L a : Int) == (cntR L a : Int)) = false := by simp; omega
        have HGRID := Lib.hid hgrid
        have HGR := Lib.hid hgr
        have HRW := Lib.hid hrw
        have HAT := Lib.hid hat
        have HLEN := Lib.hid hlen
        clear hgrid hgr hrw hat hqg hold
        rw [HLEN.out]
        clear hlen
        generalize clsC (eqC L) a (nx L a) = l at *
        generalize plc6 L a = k at *
        generalize cntR L a = m at *
        go_wp2_with (at_builtin; refine wpList_append_lies _ rfl _ _ 28 rfl w1.heap.size 3 i0 (.int .i64 0) 1 8 Tryd.underlying28 hi0 hz0 hz1 hz2 rfl (by decide) _ _ _ rfl (HRW.out.alloc _) ⟨wr.heap.size, 0, none⟩ 1 1 [.int .i64 a] rfl rfl (World.news_of_block (heap_alloc_new wr _)) (by simp [Value.oneCell']) (by decide) (by unfold maxLen; omega) (by omega) (by simp; omega) _ rfl ?_; intro g' cap' w2 hown' hgrow hor hlt'; have c2 := World.grownBy.cell hgrow (a := ⟨g, k, none⟩) (HCA.out _) HGN.out; have f2 := (World.grownBy.frozen_far hgrow ⟨g, k, none⟩ (by simp; omega) HGN.out).trans (HFA.out _); have HOWN := Lib.hid hown'; have HGROW := Lib.hid hgrow; have HOR := Lib.hid hor; clear hown' hgrow hor)
        refine ⟨⟨a + 1, by omega, by go_num, ?_⟩, by simp [intOf]; omega⟩
        have hgk : wr.grownBy w2 (some (ib k)) := grownBy_trans (World.grownBy_alloc wr _ _) HGROW.out
        have hrow : RowI w2 w1.heap.size g' cap' (l ++ [a]) := by
          have := HOWN.out
          unfold RowI
          simpa [iv] using this
        have hne : g' = ib k ∨ wr.heap.size ≤ g' := by
          rcases HOR.out with e | e
          · left; exact (Option.some.inj (show some (ib k) = some g' from e)).symm
          · right; rw [e]; simp
        have hgd : Grid wr w1.heap.size (.slice (some ⟨g, 0, none⟩) m cap) (circL (eqC L) a) ib ic := by
          have := HGRID.out
          rwa [HLEN.out] at this
        obtain ⟨r1, r2⟩ := hgd.grow HAT.out hgk hrow hne
        rw [List.length_append, List.length_singleton] at r1 r2
        refine ⟨⟨_, _, by rw [HST.out]; exact r1⟩, ?_⟩
        have hbk := HRW.out.lt.1
        exact grownBy_new (grownBy_new HGR.out hgk hbk) r2 hgb
      · -- a class of its own
        have heq : nx L a = a := by have := HIS.out.le a (by rw [HN.out]; exact han); omega
        have HST := Lib.hid (circ_new HIS.out (by rw [HN.out]; exact han) heq)
        have hpl : plc6 L a = cntR L a := plc_root heq
        rw [hpl] at hpc
        have hsz := hgr.size
        have HGRID := Lib.hid hgrid
        have HGR := Lib.hid hgr
        have HLEN := Lib.hid hlen
        have HO : Hid (wr.ownsRow w1.heap.size 28 1 (.slice qg (cntR L a) cap) (cntR L a) (hdr ib ic (circL (eqC L) a))) := Lib.hid (by have := hgrid.out; rwa [hlen] at this)
        clear hgrid hgr hqg hold hpl heq
        rw [HLEN.out]
        clear hlen
        generalize cntR L a = m at *
        have hmm : ((m : Int) == (m : Int)) = true := by simp
        have m0 : (0 : Int) ≤ m := by omega
        have m1 : (m : Int) < ((m + 1 : Nat) : Int) := by omega
        have HHL : Hid ((hdr ib ic (circL (eqC L) a)).length = m) := Lib.hid (by rw [hdr_len, HLEN.out])
        go_wp2_with (at_builtin; first
          | (refine wpList_append_lies _ rfl _ _ 38 rfl w1.heap.size 28 j0 (.slice none 0 0) 1 24 Tryd.underlying38 hj0 hy0 hy1 hy2 rfl (by decide) _ _ _ rfl (HO.out.alloc _) ⟨wr.heap.size, 0, none⟩ 1 1 [.slice none 0 0] rfl rfl (World.news_of_block (heap_alloc_new wr _)) (by simp [Value.oneCell']) (by decide) (by unfold maxLen; omega) (by omega) (by simp; omega) _ rfl ?_
             intro g' cap' w2 hown' hgrow hor hlt'
             have c2 := ownsRow_at (k := m) (x := .slice none 0 0) hown' (by rw [List.getElem?_append_right (by rw [HHL.out]; exact Nat.le_refl _), HHL.out, Nat.sub_self]; rfl)
             have hgl2 : g' < w2.heap.size := (World.ownsRow.lt hown' g' rfl).2
             have HC2A : Hid (∀ o, (w2.alloc o).cell? ⟨g', m, none⟩ = some (.slice none 0 0)) := Lib.hid fun o => (World.cell?_of_block (a := ⟨g', m, none⟩) ((World.grownBy_alloc w2 o none).block g' hgl2 (by simp))).trans c2
             have HF2A : Hid (∀ o, (w2.alloc o).frozen? ⟨g', m, none⟩ = false) := Lib.hid fun o => (World.frozen?_of_block (a := ⟨g', m, none⟩) ((World.grownBy_alloc w2 o none).block g' hgl2 (by simp))).trans (ownsRow_free hown' m)
             have hsz2 : w1.heap.size ≤ w2.heap.size := Nat.le_trans hsz (Nat.le_trans (by simp) hgrow.size)
             have HOWN := Lib.hid hown'
             have HGROW := Lib.hid hgrow
             have HOR := Lib.hid hor
             clear hown' hgrow hor)
          | (refine wpList_append_lies _ rfl _ _ 28 rfl w1.heap.size 3 i0 (.int .i64 0) 1 8 Tryd.underlying28 hi0 hz0 hz1 hz2 rfl (by decide) (.slice none 0 0) 0 [] rfl (World.ownsRow_nil _ _ _ _) ⟨w2.heap.size, 0, none⟩ 1 1 [.int .i64 a] rfl rfl (World.news_of_block (heap_alloc_new w2 _)) (by simp [Value.oneCell']) (by decide) (by unfold maxLen; omega) (by omega) (by simp; omega) _ rfl ?_
             intro g3 cap3 w3 hown3 hgrow3 hor3 hlt3
             have c3 := World.grownBy.cell hgrow3 (a := ⟨g', m, none⟩) (HC2A.out _) (by simp [Value.ownBlock])
             have f3 := (World.grownBy.frozen_far hgrow3 ⟨g', m, none⟩ (by simp; omega) (by simp [Value.ownBlock])).trans (HF2A.out _)
             have HOWN3 := Lib.hid hown3
             have HGROW3 := Lib.hid hgrow3
             have HOR3 := Lib.hid hor3
             clear hown3 hgrow3 hor3))
        refine ⟨⟨a + 1, by omega, by go_num, ?_⟩, by simp [intOf]; omega⟩
        have hga : wr.grownBy (wr.alloc (.cells #[.slice none 0 0] 28)) none := World.grownBy_alloc wr _ none
        have hgb3 : w2.grownBy w3 none := grownBy_trans (World.grownBy_alloc w2 _ none) (by simpa [Value.ownBlock] using HGROW3.out)
        have hown3 : w3.ownsRow w1.heap.size 28 1 (.slice (some ⟨g', 0, none⟩) (m + 1) cap') (m + 1) (hdr ib ic (circL (eqC L) a) ++ [.slice none 0 0]) := ownsRow_calm HOWN.out hgb3
        have hset := ownsRow_setAt (k := m) hown3 (.slice (some ⟨g3, 0, none⟩) 1 cap3)
        rw [List.set_append_right _ _ (by rw [HHL.out]; exact Nat.le_refl _), HHL.out, Nat.sub_self, List.set_cons_zero] at hset
        have hgw : w3.grownBy (w3.setCell ⟨g', m, none⟩ (.slice (some ⟨g3, 0, none⟩) 1 cap3)) (some g') := grownBy_setCell w3 ⟨g', m, none⟩ _
        have hg2 : wr.grownBy w2 (Value.slice qg m cap).ownBlock := grownBy_trans (World.grownBy_alloc wr _ _) HGROW.out
        have hg3 : wr.grownBy w3 (Value.slice qg m cap).ownBlock := grownBy_trans hg2 (grownBy_none hgb3)
        have hg3e : g3 = w2.heap.size + 1 := by
          rcases HOR3.out with e | e
          · cases e
          · rw [e]; simp
        have hg4 : wr.grownBy (w3.setCell ⟨g', m, none⟩ (.slice (some ⟨g3, 0, none⟩) 1 cap3)) (Value.slice qg m cap).ownBlock := by
          rcases HOR.out with e | e
          · have e' : (Value.slice qg m cap).ownBlock = some g' := e
            rw [e'] at hg3 ⊢
            exact grownBy_trans hg3 hgw
          · have e' : g' = wr.heap.size + 1 := by rw [e]; simp
            exact ⟨hgw.os.trans hg3.os, hgw.tape.trans hg3.tape, hgw.output.trans hg3.output, Nat.le_trans hg3.size hgw.size, fun i hi hr => (hgw.block i (Nat.lt_of_lt_of_le hi hg3.size) (by simp; omega)).trans (hg3.block i hi hr)⟩
        have hrow3 : RowI w3 w1.heap.size g3 cap3 [a] := by
          have := HOWN3.out
          unfold RowI
          simpa [iv] using this
        have hrow4 := hrow3.kept hgw (by simp; omega)
        have hszr := hg2.size
        have hs := Grid.snoc HGRID.out (by rw [HLEN.out]; exact hg4) hrow4 (fun j hj => by have := (HGRID.out.row j _ (List.getElem?_eq_getElem hj)).lt; omega) (by rw [HLEN.out]; exact hset)
        refine ⟨⟨_, _, by rw [HST.out]; exact hs⟩, ?_⟩
        cases hob : (Value.slice qg m cap).ownBlock with
        | none => rw [hob] at hg4; exact grownBy_trans HGR.out hg4
        | some r => rw [hob] at hg4; exact grownBy_new HGR.out hg4 (HO.out.lt r hob).1
    · obtain rfl : a = n := by omega
      have HGRID : Hid (Grid wr w1.heap.size (.slice qg (cntR L a) cap) (circL (eqC L) a) ib ic) := Lib.hid (by rwa [hlen] at hgrid)
      have HGR := Lib.hid hgr
      clear hgrid hgr
      rw [hlen]
      clear hlen
      go_wp2
      go_ret
      exact ⟨_, rfl, ⟨ib, ic, HGRID.out.down HG1.out.size⟩, grownBy_trans HG1.out HGR.out⟩

end Go.Proofs.YtemnbkenihldgaaDoor
