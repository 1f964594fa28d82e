/- Plain facts on elements in classes, each kept by what lies next on its way down to the least of its class: roots, ways, joins, places. -/
import Derived.Test.YtihkjgiaajgkpaaDoorOrda
namespace Go.Proofs.YtihkjgiaajgkpaaDoor

/-- What lies next to e. -/
def nx (F : List Nat) (e : Nat) : Nat := F[e]?.getD 0
/-- All ways lead down. -/
def downF (F : List Nat) : Prop := ∀ e, e < F.length → nx F e ≤ e
def root (F : List Nat) (e : Nat) : Nat := if _h : nx F e < e then root F (nx F e) else e
termination_by e
def way (F : List Nat) (e : Nat) : List Nat := if _h : nx F e < e then e :: way F (nx F e) else [e]
termination_by e

theorem root_step {F : List Nat} {e : Nat} (h : nx F e < e) : root F e = root F (nx F e) := by rw [root, dif_pos h]
theorem root_end {F : List Nat} {e : Nat} (h : ¬ nx F e < e) : root F e = e := by rw [root, dif_neg h]
theorem way_step {F : List Nat} {e : Nat} (h : nx F e < e) : way F e = e :: way F (nx F e) := by rw [way, dif_pos h]
theorem way_end {F : List Nat} {e : Nat} (h : ¬ nx F e < e) : way F e = [e] := by rw [way, dif_neg h]

theorem root_le (F : List Nat) (e : Nat) : root F e ≤ e := by
  induction e using Nat.strongRecOn with
  | _ e ih =>
    by_cases h : nx F e < e
    · rw [root_step h]; have := ih _ h; omega
    · rw [root_end h]; exact Nat.le_refl _
theorem root_fix {F : List Nat} (hd : downF F) {e : Nat} (he : e < F.length) : nx F (root F e) = root F e := by
  induction e using Nat.strongRecOn with
  | _ e ih =>
    by_cases h : nx F e < e
    · rw [root_step h]; exact ih _ h (by omega)
    · rw [root_end h]; have := hd e he; omega
theorem root_of_fix {F : List Nat} {e : Nat} (h : nx F e = e) : root F e = e := root_end (by omega)
theorem fix_of_root {F : List Nat} (hd : downF F) {e : Nat} (he : e < F.length) (h : root F e = e) : nx F e = e := by
  by_cases h1 : nx F e < e
  · rw [root_step h1] at h; have := root_le F (nx F e); omega
  · have := hd e he; omega
theorem root_root {F : List Nat} (hd : downF F) {e : Nat} (he : e < F.length) : root F (root F e) = root F e := root_of_fix (root_fix hd he)
theorem mem_way {F : List Nat} {e x : Nat} (h : x ∈ way F e) : x ≤ e ∧ root F x = root F e := by
  induction e using Nat.strongRecOn with
  | _ e ih =>
    by_cases h1 : nx F e < e
    · rw [way_step h1, List.mem_cons] at h
      rcases h with rfl | h
      · exact ⟨Nat.le_refl _, rfl⟩
      · have := ih _ h1 h
        exact ⟨by omega, by rw [this.2, root_step h1]⟩
    · rw [way_end h1, List.mem_singleton] at h
      subst h
      exact ⟨Nat.le_refl _, rfl⟩
theorem root_mem (F : List Nat) (e : Nat) : root F e ∈ way F e := by
  induction e using Nat.strongRecOn with
  | _ e ih =>
    by_cases h : nx F e < e
    · rw [way_step h, root_step h]; exact List.mem_cons_of_mem _ (ih _ h)
    · rw [way_end h, root_end h]; simp
/-- The last of a way. -/
theorem way_last (F : List Nat) (e d : Nat) : (way F e).getLastD d = root F e := by
  induction e using Nat.strongRecOn generalizing d with
  | _ e ih =>
    by_cases h : nx F e < e
    · rw [way_step h, root_step h, List.getLastD_cons]; exact ih _ h _
    · rw [way_end h, root_end h]; rfl
theorem last_snoc (pre : List Nat) (x : Nat) (d : Int) : ((pre ++ [x]).map fun y : Nat => (y : Int)).getLastD d = x := by
  simp

/-- Those of a way set to v. -/
theorem setL_len6 (F pre : List Nat) (v : Nat) : (setL F pre v).length = F.length := by
  unfold setL
  induction pre generalizing F with
  | nil => rfl
  | cons a l ih => rw [List.foldl_cons, ih]; simp
theorem nx_set {F : List Nat} {x v e : Nat} (he : e < F.length) : nx (F.set x v) e = if x = e then v else nx F e := by
  unfold nx
  rw [List.getElem?_set]
  by_cases h : x = e
  · subst h; simp [he]
  · simp [h]
theorem nx_setL {F pre : List Nat} {v e : Nat} (he : e < F.length) : nx (setL F pre v) e = if e ∈ pre then v else nx F e := by
  unfold setL
  induction pre generalizing F with
  | nil => simp
  | cons a l ih =>
    rw [List.foldl_cons, ih (by simpa using he), nx_set he]
    by_cases h : e ∈ l
    · simp [h]
    · by_cases h2 : a = e
      · subst h2; simp [h]
      · have : e ≠ a := fun x => h2 x.symm
        simp [h, h2, this]
theorem setL_snoc6 (F pre : List Nat) (x v : Nat) : setL F (pre ++ [x]) v = (setL F pre v).set x v := by simp [setL]

/-- A way cut short: all on it lead to v, which is no more than its root. -/
theorem short_down {F : List Nat} (hd : downF F) {a v : Nat} (hv : v ≤ root F a) : downF (setL F (way F a) v) := by
  intro e he
  rw [setL_len6] at he
  rw [nx_setL he]
  split
  · rename_i h
    have h1 := mem_way h
    have := root_le F e
    omega
  · exact hd e he
theorem short_root {F : List Nat} {a v : Nat} (hv : v ≤ root F a) (hvl : v < F.length) (hf : nx F v = v) (e : Nat) (he : e < F.length) :
    root (setL F (way F a) v) e = if root F e = root F a then v else root F e := by
  have hfv : nx (setL F (way F a) v) v = v := by rw [nx_setL hvl]; split <;> first | rfl | exact hf
  induction e using Nat.strongRecOn with
  | _ e ih =>
    by_cases hm : e ∈ way F a
    · have h1 := mem_way hm
      have hx : nx (setL F (way F a) v) e = v := by rw [nx_setL he, if_pos hm]
      rw [if_pos h1.2]
      by_cases h2 : v < e
      · rw [root_step (by rw [hx]; exact h2), hx]
        exact root_of_fix hfv
      · rw [root_end (by rw [hx]; exact h2)]
        have := root_le F e
        omega
    · have hx : nx (setL F (way F a) v) e = nx F e := by rw [nx_setL he, if_neg hm]
      by_cases h2 : nx F e < e
      · rw [root_step (by rw [hx]; exact h2), hx, ih _ h2 (by omega), root_step h2]
      · rw [root_end (by rw [hx]; exact h2), root_end h2]
        rw [if_neg]
        intro h3
        exact hm (by rw [h3]; exact root_mem F a)

/-- Of each element the least one of its class. -/
def rootL (F : List Nat) : List Nat := (List.range F.length).map (root F)
theorem rootL_len (F : List Nat) : (rootL F).length = F.length := by simp [rootL]
theorem nx_rootL {F : List Nat} {e : Nat} (he : e < F.length) : nx (rootL F) e = root F e := by
  unfold nx rootL
  rw [List.getElem?_map, List.getElem?_range he]
  rfl
/-- Least elements of classes. -/
structure isL (L : List Nat) : Prop where
  le : ∀ e, e < L.length → nx L e ≤ e
  fix : ∀ e, e < L.length → nx L (nx L e) = nx L e
theorem rootL_is {F : List Nat} (hd : downF F) : isL (rootL F) := by
  constructor
  · intro e he
    rw [rootL_len] at he
    rw [nx_rootL he]
    exact root_le F e
  · intro e he
    rw [rootL_len] at he
    have := root_le F e
    rw [nx_rootL he, nx_rootL (by omega)]
    exact root_root hd he
theorem list_nx {L M : List Nat} (hl : L.length = M.length) (h : ∀ e, e < L.length → nx L e = nx M e) : L = M := by
  apply List.ext_getElem hl
  intro i h1 h2
  have := h i h1
  unfold nx at this
  rw [List.getElem?_eq_getElem h1, List.getElem?_eq_getElem h2] at this
  exact this

/-- The classes of a and b made one. -/
def joinL (L : List Nat) (a b : Nat) : List Nat := L.map fun x => if x = nx L a ∨ x = nx L b then min (nx L a) (nx L b) else x
theorem joinL_len (L : List Nat) (a b : Nat) : (joinL L a b).length = L.length := by simp [joinL]
theorem nx_joinL {L : List Nat} {a b e : Nat} (he : e < L.length) : nx (joinL L a b) e = if nx L e = nx L a ∨ nx L e = nx L b then min (nx L a) (nx L b) else nx L e := by
  unfold joinL
  have : nx (L.map fun x => if x = nx L a ∨ x = nx L b then min (nx L a) (nx L b) else x) e = (fun x => if x = nx L a ∨ x = nx L b then min (nx L a) (nx L b) else x) (nx L e) := by
    unfold nx
    rw [List.getElem?_map, List.getElem?_eq_getElem he]
    rfl
  exact this
theorem joinL_is {L : List Nat} (h : isL L) {a b : Nat} (ha : a < L.length) (hb : b < L.length) : isL (joinL L a b) := by
  have la := h.le a ha
  have lb := h.le b hb
  constructor
  · intro e he
    rw [joinL_len] at he
    rw [nx_joinL he]
    have := h.le e he
    split
    · rename_i h1
      rcases h1 with h1 | h1 <;> omega
    · exact this
  · intro e he
    rw [joinL_len] at he
    have le := h.le e he
    have fe := h.fix e he
    have fa := h.fix a ha
    have fb := h.fix b hb
    rw [nx_joinL he]
    split
    · rcases Nat.le_total (nx L a) (nx L b) with h2 | h2
      · rw [Nat.min_eq_left h2, nx_joinL (by omega), fa, if_pos (.inl rfl)]; exact Nat.min_eq_left h2
      · rw [Nat.min_eq_right h2, nx_joinL (by omega), fb, if_pos (.inr rfl)]; exact Nat.min_eq_right h2
    · rename_i h1
      rw [nx_joinL (by omega), fe, if_neg h1]

/-- What Join leaves: both ways cut short. -/
def joinF (F : List Nat) (a b : Nat) : List Nat :=
  setL (setL F (way F a) (min (root F a) (root F b))) (way (setL F (way F a) (min (root F a) (root F b))) b) (min (root F a) (root F b))
theorem joinF_len (F : List Nat) (a b : Nat) : (joinF F a b).length = F.length := by simp [joinF, setL_len6]
theorem join_facts {F : List Nat} (hd : downF F) {a b : Nat} (ha : a < F.length) (hb : b < F.length) : downF (joinF F a b) ∧ rootL (joinF F a b) = joinL (rootL F) a b := by
  have la := root_le F a
  have lb := root_le F b
  have fa := root_fix hd ha
  have fb := root_fix hd hb
  unfold joinF
  generalize hm : min (root F a) (root F b) = m
  have hml : m < F.length := by omega
  have hmf : nx F m = m := by
    rcases Nat.le_total (root F a) (root F b) with h | h
    · rw [Nat.min_eq_left h] at hm; subst hm; exact fa
    · rw [Nat.min_eq_right h] at hm; subst hm; exact fb
  have hma : m ≤ root F a := by omega
  have d1 := short_down hd hma
  have r1 := short_root hma hml hmf
  have l1 := setL_len6 F (way F a) m
  generalize hF1 : setL F (way F a) m = F1 at *
  have hrb := r1 b hb
  have hmb : m ≤ root F1 b := by rw [hrb]; split <;> omega
  have hrm : root F1 m = m := by
    rw [r1 m hml, root_of_fix hmf]
    split <;> rfl
  have hmf1 : nx F1 m = m := fix_of_root d1 (by omega) hrm
  have d2 := short_down d1 hmb
  have r2 := short_root hmb (by omega) hmf1
  refine ⟨d2, ?_⟩
  have l2 := setL_len6 F1 (way F1 b) m
  apply list_nx
  · rw [rootL_len, joinL_len, rootL_len]; omega
  · intro e he
    rw [rootL_len] at he
    rw [nx_rootL he, nx_joinL (by rw [rootL_len]; omega), nx_rootL (by omega), nx_rootL ha, nx_rootL hb, r2 e (by omega), r1 e (by omega), hrb]
    repeat' split
    all_goals omega

/-- n elements, each by itself. -/
theorem range_down (n : Nat) : downF (List.range n) := by
  intro e he
  simp at he
  unfold nx
  rw [List.getElem?_range he]
  exact Nat.le_refl _
theorem nx_range {n e : Nat} (he : e < n) : nx (List.range n) e = e := by unfold nx; rw [List.getElem?_range he]; rfl
theorem rootL_range (n : Nat) : rootL (List.range n) = List.range n := by
  apply list_nx
  · simp [rootL]
  · intro e he
    rw [rootL_len] at he
    have he' : e < n := by simpa using he
    rw [nx_rootL he, nx_range he', root_of_fix (nx_range he')]

/-- How many least elements are less than m. -/
def cntR (L : List Nat) (m : Nat) : Nat := ((List.range m).filter fun j => decide (nx L j = j)).length
theorem cntR_succ (L : List Nat) (m : Nat) : cntR L (m + 1) = cntR L m + if nx L m = m then 1 else 0 := by
  unfold cntR
  rw [List.range_succ, List.filter_append, List.length_append]
  by_cases h : nx L m = m <;> simp [h]
theorem cntR_le (L : List Nat) (m : Nat) : cntR L m ≤ m := by
  have := List.length_filter_le (fun j => decide (nx L j = j)) (List.range m)
  simpa [cntR] using this
theorem cntR_mono (L : List Nat) {m k : Nat} (h : m ≤ k) : cntR L m ≤ cntR L k := by
  induction k with
  | zero => obtain rfl : m = 0 := by omega
            exact Nat.le_refl _
  | succ k ih =>
    by_cases e : m = k + 1
    · subst e; exact Nat.le_refl _
    · have := ih (by omega)
      rw [cntR_succ]
      omega
theorem cntR_lt {L : List Nat} {m k : Nat} (h : m < k) (hf : nx L m = m) : cntR L m < cntR L k := by
  have := cntR_mono L (show m + 1 ≤ k from h)
  rw [cntR_succ, if_pos hf] at this
  omega
/-- The place of e's class. -/
def plc6 (L : List Nat) (e : Nat) : Nat := cntR L (nx L e)
def placesL (L : List Nat) : List Nat := (List.range L.length).map (plc6 L)
theorem placesL_len (L : List Nat) : (placesL L).length = L.length := by simp [placesL]
theorem nx_places {L : List Nat} {e : Nat} (he : e < L.length) : nx (placesL L) e = plc6 L e := by
  unfold nx placesL
  rw [List.getElem?_map, List.getElem?_range he]
  rfl
/-- Half way: the first k places. -/
def plK (L : List Nat) (k : Nat) : List Nat := (List.range k).map (plc6 L) ++ List.replicate (L.length - k) 0
theorem plK_len {L : List Nat} {k : Nat} (h : k ≤ L.length) : (plK L k).length = L.length := by simp [plK]; omega
theorem plK_end (L : List Nat) : plK L L.length = placesL L := by simp [plK, placesL]
theorem plK_zero (L : List Nat) : plK L 0 = List.replicate L.length 0 := by simp [plK]
theorem plK_get {L : List Nat} {k e : Nat} (h : e < k) : nx (plK L k) e = plc6 L e := by
  unfold nx plK
  rw [List.getElem?_append_left (by simpa using h), List.getElem?_map, List.getElem?_range h]
  rfl
theorem plK_succ {L : List Nat} {k : Nat} (h : k < L.length) : (plK L k).set k (plc6 L k) = plK L (k + 1) := by
  unfold plK
  have e : L.length - k = (L.length - (k + 1)) + 1 := by omega
  rw [List.set_append_right _ _ (by simp), List.length_map, List.length_range, Nat.sub_self, e, List.replicate_succ, List.set_cons_zero, List.range_succ, List.map_append, List.append_assoc]
  rfl
theorem plc_root {L : List Nat} {e : Nat} (h : nx L e = e) : plc6 L e = cntR L e := by unfold plc6; rw [h]

end Go.Proofs.YtihkjgiaajgkpaaDoor
