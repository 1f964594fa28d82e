/- Plain: elements made one, class by class: labels, places, pairs of what is put together. -/
import Derived.Test.YtihkjgiaajgkpaaDoorUnid
import Derived.Test.YtihkjgiaajgkpaaDoorPusb
namespace Go.Proofs.YtihkjgiaajgkpaaDoor

/-- The least elements, one of each class. -/
def leadL (L : List Nat) : List Nat := (List.range L.length).filter fun j => decide (nx L j = j)
theorem leadL_len (L : List Nat) : (leadL L).length = cntR L L.length := rfl
/-- The labels of the classes. -/
def labG (Lb : List ByteArray) (L : List Nat) : List ByteArray := (leadL L).map fun e => Lb[e]?.getD .empty
theorem labG_len (Lb : List ByteArray) (L : List Nat) : (labG Lb L).length = cntR L L.length := by simp [labG, leadL_len]
/-- Where all go. -/
def atZ (L : List Nat) : List Int := (placesL L).map fun x : Nat => (x : Int)
theorem atZ_len (L : List Nat) : (atZ L).length = L.length := by simp [atZ, placesL_len]
theorem atZ_get {L : List Nat} {e : Nat} (h : e < L.length) : (atZ L)[e]?.getD 0 = (plc6 L e : Int) := by
  unfold atZ placesL
  rw [List.getElem?_map, List.getElem?_map, List.getElem?_range h]
  rfl
/-- Pairs as they go. -/
def mapP (a : List Int) (P : List (Int × Int)) : List (Int × Int) := P.map fun x => (a[x.1.toNat]?.getD 0, a[x.2.toNat]?.getD 0)
theorem mapP_len (a : List Int) (P : List (Int × Int)) : (mapP a P).length = P.length := by simp [mapP]
theorem mapP_get {a : List Int} {P : List (Int × Int)} {k : Nat} (h : k < P.length) : (mapP a P)[k]?.getD (0, 0) = (a[(P[k]?.getD (0, 0)).1.toNat]?.getD 0, a[(P[k]?.getD (0, 0)).2.toNat]?.getD 0) := by
  unfold mapP
  rw [List.getElem?_map, List.getElem?_eq_getElem h]
  rfl
/-- The relation of the classes, and their pairs. -/
def gluR (L : List Nat) (P : List (Int × Int)) : Nat → Nat → Bool := ofL (cntR L L.length) (mapP (atZ L) P)
def gluP (L : List Nat) (P : List (Int × Int)) : List (Int × Int) := pairsL (cntR L L.length) (clo (cntR L L.length) (gluR L P)) (cntR L L.length)
/-- The first k joins. -/
def joinsK (L : List Nat) (f g : List Int) : Nat → List Nat
  | 0 => L
  | k + 1 => joinZ (joinsK L f g k) (f[k]?.getD 0) (g[k]?.getD 0)
theorem joinsK_len (L : List Nat) (f g : List Int) (k : Nat) : (joinsK L f g k).length = L.length := by
  induction k with
  | zero => rfl
  | succ k ih => rw [joinsK, joinZ_len, ih]
/-- All joins of n elements. -/
def joinsL (n : Nat) (f g : List Int) : List Nat := joinsK (List.range n) f g f.length
theorem joinsL_len (n : Nat) (f g : List Int) : (joinsL n f g).length = n := by rw [joinsL, joinsK_len, List.length_range]

theorem plc6_lt {L : List Nat} (h : isL L) {e : Nat} (he : e < L.length) : plc6 L e < cntR L L.length :=
  cntR_lt (Nat.lt_of_le_of_lt (h.le e he) he) (h.fix e he)
theorem leads_eq {L : List Nat} (h : isL L) : leadsC (eqC L) L.length = leadL L := leads_cnt h (Nat.le_refl _)
theorem circ_len7 {L : List Nat} (h : isL L) : (circL (eqC L) L.length).length = cntR L L.length := circ_cnt h (Nat.le_refl _)
theorem cls_mem7 {L : List Nat} (h : isL L) {k : Nat} {l : List Nat} (hl : (circL (eqC L) L.length)[k]? = some l) (e : Nat) : e ∈ l ↔ e < L.length ∧ plc6 L e = k := by
  obtain ⟨x, hx, rfl⟩ := circ_get hl
  have hm := List.mem_of_getElem? hx
  rw [leads_eq h] at hm
  have hx1 : x < L.length ∧ nx L x = x := by simpa [leadL] using hm
  have hk : k = cntR L x := by
    have h1 := leads_at h (Nat.le_refl _) hx1.1 hx1.2
    obtain ⟨i2, j2⟩ := List.getElem?_eq_some_iff.1 hx
    exact (List.getElem?_inj i2 (leads_nodup _ _)).1 (hx.trans h1.symm)
  rw [mem_cls]
  constructor
  · rintro ⟨h1, h2⟩
    refine ⟨h1, ?_⟩
    have : nx L e = x := by
      rcases (oneC_iff _ _ _).1 h2 with rfl | ⟨h3, _⟩
      · exact hx1.2
      · have : nx L x = nx L e := by simpa [eqC] using h3
        rw [← this, hx1.2]
    rw [plc6, this, hk]
  · rintro ⟨h1, h2⟩
    refine ⟨h1, (oneC_iff _ _ _).2 ?_⟩
    have h3 := circ_at h (Nat.le_refl _) (Nat.lt_of_le_of_lt (h.le e h1) h1) h1
    rw [h2] at h3
    obtain ⟨y, hy, hy2⟩ := circ_get h3
    have : nx L e = x := by
      by_cases hlt : nx L e = x
      · exact hlt
      · exfalso
        have h4 := leads_at h (Nat.le_refl _) (Nat.lt_of_le_of_lt (h.le e h1) h1) (h.fix e h1)
        have h5 : cntR L (nx L e) = k := h2
        rw [h5, hx] at h4
        exact hlt (Option.some.inj h4).symm
    right
    simp [eqC, this, hx1.2]
theorem cls_head7 {L : List Nat} (h : isL L) {k : Nat} {l : List Nat} (hl : (circL (eqC L) L.length)[k]? = some l) : ∃ x r, l = x :: r ∧ (leadL L)[k]? = some x ∧ x < L.length := by
  obtain ⟨x, r, h1, h2, h3, _⟩ := circ_head hl
  rw [leads_eq h] at h2
  exact ⟨x, r, h1, h2, h3⟩
theorem labG_take {Lb : List ByteArray} {L : List Nat} {k x : Nat} (h : (leadL L)[k]? = some x) : (labG Lb L).take (k + 1) = (labG Lb L).take k ++ [Lb[x]?.getD .empty] := by
  rw [List.take_add_one, labG, List.getElem?_map, h]
  rfl

/-- Where they go, the first k classes done, and those of pre of the next one. -/
def whP (L : List Nat) (k : Nat) (pre : List Nat) : List Int := (List.range L.length).map fun e => if plc6 L e < k then (plc6 L e : Int) else if e ∈ pre then (k : Int) else 0
theorem whP_len (L : List Nat) (k : Nat) (pre : List Nat) : (whP L k pre).length = L.length := by simp [whP]
theorem whP_zero (L : List Nat) : whP L 0 [] = List.replicate L.length 0 := by
  apply List.ext_getElem
  · simp [whP]
  · intro i h1 h2
    simp [whP]
theorem whP_snoc {L : List Nat} {k e : Nat} {pre : List Nat} (h : plc6 L e = k) : (whP L k pre).set e (k : Int) = whP L k (pre ++ [e]) := by
  apply List.ext_getElem
  · simp [whP]
  · intro i h1 h2
    rw [List.getElem_set]
    by_cases hi : e = i
    · subst hi
      simp [whP, h]
    · have : i ≠ e := fun x => hi x.symm
      simp [whP, hi, this]
theorem whP_next {L : List Nat} {k : Nat} {l : List Nat} (h : ∀ e, e ∈ l ↔ e < L.length ∧ plc6 L e = k) : whP L k l = whP L (k + 1) [] := by
  apply List.ext_getElem
  · simp [whP]
  · intro i h1 h2
    have hi : i < L.length := by simpa [whP] using h1
    simp only [whP, List.getElem_map, List.getElem_range]
    have := h i
    by_cases a : plc6 L i < k
    · rw [if_pos a, if_pos (by omega)]
    · by_cases b : plc6 L i = k
      · rw [if_neg a, if_pos (this.2 ⟨hi, b⟩), if_pos (by omega), b]
      · rw [if_neg a, if_neg (fun x => b (this.1 x).2), if_neg (by omega)]
        simp
theorem whP_end {L : List Nat} (h : isL L) : whP L (cntR L L.length) [] = atZ L := by
  apply List.ext_getElem
  · simp [whP, atZ_len]
  · intro i h1 h2
    have hi : i < L.length := by simpa [whP] using h1
    have := plc6_lt h hi
    simp [whP, atZ, placesL, this]

theorem range_is (n : Nat) : isL (List.range n) := by have := rootL_is (range_down n); rwa [rootL_range] at this
theorem joinZ_is {L : List Nat} (h : isL L) (x y : Int) : isL (joinZ L x y) := by
  unfold joinZ
  split
  · rename_i hh
    rw [Bool.and_eq_true, hasZ_iff, hasZ_iff] at hh
    exact joinL_is h (by omega) (by omega)
  · exact h
theorem joinsK_is {L : List Nat} (h : isL L) (f g : List Int) (k : Nat) : isL (joinsK L f g k) := by
  induction k with
  | zero => exact h
  | succ k ih => exact joinZ_is ih _ _
theorem joinsL_is (n : Nat) (f g : List Int) : isL (joinsL n f g) := joinsK_is (range_is n) f g _

end Go.Proofs.YtihkjgiaajgkpaaDoor
