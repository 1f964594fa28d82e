/- Plain: many put together at once: what comes of a diagram, the legs, the one way out of it. -/
import Derived.Test.YtemnbkenihldgaaDoorConP
namespace Go.Proofs.YtemnbkenihldgaaDoor

/-- A node: labels and pairs. -/
abbrev Nd := List ByteArray × List (Int × Int)
/-- An arrow: from, to, map. -/
abbrev Ar := Int × Int × List Int
def ndA (Ns : List Nd) (k : Nat) : Nd := Ns[k]?.getD ([], [])
def arA (As : List Ar) (a : Nat) : Ar := As[a]?.getD (0, 0, [])
def lgA (Hs : List (List Int)) (k : Nat) : List Int := Hs[k]?.getD []
/-- Where the k-th node's elements begin. -/
def stK (Ns : List Nd) : Nat → Nat
  | 0 => 0
  | k + 1 => stK Ns k + (ndA Ns k).1.length
/-- The labels of the first k nodes. -/
def labsK (Ns : List Nd) : Nat → List ByteArray
  | 0 => []
  | k + 1 => labsK Ns k ++ (ndA Ns k).1
/-- The pairs of the first k nodes. -/
def prsK (Ns : List Nd) : Nat → List (Int × Int)
  | 0 => []
  | k + 1 => prsK Ns k ++ shP (stK Ns k) (ndA Ns k).2
/-- The first k legs, one behind the other. -/
def flK (Hs : List (List Int)) : Nat → List Int
  | 0 => []
  | k + 1 => flK Hs k ++ lgA Hs k
def lenK (As : List Ar) : Nat → Nat
  | 0 => 0
  | a + 1 => lenK As a + (arA As a).2.2.length
/-- What the first m arrows lead from .. -/
def jF (Ns : List Nd) (As : List Ar) : Nat → List Int
  | 0 => []
  | a + 1 => jF Ns As a ++ shL (stK Ns (arA As a).1.toNat) (idL (arA As a).2.2.length)
/-- .. and to. -/
def jG (Ns : List Nd) (As : List Ar) : Nat → List Int
  | 0 => []
  | a + 1 => jG Ns As a ++ shL (stK Ns (arA As a).2.1.toNat) (arA As a).2.2
/-- Who is one with whom. -/
def joinsD (Ns : List Nd) (As : List Ar) : List Nat := joinsL (stK Ns Ns.length) (jF Ns As As.length) (jG Ns As As.length)
def legD (Ns : List Nd) (J : List Nat) (k : Nat) : List Int := ((atZ J).drop (stK Ns k)).take (ndA Ns k).1.length

theorem idL_len' (n : Nat) : (idL n).length = n := by simp [idL]
theorem labsK_len (Ns : List Nd) (k : Nat) : (labsK Ns k).length = stK Ns k := by
  induction k with
  | zero => rfl
  | succ k ih => rw [labsK, List.length_append, ih, stK]
theorem stK_mono (Ns : List Nd) {k m : Nat} (h : k ≤ m) : stK Ns k ≤ stK Ns m := by
  induction m with
  | zero => rw [Nat.le_zero.1 h]; exact Nat.le_refl _
  | succ m ih =>
    rcases Nat.lt_or_ge k (m + 1) with q | q
    · exact Nat.le_trans (ih (by omega)) (Nat.le_add_right _ _)
    · rw [show k = m + 1 by omega]; exact Nat.le_refl _
theorem stK_fit (Ns : List Nd) {k m : Nat} (h : k < m) : stK Ns k + (ndA Ns k).1.length ≤ stK Ns m := stK_mono Ns (show k + 1 ≤ m from h)
theorem lenK_mono (As : List Ar) {k m : Nat} (h : k ≤ m) : lenK As k ≤ lenK As m := by
  induction m with
  | zero => rw [Nat.le_zero.1 h]; exact Nat.le_refl _
  | succ m ih =>
    rcases Nat.lt_or_ge k (m + 1) with q | q
    · exact Nat.le_trans (ih (by omega)) (Nat.le_add_right _ _)
    · rw [show k = m + 1 by omega]; exact Nat.le_refl _
theorem lenK_fit (As : List Ar) {k m : Nat} (h : k < m) : lenK As k + (arA As k).2.2.length ≤ lenK As m := lenK_mono As (show k + 1 ≤ m from h)
theorem jF_len (Ns : List Nd) (As : List Ar) (m : Nat) : (jF Ns As m).length = lenK As m := by
  induction m with
  | zero => rfl
  | succ m ih => rw [jF, List.length_append, ih, shL_len, idL_len', lenK]
theorem jG_len (Ns : List Nd) (As : List Ar) (m : Nat) : (jG Ns As m).length = lenK As m := by
  induction m with
  | zero => rfl
  | succ m ih => rw [jG, List.length_append, ih, shL_len, lenK]
theorem shL_at {n k : Nat} {f : List Int} (h : k < f.length) : (shL n f)[k]?.getD 0 = (n : Int) + f[k]?.getD 0 := by
  unfold shL
  rw [List.getElem?_map, List.getElem?_eq_getElem h]
  rfl
theorem jF_get (Ns : List Nd) (As : List Ar) {a m x : Nat} (h : a < m) (hx : x < (arA As a).2.2.length) : (jF Ns As m)[lenK As a + x]?.getD 0 = (stK Ns (arA As a).1.toNat : Int) + x := by
  induction m with
  | zero => omega
  | succ m ih =>
    rw [jF]
    rcases Nat.lt_or_ge a m with q | q
    · have := lenK_fit As q
      rw [List.getElem?_append_left (by rw [jF_len]; omega)]
      exact ih q
    · obtain rfl : a = m := by omega
      rw [List.getElem?_append_right (by rw [jF_len]; omega), jF_len, show lenK As a + x - lenK As a = x by omega, shL_at (by rw [idL_len']; exact hx), idL_get hx]
theorem jG_get (Ns : List Nd) (As : List Ar) {a m x : Nat} (h : a < m) (hx : x < (arA As a).2.2.length) : (jG Ns As m)[lenK As a + x]?.getD 0 = (stK Ns (arA As a).2.1.toNat : Int) + (arA As a).2.2[x]?.getD 0 := by
  induction m with
  | zero => omega
  | succ m ih =>
    rw [jG]
    rcases Nat.lt_or_ge a m with q | q
    · have := lenK_fit As q
      rw [List.getElem?_append_left (by rw [jG_len]; omega)]
      exact ih q
    · obtain rfl : a = m := by omega
      rw [List.getElem?_append_right (by rw [jG_len]; omega), jG_len, show lenK As a + x - lenK As a = x by omega, shL_at hx]
theorem len_split (As : List Ar) {m j : Nat} (h : j < lenK As m) : ∃ a x, a < m ∧ x < (arA As a).2.2.length ∧ j = lenK As a + x := by
  induction m with
  | zero => exact absurd h (by simp [lenK])
  | succ m ih =>
    rcases Nat.lt_or_ge j (lenK As m) with q | q
    · obtain ⟨a, x, h1, h2, h3⟩ := ih q
      exact ⟨a, x, by omega, h2, h3⟩
    · rw [lenK] at h
      exact ⟨m, j - lenK As m, by omega, by omega, by omega⟩
theorem st_split (Ns : List Nd) {m e : Nat} (h : e < stK Ns m) : ∃ k x, k < m ∧ x < (ndA Ns k).1.length ∧ e = stK Ns k + x := by
  induction m with
  | zero => exact absurd h (by simp [stK])
  | succ m ih =>
    rcases Nat.lt_or_ge e (stK Ns m) with q | q
    · obtain ⟨a, x, h1, h2, h3⟩ := ih q
      exact ⟨a, x, by omega, h2, h3⟩
    · rw [stK] at h
      exact ⟨m, e - stK Ns m, by omega, by omega, by omega⟩
theorem labs_at (Ns : List Nd) {k m x : Nat} (h : k < m) (hx : x < (ndA Ns k).1.length) : (labsK Ns m)[stK Ns k + x]?.getD .empty = (ndA Ns k).1[x]?.getD .empty := by
  induction m with
  | zero => omega
  | succ m ih =>
    rw [labsK]
    rcases Nat.lt_or_ge k m with q | q
    · have := stK_fit Ns q
      rw [List.getElem?_append_left (by rw [labsK_len]; omega)]
      exact ih q
    · obtain rfl : k = m := by omega
      rw [List.getElem?_append_right (by rw [labsK_len]; omega), labsK_len, show stK Ns k + x - stK Ns k = x by omega]
theorem fl_len (Ns : List Nd) (Hs : List (List Int)) (m : Nat) (h : ∀ k, k < m → (lgA Hs k).length = (ndA Ns k).1.length) : (flK Hs m).length = stK Ns m := by
  induction m with
  | zero => rfl
  | succ m ih => rw [flK, List.length_append, ih (fun k hk => h k (by omega)), h m (by omega), stK]
theorem fl_at (Ns : List Nd) (Hs : List (List Int)) {k m x : Nat} (hl : ∀ k, k < m → (lgA Hs k).length = (ndA Ns k).1.length) (h : k < m) (hx : x < (ndA Ns k).1.length) : (flK Hs m)[stK Ns k + x]?.getD 0 = (lgA Hs k)[x]?.getD 0 := by
  induction m with
  | zero => omega
  | succ m ih =>
    have hf := fl_len Ns Hs m (fun k hk => hl k (by omega))
    rw [flK]
    rcases Nat.lt_or_ge k m with q | q
    · have := stK_fit Ns q
      rw [List.getElem?_append_left (by rw [hf]; omega)]
      exact ih (fun k hk => hl k (by omega)) q
    · obtain rfl : k = m := by omega
      rw [List.getElem?_append_right (by rw [hf]; omega), hf, show stK Ns k + x - stK Ns k = x by omega]
theorem prs_mem (Ns : List Nd) {m : Nat} {z : Int × Int} : z ∈ prsK Ns m ↔ ∃ k, k < m ∧ ∃ x ∈ (ndA Ns k).2, z = ((stK Ns k : Int) + x.1, (stK Ns k : Int) + x.2) := by
  induction m with
  | zero => simp [prsK]
  | succ m ih =>
    rw [prsK, List.mem_append, ih]
    unfold shP
    rw [List.mem_map]
    constructor
    · rintro (⟨k, hk, x, hx, rfl⟩ | ⟨x, hx, rfl⟩)
      · exact ⟨k, by omega, x, hx, rfl⟩
      · exact ⟨m, by omega, x, hx, rfl⟩
    · rintro ⟨k, hk, x, hx, rfl⟩
      rcases Nat.lt_or_ge k m with q | q
      · exact .inl ⟨k, q, x, hx, rfl⟩
      · obtain rfl : k = m := by omega
        exact .inr ⟨x, hx, rfl⟩

/-- Whether nodes and arrows are a diagram. -/
def arrOK (Ns : List Nd) (a : Ar) : Bool := hasZ Ns.length a.1 && (hasZ Ns.length a.2.1 && arB (ndA Ns a.1.toNat).1 (ndA Ns a.1.toNat).2 (ndA Ns a.2.1.toNat).1 (ndA Ns a.2.1.toNat).2 a.2.2)
def nodOK (x : Nd) : Bool := decide (chk x.1 x.2 = 0)
def manyB (Ns : List Nd) (As : List Ar) : Bool := decide (6 < Ns.length) || decide (8 < As.length)
def diagB (Ns : List Nd) (As : List Ar) : Bool := !manyB Ns As && (Ns.all nodOK && As.all (arrOK Ns))
theorem nd_mem {Ns : List Nd} {k : Nat} (h : k < Ns.length) : ndA Ns k ∈ Ns := by
  unfold ndA
  rw [List.getElem?_eq_getElem h]
  exact List.getElem_mem h
theorem ar_mem {As : List Ar} {k : Nat} (h : k < As.length) : arA As k ∈ As := by
  unfold arA
  rw [List.getElem?_eq_getElem h]
  exact List.getElem_mem h
structure DiagA (Ns : List Nd) (As : List Ar) : Prop where
  n6 : Ns.length ≤ 6
  a8 : As.length ≤ 8
  nod : ∀ k, k < Ns.length → chk (ndA Ns k).1 (ndA Ns k).2 = 0
  arr : ∀ a, a < As.length → (0 ≤ (arA As a).1 ∧ (arA As a).1 < Ns.length) ∧ (0 ≤ (arA As a).2.1 ∧ (arA As a).2.1 < Ns.length) ∧ arB (ndA Ns (arA As a).1.toNat).1 (ndA Ns (arA As a).1.toNat).2 (ndA Ns (arA As a).2.1.toNat).1 (ndA Ns (arA As a).2.1.toNat).2 (arA As a).2.2 = true
theorem diag_parts {Ns : List Nd} {As : List Ar} (h : diagB Ns As = true) : DiagA Ns As := by
  unfold diagB manyB at h
  simp only [Bool.and_eq_true, Bool.not_eq_true', Bool.or_eq_false_iff, decide_eq_false_iff_not, List.all_eq_true] at h
  obtain ⟨⟨h1, h2⟩, h3, h4⟩ := h
  refine ⟨by omega, by omega, fun k hk => of_decide_eq_true (h3 _ (nd_mem hk)), fun a ha => ?_⟩
  have := h4 _ (ar_mem ha)
  unfold arrOK at this
  simp only [Bool.and_eq_true, hasZ_iff] at this
  exact ⟨this.1, this.2.1, this.2.2⟩
theorem diag_mk {Ns : List Nd} {As : List Ar} (h : DiagA Ns As) : diagB Ns As = true := by
  unfold diagB manyB
  have h1 := h.n6
  have h2 := h.a8
  simp only [Bool.and_eq_true, Bool.not_eq_true', Bool.or_eq_false_iff, decide_eq_false_iff_not, List.all_eq_true]
  refine ⟨⟨by omega, by omega⟩, fun x hx => ?_, fun x hx => ?_⟩
  · obtain ⟨k, hk, rfl⟩ := List.getElem_of_mem hx
    have := h.nod k hk
    unfold ndA at this
    rw [List.getElem?_eq_getElem hk] at this
    exact decide_eq_true this
  · obtain ⟨k, hk, rfl⟩ := List.getElem_of_mem hx
    have := h.arr k hk
    unfold arA at this
    rw [List.getElem?_eq_getElem hk] at this
    unfold arrOK
    simp only [Bool.and_eq_true, hasZ_iff]
    exact ⟨this.1, this.2.1, this.2.2⟩
theorem beside_chk (Ns : List Nd) {m : Nat} (h : ∀ k, k < m → chk (ndA Ns k).1 (ndA Ns k).2 = 0) (hs : stK Ns m ≤ 40) : chk (labsK Ns m) (prsK Ns m) = 0 := by
  induction m with
  | zero => exact chk_none
  | succ m ih =>
    rw [stK] at hs
    have h1 := ih (fun k hk => h k (by omega)) (by omega)
    have h2 := chk_beside h1 (h m (by omega)) (by rw [labsK_len]; exact hs)
    rw [labsK_len] at h2
    exact h2

theorem j_in {Ns : List Nd} {As : List Ar} (h : DiagA Ns As) (j : Nat) (hj : j < lenK As As.length) : ∃ a x, a < As.length ∧ x < (arA As a).2.2.length ∧
    (jF Ns As As.length)[j]?.getD 0 = (stK Ns (arA As a).1.toNat : Int) + x ∧ (jG Ns As As.length)[j]?.getD 0 = (stK Ns (arA As a).2.1.toNat : Int) + (arA As a).2.2[x]?.getD 0 ∧
    (arA As a).1.toNat < Ns.length ∧ (arA As a).2.1.toNat < Ns.length ∧ (arA As a).2.2.length = (ndA Ns (arA As a).1.toNat).1.length ∧ 0 ≤ (arA As a).2.2[x]?.getD 0 ∧ (arA As a).2.2[x]?.getD 0 < (ndA Ns (arA As a).2.1.toNat).1.length ∧
    (ndA Ns (arA As a).1.toNat).1[x]?.getD .empty = (ndA Ns (arA As a).2.1.toNat).1[((arA As a).2.2[x]?.getD 0).toNat]?.getD .empty := by
  obtain ⟨a, x, h1, h2, rfl⟩ := len_split As hj
  obtain ⟨⟨b1, b2⟩, ⟨b3, b4⟩, b5⟩ := h.arr a h1
  obtain ⟨_, _, fl, lf, _⟩ := arB_parts b5
  have h3 := lab1_of lf h2
  have h4 := hasZ_iff.1 h3.1
  exact ⟨a, x, h1, h2, jF_get Ns As h1 h2, jG_get Ns As h1 h2, by omega, by omega, fl, h4.1, h4.2, h3.2⟩
theorem jF_in {Ns : List Nd} {As : List Ar} (h : DiagA Ns As) : ∀ j, j < (jF Ns As As.length).length → 0 ≤ (jF Ns As As.length)[j]?.getD 0 ∧ (jF Ns As As.length)[j]?.getD 0 < (stK Ns Ns.length : Nat) := fun j hj => by
  obtain ⟨a, x, h1, h2, h3, _, h5, _, h7, _⟩ := j_in h j (by rwa [jF_len] at hj)
  have := stK_fit Ns h5
  omega
theorem jG_in {Ns : List Nd} {As : List Ar} (h : DiagA Ns As) : ∀ j, j < (jF Ns As As.length).length → 0 ≤ (jG Ns As As.length)[j]?.getD 0 ∧ (jG Ns As As.length)[j]?.getD 0 < (stK Ns Ns.length : Nat) := fun j hj => by
  obtain ⟨a, x, h1, h2, _, h4, _, h6, h7, h8, h9, _⟩ := j_in h j (by rwa [jF_len] at hj)
  have := stK_fit Ns h6
  omega
theorem leg_len (Ns : List Nd) {J : List Nat} (hJ : J.length = stK Ns Ns.length) {k : Nat} (hk : k < Ns.length) : (legD Ns J k).length = (ndA Ns k).1.length := by
  have := stK_fit Ns hk
  unfold legD
  rw [List.length_take, List.length_drop, atZ_len, hJ]
  omega
theorem leg_at (Ns : List Nd) {J : List Nat} (hJ : J.length = stK Ns Ns.length) {k x : Nat} (hk : k < Ns.length) (hx : x < (ndA Ns k).1.length) : (legD Ns J k)[x]?.getD 0 = (plc6 J (stK Ns k + x) : Int) := by
  have := stK_fit Ns hk
  unfold legD
  rw [at_take hx, at_drop, atZ_get (by omega)]

/-- Whether legs are led out of a diagram. -/
def legsB (Ns : List Nd) (As : List Ar) (D : List ByteArray) (Q : List (Int × Int)) (Hs : List (List Int)) : Bool :=
  diagB Ns As && (decide (chk D Q = 0) && (decide (Hs.length = Ns.length) && ((List.range Ns.length).all (fun k => arB (ndA Ns k).1 (ndA Ns k).2 D Q (lgA Hs k)) && (List.range As.length).all fun a => decide (thenL (arA As a).2.2 (lgA Hs (arA As a).2.1.toNat) = lgA Hs (arA As a).1.toNat))))
structure LegsA (Ns : List Nd) (As : List Ar) (D : List ByteArray) (Q : List (Int × Int)) (Hs : List (List Int)) : Prop where
  dia : DiagA Ns As
  obj : chk D Q = 0
  len : Hs.length = Ns.length
  arr : ∀ k, k < Ns.length → arB (ndA Ns k).1 (ndA Ns k).2 D Q (lgA Hs k) = true
  one : ∀ a, a < As.length → thenL (arA As a).2.2 (lgA Hs (arA As a).2.1.toNat) = lgA Hs (arA As a).1.toNat
theorem legs_parts {Ns : List Nd} {As : List Ar} {D : List ByteArray} {Q : List (Int × Int)} {Hs : List (List Int)} (h : legsB Ns As D Q Hs = true) : LegsA Ns As D Q Hs := by
  unfold legsB at h
  simp only [Bool.and_eq_true, List.all_eq_true, decide_eq_true_eq, List.mem_range] at h
  exact ⟨diag_parts h.1, h.2.1, h.2.2.1, h.2.2.2.1, h.2.2.2.2⟩
theorem legs_mk {Ns : List Nd} {As : List Ar} {D : List ByteArray} {Q : List (Int × Int)} {Hs : List (List Int)} (h : LegsA Ns As D Q Hs) : legsB Ns As D Q Hs = true := by
  unfold legsB
  simp only [Bool.and_eq_true, List.all_eq_true, decide_eq_true_eq, List.mem_range]
  exact ⟨diag_mk h.dia, h.obj, h.len, h.arr, h.one⟩

/-- The way out of what is put together: of each class where its least element is led. -/
def outD (Ns : List Nd) (As : List Ar) (Hs : List (List Int)) : List Int := outG (joinsD Ns As) (flK Hs Ns.length)
theorem joinsD_len (Ns : List Nd) (As : List Ar) : (joinsD Ns As).length = stK Ns Ns.length := joinsL_len _ _ _
theorem joinsD_is (Ns : List Nd) (As : List Ar) : isL (joinsD Ns As) := joinsL_is _ _ _
/-- All labels of a class are one. -/
theorem joinsD_lab {α : Type} {Ns : List Nd} {As : List Ar} (h : DiagA Ns As) {p : Nat → α}
    (hp : ∀ a x, a < As.length → x < (arA As a).2.2.length → p (stK Ns (arA As a).1.toNat + x) = p (stK Ns (arA As a).2.1.toNat + ((arA As a).2.2[x]?.getD 0).toNat)) (e : Nat) (he : e < stK Ns Ns.length) : p (nx (joinsD Ns As) e) = p e := by
  refine joinsK_lab (jF_in h) (jG_in h) (fun j hj => ?_) e he
  obtain ⟨a, x, h1, h2, h3, h4, _, _, _, h8, _⟩ := j_in h j (by rwa [jF_len] at hj)
  rw [h3, h4]
  have := hp a x h1 h2
  rwa [show ((stK Ns (arA As a).1.toNat : Int) + x).toNat = stK Ns (arA As a).1.toNat + x by omega, show ((stK Ns (arA As a).2.1.toNat : Int) + (arA As a).2.2[x]?.getD 0).toNat = stK Ns (arA As a).2.1.toNat + ((arA As a).2.2[x]?.getD 0).toNat by omega]
theorem joinsD_one {Ns : List Nd} {As : List Ar} (h : DiagA Ns As) {a x : Nat} (ha : a < As.length) (hx : x < (arA As a).2.2.length) :
    nx (joinsD Ns As) (stK Ns (arA As a).1.toNat + x) = nx (joinsD Ns As) (stK Ns (arA As a).2.1.toNat + ((arA As a).2.2[x]?.getD 0).toNat) := by
  have hl := lenK_fit As ha
  have h1 := joinsK_one (N := stK Ns Ns.length) (f := jF Ns As As.length) (g := jG Ns As As.length) (jF_in h) (jG_in h) (j := lenK As a + x) (by rw [jF_len]; omega)
  rw [jF_get Ns As ha hx, jG_get Ns As ha hx] at h1
  have h8 := (hasZ_iff.1 (lab1_of (arB_parts (h.arr a ha).2.2).2.2.2.1 hx).1).1
  rwa [show ((stK Ns (arA As a).1.toNat : Int) + x).toNat = stK Ns (arA As a).1.toNat + x by omega, show ((stK Ns (arA As a).2.1.toNat : Int) + (arA As a).2.2[x]?.getD 0).toNat = stK Ns (arA As a).2.1.toNat + ((arA As a).2.2[x]?.getD 0).toNat by omega] at h1

/-- What is true of what is put together. -/
structure ColA (Ns : List Nd) (As : List Ar) (A : List ByteArray) (B : List (Int × Int)) (Ls : List (List Int)) : Prop where
  legs : LegsA Ns As A B Ls
  few : stK Ns Ns.length ≤ 40
  small : A.length ≤ 40
  pairs : B.length ≤ 1600
  reach : ∀ e, e < A.length → ∃ k, k < Ns.length ∧ ∃ x, x < (lgA Ls k).length ∧ (lgA Ls k)[x]?.getD 0 = (e : Int)
  way : ∀ (D : List ByteArray) (Q : List (Int × Int)) (Hs : List (List Int)), LegsA Ns As D Q Hs → arB A B D Q (outD Ns As Hs) = true ∧ ∀ k, k < Ns.length → thenL (lgA Ls k) (outD Ns As Hs) = lgA Hs k

theorem lgA_map {n k : Nat} (f : Nat → List Int) (h : k < n) : lgA ((List.range n).map f) k = f k := by
  unfold lgA
  rw [List.getElem?_map, List.getElem?_range h]
  rfl
theorem colim {Ns : List Nd} {As : List Ar} (h : DiagA Ns As) (hs : stK Ns Ns.length ≤ 40) :
    ColA Ns As (labG (labsK Ns Ns.length) (joinsD Ns As)) (gluP (joinsD Ns As) (prsK Ns Ns.length)) ((List.range Ns.length).map (legD Ns (joinsD Ns As))) := by
  have hJ := joinsD_is Ns As
  have hJl := joinsD_len Ns As
  have hone := fun {a x : Nat} (ha : a < As.length) (hx : x < (arA As a).2.2.length) => joinsD_one h ha hx
  have hlab0 := fun {α : Type} {p : Nat → α} hp => joinsD_lab (α := α) (p := p) h hp
  have hc := beside_chk Ns h.nod hs
  have hll := labsK_len Ns Ns.length
  have hle := (chk_in hc).1
  have hin := (chk_in hc).2.2.1
  rw [hll] at hin
  have hlk : ∀ e, e < stK Ns Ns.length → (labsK Ns Ns.length)[nx (joinsD Ns As) e]?.getD .empty = (labsK Ns Ns.length)[e]?.getD .empty := by
    refine joinsD_lab (p := fun e => (labsK Ns Ns.length)[e]?.getD ByteArray.empty) h (fun a x ha hx => ?_)
    obtain ⟨⟨b1, b2⟩, ⟨b3, b4⟩, b5⟩ := h.arr a ha
    obtain ⟨_, _, fl, lf, _⟩ := arB_parts b5
    have h3 := lab1_of lf hx
    have h4 := hasZ_iff.1 h3.1
    show (labsK Ns Ns.length)[_]?.getD ByteArray.empty = (labsK Ns Ns.length)[_]?.getD ByteArray.empty
    rw [labs_at Ns (by omega) (by omega), labs_at Ns (by omega) (by omega)]
    exact h3.2
  have hcl := cntR_le (joinsD Ns As) (joinsD Ns As).length
  refine ⟨⟨h, glu_obj _ (by omega) hle, by simp, fun k hk => ?_, fun a ha => ?_⟩, hs, by rw [labG_len]; omega, ?_, fun e he => ?_, fun D Q Hs hH => ⟨?_, fun k hk => ?_⟩⟩
  · rw [lgA_map _ hk]
    have hfit := stK_fit Ns hk
    refine glu_into (s := stK Ns k) hJ (by omega) hle (h.nod k hk) (by omega) (fun e he => labs_at Ns hk he) (fun x hx => (prs_mem Ns).2 ⟨k, hk, x, hx, rfl⟩) (fun e he => hlk e (by omega)) (leg_len Ns hJl hk) (fun e he => leg_at Ns hJl hk he)
  · obtain ⟨⟨b1, b2⟩, ⟨b3, b4⟩, b5⟩ := h.arr a ha
    obtain ⟨_, _, fl, lf, _⟩ := arB_parts b5
    rw [lgA_map _ (by omega), lgA_map _ (by omega)]
    refine ext0 (by rw [thenL_len, leg_len Ns hJl (by omega)]; exact fl) (fun x hx => ?_)
    rw [thenL_len] at hx
    have h4 := hasZ_iff.1 (lab1_of lf hx).1
    rw [thenL_get hx, leg_at Ns hJl (by omega) (by omega), leg_at Ns hJl (by omega) (by omega)]
    unfold plc6
    rw [hone ha hx]
  · have h2 : cntR (joinsD Ns As) (joinsD Ns As).length * cntR (joinsD Ns As) (joinsD Ns As).length ≤ 40 * 40 := Nat.mul_le_mul (by omega) (by omega)
    unfold gluP
    exact Nat.le_trans (pairsL_len _ _ _) h2
  · rw [labG_len] at he
    obtain ⟨z, hz, rfl⟩ := glu_all hJ he
    obtain ⟨k, x, h1, h2, rfl⟩ := st_split Ns (show z < stK Ns Ns.length by omega)
    refine ⟨k, h1, x, ?_, ?_⟩
    · rw [lgA_map _ h1, leg_len Ns hJl h1]; exact h2
    · rw [lgA_map _ h1, leg_at Ns hJl h1 h2]
  · have hml : ∀ k, k < Ns.length → (lgA Hs k).length = (ndA Ns k).1.length := fun k hk => (arB_parts (hH.arr k hk)).2.2.1
    have hfl := fl_len Ns Hs Ns.length hml
    have hfa := fun {k x : Nat} (hk : k < Ns.length) (hx : x < (ndA Ns k).1.length) => fl_at Ns Hs hml hk hx
    have hkeep : ∀ e, e < stK Ns Ns.length → (flK Hs Ns.length)[nx (joinsD Ns As) e]?.getD 0 = (flK Hs Ns.length)[e]?.getD 0 := by
      refine joinsD_lab (p := fun e => (flK Hs Ns.length)[e]?.getD (0 : Int)) h (fun a x ha hx => ?_)
      obtain ⟨⟨b1, b2⟩, ⟨b3, b4⟩, b5⟩ := h.arr a ha
      obtain ⟨_, _, fl, lf, _⟩ := arB_parts b5
      have h4 := hasZ_iff.1 (lab1_of lf hx).1
      show (flK Hs Ns.length)[_]?.getD (0 : Int) = (flK Hs Ns.length)[_]?.getD 0
      rw [hfa (by omega) (by omega), hfa (by omega) (by omega), ← hH.one a ha, thenL_get hx]
    refine glu_out (v := flK Hs Ns.length) hJ (by omega) hle hH.obj (by rw [hll]; exact hin) (fun e he => ?_) (fun z hz => ?_) (outG_len _ _) (fun e he => by unfold outD; rw [outG_at hJ he, hkeep e (by omega)])
    · obtain ⟨k, x, h1, h2, rfl⟩ := st_split Ns (show e < stK Ns Ns.length by omega)
      obtain ⟨_, _, gl, lg, _⟩ := arB_parts (hH.arr k h1)
      rw [hfa h1 h2, labs_at Ns h1 h2]
      exact lab1_of lg (by omega)
    · obtain ⟨k, hk, x, hx, rfl⟩ := (prs_mem Ns).1 hz
      have hx2 := in_of (chk_in (h.nod k hk)).2.2.1 hx
      simp only
      rw [show ((stK Ns k : Int) + x.1).toNat = stK Ns k + x.1.toNat by omega, show ((stK Ns k : Int) + x.2).toNat = stK Ns k + x.2.toNat by omega, hfa hk (by omega), hfa hk (by omega)]
      exact arB_pairs (hH.arr k hk) x hx
  · have hml : ∀ k, k < Ns.length → (lgA Hs k).length = (ndA Ns k).1.length := fun k hk => (arB_parts (hH.arr k hk)).2.2.1
    have hfa := fun {k x : Nat} (hk : k < Ns.length) (hx : x < (ndA Ns k).1.length) => fl_at Ns Hs hml hk hx
    have hkeep : ∀ e, e < stK Ns Ns.length → (flK Hs Ns.length)[nx (joinsD Ns As) e]?.getD 0 = (flK Hs Ns.length)[e]?.getD 0 := by
      refine joinsD_lab (p := fun e => (flK Hs Ns.length)[e]?.getD (0 : Int)) h (fun a x ha hx => ?_)
      obtain ⟨⟨b1, b2⟩, ⟨b3, b4⟩, b5⟩ := h.arr a ha
      obtain ⟨_, _, fl, lf, _⟩ := arB_parts b5
      have h4 := hasZ_iff.1 (lab1_of lf hx).1
      show (flK Hs Ns.length)[_]?.getD (0 : Int) = (flK Hs Ns.length)[_]?.getD 0
      rw [hfa (by omega) (by omega), hfa (by omega) (by omega), ← hH.one a ha, thenL_get hx]
    have hfit := stK_fit Ns hk
    rw [lgA_map _ hk]
    refine ext0 (by rw [thenL_len, leg_len Ns hJl hk, hml k hk]) (fun x hx => ?_)
    rw [thenL_len, leg_len Ns hJl hk] at hx
    unfold outD
    rw [thenL_get (by rw [leg_len Ns hJl hk]; exact hx), leg_at Ns hJl hk hx, Int.toNat_natCast, outG_at hJ (by omega), hkeep _ (by omega), hfa hk hx]

/-- What Of tells. -/
def colR (Ns : List Nd) (As : List Ar) : Int := if manyB Ns As = true then 11 else if 40 < stK Ns Ns.length then 11 else if diagB Ns As = true then 0 else 10
structure ColV (Ns : List Nd) (As : List Ar) (A : List ByteArray) (B : List (Int × Int)) (Ls : List (List Int)) (r : Int) : Prop where
  r : r = colR Ns As
  a : A = if colR Ns As = 0 then labG (labsK Ns Ns.length) (joinsD Ns As) else []
  b : B = if colR Ns As = 0 then gluP (joinsD Ns As) (prsK Ns Ns.length) else []
  l : Ls = if colR Ns As = 0 then (List.range Ns.length).map (legD Ns (joinsD Ns As)) else []
theorem colV_ex (Ns : List Nd) (As : List Ar) : ∃ A B Ls r, ColV Ns As A B Ls r := ⟨_, _, _, _, rfl, rfl, rfl, rfl⟩
theorem colR_three (Ns : List Nd) (As : List Ar) : colR Ns As = 0 ∨ colR Ns As = 10 ∨ colR Ns As = 11 := by
  unfold colR
  split
  · exact .inr (.inr rfl)
  · split
    · exact .inr (.inr rfl)
    · split
      · exact .inl rfl
      · exact .inr (.inl rfl)
theorem colR_zero {Ns : List Nd} {As : List Ar} (h : colR Ns As = 0) : manyB Ns As = false ∧ stK Ns Ns.length ≤ 40 ∧ diagB Ns As = true := by
  unfold colR at h
  split at h
  · cases h
  · split at h
    · cases h
    · split at h
      · rename_i h1 h2 h3
        exact ⟨by simpa using h1, by omega, h3⟩
      · cases h
theorem ColV.cases {Ns : List Nd} {As : List Ar} {A : List ByteArray} {B : List (Int × Int)} {Ls : List (List Int)} {r : Int} (h : ColV Ns As A B Ls r) :
    ((r = 10 ∨ r = 11) ∧ A = [] ∧ B = [] ∧ Ls = []) ∨ (r = 0 ∧ ColA Ns As A B Ls) := by
  obtain ⟨hr, ha, hb, hl⟩ := h
  by_cases h0 : colR Ns As = 0
  · rw [if_pos h0] at ha hb hl
    obtain ⟨_, h2, h3⟩ := colR_zero h0
    subst ha hb hl
    exact .inr ⟨hr.trans h0, colim (diag_parts h3) h2⟩
  · rw [if_neg h0] at ha hb hl
    refine .inl ⟨?_, ha, hb, hl⟩
    rw [hr]
    rcases colR_three Ns As with h | h | h
    · exact absurd h h0
    · exact .inl h
    · exact .inr h
/-- What Mediate answers. -/
def medDR (Ns : List Nd) (As : List Ar) (D : List ByteArray) (Q : List (Int × Int)) (Hs : List (List Int)) : Int :=
  if colR Ns As = 0 then (if 40 < D.length then 11 else if legsB Ns As D Q Hs = true then 0 else 12) else colR Ns As
structure MedD (Ns : List Nd) (As : List Ar) (D : List ByteArray) (Q : List (Int × Int)) (Hs : List (List Int)) (U : List Int) (r : Int) : Prop where
  r : r = medDR Ns As D Q Hs
  u : U = if medDR Ns As D Q Hs = 0 then outD Ns As Hs else []
theorem medD_ex (Ns : List Nd) (As : List Ar) (D : List ByteArray) (Q : List (Int × Int)) (Hs : List (List Int)) : ∃ U r, MedD Ns As D Q Hs U r := ⟨_, _, rfl, rfl⟩
theorem MedD.cases {Ns : List Nd} {As : List Ar} {A D : List ByteArray} {B Q : List (Int × Int)} {Ls Hs : List (List Int)} {U : List Int} {r r' : Int} (hv : MedD Ns As D Q Hs U r) (hp : ColV Ns As A B Ls r') :
    ((r' = 10 ∨ r' = 11) ∧ r = r' ∧ U = []) ∨ (r' = 0 ∧ 40 < D.length ∧ r = 11 ∧ U = []) ∨ (r' = 0 ∧ D.length ≤ 40 ∧ legsB Ns As D Q Hs = false ∧ r = 12 ∧ U = []) ∨
      (r' = 0 ∧ D.length ≤ 40 ∧ legsB Ns As D Q Hs = true ∧ r = 0 ∧ U = outD Ns As Hs ∧ LegsA Ns As D Q Hs ∧ arB A B D Q U = true ∧ ∀ k, k < Ns.length → thenL (lgA Ls k) U = lgA Hs k) := by
  obtain ⟨hr, hu⟩ := hv
  have hr' := hp.r
  rcases hp.cases with ⟨h1, _⟩ | ⟨h1, hP⟩
  · have h2 : colR Ns As ≠ 0 := by omega
    have h3 : medDR Ns As D Q Hs = colR Ns As := by unfold medDR; rw [if_neg h2]
    rw [h3] at hr hu
    rw [if_neg h2] at hu
    exact .inl ⟨h1, by omega, hu⟩
  · have h2 : colR Ns As = 0 := by omega
    right
    by_cases hD : 40 < D.length
    · have h3 : medDR Ns As D Q Hs = 11 := by unfold medDR; rw [if_pos h2, if_pos hD]
      rw [h3] at hr hu
      exact .inl ⟨h1, hD, hr, by rw [hu]; rfl⟩
    · right
      cases hc : legsB Ns As D Q Hs with
      | false =>
        have h3 : medDR Ns As D Q Hs = 12 := by unfold medDR; rw [if_pos h2, if_neg hD, hc]; rfl
        rw [h3] at hr hu
        exact .inl ⟨h1, by omega, rfl, hr, by rw [hu]; rfl⟩
      | true =>
        have h3 : medDR Ns As D Q Hs = 0 := by unfold medDR; rw [if_pos h2, if_neg hD, hc]; rfl
        rw [h3] at hr hu
        rw [if_pos rfl] at hu
        have hl := legs_parts hc
        have hw := hP.way D Q Hs hl
        rw [← hu] at hw
        exact .inr ⟨h1, by omega, rfl, hr, hu, hl, hw.1, hw.2⟩
/-- The way out: there is one alone. -/
theorem ColA.only {Ns : List Nd} {As : List Ar} {A : List ByteArray} {B : List (Int × Int)} {Ls : List (List Int)} (h : ColA Ns As A B Ls) {U V : List Int} (hU : U.length = A.length) (hV : V.length = A.length) (hi : ∀ k, k < Ns.length → thenL (lgA Ls k) U = thenL (lgA Ls k) V) : U = V := by
  refine ext0 (by omega) (fun e he => ?_)
  obtain ⟨k, hk, x, hx, e2⟩ := h.reach e (by omega)
  have h1 := thenL_get (f := lgA Ls k) (g := U) hx
  have h2 := thenL_get (f := lgA Ls k) (g := V) hx
  rw [hi k hk] at h1
  rw [e2, Int.toNat_natCast] at h1 h2
  exact h1.symm.trans h2

end Go.Proofs.YtemnbkenihldgaaDoor
