/- Arrows behind arrows, in plain lists. -/
import Derived.Test.YtemnbkenihldgaaDoorArra
import Derived.Test.YtemnbkenihldgaaDoorRelb
namespace Go.Proofs.YtemnbkenihldgaaDoor

theorem arB_parts {L : List ByteArray} {P : List (Int × Int)} {L' : List ByteArray} {P' : List (Int × Int)} {f : List Int} (h : arB L P L' P' f = true) : chk L P = 0 ∧ chk L' P' = 0 ∧ f.length = L.length ∧ labK L L' f f.length = true ∧ prB (objN L' P') (objR L' P') P f = true := by
  unfold arB labB at h
  simp only [Bool.and_eq_true, beq_iff_eq, decide_eq_true_eq] at h
  exact ⟨h.1, h.2.1, h.2.2.1.1, h.2.2.1.2, h.2.2.2⟩
theorem lab_has {L L' : List ByteArray} {f : List Int} (h : labK L L' f f.length = true) : thenB f L'.length = true := by
  unfold thenB
  rw [List.all_eq_true]
  intro z hz
  obtain ⟨i, hi, rfl⟩ := List.getElem_of_mem hz
  have h1 := List.all_eq_true.1 h i (List.mem_range.2 hi)
  unfold lab1 at h1
  simp only [Bool.and_eq_true] at h1
  rw [List.getElem?_eq_getElem hi] at h1
  exact h1.1
theorem still_of {L : List ByteArray} {P : List (Int × Int)} {L' : List ByteArray} {P' : List (Int × Int)} {f g : List Int} (h : arB L P L' P' f = true) (h2 : arB L' P' L P g = true) : thenB f g.length = true ∧ stillB f g = decide (thenL f g = idL (idN L.length)) := by
  obtain ⟨_, _, h3, h4, _⟩ := arB_parts h
  obtain ⟨_, _, h5, _, _⟩ := arB_parts h2
  have h6 : thenB f g.length = true := by rw [h5]; exact lab_has h4
  refine ⟨h6, ?_⟩
  unfold stillB
  rw [h6, h3]
  rfl
theorem idL_get {n i : Nat} (h : i < n) : (idL n)[i]?.getD 0 = (i : Int) := by
  unfold idL
  rw [List.getElem?_map, List.getElem?_range h]
  rfl
theorem thenB_id {n k : Nat} (h : n ≤ k) : thenB (idL n) k = true := by
  unfold thenB idL
  rw [List.all_eq_true]
  intro z hz
  obtain ⟨i, hi, rfl⟩ := List.mem_map.1 hz
  have := List.mem_range.1 hi
  exact hasZ_iff.2 ⟨by omega, by omega⟩
theorem thenL_id {f : List Int} : thenL (idL f.length) f = f := by
  unfold thenL idL
  apply List.ext_getElem?
  intro i
  rw [List.getElem?_map, List.getElem?_map]
  rcases Nat.lt_or_ge i f.length with h | h
  · rw [List.getElem?_range h, List.getElem?_eq_getElem h]
    simp only [Option.map_some, Int.toNat_natCast, List.getElem?_eq_getElem h, Option.getD_some]
  · rw [List.getElem?_eq_none (by simpa using h), List.getElem?_eq_none h]
    rfl
theorem thenL_id2 {f : List Int} {n : Nat} (h : thenB f n = true) : thenL f (idL n) = f := by
  unfold thenL
  conv => rhs; rw [← List.map_id f]
  apply List.map_congr_left
  intro z hz
  have h1 := hasZ_iff.1 (List.all_eq_true.1 h z hz)
  rw [idL_get (by omega)]
  simp only [id]
  omega
theorem thenL_get {f g : List Int} {i : Nat} (h : i < f.length) : (thenL f g)[i]?.getD 0 = g[(f[i]?.getD 0).toNat]?.getD 0 := by
  unfold thenL
  rw [List.getElem?_map, List.getElem?_eq_getElem h]
  rfl
theorem lab1_of {L L' : List ByteArray} {f : List Int} {k i : Nat} (h : labK L L' f k = true) (hi : i < k) : hasZ L'.length (f[i]?.getD 0) = true ∧ L[i]?.getD .empty = L'[(f[i]?.getD 0).toNat]?.getD .empty := by
  have h1 := List.all_eq_true.1 h i (List.mem_range.2 hi)
  unfold lab1 at h1
  simp only [Bool.and_eq_true, decide_eq_true_eq] at h1
  exact h1
theorem objN_ok {L : List ByteArray} {P : List (Int × Int)} (h : chk L P = 0) : objN L P = L.length := by unfold objN; rw [if_pos h]
theorem objR_ok {L : List ByteArray} {P : List (Int × Int)} (h : chk L P = 0) : objR L P = ofL L.length P := by unfold objR; rw [if_pos h]
theorem hasI_iff {n : Nat} {R : Nat → Nat → Bool} {a b : Int} : hasI n R a b = true ↔ (0 ≤ a ∧ a < n) ∧ (0 ≤ b ∧ b < n) ∧ R a.toNat b.toNat = true := by
  unfold hasI
  simp only [Bool.and_eq_true, decide_eq_true_eq]
theorem hasI_ofL {n : Nat} {P : List (Int × Int)} {a b : Int} : hasI n (ofL n P) a b = true ↔ (0 ≤ a ∧ a < n) ∧ (0 ≤ b ∧ b < n) ∧ (a, b) ∈ P := by
  rw [hasI_iff]
  constructor
  · rintro ⟨h1, h2, h3⟩
    refine ⟨h1, h2, ?_⟩
    have := ((ofL_iff n P _ _).1 h3).2.2
    rw [Int.toNat_of_nonneg h1.1, Int.toNat_of_nonneg h2.1] at this
    exact this
  · rintro ⟨h1, h2, h3⟩
    refine ⟨h1, h2, (ofL_iff n P _ _).2 ⟨by omega, by omega, ?_⟩⟩
    rw [Int.toNat_of_nonneg h1.1, Int.toNat_of_nonneg h2.1]
    exact h3
theorem arB_mk {L : List ByteArray} {P : List (Int × Int)} {L' : List ByteArray} {P' : List (Int × Int)} {f : List Int} (h1 : chk L P = 0) (h2 : chk L' P' = 0) (h3 : f.length = L.length)
    (h4 : ∀ i, i < f.length → hasZ L'.length (f[i]?.getD 0) = true ∧ L[i]?.getD .empty = L'[(f[i]?.getD 0).toNat]?.getD .empty)
    (h5 : ∀ x ∈ P, (f[x.1.toNat]?.getD 0, f[x.2.toNat]?.getD 0) ∈ P') : arB L P L' P' f = true := by
  have h6 := (chk_in h1).2.2.1
  unfold arB labB
  rw [h1, h2, decide_eq_true h3, objN_ok h2, objR_ok h2]
  simp only [beq_self_eq_true, Bool.true_and, Bool.and_eq_true]
  constructor
  · unfold labK
    rw [List.all_eq_true]
    intro i hi
    have := h4 i (List.mem_range.1 hi)
    unfold lab1
    rw [this.1, decide_eq_true this.2]
    rfl
  · unfold prB
    rw [List.all_eq_true]
    intro x hx
    have hin : inI L.length x.1 x.2 := of_decide_eq_true (List.all_eq_true.1 h6 x hx)
    unfold inI at hin
    unfold pr1
    have q1 := hasZ_iff.1 (h4 x.1.toNat (by omega)).1
    have q2 := hasZ_iff.1 (h4 x.2.toNat (by omega)).1
    exact hasI_ofL.2 ⟨q1, q2, h5 x hx⟩
theorem arB_pairs {L : List ByteArray} {P : List (Int × Int)} {L' : List ByteArray} {P' : List (Int × Int)} {f : List Int} (h : arB L P L' P' f = true) : ∀ x ∈ P, (f[x.1.toNat]?.getD 0, f[x.2.toNat]?.getD 0) ∈ P' := by
  obtain ⟨_, h2, _, _, h5⟩ := arB_parts h
  intro x hx
  have h6 := List.all_eq_true.1 h5 x hx
  unfold pr1 at h6
  rw [objN_ok h2, objR_ok h2] at h6
  exact (hasI_ofL.1 h6).2.2
theorem arB_then {L L' L'' : List ByteArray} {P P' P'' : List (Int × Int)} {f g : List Int} (hf : arB L P L' P' f = true) (hg : arB L' P' L'' P'' g = true) : arB L P L'' P'' (thenL f g) = true := by
  obtain ⟨h1, h2, h3, h4, _⟩ := arB_parts hf
  obtain ⟨_, k2, k3, k4, _⟩ := arB_parts hg
  have hin := (chk_in h1).2.2.1
  refine arB_mk h1 k2 (by rw [thenL_len]; exact h3) (fun i hi => ?_) (fun x hx => ?_)
  · rw [thenL_len] at hi
    obtain ⟨q1, q2⟩ := lab1_of h4 hi
    have q3 := hasZ_iff.1 q1
    obtain ⟨q4, q5⟩ := lab1_of k4 (i := (f[i]?.getD 0).toNat) (by omega)
    rw [thenL_get hi]
    exact ⟨q4, q2.trans q5⟩
  · have hx2 : inI L.length x.1 x.2 := of_decide_eq_true (List.all_eq_true.1 hin x hx)
    unfold inI at hx2
    rw [thenL_get (by omega), thenL_get (by omega)]
    exact arB_pairs hg _ (arB_pairs hf x hx)
theorem arB_id {L : List ByteArray} {P : List (Int × Int)} (h : chk L P = 0) : arB L P L P (idL L.length) = true := by
  have hin := (chk_in h).2.2.1
  refine arB_mk h h (idL_len _) (fun i hi => ?_) (fun x hx => ?_)
  · rw [idL_len] at hi
    rw [idL_get hi]
    exact ⟨hasZ_iff.2 ⟨by omega, by omega⟩, by rw [Int.toNat_natCast]⟩
  · have hx2 : inI L.length x.1 x.2 := of_decide_eq_true (List.all_eq_true.1 hin x hx)
    unfold inI at hx2
    rw [idL_get (by omega), idL_get (by omega), Int.toNat_of_nonneg hx2.1, Int.toNat_of_nonneg (by omega)]
    exact hx
theorem chk_none : chk [] [] = 0 := by decide +kernel
theorem arB_nil {L : List ByteArray} {P : List (Int × Int)} (h : chk L P = 0) : arB [] [] L P [] = true :=
  arB_mk chk_none h rfl (fun _ hi => absurd hi (Nat.not_lt_zero _)) (fun _ hx => absurd hx List.not_mem_nil)
theorem chk_small {L : List ByteArray} {P : List (Int × Int)} (h : chk L P = 0) : L.length ≤ 40 := lab_small (chk_in h).1

end Go.Proofs.YtemnbkenihldgaaDoor
