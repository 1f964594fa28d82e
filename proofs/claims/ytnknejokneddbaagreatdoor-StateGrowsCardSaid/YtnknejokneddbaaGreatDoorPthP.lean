/- Plain: which paths are found, how many lines they have. -/
import Derived.Test.YtnknejokneddbaaGreatDoorMixA
import Derived.Test.YtnknejokneddbaaGreatDoorRefB
namespace Go.Proofs.YtnknejokneddbaaGreatDoor

theorem find_isSome {l : List Fl} {s : ByteArray} : (findL l s).isSome = true ↔ ∃ f ∈ l, fPath f = s := by
 unfold findL
 rw [List.find?_isSome]
 simp
theorem find_path {l : List Fl} {s : ByteArray} {f : Fl} (h : findL l s = some f) : fPath f = s := by
 unfold findL at h
 have := List.find?_some h
 simpa using this
theorem find_track {l : List Pt} (e : errL l = 0) (s : ByteArray) : (findL (filesL l) s).isSome = true ↔ s ∈ trackL l := by
 rw [find_isSome, filesL_ok e]
 constructor
 ·rintro ⟨f, hf, rfl⟩
  obtain ⟨t, ht, rfl⟩ := List.mem_map.1 hf
  exact ht
 ·intro h
  exact ⟨fileL l s, List.mem_map.2 ⟨s, h, rfl⟩, rfl⟩
/-- How many lines hunks of a path add: of the first k hunks of a patch; of the first k patches. -/
def addP (path : ByteArray) (hs : List Hk) (k : Nat) : Nat := ((hs.take k).map fun h => if hPath h = path then (hAdds h).length else 0).sum
def addL (path : ByteArray) (l : List Pt) (k : Nat) : Nat := ((l.take k).map fun x => addP path (pHunks x) (pHunks x).length).sum
theorem addP_succ {path : ByteArray} {hs : List Hk} {k : Nat} (h : k < hs.length) : addP path hs (k + 1) = addP path hs k + (if hPath (hs[k]?.getD hk0) = path then (hAdds (hs[k]?.getD hk0)).length else 0) := by
 unfold addP
 rw [List.take_succ_eq_append_getElem h, List.map_append, List.sum_append, List.getElem?_eq_getElem h]
 simp
theorem addL_succ {path : ByteArray} {l : List Pt} {k : Nat} (h : k < l.length) : addL path l (k + 1) = addL path l k + addP path (pHunks (l[k]?.getD pt0)) (pHunks (l[k]?.getD pt0)).length := by
 unfold addL
 rw [List.take_succ_eq_append_getElem h, List.map_append, List.sum_append, List.getElem?_eq_getElem h]
 simp
theorem hksK_adds {path : ByteArray} {x : Pt} : ∀ {k : Nat}, k ≤ (pHunks x).length → ((hksK path x k).flatMap addsOf).length = addP path (pHunks x) k
 | 0, _ => by simp [hksK, addP]
 | k + 1, hk => by
  have e : hksK path x (k + 1) = hksK path x k ++ (if hPath ((pHunks x)[k]?.getD hk0) = path then [((pID x, ((addsN (pHunks x) k : Nat) : Int)), (pHunks x)[k]?.getD hk0)] else []) := rfl
  rw [addP_succ (by omega), ← hksK_adds (by omega), e, List.flatMap_append, List.length_append]
  congr 1
  split
  ·simp [addsOf_len]
  ·simp
theorem lines_count {l : List Pt} {path : ByteArray} : (linesOfL l path).length = addL path l l.length := by
 rw [(linesOfL_perm l path).length_eq]
 unfold linesG hksL addL
 rw [List.take_length]
 induction l with
 | nil => rfl
 | cons x l ih =>
  rw [List.flatMap_cons, List.flatMap_append, List.length_append, ih, List.map_cons, List.sum_cons]
  congr 1
  exact hksK_adds (Nat.le_refl _)

end Go.Proofs.YtnknejokneddbaaGreatDoor
