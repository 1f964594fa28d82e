/- Plain: patches that add a line each behind the last one, one more that kills one: what they make. -/
import Derived.Test.YtnknejokneddbaaGreatDoorMixA
import Derived.Test.YtnknejokneddbaaGreatDoorRefG
namespace Go.Proofs.YtnknejokneddbaaGreatDoor
open Go.RowKit

def rF : ByteArray := ⟨#[102]⟩
def r0 : ByteArray := ⟨#[48, 10]⟩
def rX : ByteArray := ⟨#[120, 10]⟩
def rw0 : Pt := (1, [], [rF], [], [(rF, [r0], [], [])])
def rwI (i : Nat) : Pt := (i + 2, [i + 1], [], [], [(rF, [rX], [((i + 1, 0), (i + 2, 0))], [])])
def rwK (d : Nat) : Pt := (99, [d], [], [], [(rF, [], [], [(d, 0)])])
def rwL (m : Nat) : List Pt := rw0 :: (List.range m).map rwI
def rwA (m d : Nat) : List Pt := rwL m ++ [rwK d]
def rwN (m : Nat) : List Lne := ((1, 0), r0, false) :: (List.range m).map fun i => ((i + 2, 0), rX, false)
theorem path_rF : IsPath rF := ⟨by decide +kernel, by decide +kernel, by decide +kernel⟩
theorem line_r0 : IsLine r0 := ⟨lines_one.2 ⟨by decide +kernel, by decide +kernel⟩, by decide +kernel⟩
theorem line_rX : IsLine rX := ⟨lines_one.2 ⟨by decide +kernel, by decide +kernel⟩, by decide +kernel⟩
theorem rwL_succ (m : Nat) : rwL (m + 1) = rwL m ++ [rwI m] := by
 unfold rwL
 rw [List.range_succ, List.map_append]
 rfl
theorem rwL_len (m : Nat) : (rwL m).length = m + 1 := by simp [rwL]
theorem rwA_len (m d : Nat) : (rwA m d).length = m + 2 := by simp [rwA, rwL_len]
theorem rwA_mem {m d : Nat} {x : Pt} (h : x ∈ rwA m d) : x = rw0 ∨ (∃ i, i < m ∧ x = rwI i) ∨ x = rwK d := by
 unfold rwA rwL at h
 rcases List.mem_append.1 h with h | h
 ·rcases List.mem_cons.1 h with h | h
  ·exact .inl h
  ·obtain ⟨i, hi, rfl⟩ := List.mem_map.1 h
   exact .inr (.inl ⟨i, List.mem_range.1 hi, rfl⟩)
 ·exact .inr (.inr (List.mem_singleton.1 h))
theorem rwA_0 (m d : Nat) : rw0 ∈ rwA m d := List.mem_append_left _ List.mem_cons_self
theorem rwA_i {m d i : Nat} (h : i < m) : rwI i ∈ rwA m d := List.mem_append_left _ (List.mem_cons_of_mem _ (List.mem_map.2 ⟨i, List.mem_range.2 h, rfl⟩))
theorem rwA_k (m d : Nat) : rwK d ∈ rwA m d := List.mem_append_right _ (List.mem_singleton.2 rfl)
theorem is_rw0 : IsPt rw0 where
 id := by decide
 deps := fun d hd => by cases hd
 dris := List.Pairwise.nil
 own := fun h => by cases h
 nDeps := by decide +kernel
 makes := fun s hs => by
  obtain rfl : s = rF := List.mem_singleton.1 hs
  exact path_rF
 mris := List.pairwise_singleton _ _
 nMakes := by decide +kernel
 drops := fun s hs => by cases hs
 xris := List.Pairwise.nil
 nDrops := by decide +kernel
 apart := fun s _ h => by cases h
 nHunks := by decide +kernel
 hris := List.pairwise_singleton _ _
 hunks := fun i hi => by
  obtain rfl : i = 0 := by
   have : (pHunks rw0).length = 1 := rfl
   omega
  exact {
   path := path_rF
   nAdds := by show (1 : Nat) ≤ 40; omega
   nEdges := Nat.zero_le _
   nKills := Nat.zero_le _
   adds := fun s hs => by
    obtain rfl : s = r0 := List.mem_singleton.1 hs
    exact line_r0
   edges := fun e he => by cases he
   eris := List.Pairwise.nil
   kills := fun x hx => by cases hx
   kris := List.Pairwise.nil }
 needs := fun d hd => by
  have : needsL rw0 = [] := by decide +kernel
  rw [this] at hd
  cases hd
theorem is_rwI (i : Nat) : IsPt (rwI i) where
 id := by show i + 2 ≠ 0; omega
 deps := fun d hd => by
  obtain rfl : d = i + 1 := List.mem_singleton.1 hd
  omega
 dris := List.pairwise_singleton _ _
 own := fun h => by
  have h2 : i + 2 = i + 1 := List.mem_singleton.1 h
  omega
 nDeps := by show (1 : Nat) ≤ 60; omega
 makes := fun s hs => by cases hs
 mris := List.Pairwise.nil
 nMakes := Nat.zero_le _
 drops := fun s hs => by cases hs
 xris := List.Pairwise.nil
 nDrops := Nat.zero_le _
 apart := fun s h _ => by cases h
 nHunks := by show (1 : Nat) ≤ 6; omega
 hris := List.pairwise_singleton _ _
 hunks := fun j hj => by
  obtain rfl : j = 0 := by
   have : (pHunks (rwI i)).length = 1 := rfl
   omega
  exact {
   path := path_rF
   nAdds := by show (1 : Nat) ≤ 40; omega
   nEdges := by show (1 : Nat) ≤ 80; omega
   nKills := Nat.zero_le _
   adds := fun s hs => by
    obtain rfl : s = rX := List.mem_singleton.1 hs
    exact line_rX
   edges := fun e he => by
    obtain rfl : e = ((i + 1, 0), (i + 2, 0)) := List.mem_singleton.1 he
    exact ⟨⟨by show (0 : Int) ≤ 0; omega, by show (0 : Int) < 40; omega, fun h => by
     have h2 : i + 1 = i + 2 := h
     omega⟩, ⟨by show (0 : Int) ≤ 0; omega, by show (0 : Int) < 40; omega, fun _ => ⟨Int.le_refl _, by show (0 : Int) < 1; omega⟩⟩, fun h => by
     have h2 : i + 1 = i + 2 := congrArg Prod.fst h
     omega⟩
   eris := List.pairwise_singleton _ _
   kills := fun x hx => by cases hx
   kris := List.Pairwise.nil }
 needs := fun d hd => by
  obtain ⟨h1, h2⟩ := needsL_mem.1 hd
  have h3 : d ∈ [i + 1, i + 2] := h1
  have h4 : d ≠ i + 2 := h2
  show d ∈ [i + 1]
  simp only [List.mem_cons, List.not_mem_nil, or_false] at h3 ⊢
  omega
theorem is_rwK {d : Nat} (h1 : 1 ≤ d) (h2 : d ≤ 90) : IsPt (rwK d) where
 id := by show (99 : Nat) ≠ 0; omega
 deps := fun x hx => by
  obtain rfl : x = d := List.mem_singleton.1 hx
  omega
 dris := List.pairwise_singleton _ _
 own := fun h => by
  have h3 : 99 = d := List.mem_singleton.1 h
  omega
 nDeps := by show (1 : Nat) ≤ 60; omega
 makes := fun s hs => by cases hs
 mris := List.Pairwise.nil
 nMakes := Nat.zero_le _
 drops := fun s hs => by cases hs
 xris := List.Pairwise.nil
 nDrops := Nat.zero_le _
 apart := fun s h _ => by cases h
 nHunks := by show (1 : Nat) ≤ 6; omega
 hris := List.pairwise_singleton _ _
 hunks := fun j hj => by
  obtain rfl : j = 0 := by
   have : (pHunks (rwK d)).length = 1 := rfl
   omega
  exact {
   path := path_rF
   nAdds := Nat.zero_le _
   nEdges := Nat.zero_le _
   nKills := by show (1 : Nat) ≤ 40; omega
   adds := fun s hs => by cases hs
   edges := fun e he => by cases he
   eris := List.Pairwise.nil
   kills := fun x hx => by
    obtain rfl : x = (d, 0) := List.mem_singleton.1 hx
    exact ⟨by show d ≠ 99; omega, Int.le_refl _, by show (0 : Int) < 40; omega⟩
   kris := List.pairwise_singleton _ _ }
 needs := fun x hx => (needsL_mem.1 hx).1
theorem rw_ids (m d : Nat) : (rwA m d).map pID = 1 :: ((List.range m).map (· + 2) ++ [99]) := by
 unfold rwA rwL
 rw [List.map_append, List.map_cons, List.map_map]
 rfl
theorem rw_st {m d : Nat} (hm : m < 13) : stP (rwA m d) := by
 have h1 : ∀ m < 13, (1 :: ((List.range m).map (· + 2) ++ [99])).Pairwise (· < ·) := by decide +kernel
 have h2 := h1 m hm
 rw [← rw_ids m d, List.pairwise_map] at h2
 exact h2
theorem rw_all {m d : Nat} (hm : m < 13) (h1 : 1 ≤ d) (h2 : d ≤ m + 1) : IsAll (rwA m d) := by
 refine ⟨fun x hx => ?_, ?_⟩
 ·rcases rwA_mem hx with rfl | ⟨i, _, rfl⟩ | rfl
  ·exact is_rw0
  ·exact is_rwI i
  ·exact is_rwK h1 (by omega)
 ·have h := rw_st (d := d) hm
  unfold List.Nodup
  rw [List.pairwise_map]
  exact List.Pairwise.imp (fun h => Nat.ne_of_lt h) h
theorem rw_has {m d p : Nat} (h1 : 1 ≤ p) (h2 : p ≤ m + 1) : ∃ y ∈ rwA m d, pID y = p := by
 by_cases e : p = 1
 ·exact ⟨rw0, rwA_0 m d, e.symm⟩
 ·exact ⟨rwI (p - 2), rwA_i (by omega), by show p - 2 + 2 = p; omega⟩
theorem rw_closed {m d : Nat} (h1 : 1 ≤ d) (h2 : d ≤ m + 1) : ClosedL (rwA m d) := fun x hx y hy => by
 rcases rwA_mem hx with rfl | ⟨i, hi, rfl⟩ | rfl
 ·cases hy
 ·obtain rfl : y = i + 1 := List.mem_singleton.1 hy
  exact rw_has (by omega) (by omega)
 ·obtain rfl : y = d := List.mem_singleton.1 hy
  exact rw_has h1 h2
theorem rw_not {m d : Nat} (hm : 1 ≤ m) : ¬ ClosedL ((rwA m d).drop 1) := fun h => by
 have e : (rwA m d).drop 1 = (List.range m).map rwI ++ [rwK d] := rfl
 rw [e] at h
 obtain ⟨y, hy, e2⟩ := h (rwI 0) (List.mem_append_left _ (List.mem_map.2 ⟨0, List.mem_range.2 (by omega), rfl⟩)) 1 (List.mem_singleton.2 rfl)
 rcases List.mem_append.1 hy with hy | hy
 ·obtain ⟨i, _, rfl⟩ := List.mem_map.1 hy
  have e3 : i + 2 = 1 := e2
  omega
 ·rw [List.mem_singleton.1 hy] at e2
  have e3 : (99 : Nat) = 1 := e2
  omega
theorem rw_track (m d : Nat) : trackL (rwA m d) = [rF] := (trackL_uniq (m := [rF]) (List.pairwise_singleton _ _) fun s => by
 constructor
 ·intro h
  obtain rfl := List.mem_singleton.1 h
  refine ⟨⟨rw0, rwA_0 m d, List.mem_singleton.2 rfl⟩, fun ⟨x, hx, hd⟩ => ?_⟩
  rcases rwA_mem hx with rfl | ⟨i, _, rfl⟩ | rfl <;> cases hd
 ·rintro ⟨⟨x, hx, hs⟩, _⟩
  rcases rwA_mem hx with rfl | ⟨i, _, rfl⟩ | rfl
  ·exact hs
  ·cases hs
  ·cases hs).symm
theorem rw_lines {m d : Nat} (hm : m < 13) (hd : d < 14) : linesOfL (rwA m d) rF = rwN m := by
 rw [lines_of_st (List.Perm.refl _) (rw_st hm)]
 have : ∀ m < 13, ∀ d < 14, decide (linesG rF (rwA m d) = rwN m) = true := by decide +kernel
 exact of_decide_eq_true (this m hm d hd)
theorem rwN_len (m : Nat) : (rwN m).length = m + 1 := by simp [rwN]
theorem rw_cnt {m d : Nat} (hm : m < 13) (hd : d < 14) : cntS (rwA m d) = m + 1 := by
 unfold cntS
 rw [rw_track]
 show (linesOfL (rwA m d) rF).length + 0 = _
 rw [rw_lines hm hd, rwN_len]
theorem rw_err {m d : Nat} (hm : m < 13) (h1 : 1 ≤ d) (h2 : d ≤ m + 1) : errL (rwA m d) = 0 :=
 errL_ok (rw_all hm h1 h2) (rw_closed h1 h2) (by rw [rw_track, rw_cnt hm (by omega), rwA_len]; simp; omega)
theorem rw_files {m d : Nat} (hm : m < 13) (h1 : 1 ≤ d) (h2 : d ≤ m + 1) : filesL (rwA m d) = [fileL (rwA m d) rF] := by
 rw [filesL_ok (rw_err hm h1 h2), rw_track]
 rfl
theorem rw_marks {m d : Nat} (hm : m < 13) (h1 : 1 ≤ d) (h2 : d ≤ m + 1) : (fLines (fileL (rwA m d) rF)).length = m + 1 ∧ (aliveL (fLines (fileL (rwA m d) rF))).length = m ∧ nDead ((fLines (fileL (rwA m d) rF))[d - 1]?.getD lne0) = true := by
 have h : ∀ m < 13, ∀ d < 14, 1 ≤ d → d ≤ m + 1 → (markL (rwN m) (hksL rF (rwA m d))).length = m + 1 ∧ (aliveL (markL (rwN m) (hksL rF (rwA m d)))).length = m ∧ nDead ((markL (rwN m) (hksL rF (rwA m d)))[d - 1]?.getD lne0) = true := by decide +kernel
 have e : fLines (fileL (rwA m d) rF) = markL (rwN m) (hksL rF (rwA m d)) := by
  show markL (linesOfL (rwA m d) rF) (hksL rF (rwA m d)) = _
  rw [rw_lines hm (by omega)]
 rw [e]
 exact h m hm d (by omega) h1 h2
/-- Each ahead of all behind it. -/
def ltQ (n a b : Nat) : Bool := decide (a < b) && decide (b < n)
theorem rw_rel {m d : Nat} (hm : m < 13) : clo (m + 1) (relS (rwN m) (hksL rF (rwA m d))) = ltQ (m + 1) := by
 have hat : ∀ m < 13, ∀ p < m + 1, atL (rwN m) (p + 1, 0) = some p := by decide +kernel
 have hat' := hat m hm
 have hst : Sub (relS (rwN m) (hksL rF (rwA m d))) (ltQ (m + 1)) := fun a b h => by
  unfold relS at h
  rw [List.any_eq_true] at h
  obtain ⟨y, hy, h⟩ := h
  rw [List.any_eq_true] at h
  obtain ⟨e, he, h⟩ := h
  rw [Bool.and_eq_true, decide_eq_true_eq, decide_eq_true_eq] at h
  obtain ⟨x, hx, hyx⟩ := hksL_mem hy
  obtain ⟨i, hi, rfl, _⟩ := hksK_mem hyx
  have hh := get_mem (d := hk0) hi
  rcases rwA_mem hx with rfl | ⟨j, hj, rfl⟩ | rfl
  ·obtain eh := List.mem_singleton.1 (show (pHunks rw0)[i]?.getD hk0 ∈ [(rF, [r0], [], [])] from hh)
   rw [eh] at he
   cases he
  ·obtain eh := List.mem_singleton.1 (show (pHunks (rwI j))[i]?.getD hk0 ∈ [(rF, [rX], [((j + 1, 0), (j + 2, 0))], [])] from hh)
   rw [eh] at he
   obtain rfl : e = ((j + 1, 0), (j + 2, 0)) := List.mem_singleton.1 he
   have a1 := (hat' j (by omega)).symm.trans h.1
   have a2 := (hat' (j + 1) (by omega)).symm.trans h.2
   cases a1
   cases a2
   unfold ltQ
   rw [decide_eq_true (by omega), decide_eq_true (by omega)]
   rfl
  ·obtain eh := List.mem_singleton.1 (show (pHunks (rwK d))[i]?.getD hk0 ∈ [(rF, [], [], [(d, 0)])] from hh)
   rw [eh] at he
   cases he
 have hnx : ∀ a, a < m → relS (rwN m) (hksL rF (rwA m d)) a (a + 1) = true := fun a ha => by
  unfold relS
  rw [List.any_eq_true]
  refine ⟨((a + 2, ((addsN (pHunks (rwI a)) 0 : Nat) : Int)), (rF, [rX], [((a + 1, 0), (a + 2, 0))], [])), List.mem_flatMap.2 ⟨rwI a, rwA_i ha, ?_⟩, ?_⟩
  ·show _ ∈ [] ++ (if rF = rF then [((a + 2, ((addsN (pHunks (rwI a)) 0 : Nat) : Int)), (rF, [rX], [((a + 1, 0), (a + 2, 0))], []))] else [])
   rw [if_pos rfl]
   exact List.mem_singleton.2 rfl
  ·rw [List.any_eq_true]
   refine ⟨((a + 1, 0), (a + 2, 0)), List.mem_singleton.2 rfl, ?_⟩
   rw [hat' a (by omega), hat' (a + 1) (by omega)]
   simp
 have htr : Trans (ltQ (m + 1)) := fun a b c h1 h2 => by
  unfold ltQ at *
  simp only [Bool.and_eq_true, decide_eq_true_eq] at *
  omega
 have hsu : Supp (m + 1) (relS (rwN m) (hksL rF (rwA m d))) := fun a b h => by
  have := hst a b h
  unfold ltQ at this
  simp only [Bool.and_eq_true, decide_eq_true_eq] at this
  omega
 refine Sub.antisymm (clo_least hst htr) fun a b h => ?_
 unfold ltQ at h
 simp only [Bool.and_eq_true, decide_eq_true_eq] at h
 obtain ⟨h1, h2⟩ := h
 obtain ⟨q, rfl⟩ : ∃ q, b = a + 1 + q := ⟨b - (a + 1), by omega⟩
 clear h1
 induction q with
 | zero => exact clo_sub _ _ _ _ (hnx a (by omega))
 | succ q ih => exact clo_trans hsu _ _ _ (ih (by omega)) (clo_sub _ _ _ _ (hnx (a + 1 + q) (by omega)))
theorem rw_pairs {m d : Nat} (hm : m < 13) (hd : d < 14) : (fPairs (fileL (rwA m d) rF)).length = (m + 1) * m / 2 := by
 have e : fPairs (fileL (rwA m d) rF) = pairsL (m + 1) (ltQ (m + 1)) (m + 1) := by
  show pairsL (linesOfL (rwA m d) rF).length (clo (linesOfL (rwA m d) rF).length (relS (linesOfL (rwA m d) rF) (hksL rF (rwA m d)))) (linesOfL (rwA m d) rF).length = _
  rw [rw_lines hm hd, rwN_len, rw_rel hm]
 rw [e]
 have h : ∀ m < 13, (pairsL (m + 1) (ltQ (m + 1)) (m + 1)).length = (m + 1) * m / 2 := by decide +kernel
 exact h m hm
theorem rw_few {m d : Nat} : ∀ x ∈ rwA m d, PFew x := fun x hx => by
 rcases rwA_mem hx with rfl | ⟨i, _, rfl⟩ | rfl
 ·exact ⟨by decide +kernel, by decide +kernel, by decide +kernel, by decide +kernel, by decide +kernel, by decide +kernel, by decide +kernel⟩
 ·refine ⟨by show (1 : Nat) ≤ 8; omega, by show (1 : Nat) ≤ 70; omega, Nat.zero_le _, Nat.zero_le _, (fun s hs => by cases hs), (fun s hs => by cases hs), fun h hh => ?_⟩
  obtain rfl := List.mem_singleton.1 (show h ∈ [(rF, [rX], [((i + 1, 0), (i + 2, 0))], [])] from hh)
  refine ⟨by show (1 : Nat) ≤ 50; omega, by show (1 : Nat) ≤ 90; omega, Nat.zero_le _, by show (1 : Nat) ≤ 40; omega, fun s hs => ?_⟩
  obtain rfl := List.mem_singleton.1 (show s ∈ [rX] from hs)
  decide +kernel
 ·refine ⟨by show (1 : Nat) ≤ 8; omega, by show (1 : Nat) ≤ 70; omega, Nat.zero_le _, Nat.zero_le _, (fun s hs => by cases hs), (fun s hs => by cases hs), fun h hh => ?_⟩
  obtain rfl := List.mem_singleton.1 (show h ∈ [(rF, [], [], [(d, 0)])] from hh)
  exact ⟨Nat.zero_le _, Nat.zero_le _, by show (1 : Nat) ≤ 50; omega, by show (1 : Nat) ≤ 40; omega, fun s hs => by cases hs⟩
theorem rw_num {m d : Nat} (hm : m < 13) (hd : d < 14) : ∀ x ∈ rwA m d, NumP x := fun x hx => by
 rcases rwA_mem hx with rfl | ⟨i, _, rfl⟩ | rfl
 ·refine ⟨by decide, fun h hh => ?_⟩
  obtain rfl := List.mem_singleton.1 (show h ∈ [(rF, [r0], [], [])] from hh)
  exact ⟨fun e he => (by cases he), fun x hx => (by cases hx)⟩
 ·refine ⟨by show i + 2 < 4294967296; omega, fun h hh => ?_⟩
  obtain rfl := List.mem_singleton.1 (show h ∈ [(rF, [rX], [((i + 1, 0), (i + 2, 0))], [])] from hh)
  refine ⟨fun e he => ?_, fun x hx => by cases hx⟩
  obtain rfl := List.mem_singleton.1 (show e ∈ [(((i + 1, 0), (i + 2, 0)) : Ed)] from he)
  exact ⟨by show i + 1 < 4294967296; omega, by show i + 2 < 4294967296; omega⟩
 ·refine ⟨by show (99 : Nat) < 4294967296; omega, fun h hh => ?_⟩
  obtain rfl := List.mem_singleton.1 (show h ∈ [(rF, [], [], [(d, 0)])] from hh)
  refine ⟨fun e he => (by cases he), fun x hx => ?_⟩
  obtain rfl := List.mem_singleton.1 (show x ∈ [((d, 0) : Ln)] from hx)
  show d < 4294967296
  omega

end Go.Proofs.YtnknejokneddbaaGreatDoor
