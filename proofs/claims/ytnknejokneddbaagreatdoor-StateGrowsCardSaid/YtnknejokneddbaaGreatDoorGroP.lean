/- Plain: with more patches all that was there is there still. -/
import Derived.Test.YtnknejokneddbaaGreatDoorPthP
import Derived.Test.YtnknejokneddbaaGreatDoorRefG
namespace Go.Proofs.YtnknejokneddbaaGreatDoor
open Go.RowKit

theorem pairsL_riseG (n : Nat) (R : Nat → Nat → Bool) (k : Nat) : (pairsL n R k).Pairwise (fun x y : Int × Int => x.1 < y.1 ∨ (x.1 = y.1 ∧ x.2 < y.2)) ∧ ∀ x ∈ pairsL n R k, x.1 < k := by
 induction k with
 | zero => simp [pairsL]
 | succ k ih =>
  rw [pairsL_succ]
  refine ⟨?_, ?_⟩
  ·rw [List.pairwise_append]
   refine ⟨ih.1, ?_, ?_⟩
   ·rw [List.pairwise_map]
    have hu : (onL (R k) n).Pairwise (· < ·) := by
     unfold onL
     exact List.Pairwise.filter _ List.pairwise_lt_range
    exact hu.imp fun h => .inr ⟨rfl, by simpa using h⟩
   ·intro x hx y hy
    rw [List.mem_map] at hy
    obtain ⟨b, _, rfl⟩ := hy
    exact .inl (ih.2 x hx)
  ·intro x hx
   rcases List.mem_append.1 hx with hx | hx
   ·have := ih.2 x hx; omega
   ·rw [List.mem_map] at hx
    obtain ⟨b, _, rfl⟩ := hx
    show (k : Int) < ((k + 1 : Nat) : Int)
    omega
/-- A closure's pairs are an object. -/
theorem chk_cloG {L : List ByteArray} {n : Nat} {R : Nat → Nat → Bool} (h : labErr L = 0) (hl : L.length = n) (hs : Supp n R) : chk L (pairsL n (clo n R) n) = 0 := by
 subst hl
 refine chk_ok h ?_
 have h1 : risesB (pairsL L.length (clo L.length R) L.length) = true := by
  unfold risesB nbr
  rw [List.all_map, List.all_eq_true]
  intro i hi
  generalize hq : pairsL L.length (clo L.length R) L.length = q at *
  have hi' : i < q.length - 1 := by simpa using hi
  have h1 : i < q.length := by omega
  have h2 : i + 1 < q.length := by omega
  show ltP (q[i]?.getD (0, 0), q[i + 1]?.getD (0, 0)) = true
  rw [List.getElem?_eq_getElem h1, List.getElem?_eq_getElem h2]
  have hp := (pairsL_riseG L.length (clo L.length R) L.length).1
  rw [hq] at hp
  have := List.pairwise_iff_getElem.1 hp i (i + 1) h1 h2 (by omega)
  unfold ltP
  simpa using this
 have h2 : allIn L.length (pairsL L.length (clo L.length R) L.length) = true := by
  unfold allIn
  rw [List.all_eq_true]
  intro p hp
  simpa using pairsL_in p hp
 rw [h1, h2, ofL_pairsL (clo_supp hs)]
 cases hg : grewC L.length (clo L.length R) L.length
 ·rfl
 ·exact absurd (clo_clo hs) ((grewC_iff (clo_supp hs)).1 hg)

/-! Lines. -/
theorem atL_someG {ls : List Lne} {x : Ln} {k : Nat} (h : atL ls x = some k) : k < ls.length ∧ nID (ls[k]?.getD lne0) = x := by
 unfold atL at h
 rw [List.findIdx?_eq_some_iff_getElem] at h
 obtain ⟨hk, he, _⟩ := h
 refine ⟨hk, ?_⟩
 rw [List.getElem?_eq_getElem hk]
 simpa using he
theorem atL_st {ls : List Lne} (h : stL ls) {k : Nat} (hk : k < ls.length) : atL ls (nID (ls[k]?.getD lne0)) = some k := by
 unfold atL
 rw [List.getElem?_eq_getElem hk, List.findIdx?_eq_some_iff_getElem]
 refine ⟨hk, by simp, fun j hj => ?_⟩
 have hp := List.pairwise_iff_getElem.1 h j k (by omega) hk hj
 intro e
 rw [decide_eq_true_eq] at e
 rw [show nID ls[j] = nID ls[k] from e, linLn.irr] at hp
 cases hp
theorem atL_mark (ls : List Lne) (ys : List (Ln × Hk)) (x : Ln) : atL (markL ls ys) x = atL ls x := by
 unfold atL markL
 rw [List.findIdx?_map]
 rfl
theorem mark_get {ls : List Lne} {ys : List (Ln × Hk)} {k : Nat} (hk : k < ls.length) : (markL ls ys)[k]?.getD lne0 = (nID (ls[k]?.getD lne0), nTxt (ls[k]?.getD lne0), nDead (ls[k]?.getD lne0) || deadL ys (nID (ls[k]?.getD lne0))) := by
 unfold markL
 rw [List.getElem?_map, List.getElem?_eq_getElem hk]
 rfl
theorem mark_len (ls : List Lne) (ys : List (Ln × Hk)) : (markL ls ys).length = ls.length := by unfold markL; rw [List.length_map]
theorem relS_supp (ls : List Lne) (ys : List (Ln × Hk)) : Supp ls.length (relS ls ys) := by
 intro a b h
 unfold relS at h
 rw [List.any_eq_true] at h
 obtain ⟨y, _, h⟩ := h
 rw [List.any_eq_true] at h
 obtain ⟨e, _, h⟩ := h
 rw [Bool.and_eq_true, decide_eq_true_eq, decide_eq_true_eq] at h
 exact ⟨(atL_someG h.1).1, (atL_someG h.2).1⟩
theorem linesOfL_st {l : List Pt} (a : IsAll l) (path : ByteArray) : stL (linesOfL l path) := by
 obtain ⟨m, hm, hs⟩ := st_ex a.2
 rw [lines_of_st hm hs]
 exact linesG_st hs
theorem hksL_sub {path : ByteArray} {l m : List Pt} (h : ∀ x ∈ l, x ∈ m) : ∀ y ∈ hksL path l, y ∈ hksL path m := fun y hy => by
 obtain ⟨x, hx, e⟩ := hksL_mem hy
 exact List.mem_flatMap.2 ⟨x, h x hx, e⟩
theorem lines_sub {path : ByteArray} {l m : List Pt} (h : ∀ x ∈ l, x ∈ m) : ∀ x ∈ linesOfL l path, x ∈ linesOfL m path := fun x hx => by
 have h1 := (linesOfL_perm l path).mem_iff.1 hx
 obtain ⟨y, hy, e⟩ := List.mem_flatMap.1 h1
 exact (linesOfL_perm m path).mem_iff.2 (List.mem_flatMap.2 ⟨y, hksL_sub h y hy, e⟩)
theorem lines_txt {path : ByteArray} {l : List Pt} (a : IsAll l) : ∀ x ∈ linesOfL l path, (nTxt x).size ≤ 60 := fun x hx => by
 have h1 := (linesOfL_perm l path).mem_iff.1 hx
 obtain ⟨y, hy, e⟩ := List.mem_flatMap.1 h1
 obtain ⟨p, hp, hy⟩ := hksL_mem hy
 obtain ⟨i, hi, rfl, _⟩ := hksK_mem hy
 obtain ⟨j, hj, _, e2, _⟩ := addsK_mem e
 rw [e2]
 have hk := (a.1 p hp).hunks i hi
 rw [List.getElem?_eq_getElem hi] at hj ⊢
 exact (hk.adds _ (get_mem hj)).hi
theorem file_lab {l : List Pt} {s : ByteArray} (e : errL l = 0) (ht : s ∈ trackL l) : labErr ((fLines (fileL l s)).map nTxt) = 0 := by
 obtain ⟨ha, _, _, _, h40⟩ := errL_zero e
 have h1 : (linesOfL l s).length ≤ cntS l := by
  have := mem_cnt (List.mem_map.2 ⟨s, ht, rfl⟩ : fileL l s ∈ (trackL l).map (fileL l))
  rw [cntS_map] at this
  have h2 : (fLines (fileL l s)).length = (linesOfL l s).length := fileOf_len _ _ _
  omega
 have hm : (fLines (fileL l s)).map nTxt = (linesOfL l s).map nTxt := by
  show (markL (linesOfL l s) (hksL s l)).map nTxt = _
  unfold markL
  rw [List.map_map]
  rfl
 rw [hm]
 unfold labErr
 rw [List.length_map, if_neg (by omega), if_pos]
 rw [List.all_map, List.all_eq_true]
 intro x hx
 show decide ((nTxt x).size ≤ 60) = true
 exact decide_eq_true (lines_txt ha x hx)
theorem file_chk {l : List Pt} {s : ByteArray} (e : errL l = 0) (ht : s ∈ trackL l) : chk ((fLines (fileL l s)).map nTxt) (fPairs (fileL l s)) = 0 := by
 have hl : ((fLines (fileL l s)).map nTxt).length = (linesOfL l s).length := by
  rw [List.length_map]
  exact fileOf_len _ _ _
 exact chk_cloG (file_lab e ht) hl (relS_supp _ _)
/-- What was there is there still. -/
theorem line_stays {l m : List Pt} {s : ByteArray} (h : ∀ x ∈ l, x ∈ m) (a : IsAll m) {j : Nat} (hj : j < (linesOfL l s).length) :
  ∃ k, k < (linesOfL m s).length ∧ atL (linesOfL m s) (nID ((linesOfL l s)[j]?.getD lne0)) = some k ∧ (linesOfL m s)[k]?.getD lne0 = (linesOfL l s)[j]?.getD lne0 := by
 obtain ⟨k, hk, e⟩ := mem_get (d := lne0) (lines_sub h _ (get_mem (d := lne0) hj))
 refine ⟨k, hk, ?_, e⟩
 rw [← e]
 exact atL_st (linesOfL_st a s) hk
theorem file_stays {l m : List Pt} {s : ByteArray} (h : ∀ x ∈ l, x ∈ m) (a : IsAll m) {j : Nat} (hj : j < (fLines (fileL l s)).length) :
  ∃ k, k < (fLines (fileL m s)).length ∧ atV (fLines (fileL m s)) (nID ((fLines (fileL l s))[j]?.getD lne0)) = (k : Int) ∧ nTxt ((fLines (fileL m s))[k]?.getD lne0) = nTxt ((fLines (fileL l s))[j]?.getD lne0) ∧
   (nDead ((fLines (fileL l s))[j]?.getD lne0) = true → nDead ((fLines (fileL m s))[k]?.getD lne0) = true) := by
 have hj' : j < (linesOfL l s).length := by rwa [show (fLines (fileL l s)).length = (linesOfL l s).length from fileOf_len _ _ _] at hj
 obtain ⟨k, hk, e1, e2⟩ := line_stays h a hj'
 refine ⟨k, by rwa [show (fLines (fileL m s)).length = (linesOfL m s).length from fileOf_len _ _ _], ?_, ?_, ?_⟩
 ·show atV (markL (linesOfL m s) (hksL s m)) (nID ((markL (linesOfL l s) (hksL s l))[j]?.getD lne0)) = _
  rw [mark_get hj']
  unfold atV
  rw [atL_mark, show nID (nID ((linesOfL l s)[j]?.getD lne0), nTxt ((linesOfL l s)[j]?.getD lne0), nDead ((linesOfL l s)[j]?.getD lne0) || deadL (hksL s l) (nID ((linesOfL l s)[j]?.getD lne0))) = nID ((linesOfL l s)[j]?.getD lne0) from rfl, e1]
 ·show nTxt ((markL (linesOfL m s) (hksL s m))[k]?.getD lne0) = nTxt ((markL (linesOfL l s) (hksL s l))[j]?.getD lne0)
  rw [mark_get hj', mark_get hk, e2]
 ·show nDead ((markL (linesOfL l s) (hksL s l))[j]?.getD lne0) = true → nDead ((markL (linesOfL m s) (hksL s m))[k]?.getD lne0) = true
  rw [mark_get hj', mark_get hk, e2]
  show (nDead ((linesOfL l s)[j]?.getD lne0) || deadL (hksL s l) (nID ((linesOfL l s)[j]?.getD lne0))) = true → (nDead ((linesOfL l s)[j]?.getD lne0) || deadL (hksL s m) (nID ((linesOfL l s)[j]?.getD lne0))) = true
  rw [Bool.or_eq_true, Bool.or_eq_true]
  rintro (h1 | h1)
  ·exact .inl h1
  ·right
   unfold deadL at h1 ⊢
   rw [List.any_eq_true] at h1 ⊢
   obtain ⟨y, hy, e⟩ := h1
   exact ⟨y, hksL_sub h y hy, e⟩
theorem file_arrow {l m : List Pt} {s : ByteArray} (h : ∀ x ∈ l, x ∈ m) (e1 : errL l = 0) (e2 : errL m = 0) (t1 : s ∈ trackL l) (t2 : s ∈ trackL m) {n : Nat} (hn : (fLines (fileL l s)).length = n) :
  arB ((fLines (fileL l s)).map nTxt) (fPairs (fileL l s)) ((fLines (fileL m s)).map nTxt) (fPairs (fileL m s)) (legK (fLines (fileL l s)) (fLines (fileL m s)) n) = true := by
 have a := (errL_zero e2).1
 have hlen : (fLines (fileL l s)).length = (linesOfL l s).length := fileOf_len _ _ _
 have hlen' : (fLines (fileL m s)).length = (linesOfL m s).length := fileOf_len _ _ _
 have hg : ∀ j, j < n → (legK (fLines (fileL l s)) (fLines (fileL m s)) n)[j]?.getD 0 = atV (fLines (fileL m s)) (nID ((fLines (fileL l s))[j]?.getD lne0)) := fun j hj => by
  unfold legK
  rw [List.getElem?_map, List.getElem?_take_of_lt hj, List.getElem?_eq_getElem (by omega)]
  rfl
 have hlk : (legK (fLines (fileL l s)) (fLines (fileL m s)) n).length = n := legK_len (by omega)
 refine arB_mk (file_chk e1 t1) (file_chk e2 t2) (by rw [hlk, List.length_map, hn]) (fun i hi => ?_) (fun x hx => ?_)
 ·rw [hlk] at hi
  obtain ⟨k, hk, q1, q2, _⟩ := file_stays (s := s) h a (j := i) (by omega)
  rw [hg i hi, q1]
  refine ⟨hasZ_iff.2 ⟨by omega, by rw [List.length_map]; omega⟩, ?_⟩
  have mapget : ∀ (ls : List Lne) (i : Nat), i < ls.length → (ls.map nTxt)[i]?.getD .empty = nTxt (ls[i]?.getD lne0) := fun ls i hi => by
   rw [List.getElem?_map, List.getElem?_eq_getElem hi]
   rfl
  rw [Int.toNat_natCast, mapget _ _ hk, mapget _ _ (by omega), q2]
 ·have hx' : x ∈ pairsL (linesOfL l s).length (clo (linesOfL l s).length (relS (linesOfL l s) (hksL s l))) (linesOfL l s).length := hx
  obtain ⟨x1, x2⟩ := x
  have hin := pairsL_in _ hx'
  obtain ⟨a1, rfl⟩ := Int.eq_ofNat_of_zero_le hin.1
  obtain ⟨a2, rfl⟩ := Int.eq_ofNat_of_zero_le hin.2.2.1
  obtain ⟨h1, h2, hR⟩ := pairsL_mem.1 hx'
  show ((legK _ _ n)[((a1 : Int)).toNat]?.getD 0, (legK _ _ n)[((a2 : Int)).toNat]?.getD 0) ∈ pairsL (linesOfL m s).length (clo (linesOfL m s).length (relS (linesOfL m s) (hksL s m))) (linesOfL m s).length
  rw [Int.toNat_natCast, Int.toNat_natCast, hg a1 (by omega), hg a2 (by omega)]
  have hnid : ∀ j, j < (linesOfL l s).length → nID ((fLines (fileL l s))[j]?.getD lne0) = nID ((linesOfL l s)[j]?.getD lne0) := fun j hj => by
   show nID ((markL (linesOfL l s) (hksL s l))[j]?.getD lne0) = _
   rw [mark_get hj]
  have hav : ∀ x, atV (fLines (fileL m s)) x = atV (linesOfL m s) x := fun x => by
   show atV (markL (linesOfL m s) (hksL s m)) x = _
   unfold atV
   rw [atL_mark]
  rw [hnid _ h1, hnid _ h2, hav, hav]
  have hsub : Sub (clo (linesOfL l s).length (relS (linesOfL l s) (hksL s l))) (fun c d => decide (((atV (linesOfL m s) (nID ((linesOfL l s)[c]?.getD lne0))), (atV (linesOfL m s) (nID ((linesOfL l s)[d]?.getD lne0)))) ∈ pairsL (linesOfL m s).length (clo (linesOfL m s).length (relS (linesOfL m s) (hksL s m))) (linesOfL m s).length)) := by
   refine clo_least ?_ ?_
   ·intro c d hcd
    have hs2 := relS_supp _ _ _ _ hcd
    unfold relS at hcd
    rw [List.any_eq_true] at hcd
    obtain ⟨y, hy, hcd⟩ := hcd
    rw [List.any_eq_true] at hcd
    obtain ⟨e, he, hcd⟩ := hcd
    rw [Bool.and_eq_true, decide_eq_true_eq, decide_eq_true_eq] at hcd
    obtain ⟨k1, hk1, p1, _⟩ := line_stays (s := s) h a hs2.1
    obtain ⟨k2, hk2, p2, _⟩ := line_stays (s := s) h a hs2.2
    rw [decide_eq_true_eq]
    unfold atV
    rw [p1, p2]
    refine pairsL_mem.2 ⟨hk1, hk2, clo_sub _ _ _ _ ?_⟩
    unfold relS
    rw [List.any_eq_true]
    refine ⟨y, hksL_sub h y hy, ?_⟩
    rw [List.any_eq_true]
    refine ⟨e, he, ?_⟩
    rw [(atL_someG hcd.1).2] at p1
    rw [(atL_someG hcd.2).2] at p2
    rw [p1, p2]
    simp
   ·intro b c d hbc hcd
    rw [decide_eq_true_eq] at hbc hcd ⊢
    have i1 := pairsL_in _ hbc
    have i2 := pairsL_in _ hcd
    obtain ⟨u1, e1⟩ := Int.eq_ofNat_of_zero_le i1.1
    obtain ⟨u2, e2⟩ := Int.eq_ofNat_of_zero_le i1.2.2.1
    obtain ⟨u3, e3⟩ := Int.eq_ofNat_of_zero_le i2.2.2.1
    replace e1 : atV (linesOfL m s) (nID ((linesOfL l s)[b]?.getD lne0)) = ((u1 : Nat) : Int) := e1
    replace e2 : atV (linesOfL m s) (nID ((linesOfL l s)[c]?.getD lne0)) = ((u2 : Nat) : Int) := e2
    replace e3 : atV (linesOfL m s) (nID ((linesOfL l s)[d]?.getD lne0)) = ((u3 : Nat) : Int) := e3
    rw [e1, e2] at hbc
    rw [e2, e3] at hcd
    rw [e1, e3]
    have m1 := pairsL_mem.1 hbc
    have m2 := pairsL_mem.1 hcd
    exact pairsL_mem.2 ⟨m1.1, m2.2.1, clo_trans (relS_supp _ _) _ _ _ m1.2.2 m2.2.2⟩
  exact of_decide_eq_true (hsub a1 a2 hR)
theorem file_ok {l : List Pt} {s : ByteArray} (hf : ∀ x ∈ l, PFew x) (hid : ∀ x ∈ l, pID x < 4294967296) : ∀ x ∈ fLines (fileL l s), OkK (nID x) := fun x hx => by
 obtain ⟨y, hy, rfl⟩ := List.mem_map.1 (show x ∈ markL (linesOfL l s) (hksL s l) from hx)
 exact linesG_ok hf hid y ((linesOfL_perm l s).mem_iff.1 hy)
theorem find_file {l : List Pt} {s : ByteArray} {f : Fl} (e : errL l = 0) (h : findL (filesL l) s = some f) : s ∈ trackL l ∧ f = fileL l s := by
 have hp := find_path h
 have hm : f ∈ filesL l := List.mem_of_find?_eq_some h
 rw [filesL_ok e] at hm
 obtain ⟨t, ht, rfl⟩ := List.mem_map.1 hm
 obtain rfl : t = s := hp
 exact ⟨ht, rfl⟩
/-- The first patches. -/
theorem pts_take {w : World} {lo hi n m : Nat} {p : Option Addr} {l : List Pt} (h : PtsAt w lo hi p n l) (hm : m ≤ n) : PtsAt w lo hi p m (l.take m) :=
 ⟨by rw [List.length_take, h.len]; omega, fun hp => by
  obtain ⟨b, off, e, h1, h2, h3, hc⟩ := h.cell (by omega)
  refine ⟨b, off, e, h1, h2, h3, fun i hi => ?_⟩
  have := hc i (by omega)
  rwa [← List.getElem?_take_of_lt (l := l) hi] at this⟩
theorem filesL_few13 {l : List Pt} : (filesL l).length ≤ 6 ∧ ∀ f ∈ filesL l, (fLines f).length ≤ 100000 ∧ (fPairs f).length ≤ 100000 := by
 refine ⟨filesL_few.1, fun f hf => ?_⟩
 by_cases e : errL l = 0
 ·have h40 := (errL_zero e).2.2.2.2
  rw [filesL_ok e] at hf
  have hc := mem_cnt hf
  rw [cntS_map] at hc
  obtain ⟨s, _, rfl⟩ := List.mem_map.1 hf
  have hl : (fLines (fileL l s)).length = (linesOfL l s).length := fileOf_len _ _ _
  have hp : (fPairs (fileL l s)).length ≤ (linesOfL l s).length * (linesOfL l s).length := pairsL_few _ _ _
  have hm : (linesOfL l s).length * (linesOfL l s).length ≤ 40 * 40 := Nat.mul_le_mul (by omega) (by omega)
  omega
 ·rw [filesL_err e] at hf
  cases hf
/-- What was there is there still, file by file. -/
structure UpF (F X : Fl) : Prop where
 st : ∀ j, j < (fLines F).length → ∃ k, k < (fLines X).length ∧ atV (fLines X) (nID ((fLines F)[j]?.getD lne0)) = (k : Int) ∧ nTxt ((fLines X)[k]?.getD lne0) = nTxt ((fLines F)[j]?.getD lne0) ∧ (nDead ((fLines F)[j]?.getD lne0) = true → nDead ((fLines X)[k]?.getD lne0) = true)
 ar : arB ((fLines F).map nTxt) (fPairs F) ((fLines X).map nTxt) (fPairs X) (legK (fLines F) (fLines X) (fLines F).length) = true
 kf : ∀ x ∈ fLines F, OkK (nID x)
 kx : ∀ x ∈ fLines X, OkK (nID x)
theorem zsAt_ownG {w : World} {base : Nat} {v : Value} {l : List Int} (h : w.ownsRow base 3 1 v l.length (zcells l)) :
  ∃ p c, v = .slice p l.length c ∧ ZsAt w base w.heap.size p l.length l := by
 rcases h.2 with ⟨rfl, h0⟩ | ⟨g, cap, cur, rfl, hb, hg, _⟩
 ·rw [h0]; exact ⟨none, 0, rfl, h0, fun h => absurd h (by omega)⟩
 ·refine ⟨_, cap, rfl, rfl, fun hn => ⟨g, 0, rfl, hb, (Array.getElem?_eq_some_iff.1 hg).1, Nat.le_refl _, fun k hk => ?_⟩⟩
  have hz : (zcells l)[k]? = some (.int .i64 (l[k]?.getD 0)) := by
   unfold zcells
   rw [List.getElem?_map, List.getElem?_eq_getElem hk]
   rfl
  have hc := h.cells (g := g) rfl k _ hz
  rw [add_off] at hc
  exact hc
theorem leg_ok {F X : Fl} (hu : UpF F X) {nl : Nat} (hn : (fLines F).length = nl) {w : World} {e : Ending} {w' : World} (h : w.grownBy w' none ∧ ((∃ v, e = .returned (.tuple #[v, .bool true]) ∧ (∀ j, j < nl → 0 ≤ atV (fLines X) (nID ((fLines F)[j]?.getD lne0))) ∧ w'.ownsRow (w.heap.size + 2) 3 1 v nl (zcells (legK (fLines F) (fLines X) nl))) ∨
   (e = .returned (.tuple #[.slice none 0 0, .bool false]) ∧ ∃ j, j < nl ∧ atV (fLines X) (nID ((fLines F)[j]?.getD lne0)) < 0))) :
  ∃ p c, e = .returned (.tuple #[.slice p nl c, .bool true]) ∧ ZsAt w' (w.heap.size + 2) w'.heap.size p nl (legK (fLines F) (fLines X) nl) ∧ w.grownBy w' none := by
 obtain ⟨hg, ⟨v, rfl, _, hrow⟩ | ⟨_, j, hj, hlt⟩⟩ := h
 ·have hk : (legK (fLines F) (fLines X) nl).length = nl := legK_len (by omega)
  have hrow' : w'.ownsRow (w.heap.size + 2) 3 1 v (legK (fLines F) (fLines X) nl).length (zcells (legK (fLines F) (fLines X) nl)) := by rw [hk]; exact hrow
  obtain ⟨p, c, rfl, hz⟩ := zsAt_ownG hrow'
  rw [hk] at hz
  exact ⟨p, c, by rw [hk], hz, hg⟩
 ·obtain ⟨k, _, e, _⟩ := hu.st j (by omega)
  omega
theorem legK_atG {a b : List Lne} {k j : Nat} (hj : j < k) (hk : k ≤ a.length) : (legK a b k)[j]?.getD 0 = atV b (nID (a[j]?.getD lne0)) := by
 unfold legK
 rw [List.getElem?_map, List.getElem?_take_of_lt hj, List.getElem?_eq_getElem (by omega)]
 rfl
/-- What a round of StateGrows has at hand. -/
structure GroE (w0 W : World) (ba oi : Nat) (F : Fl) (loF hiF : Nat) (pl : Option Addr) (nl cl : Nat) (pp : Option Addr) (np cp : Nat) (g5 : Nat) (X : Fl) (loX hiX : Nat) (ql : Option Addr) (ml dl : Nat) (qp : Option Addr) (mp dp : Nat) : Prop where
 c0 : W.cell? ⟨ba, oi, none⟩ = some (.string (fPath F))
 c1 : W.cell? ⟨ba, oi + 1, none⟩ = some (.slice pl nl cl)
 c2 : W.cell? ⟨ba, oi + 2, none⟩ = some (.slice pp np cp)
 f : FlAt W loF hiF pl nl cl pp np cp F
 x : FlAt W loX hiX ql ml dl qp mp dp X
 bx : BoxV W g5 [.string (fPath X), .slice ql ml dl, .slice qp mp dp] 35
 g : w0.grownBy W none
theorem GroE.calm {w0 W W' : World} {ba oi : Nat} {F : Fl} {loF hiF : Nat} {pl : Option Addr} {nl cl : Nat} {pp : Option Addr} {np cp : Nat} {g5 : Nat} {X : Fl} {loX hiX : Nat} {ql : Option Addr} {ml dl : Nat} {qp : Option Addr} {mp dp : Nat}
  (h : GroE w0 W ba oi F loF hiF pl nl cl pp np cp g5 X loX hiX ql ml dl qp mp dp) (hg : W.grownBy W' none) : GroE w0 W' ba oi F loF hiF pl nl cl pp np cp g5 X loX hiX ql ml dl qp mp dp :=
 ⟨cell_calmQ hg h.c0, cell_calmQ hg h.c1, cell_calmQ hg h.c2, h.f.calm hg, h.x.calm hg, h.bx.calm hg, grownBy_trans h.g hg⟩
theorem grow_up {l : List Pt} {m : Nat} (hf : ∀ x ∈ l, PFew x) (hn : ∀ x ∈ l, NumP x) : errL (l.take m) = 0 → errL l = 0 → ∀ F ∈ filesL (l.take m), ∀ X, findL (filesL l) (fPath F) = some X → UpF F X := by
 intro e1 e2 F hF X hX
 rw [filesL_ok e1] at hF
 obtain ⟨s, hs, rfl⟩ := List.mem_map.1 hF
 obtain ⟨ht, rfl⟩ := find_file e2 hX
 have hsub : ∀ x ∈ l.take m, x ∈ l := fun x hx => List.mem_of_mem_take hx
 have a2 := (errL_zero e2).1
 exact ⟨fun j hj => file_stays hsub a2 hj, file_arrow hsub e1 e2 hs ht rfl, file_ok (fun x hx => hf x (hsub x hx)) (fun x hx => (hn x (hsub x hx)).1), file_ok hf (fun x hx => (hn x hx).1)⟩

end Go.Proofs.YtnknejokneddbaaGreatDoor
