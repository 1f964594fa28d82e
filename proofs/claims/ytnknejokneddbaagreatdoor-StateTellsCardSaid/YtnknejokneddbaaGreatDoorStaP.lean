/- Plain: what patches make. -/
import Derived.Test.YtnknejokneddbaaGreatDoorAl
import Derived.Test.YtnknejokneddbaaGreatDoorRefSi
namespace Go.Proofs.YtnknejokneddbaaGreatDoor
def hksK (path : ByteArray) (x : Pt) : Nat -> List (Ln × Hk)
 | 0 => []
 | k + 1 => hksK path x k ++ (if hPath ((pHunks x)[k]?.getD hk0) = path then [((pID x, ((addsN (pHunks x) k : Nat) : Int)), (pHunks x)[k]?.getD hk0)] else [])
def hksOf (path : ByteArray) (x : Pt) : List (Ln × Hk) := hksK path x (pHunks x).length
def hksL (path : ByteArray) (l : List Pt) : List (Ln × Hk) := l.flatMap (hksOf path)
def addsK (y : Ln × Hk) (k : Nat) : List Lne := (List.range k).map fun i : Nat => ((y.1.1, y.1.2 + (i : Int)), (hAdds y.2)[i]?.getD .empty, false)
def addsOf (y : Ln × Hk) : List Lne := addsK y (hAdds y.2).length
def linesG (path : ByteArray) (l : List Pt) : List Lne := (hksL path l).flatMap addsOf
theorem addsK_succ (y : Ln × Hk) (k : Nat) : addsK y (k + 1) = addsK y k ++ [((y.1.1, y.1.2 + (k : Int)), (hAdds y.2)[k]?.getD .empty, false)] := by
 unfold addsK
 rw [List.range_succ, Xj]
 rfl
theorem addsOf_len (y : Ln × Hk) : (addsOf y).length = (hAdds y.2).length := by simp [addsOf, addsK]
theorem insL_perm (ls : List Lne) (x : Lne) : (insL ls x).Perm (x :: ls) := by
 unfold insL
 refine List.perm_middle.trans (List.Perm.cons x ?_)
 rw [List.takeWhile_append_dropWhile]
theorem putAdds_perm (path : ByteArray) (id : Nat) (h : Hk) (n : Nat) (ls : List Lne) (k : Nat) :
  (putAdds path id h n ls k).Perm (ls ++ if hPath h = path then addsK ((id, (n : Int)), h) k else []) := by
 induction k with
 | zero => simp [putAdds, addsK]
 | succ k ih =>
  unfold putAdds
  by_cases e : hPath h = path
  ·rw [if_pos e] at ih ⊢
   rw [if_pos e, addsK_succ, <- Xa]
   refine (insL_perm _ _).trans ((List.Perm.cons _ ih).trans ?_)
   have : (((id, ((n + k : Nat) : Int)), (hAdds h)[k]?.getD .empty, false) : Lne) = ((id, (n : Int) + (k : Int)), (hAdds h)[k]?.getD .empty, false) := by rw [Vo]
   rw [this]
   exact (List.perm_append_singleton _ _).symm
  ·rw [if_neg e] at ih ⊢
   rw [if_neg e]
   exact ih
theorem putHks_perm (path : ByteArray) (x : Pt) (ls : List Lne) (k : Nat) : (putHks path x ls k).Perm (ls ++ (hksK path x k).flatMap addsOf) := by
 induction k with
 | zero => simp [putHks, hksK]
 | succ k ih =>
  unfold putHks hksK
  rw [List.flatMap_append, <- Xa]
  refine (putAdds_perm _ _ _ _ _ _).trans (ih.append ?_)
  by_cases e : hPath ((pHunks x)[k]?.getD hk0) = path
  ·rw [if_pos e, if_pos e]
   simp [addsOf]
  ·rw [if_neg e, if_neg e]
   simp
theorem putPts_perm (path : ByteArray) (l : List Pt) : ∀ k, k <= l.length -> (putPts path l k).Perm (linesG path (l.take k))
 | 0, _ => by simp [putPts, linesG, hksL]
 | k + 1, hk => by
  have ih := putPts_perm path l k (by omega)
  unfold putPts
  refine (putHks_perm _ _ _ _).trans ?_
  unfold linesG hksL at ih ⊢
  rw [flat_take _ (by omega) pt0, List.flatMap_append]
  exact ih.append (List.Perm.refl _)
theorem linesOfL_perm (l : List Pt) (path : ByteArray) : (linesOfL l path).Perm (linesG path l) := by
 have := putPts_perm path l l.length (Zc _)
 rwa [List.take_length] at this
def wkL (l : List Lne) : Prop := l.Pairwise fun a b => ltLn (nID b) (nID a) = false
theorem insL_wk {ls : List Lne} {x : Lne} (h : wkL ls) : wkL (insL ls x) := by
 have hs : wkL (ls.takeWhile (fun y => ltLn (nID y) (nID x)) ++ ls.dropWhile (fun y => ltLn (nID y) (nID x))) := by rw [List.takeWhile_append_dropWhile]; exact h
 have h3 := Vj.1 hs
 have hd : ∀ {l : List Lne}, wkL l -> ∀ y ∈ l.dropWhile (fun y => ltLn (nID y) (nID x)), ltLn (nID y) (nID x) = false := by
  intro l
  induction l with
  | nil => intro _ y hy; cases hy
  | cons a l ih =>
   intro hw y hy
   have hc := Vn.1 hw
   rw [List.dropWhile_cons] at hy
   split at hy
   ·exact ih hc.2 y hy
   ·rename_i hp
    rcases List.mem_cons.1 hy with rfl | hy
    ·simpa using hp
    ·cases e : ltLn (nID y) (nID x)
     ·rfl
     ·have h1 := hc.1 y hy
      by_cases e2 : nID a = nID y
      ·rw [e2] at hp; exact absurd e hp
      ·rcases linLn.tot _ _ e2 with h4 | h4
       ·exact absurd (linLn.tr _ _ _ h4 e) hp
       ·rw [h1] at h4; cases h4
 refine Vj.2 ⟨h3.1, Vn.2 ⟨fun y hy => hd h y hy, h3.2.1⟩, fun a ha b hb => ?_⟩
 rcases List.mem_cons.1 hb with rfl | hb
 ·exact linLn.not (takeW_all (p := fun y => ltLn (nID y) (nID _)) ha)
 ·exact h3.2.2 a ha b hb
theorem putAdds_wk {path : ByteArray} {id : Nat} {h : Hk} {n : Nat} {ls : List Lne} (hw : wkL ls) : ∀ k, wkL (putAdds path id h n ls k)
 | 0 => hw
 | k + 1 => by
  unfold putAdds
  split
  ·exact insL_wk (putAdds_wk hw k)
  ·exact putAdds_wk hw k
theorem putHks_wk {path : ByteArray} {x : Pt} {ls : List Lne} (hw : wkL ls) : ∀ k, wkL (putHks path x ls k)
 | 0 => hw
 | k + 1 => putAdds_wk (putHks_wk hw k) _
theorem putPts_wk {path : ByteArray} {l : List Pt} : ∀ k, wkL (putPts path l k)
 | 0 => Vb
 | k + 1 => putHks_wk (putPts_wk k) _
theorem linesOfL_wk (l : List Pt) (path : ByteArray) : wkL (linesOfL l path) := putPts_wk _
def stL (l : List Lne) : Prop := l.Pairwise fun a b => ltLn (nID a) (nID b) = true
def stP (l : List Pt) : Prop := l.Pairwise fun a b => pID a < pID b
def wkP (l : List Pt) : Prop := l.Pairwise fun a b => pID a <= pID b
theorem addsK_mem {y : Ln × Hk} {k : Nat} {x : Lne} (h : x ∈ addsK y k) : ∃ i, i < k /\ nID x = (y.1.1, y.1.2 + (i : Int)) /\ nTxt x = (hAdds y.2)[i]?.getD .empty /\ nDead x = false := by
 unfold addsK at h
 rw [Yi] at h
 obtain ⟨i, hi, rfl⟩ := h
 exact ⟨i, List.mem_range.1 hi, rfl, rfl, rfl⟩
theorem addsK_st (y : Ln × Hk) (k : Nat) : stL (addsK y k) := by
 unfold addsK stL
 rw [Vi]
 refine List.Pairwise.imp ?_ List.pairwise_lt_range
 intro a b hab0
 have hab : a < b := hab0
 have h2 : y.1.2 + (a : Int) < y.1.2 + (b : Int) := by omega
 show (decide (y.1.1 < y.1.1) || (decide (y.1.1 = y.1.1) && decide (y.1.2 + (a : Int) < y.1.2 + (b : Int)))) = true
 rw [Zg h2]
 simp
theorem hksK_mem {path : ByteArray} {x : Pt} {y : Ln × Hk} : ∀ {k : Nat}, y ∈ hksK path x k -> ∃ i, i < k /\ y = ((pID x, ((addsN (pHunks x) i : Nat) : Int)), (pHunks x)[i]?.getD hk0) /\ hPath ((pHunks x)[i]?.getD hk0) = path
 | 0, h => by cases h
 | k + 1, h => by
  unfold hksK at h
  rcases Va.1 h with h | h
  ·obtain ⟨i, hi, e⟩ := hksK_mem h
   exact ⟨i, by omega, e⟩
  ·split at h
   ·rename_i hp
    exact ⟨k, by omega, Yu.1 h, hp⟩
   ·cases h
theorem addsN_mono {hs : List Hk} : ∀ {i k : Nat}, i <= k -> addsN hs i <= addsN hs k
 | i, 0, h => by obtain rfl : i = 0 := by omega
                 exact Zc _
 | i, k + 1, h => by
  by_cases e : i = k + 1
  ·subst e; exact Zc _
  ·have ih := addsN_mono (hs := hs) (i := i) (k := k) (by omega)
   refine Zn ih ?_
   by_cases hk : k < hs.length
   ·rw [addsN_succ hk]; omega
   ·unfold addsN
    rw [Yl (by omega), Yl (by omega)]
    exact Zc _
theorem addsN_next {hs : List Hk} {i k : Nat} (hi : i < hs.length) (hk : i < k) : addsN hs i + (hAdds (hs[i]?.getD hk0)).length <= addsN hs k := by
 have := addsN_succ hi
 have h2 := addsN_mono (hs := hs) (i := i + 1) (k := k) (by omega)
 rw [Zm hi]
 show _ + (hAdds (hs[i])).length <= _
 omega
theorem hksK_st {path : ByteArray} {x : Pt} : ∀ {k : Nat}, k <= (pHunks x).length -> (hksK path x k).Pairwise fun a b => a.1.1 = b.1.1 /\ a.1.2 + ((hAdds a.2).length : Int) <= b.1.2
 | 0, _ => Vb
 | k + 1, hk => by
  unfold hksK
  refine Vj.2 ⟨hksK_st (by omega), ?_, fun a ha b hb => ?_⟩
  ·split
   ·exact Vg ..
   ·exact Vb
  ·split at hb
   ·obtain rfl := Yu.1 hb
    obtain ⟨i, hi, rfl, _⟩ := hksK_mem ha
    refine ⟨rfl, ?_⟩
    have := addsN_next (hs := pHunks x) (i := i) (k := k) (by omega) hi
    show ((addsN (pHunks x) i : Nat) : Int) + ((hAdds ((pHunks x)[i]?.getD hk0)).length : Int) <= ((addsN (pHunks x) k : Nat) : Int)
    omega
   ·cases hb
theorem hksOf_id {path : ByteArray} {x : Pt} {y : Ln × Hk} (h : y ∈ hksOf path x) : y.1.1 = pID x := by
 obtain ⟨i, _, rfl, _⟩ := hksK_mem h
 rfl
theorem hksL_mem {path : ByteArray} {l : List Pt} {y : Ln × Hk} (h : y ∈ hksL path l) : ∃ x ∈ l, y ∈ hksOf path x := Vf.1 h
theorem linesG_st {path : ByteArray} {l : List Pt} (h : stP l) : stL (linesG path l) := by
 unfold linesG stL
 rw [List.pairwise_flatMap]
 refine ⟨fun y _ => addsK_st y _, ?_⟩
 unfold hksL
 rw [List.pairwise_flatMap]
 refine ⟨fun x _ => ?_, ?_⟩
 ·refine List.Pairwise.imp ?_ (hksK_st (Zc _))
  rintro a b ⟨h1, h2⟩ u hu v hv
  obtain ⟨i, hi, e1, _⟩ := addsK_mem hu
  obtain ⟨j, hj, e2, _⟩ := addsK_mem hv
  rw [e1, e2]
  simp only [ltLn, Bool.or_eq_true, Yv, Yb]
  omega
 ·refine List.Pairwise.imp ?_ h
  intro a b hab y hy z hz u hu v hv
  have h1 := hksOf_id hy
  have h2 := hksOf_id hz
  obtain ⟨i, hi, e1, _⟩ := addsK_mem hu
  obtain ⟨j, hj, e2, _⟩ := addsK_mem hv
  rw [e1, e2]
  simp only [ltLn, Bool.or_eq_true, Yv, Yb]
  omega
theorem st_wk {l : List Lne} (h : stL l) : wkL l := List.Pairwise.imp (fun h => linLn.not h) h
theorem st_key {l : List Lne} (h : stL l) {a b : Lne} (ha : a ∈ l) (hb : b ∈ l) (e : nID a = nID b) : a = b := by
 obtain ⟨i, hi, rfl⟩ := Xw ha
 obtain ⟨j, hj, rfl⟩ := Xw hb
 have hp := Vl.1 h
 rcases Nat.lt_trichotomy i j with h1 | rfl | h1
 ·have := hp i j hi hj h1
  rw [e, linLn.irr] at this
  cases this
 ·rfl
 ·have := hp j i hj hi h1
  rw [e, linLn.irr] at this
  cases this
theorem perm_uniq {l l' : List Lne} (hp : l.Perm l') (h1 : wkL l) (h2 : stL l') : l = l' := by
 refine List.Perm.eq_of_pairwise (le := fun a b => ltLn (nID b) (nID a) = false) ?_ h1 (st_wk h2) hp
 intro a b ha hb hab hba
 have e : nID a = nID b := by
  by_cases e : nID a = nID b
  ·exact e
  ·rcases linLn.tot _ _ e with h | h
   ·rw [hba] at h; cases h
   ·rw [hab] at h; cases h
 exact st_key h2 (hp.mem_iff.1 ha) hb e
theorem lines_of_st {l l' : List Pt} {path : ByteArray} (hp : l'.Perm l) (h : stP l') : linesOfL l path = linesG path l' :=
 perm_uniq ((linesOfL_perm l path).trans (by unfold linesG hksL; exact (hp.symm.flatMap_right _).flatMap_right _)) (linesOfL_wk _ _) (linesG_st h)
theorem st_ex {l : List Pt} (h : (l.map pID).Nodup) : ∃ l', l'.Perm l /\ stP l' := by
 refine ⟨l.mergeSort fun a b => decide (pID a <= pID b), List.mergeSort_perm _ _, ?_⟩
 have hs := List.pairwise_mergeSort (le := fun a b : Pt => decide (pID a <= pID b)) (fun a b c h1 h2 => by
  simp only [Yb] at *
  omega) (fun a b => by
  simp only [Bool.or_eq_true, Yb]
  omega) l
 have hn : (l.mergeSort fun a b => decide (pID a <= pID b)).Pairwise fun a b => pID a ≠ pID b := by
  have := (List.Perm.map pID (List.mergeSort_perm l fun a b => decide (pID a <= pID b))).symm.nodup h
  unfold List.Nodup at this
  rwa [Vi] at this
 refine List.Pairwise.imp ?_ (hs.and hn)
 rintro a b ⟨h1, h2⟩
 simp only [Yb] at h1
 omega
def deadL (ys : List (Ln × Hk)) (x : Ln) : Bool := ys.any fun y => (hKills y.2).any fun k => decide (k = x)
def relS (ls : List Lne) (ys : List (Ln × Hk)) (a b : Nat) : Bool := ys.any fun y => (hEdges y.2).any fun e => decide (atL ls e.1 = some a) && decide (atL ls e.2 = some b)
def markL (ls : List Lne) (ys : List (Ln × Hk)) : List Lne := ls.map fun x => (nID x, nTxt x, nDead x || deadL ys (nID x))
def fileOf (path : ByteArray) (ls : List Lne) (ys : List (Ln × Hk)) : Fl := (path, markL ls ys, pairsL ls.length (clo ls.length (relS ls ys)) ls.length)
def fileL (l : List Pt) (path : ByteArray) : Fl := fileOf path (linesOfL l path) (hksL path l)
def IsAll (l : List Pt) : Prop := (∀ x ∈ l, IsPt x) /\ (l.map pID).Nodup
def cntL (l : List Fl) : Nat := (l.map fun f => (fLines f).length).sum
def cntS (l : List Pt) : Nat := ((trackL l).map fun s => (linesOfL l s).length).sum
open Classical in
noncomputable def errL (l : List Pt) : Nat := if ¬ IsAll l then 10 else if ¬ ClosedL l then 17 else if 60 < l.length ∨ 6 < (trackL l).length ∨ 40 < cntS l then 11 else 0
noncomputable def filesL (l : List Pt) : List Fl := if errL l = 0 then (trackL l).map (fileL l) else []
theorem deadL_perm {ys zs : List (Ln × Hk)} (h : ys.Perm zs) : deadL ys = deadL zs := by
 funext x
 unfold deadL
 rw [Bool.eq_iff_iff, List.any_eq_true, List.any_eq_true]
 constructor <;> rintro ⟨y, hy, e⟩
 ·exact ⟨y, h.mem_iff.1 hy, e⟩
 ·exact ⟨y, h.mem_iff.2 hy, e⟩
theorem relS_perm {ls : List Lne} {ys zs : List (Ln × Hk)} (h : ys.Perm zs) : relS ls ys = relS ls zs := by
 funext a b
 unfold relS
 rw [Bool.eq_iff_iff, List.any_eq_true, List.any_eq_true]
 constructor <;> rintro ⟨y, hy, e⟩
 ·exact ⟨y, h.mem_iff.1 hy, e⟩
 ·exact ⟨y, h.mem_iff.2 hy, e⟩
theorem hksL_perm {path : ByteArray} {l l' : List Pt} (h : l.Perm l') : (hksL path l).Perm (hksL path l') := h.flatMap_right _
theorem IsAll.perm {l l' : List Pt} (h : l.Perm l') (a : IsAll l) : IsAll l' := ⟨fun x hx => a.1 x (h.mem_iff.2 hx), (h.map pID).nodup a.2⟩
theorem ClosedL.perm {l l' : List Pt} (h : l.Perm l') (a : ClosedL l) : ClosedL l' := fun x hx d hd => by
 obtain ⟨y, hy, e⟩ := a x (h.mem_iff.2 hx) d hd
 exact ⟨y, h.mem_iff.1 hy, e⟩
theorem trackL_mem {l : List Pt} {s : ByteArray} : s ∈ trackL l ↔ (∃ x ∈ l, s ∈ pMakes x) /\ ¬ ∃ x ∈ l, s ∈ pDrops x := by
 unfold trackL
 rw [List.mem_filter, allR_mem, Vf, notIn_iff, Vf]
theorem trackL_ris (l : List Pt) : risR ltS (trackL l) := ris_filter (allR_ris linS _) _
theorem trackL_uniq {l : List Pt} {m : List ByteArray} (h : risR ltS m) (hm : ∀ s, s ∈ m ↔ (∃ x ∈ l, s ∈ pMakes x) /\ ¬ ∃ x ∈ l, s ∈ pDrops x) : m = trackL l := ris_uniq linS h (trackL_ris l) fun s => (hm s).trans trackL_mem.symm
theorem errL_no {l : List Pt} (h : ¬ IsAll l) : errL l = 10 := by unfold errL; rw [if_pos h]
theorem errL_deps {l : List Pt} (h : IsAll l) (hc : ¬ ClosedL l) : errL l = 17 := by unfold errL; rw [if_neg (fun e => e h), if_pos hc]
theorem errL_large {l : List Pt} (h : IsAll l) (hc : ClosedL l) (hl : 60 < l.length ∨ 6 < (trackL l).length ∨ 40 < cntS l) : errL l = 11 := by unfold errL; rw [if_neg (fun e => e h), if_neg (fun e => e hc), if_pos hl]
theorem errL_ok {l : List Pt} (h : IsAll l) (hc : ClosedL l) (hl : ¬ (60 < l.length ∨ 6 < (trackL l).length ∨ 40 < cntS l)) : errL l = 0 := by unfold errL; rw [if_neg (fun e => e h), if_neg (fun e => e hc), if_neg hl]
theorem errL_zero {l : List Pt} (h : errL l = 0) : IsAll l /\ ClosedL l /\ l.length <= 60 /\ (trackL l).length <= 6 /\ cntS l <= 40 := by
 by_cases h1 : IsAll l
 ·by_cases h2 : ClosedL l
  ·by_cases h3 : 60 < l.length ∨ 6 < (trackL l).length ∨ 40 < cntS l
   ·rw [errL_large h1 h2 h3] at h; cases h
   ·exact ⟨h1, h2, by omega, by omega, by omega⟩
  ·rw [errL_deps h1 h2] at h; cases h
 ·rw [errL_no h1] at h; cases h
theorem filesL_err {l : List Pt} (h : errL l ≠ 0) : filesL l = [] := by unfold filesL; rw [if_neg h]
theorem filesL_ok {l : List Pt} (h : errL l = 0) : filesL l = (trackL l).map (fileL l) := by unfold filesL; rw [if_pos h]
theorem fileOf_len (path : ByteArray) (ls : List Lne) (ys : List (Ln × Hk)) : (fLines (fileOf path ls ys)).length = ls.length := by
 show (markL ls ys).length = _
 unfold markL
 rw [Yn]
theorem cntS_map (l : List Pt) : cntL ((trackL l).map (fileL l)) = cntS l := by
 unfold cntL cntS
 rw [List.map_map]
 congr 1
 exact List.map_congr_left fun s _ => fileOf_len _ _ _
end Go.Proofs.YtnknejokneddbaaGreatDoor
