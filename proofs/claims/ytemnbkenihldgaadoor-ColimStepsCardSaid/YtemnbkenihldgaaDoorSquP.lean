/- Plain facts: an object's pairs; the square of a pushout; over all of one. -/
import Derived.Test.YtemnbkenihldgaaDoorPusf
import Derived.Test.YtemnbkenihldgaaDoorUnir
import Derived.Test.YtemnbkenihldgaaDoorThenP
/-! Plain: what is made one by a map and itself stays as it is. -/
namespace Go.Proofs.YtemnbkenihldgaaDoor
open Go.RowKit

/-- Pairs that rise, all of them. -/
def LtQ (x y : Int × Int) : Prop := x.1 < y.1 ∨ (x.1 = y.1 ∧ x.2 < y.2)
theorem LtQ.trans {x y z : Int × Int} (h : LtQ x y) (k : LtQ y z) : LtQ x z := by unfold LtQ at *; omega
theorem LtQ.irrefl (x : Int × Int) : ¬ LtQ x x := by unfold LtQ; omega
theorem onL_up (S : Nat → Bool) (n : Nat) : (onL S n).Pairwise (· < ·) := by
  unfold onL
  exact List.Pairwise.filter _ List.pairwise_lt_range
theorem pairsL_up (n : Nat) (R : Nat → Nat → Bool) (k : Nat) : (pairsL n R k).Pairwise LtQ ∧ ∀ x ∈ pairsL n R k, x.1 < k := by
  induction k with
  | zero => simp [pairsL]
  | succ k ih =>
    rw [pairsL_succ]
    refine ⟨?_, ?_⟩
    · rw [List.pairwise_append]
      refine ⟨ih.1, ?_, ?_⟩
      · rw [List.pairwise_map]
        exact (onL_up (R k) n).imp fun h => .inr ⟨rfl, by simpa using h⟩
      · intro x hx y hy
        rw [List.mem_map] at hy
        obtain ⟨b, _, rfl⟩ := hy
        exact .inl (ih.2 x hx)
    · intro x hx
      rcases List.mem_append.1 hx with hx | hx
      · have := ih.2 x hx; omega
      · rw [List.mem_map] at hx
        obtain ⟨b, _, rfl⟩ := hx
        show (k : Int) < ((k + 1 : Nat) : Int)
        omega
theorem rises_up {l : List (Int × Int)} (h : risesB l = true) : l.Pairwise LtQ := by
  unfold risesB nbr at h
  rw [List.all_map, List.all_eq_true] at h
  rw [List.pairwise_iff_getElem]
  intro i j hi hj hij
  induction j with
  | zero => omega
  | succ j ih =>
    have hs := h j (by simp; omega)
    have h2 : LtQ l[j] l[j + 1] := by
      have h3 : ltP (l[j]?.getD (0, 0), l[j + 1]?.getD (0, 0)) = true := hs
      rw [List.getElem?_eq_getElem (by omega), List.getElem?_eq_getElem hj] at h3
      unfold ltP at h3
      simpa [LtQ] using h3
    by_cases e : i = j
    · subst e; exact h2
    · exact (ih (by omega) (by omega)).trans h2
theorem up_ext : ∀ {l1 l2 : List (Int × Int)}, l1.Pairwise LtQ → l2.Pairwise LtQ → (∀ x, x ∈ l1 ↔ x ∈ l2) → l1 = l2
  | [], [], _, _, _ => rfl
  | [], y :: l2, _, _, h => absurd ((h y).2 (by simp)) (by simp)
  | x :: l1, [], _, _, h => absurd ((h x).1 (by simp)) (by simp)
  | x :: l1, y :: l2, h1, h2, h => by
    rw [List.pairwise_cons] at h1 h2
    have hxy : x = y := by
      have hx := (h x).1 (by simp)
      have hy := (h y).2 (by simp)
      rcases List.mem_cons.1 hx with e | hx
      · exact e
      · rcases List.mem_cons.1 hy with e | hy
        · exact e.symm
        · exact absurd ((h1.1 y hy).trans (h2.1 x hx)) (LtQ.irrefl _)
    subst hxy
    rw [up_ext h1.2 h2.2 fun z => ?_]
    have hz := h z
    constructor
    · intro hm
      rcases List.mem_cons.1 (hz.1 (List.mem_cons_of_mem _ hm)) with e | e
      · subst e; exact absurd (h1.1 z hm) (LtQ.irrefl _)
      · exact e
    · intro hm
      rcases List.mem_cons.1 (hz.2 (List.mem_cons_of_mem _ hm)) with e | e
      · subst e; exact absurd (h2.1 z hm) (LtQ.irrefl _)
      · exact e
theorem obj_pairs {L : List ByteArray} {P : List (Int × Int)} (h : chk L P = 0) : pairsL L.length (clo L.length (ofL L.length P)) L.length = P := by
  obtain ⟨_, h1, h2, h3⟩ := chk_in h
  have hc : clo L.length (ofL L.length P) = ofL L.length P := grewC_none (ofL_supp _ _) _ h3
  rw [hc]
  refine up_ext (pairsL_up _ _ _).1 (rises_up h1) fun x => ?_
  obtain ⟨a, b⟩ := x
  constructor
  · intro hx
    obtain ⟨q1, q2, q3, q4⟩ := pairsL_in _ hx
    obtain ⟨a, rfl⟩ := Int.eq_ofNat_of_zero_le q1
    obtain ⟨b, rfl⟩ := Int.eq_ofNat_of_zero_le q3
    exact ((ofL_iff _ _ _ _).1 (pairsL_mem.1 hx).2.2).2.2
  · intro hx
    have hi : inI L.length a b := of_decide_eq_true (List.all_eq_true.1 h2 _ hx)
    obtain ⟨q1, q2, q3, q4⟩ := hi
    obtain ⟨a, rfl⟩ := Int.eq_ofNat_of_zero_le q1
    obtain ⟨b, rfl⟩ := Int.eq_ofNat_of_zero_le q3
    exact pairsL_mem.2 ⟨by omega, by omega, (ofL_iff _ _ _ _).2 ⟨by omega, by omega, hx⟩⟩

theorem joins_same (n : Nat) (f : List Int) : joinsL n f f = List.range n := by
  unfold joinsL
  have : ∀ k, joinsK (List.range n) f f k = List.range n := by
    intro k
    induction k with
    | zero => rfl
    | succ k ih =>
      rw [joinsK, ih]
      unfold joinZ
      split
      · exact joinL_same rfl
      · rfl
  exact this _
theorem leadL_range (n : Nat) : leadL (List.range n) = List.range n := by
  unfold leadL
  rw [List.length_range, List.filter_eq_self]
  intro e he
  simpa using nx_range (List.mem_range.1 he)
theorem cntR_range {n m : Nat} (h : m ≤ n) : cntR (List.range n) m = m := by
  unfold cntR
  rw [List.filter_eq_self.2, List.length_range]
  intro e he
  have := List.mem_range.1 he
  simpa using nx_range (n := n) (e := e) (by omega)
theorem atZ_range (n : Nat) : atZ (List.range n) = idL n := by
  unfold atZ placesL idL
  rw [List.length_range, List.map_map]
  apply List.map_congr_left
  intro e he
  have he := List.mem_range.1 he
  show ((plc6 (List.range n) e : Nat) : Int) = e
  unfold plc6
  rw [nx_range he, cntR_range (by omega)]
theorem labG_range (L : List ByteArray) : labG L (List.range L.length) = L := by
  unfold labG
  rw [leadL_range]
  apply List.ext_getElem
  · simp
  · intro i h1 h2
    simp [List.getElem?_eq_getElem h2]
theorem idL_at {n e : Nat} (h : e < n) : (idL n)[e]?.getD 0 = (e : Int) := by
  unfold idL
  rw [List.getElem?_map, List.getElem?_range h]
  rfl
theorem mapP_id {n : Nat} {P : List (Int × Int)} (h : allIn n P = true) : mapP (idL n) P = P := by
  unfold mapP
  refine (List.map_congr_left fun x hx => ?_).trans (List.map_id P)
  obtain ⟨q1, q2, q3, q4⟩ := of_decide_eq_true (List.all_eq_true.1 h x hx)
  show ((idL n)[x.1.toNat]?.getD 0, (idL n)[x.2.toNat]?.getD 0) = id x
  rw [idL_at (by omega), idL_at (by omega), Int.toNat_of_nonneg q1, Int.toNat_of_nonneg q3]
  rfl
theorem gluP_range {L : List ByteArray} {P : List (Int × Int)} (h : chk L P = 0) : gluP (List.range L.length) P = P := by
  unfold gluP gluR
  rw [List.length_range, cntR_range (Nat.le_refl _), atZ_range, mapP_id (chk_in h).2.2.1]
  exact obj_pairs h

end Go.Proofs.YtemnbkenihldgaaDoor
/-! Plain: what is put together over what both have: both ways are arrows, come to the same, reach all. -/
namespace Go.Proofs.YtemnbkenihldgaaDoor

theorem risesB_up {l : List (Int × Int)} (h : l.Pairwise LtQ) : risesB l = true := by
  unfold risesB nbr
  rw [List.all_map, List.all_eq_true]
  intro i hi
  have hi' : i < l.length - 1 := by simpa using hi
  have h1 : i < l.length := by omega
  have h2 : i + 1 < l.length := by omega
  show ltP (l[i]?.getD (0, 0), l[i + 1]?.getD (0, 0)) = true
  rw [List.getElem?_eq_getElem h1, List.getElem?_eq_getElem h2]
  have := List.pairwise_iff_getElem.1 h i (i + 1) h1 h2 (by omega)
  unfold ltP
  simpa [LtQ] using this
/-- A closure's pairs are an object. -/
theorem chk_pairs {L : List ByteArray} {n : Nat} {R : Nat → Nat → Bool} (h : labErr L = 0) (hl : L.length = n) (hs : Supp n R) : chk L (pairsL n (clo n R) n) = 0 := by
  subst hl
  refine chk_ok h ?_
  have h1 : risesB (pairsL L.length (clo L.length R) L.length) = true := risesB_up (pairsL_up _ _ _).1
  have h2 : allIn L.length (pairsL L.length (clo L.length R) L.length) = true := by
    unfold allIn
    rw [List.all_eq_true]
    intro p hp
    simpa using pairsL_in p hp
  rw [h1, h2, ofL_pairsL (clo_supp hs)]
  cases hg : grewC L.length (clo L.length R) L.length
  · rfl
  · exact absurd (clo_clo hs) ((grewC_iff (clo_supp hs)).1 hg)
theorem lab_all {L : List ByteArray} (h : labErr L = 0) : L.all okS = true := by
  have := lab_small h
  unfold labErr at h
  rw [if_neg (by omega)] at h
  cases hb : L.all okS
  · rw [hb] at h; cases h
  · rfl

/-- Who is one stays one. -/
theorem joinZ_keep {L : List Nat} {a b : Nat} (x y : Int) (ha : a < L.length) (hb : b < L.length) (h : nx L a = nx L b) : nx (joinZ L x y) a = nx (joinZ L x y) b := by
  unfold joinZ
  split
  · rw [nx_joinL ha, nx_joinL hb, h]
  · exact h
theorem joinZ_one {L : List Nat} {x y : Int} (hx : 0 ≤ x ∧ x < L.length) (hy : 0 ≤ y ∧ y < L.length) : nx (joinZ L x y) x.toNat = nx (joinZ L x y) y.toNat := by
  unfold joinZ
  rw [if_pos (by rw [Bool.and_eq_true, hasZ_iff, hasZ_iff]; exact ⟨hx, hy⟩), nx_joinL (by omega), nx_joinL (by omega), if_pos (.inl rfl), if_pos (.inr rfl)]
theorem joinZ_lab {α : Type} {L : List Nat} {p : Nat → α} {x y : Int} (h : ∀ e, e < L.length → p (nx L e) = p e) (hx : 0 ≤ x ∧ x < L.length) (hy : 0 ≤ y ∧ y < L.length) (hp : p x.toNat = p y.toNat) (e : Nat) (he : e < L.length) : p (nx (joinZ L x y) e) = p e := by
  unfold joinZ
  rw [if_pos (by rw [Bool.and_eq_true, hasZ_iff, hasZ_iff]; exact ⟨hx, hy⟩), nx_joinL he]
  have h1 := h x.toNat (by omega)
  have h2 := h y.toNat (by omega)
  have h3 := h e he
  have hm : p (min (nx L x.toNat) (nx L y.toNat)) = p x.toNat := by
    rcases Nat.le_total (nx L x.toNat) (nx L y.toNat) with q | q
    · rw [Nat.min_eq_left q, h1]
    · rw [Nat.min_eq_right q, h2, hp]
  split
  · rename_i hh
    rw [hm]
    rcases hh with hh | hh
    · rw [← h3, hh, h1]
    · rw [← h3, hh, h2, hp]
  · exact h3
theorem joinsK_one {N : Nat} {f g : List Int} {k : Nat} (hf : ∀ j, j < k → 0 ≤ f[j]?.getD 0 ∧ f[j]?.getD 0 < N) (hg : ∀ j, j < k → 0 ≤ g[j]?.getD 0 ∧ g[j]?.getD 0 < N) {j : Nat} (hj : j < k) :
    nx (joinsK (List.range N) f g k) (f[j]?.getD 0).toNat = nx (joinsK (List.range N) f g k) (g[j]?.getD 0).toNat := by
  induction k with
  | zero => omega
  | succ k ih =>
    have hl : (joinsK (List.range N) f g k).length = N := by rw [joinsK_len, List.length_range]
    rw [joinsK]
    have a1 := hf j hj
    have a2 := hg j hj
    by_cases e : j = k
    · subst e
      exact joinZ_one (by rw [hl]; exact a1) (by rw [hl]; exact a2)
    · exact joinZ_keep _ _ (by omega) (by omega) (ih (fun i hi => hf i (by omega)) (fun i hi => hg i (by omega)) (by omega))
theorem joinsK_lab {α : Type} {N : Nat} {p : Nat → α} {f g : List Int} {k : Nat} (hf : ∀ j, j < k → 0 ≤ f[j]?.getD 0 ∧ f[j]?.getD 0 < N) (hg : ∀ j, j < k → 0 ≤ g[j]?.getD 0 ∧ g[j]?.getD 0 < N) (hp : ∀ j, j < k → p (f[j]?.getD 0).toNat = p (g[j]?.getD 0).toNat) (e : Nat) (he : e < N) : p (nx (joinsK (List.range N) f g k) e) = p e := by
  induction k generalizing e with
  | zero => rw [joinsK, nx_range he]
  | succ k ih =>
    have hl : (joinsK (List.range N) f g k).length = N := by rw [joinsK_len, List.length_range]
    rw [joinsK]
    exact joinZ_lab (fun e he => ih (fun i hi => hf i (by omega)) (fun i hi => hg i (by omega)) (fun i hi => hp i (by omega)) e (by omega)) (by rw [hl]; exact hf k (by omega)) (by rw [hl]; exact hg k (by omega)) (hp k (by omega)) e (by omega)

/-- The label of a class. -/
theorem glu_lab {Lb : List ByteArray} {J : List Nat} (h : isL J) {e : Nat} (he : e < J.length) : (labG Lb J)[plc6 J e]?.getD .empty = Lb[nx J e]?.getD .empty := by
  have h1 := leads_at h (Nat.le_refl _) (Nat.lt_of_le_of_lt (h.le e he) he) (h.fix e he)
  rw [leads_eq h] at h1
  unfold labG plc6
  rw [List.getElem?_map, h1]
  rfl
theorem glu_labErr {Lb : List ByteArray} {J : List Nat} (hl : J.length = Lb.length) (h : labErr Lb = 0) : labErr (labG Lb J) = 0 := by
  have h1 := lab_small h
  refine lab_of_all ?_ ?_
  · rw [labG_len]
    have := cntR_le J J.length
    omega
  · rw [List.all_eq_true]
    intro s hs
    unfold labG leadL at hs
    obtain ⟨e, he, rfl⟩ := List.mem_map.1 hs
    have he2 : e < J.length := List.mem_range.1 (List.mem_filter.1 he).1
    rw [List.getElem?_eq_getElem (by omega)]
    exact List.all_eq_true.1 (lab_all h) _ (List.getElem_mem (by omega))
theorem glu_obj {Lb : List ByteArray} {J : List Nat} (P : List (Int × Int)) (hl : J.length = Lb.length) (h : labErr Lb = 0) : chk (labG Lb J) (gluP J P) = 0 :=
  chk_pairs (glu_labErr hl h) (labG_len _ _) (ofL_supp _ _)
theorem glu_pair {J : List Nat} (h : isL J) {P : List (Int × Int)} {x : Int × Int} (hx : x ∈ P) (hi : inI J.length x.1 x.2) : ((plc6 J x.1.toNat : Int), (plc6 J x.2.toNat : Int)) ∈ gluP J P := by
  unfold inI at hi
  have h1 := plc6_lt h (e := x.1.toNat) (by omega)
  have h2 := plc6_lt h (e := x.2.toNat) (by omega)
  refine pairsL_mem.2 ⟨h1, h2, clo_sub _ _ _ _ ?_⟩
  unfold gluR
  refine (ofL_iff _ _ _ _).2 ⟨h1, h2, ?_⟩
  unfold mapP
  refine List.mem_map.2 ⟨x, hx, ?_⟩
  rw [atZ_get (by omega), atZ_get (by omega)]

/-- Where one of both goes, it goes as an arrow. -/
theorem glu_into {Lb L : List ByteArray} {J : List Nat} {PP P : List (Int × Int)} {i : List Int} {s : Nat} (hJ : isL J) (hl : J.length = Lb.length) (hb : labErr Lb = 0) (hc : chk L P = 0) (hs : s + L.length ≤ J.length)
    (hlab : ∀ e, e < L.length → Lb[s + e]?.getD .empty = L[e]?.getD .empty) (hpair : ∀ x ∈ P, ((s : Int) + x.1, (s : Int) + x.2) ∈ PP) (hkeep : ∀ e, e < J.length → Lb[nx J e]?.getD .empty = Lb[e]?.getD .empty)
    (hil : i.length = L.length) (hi : ∀ e, e < L.length → i[e]?.getD 0 = (plc6 J (s + e) : Int)) : arB L P (labG Lb J) (gluP J PP) i = true := by
  have hin := (chk_in hc).2.2.1
  refine arB_mk hc (glu_obj PP hl hb) hil (fun e he => ?_) (fun x hx => ?_)
  · rw [hil] at he
    rw [hi e he]
    have h1 := plc6_lt hJ (e := s + e) (by omega)
    refine ⟨hasZ_iff.2 ⟨by omega, by rw [labG_len]; omega⟩, ?_⟩
    rw [Int.toNat_natCast, glu_lab hJ (by omega), hkeep _ (by omega), hlab e he]
  · have hx2 : inI L.length x.1 x.2 := of_decide_eq_true (List.all_eq_true.1 hin x hx)
    unfold inI at hx2
    have h3 := glu_pair hJ (hpair x hx) (by unfold inI; simp only; omega)
    simp only at h3
    rw [hi _ (by omega), hi _ (by omega)]
    rwa [show ((s : Int) + x.1).toNat = s + x.1.toNat by omega, show ((s : Int) + x.2).toNat = s + x.2.toNat by omega] at h3
/-- Each class comes from somebody. -/
theorem glu_all {J : List Nat} (h : isL J) {k : Nat} (hk : k < cntR J J.length) : ∃ e, e < J.length ∧ plc6 J e = k := by
  have h1 : k < (leadL J).length := by rw [leadL_len]; exact hk
  have h2 : (leadL J)[k]? = some (leadL J)[k] := List.getElem?_eq_getElem h1
  have h3 := List.getElem_mem h1
  have h4 : (leadL J)[k] < J.length ∧ nx J (leadL J)[k] = (leadL J)[k] := by
    have h5 := h3
    unfold leadL at h5
    have := List.mem_filter.1 h5
    exact ⟨List.mem_range.1 this.1, of_decide_eq_true this.2⟩
  refine ⟨(leadL J)[k], h4.1, ?_⟩
  have h5 := leads_at h (Nat.le_refl _) h4.1 h4.2
  rw [leads_eq h] at h5
  obtain ⟨i1, i2⟩ := List.getElem?_eq_some_iff.1 h5
  unfold plc6
  rw [h4.2]
  have hnd : (leadL J).Nodup := by
    unfold leadL
    exact List.Nodup.sublist List.filter_sublist List.nodup_range
  exact (List.getElem_inj hnd (h₀ := i1) (h₁ := h1)).1 i2

theorem at_take {l : List Int} {n e : Nat} (h : e < n) : (l.take n)[e]?.getD 0 = l[e]?.getD 0 := by rw [List.getElem?_take_of_lt h]
theorem at_drop {l : List Int} {n e : Nat} : (l.drop n)[e]?.getD 0 = l[n + e]?.getD 0 := by rw [List.getElem?_drop]

/-- All that PushSquare asks. -/
structure SquA (L0 L L' A : List ByteArray) (P P' B : List (Int × Int)) (f g I J : List Int) : Prop where
  il : I.length = L.length
  jl : J.length = L'.length
  fl : f.length = L0.length
  gl : g.length = L0.length
  fb : thenB f I.length = true
  gb : thenB g J.length = true
  same : thenL f I = thenL g J
  ai : arB L P A B I = true
  aj : arB L' P' A B J = true
  all : ∀ k, k < A.length → (∃ e, e < I.length ∧ I[e]?.getD 0 = (k : Int)) ∨ (∃ e, e < J.length ∧ J[e]?.getD 0 = (k : Int))
theorem square {L0 L L' : List ByteArray} {P0 P P' : List (Int × Int)} {f g : List Int} {n n' : Nat} (hn : L.length = n) (hn' : L'.length = n') (hl : n + n' ≤ 40) (ha : arB L0 P0 L P f = true) (hb : arB L0 P0 L' P' g = true) :
    SquA L0 L L' (labG (L ++ L') (joinsL (n + n') f (shL n g))) P P' (gluP (joinsL (n + n') f (shL n g)) (P ++ shP n P')) f g ((atZ (joinsL (n + n') f (shL n g))).take n) ((atZ (joinsL (n + n') f (shL n g))).drop n) := by
  obtain ⟨_, c1, fl, lf, _⟩ := arB_parts ha
  obtain ⟨_, c2, gl, lg, _⟩ := arB_parts hb
  have hJ := joinsL_is (n + n') f (shL n g)
  have hJl := joinsL_len (n + n') f (shL n g)
  have ff : ∀ j, j < f.length → 0 ≤ f[j]?.getD 0 ∧ f[j]?.getD 0 < n := fun j hj => by have := hasZ_iff.1 (lab1_of lf hj).1; rwa [hn] at this
  have gg : ∀ j, j < g.length → 0 ≤ g[j]?.getD 0 ∧ g[j]?.getD 0 < n' := fun j hj => by have := hasZ_iff.1 (lab1_of lg hj).1; rwa [hn'] at this
  have hsg : ∀ j, j < g.length → (shL n g)[j]?.getD 0 = (n : Int) + g[j]?.getD 0 := fun j hj => by
    unfold shL
    rw [List.getElem?_map, List.getElem?_eq_getElem hj]
    rfl
  have f2 : ∀ j, j < f.length → 0 ≤ f[j]?.getD 0 ∧ f[j]?.getD 0 < (n + n' : Nat) := fun j hj => by have := ff j hj; omega
  have g2 : ∀ j, j < f.length → 0 ≤ (shL n g)[j]?.getD 0 ∧ (shL n g)[j]?.getD 0 < (n + n' : Nat) := fun j hj => by
    have := gg j (by omega)
    rw [hsg j (by omega)]
    omega
  have hla : (L ++ L').length = n + n' := by rw [List.length_append, hn, hn']
  have hle : labErr (L ++ L') = 0 := lab_app (chk_in c1).1 (chk_in c2).1 (by omega)
  have happ1 : ∀ e, e < n → (L ++ L')[e]?.getD .empty = L[e]?.getD .empty := fun e he => by rw [List.getElem?_append_left (by omega)]
  have happ2 : ∀ e, e < n' → (L ++ L')[n + e]?.getD .empty = L'[e]?.getD .empty := fun e he => by rw [List.getElem?_append_right (by omega), hn, show n + e - n = e by omega]
  have hkeep : ∀ e, e < n + n' → (L ++ L')[nx (joinsL (n + n') f (shL n g)) e]?.getD .empty = (L ++ L')[e]?.getD .empty := by
    intro e he
    refine joinsK_lab (p := fun e => (L ++ L')[e]?.getD ByteArray.empty) f2 g2 (fun j hj => ?_) e he
    have h1 := ff j hj
    have h2 := gg j (by omega)
    rw [hsg j (by omega), show ((n : Int) + g[j]?.getD 0).toNat = n + (g[j]?.getD 0).toNat by omega, happ1 _ (by omega), happ2 _ (by omega), ← (lab1_of lf hj).2, ← (lab1_of lg (i := j) (by omega)).2]
  have hone : ∀ j, j < f.length → nx (joinsL (n + n') f (shL n g)) (f[j]?.getD 0).toNat = nx (joinsL (n + n') f (shL n g)) (n + (g[j]?.getD 0).toNat) := fun j hj => by
    have := joinsK_one f2 g2 hj
    have h2 := gg j (by omega)
    rwa [hsg j (by omega), show ((n : Int) + g[j]?.getD 0).toNat = n + (g[j]?.getD 0).toNat by omega] at this
  generalize joinsL (n + n') f (shL n g) = J at *
  have hal : (atZ J).length = n + n' := by rw [atZ_len, hJl]
  have il : ((atZ J).take n).length = n := by rw [List.length_take, hal]; omega
  have jl : ((atZ J).drop n).length = n' := by rw [List.length_drop, hal]; omega
  have hi : ∀ e, e < n → ((atZ J).take n)[e]?.getD 0 = (plc6 J e : Int) := fun e he => by rw [at_take he, atZ_get (by omega)]
  have hj : ∀ e, e < n' → ((atZ J).drop n)[e]?.getD 0 = (plc6 J (n + e) : Int) := fun e he => by rw [at_drop, atZ_get (by omega)]
  refine ⟨by rw [il, hn], by rw [jl, hn'], fl, gl, ?_, ?_, ?_, ?_, ?_, ?_⟩
  · rw [il, ← hn]; exact lab_has lf
  · rw [jl, ← hn']; exact lab_has lg
  · apply List.ext_getElem?
    intro k
    unfold thenL
    rw [List.getElem?_map, List.getElem?_map]
    rcases Nat.lt_or_ge k f.length with h | h
    · have h1 := ff k h
      have h2 := gg k (by omega)
      have h3 := hone k h
      rw [List.getElem?_eq_getElem h, Option.getD_some] at h1 h3
      rw [List.getElem?_eq_getElem (show k < g.length by omega), Option.getD_some] at h2 h3
      rw [List.getElem?_eq_getElem h, List.getElem?_eq_getElem (show k < g.length by omega)]
      simp only [Option.map_some]
      rw [hi _ (by omega), hj _ (by omega)]
      unfold plc6
      rw [h3]
    · rw [List.getElem?_eq_none h, List.getElem?_eq_none (by omega)]
      rfl
  · refine glu_into (s := 0) hJ (by omega) hle c1 (by omega) (fun e he => by rw [Nat.zero_add]; exact happ1 e (by omega)) (fun x hx => ?_) (fun e he => hkeep e (by omega)) (by omega) (fun e he => by rw [hi e (by omega), Nat.zero_add])
    rw [List.mem_append]
    exact .inl (by simpa using hx)
  · refine glu_into (s := n) hJ (by omega) hle c2 (by omega) (fun e he => happ2 e (by omega)) (fun x hx => ?_) (fun e he => hkeep e (by omega)) (by omega) (fun e he => hj e (by omega))
    rw [List.mem_append]
    exact .inr (List.mem_map.2 ⟨x, hx, rfl⟩)
  · intro k hk
    rw [labG_len] at hk
    obtain ⟨e, he, rfl⟩ := glu_all hJ hk
    rcases Nat.lt_or_ge e n with h | h
    · exact .inl ⟨e, by omega, hi e h⟩
    · exact .inr ⟨e - n, by omega, by rw [hj _ (by omega), show n + (e - n) = e by omega]⟩

end Go.Proofs.YtemnbkenihldgaaDoor
/-! Plain: over all of one the other one stays as it is; over nothing it is the sum. -/
namespace Go.Proofs.YtemnbkenihldgaaDoor

theorem obj_trans {L : List ByteArray} {P : List (Int × Int)} (h : chk L P = 0) : Trans (ofL L.length P) := by
  have h3 := (chk_in h).2.2.2
  have hc : clo L.length (ofL L.length P) = ofL L.length P := grewC_none (ofL_supp _ _) _ h3
  rw [← hc]
  exact clo_trans (ofL_supp _ _)
theorem mem_shP {n : Nat} {P : List (Int × Int)} {x : Int × Int} : x ∈ shP n P ↔ (x.1 - n, x.2 - n) ∈ P := by
  unfold shP
  rw [List.mem_map]
  constructor
  · rintro ⟨y, hy, rfl⟩
    simp only
    rwa [show (n : Int) + y.1 - n = y.1 by omega, show (n : Int) + y.2 - n = y.2 by omega]
  · intro h
    exact ⟨_, h, by simp only; ext <;> simp only <;> omega⟩
theorem in_of {n : Nat} {P : List (Int × Int)} (h : allIn n P = true) {x : Int × Int} (hx : x ∈ P) : 0 ≤ x.1 ∧ x.1 < n ∧ 0 ≤ x.2 ∧ x.2 < n := by
  have h1 : inI n x.1 x.2 := of_decide_eq_true (List.all_eq_true.1 h x hx)
  exact h1
/-- A sum of objects is an object. -/
theorem chk_beside {L L' : List ByteArray} {P P' : List (Int × Int)} (h : chk L P = 0) (h' : chk L' P' = 0) (hl : L.length + L'.length ≤ 40) : chk (L ++ L') (P ++ shP L.length P') = 0 := by
  obtain ⟨a1, a2, a3, _⟩ := chk_in h
  obtain ⟨b1, b2, b3, _⟩ := chk_in h'
  have t1 := obj_trans h
  have t2 := obj_trans h'
  have hall := allIn_app a3 b3
  refine chk_ok (lab_app a1 b1 hl) ?_
  have hr : risesB (P ++ shP L.length P') = true := by
    refine risesB_up (List.pairwise_append.2 ⟨rises_up a2, ?_, ?_⟩)
    · unfold shP
      rw [List.pairwise_map]
      exact (rises_up b2).imp fun {x y} hxy => by unfold LtQ at *; simp only; omega
    · intro x hx y hy
      have q1 := in_of a3 hx
      have q2 := in_of b3 (mem_shP.1 hy)
      simp only at q2
      exact .inl (by omega)
  have hlen : (L ++ L').length = L.length + L'.length := by simp
  rw [hr, hlen, hall]
  have htr : Trans (ofL (L.length + L'.length) (P ++ shP L.length P')) := by
    intro a b c hab hbc
    have e1 := (ofL_iff _ _ _ _).1 hab
    have e2 := (ofL_iff _ _ _ _).1 hbc
    refine (ofL_iff _ _ _ _).2 ⟨e1.1, e2.2.1, ?_⟩
    rw [List.mem_append]
    rcases List.mem_append.1 e1.2.2 with h1 | h1 <;> rcases List.mem_append.1 e2.2.2 with h2 | h2
    · have i1 := in_of a3 h1
      have i2 := in_of a3 h2
      simp only at i1 i2
      exact .inl ((ofL_iff _ _ _ _).1 (t1 a b c ((ofL_iff _ _ _ _).2 ⟨by omega, by omega, h1⟩) ((ofL_iff _ _ _ _).2 ⟨by omega, by omega, h2⟩))).2.2
    · have i1 := in_of a3 h1
      have i2 := in_of b3 (mem_shP.1 h2)
      simp only at i1 i2
      omega
    · have i1 := in_of b3 (mem_shP.1 h1)
      have i2 := in_of a3 h2
      simp only at i1 i2
      omega
    · have j1 := mem_shP.1 h1
      have j2 := mem_shP.1 h2
      have i1 := in_of b3 j1
      have i2 := in_of b3 j2
      simp only at i1 i2 j1 j2
      rw [show (a : Int) - L.length = ((a - L.length : Nat) : Int) by omega, show (b : Int) - L.length = ((b - L.length : Nat) : Int) by omega] at j1
      rw [show (b : Int) - L.length = ((b - L.length : Nat) : Int) by omega, show (c : Int) - L.length = ((c - L.length : Nat) : Int) by omega] at j2
      have h3 := ((ofL_iff _ _ _ _).1 (t2 _ _ _ ((ofL_iff _ _ _ _).2 ⟨by omega, by omega, j1⟩) ((ofL_iff _ _ _ _).2 ⟨by omega, by omega, j2⟩))).2.2
      refine .inr (mem_shP.2 ?_)
      simp only
      rwa [show (a : Int) - L.length = ((a - L.length : Nat) : Int) by omega, show (c : Int) - L.length = ((c - L.length : Nat) : Int) by omega]
  cases hg : grewC (L.length + L'.length) (ofL (L.length + L'.length) (P ++ shP L.length P')) (L.length + L'.length)
  · rfl
  · exact absurd (clo_of_trans htr) ((grewC_iff (ofL_supp _ _)).1 hg)

theorem joinsL_nil (n : Nat) (g : List Int) : joinsL n [] g = List.range n := rfl
theorem idL_take {n m : Nat} : (idL (n + m)).take n = idL n := by
  unfold idL
  rw [← List.map_take, List.take_range, Nat.min_eq_left (by omega)]
theorem idL_drop {n m : Nat} : (idL (n + m)).drop n = shL n (idL m) := by
  apply List.ext_getElem?
  intro k
  rw [List.getElem?_drop]
  unfold shL idL
  rw [List.getElem?_map, List.getElem?_map, List.getElem?_map]
  rcases Nat.lt_or_ge k m with h | h
  · rw [List.getElem?_range h, List.getElem?_range (by omega)]
    simp
  · rw [List.getElem?_eq_none (by simpa using h), List.getElem?_eq_none (by simp; omega)]
    rfl

/-- All of one made one with where it goes: nothing is new. -/
structure OverJ (N n : Nat) (f : List Int) (k : Nat) (J : List Nat) : Prop where
  len : J.length = N + n
  own : ∀ e, e < N → nx J e = e
  done : ∀ x, x < k → nx J (N + x) = (f[x]?.getD 0).toNat
  still : ∀ x, k ≤ x → x < n → nx J (N + x) = N + x
theorem over_joins {N n : Nat} {f : List Int} (hf : ∀ x, x < n → 0 ≤ f[x]?.getD 0 ∧ f[x]?.getD 0 < N) {k : Nat} (hk : k ≤ n) : OverJ N n f k (joinsK (List.range (N + n)) f (shL N (idL n)) k) := by
  induction k with
  | zero => exact ⟨by rw [joinsK, List.length_range], fun e he => nx_range (by omega), fun x hx => by omega, fun x _ hx => nx_range (by omega)⟩
  | succ k ih =>
    have h := ih (by omega)
    rw [joinsK]
    generalize joinsK (List.range (N + n)) f (shL N (idL n)) k = J at h
    have hs : (shL N (idL n))[k]?.getD 0 = (N : Int) + k := by
      unfold shL idL
      rw [List.getElem?_map, List.getElem?_map, List.getElem?_range (by omega)]
      rfl
    have h1 := hf k (by omega)
    have hl := h.len
    have hj : joinZ J (f[k]?.getD 0) ((shL N (idL n))[k]?.getD 0) = joinL J (f[k]?.getD 0).toNat (N + k) := by
      rw [hs]
      unfold joinZ
      rw [if_pos (by rw [Bool.and_eq_true, hasZ_iff, hasZ_iff]; omega)]
      rfl
    rw [hj]
    have a1 := h.own (f[k]?.getD 0).toNat (by omega)
    have a2 := h.still k (Nat.le_refl _) (by omega)
    refine ⟨by rw [joinL_len, hl], fun e he => ?_, fun x hx => ?_, fun x hx hxn => ?_⟩
    · rw [nx_joinL (by omega), a1, a2, h.own e he]
      split <;> omega
    · rw [nx_joinL (by omega), a1, a2]
      by_cases e : x = k
      · subst e
        rw [a2, if_pos (.inr rfl)]
        omega
      · rw [h.done x (by omega)]
        have h2 := hf x (by omega)
        split <;> omega
    · rw [nx_joinL (by omega), a1, a2, h.still x (by omega) hxn]
      split <;> omega
theorem over_cnt {N n : Nat} {f : List Int} (hf : ∀ x, x < n → 0 ≤ f[x]?.getD 0 ∧ f[x]?.getD 0 < N) {J : List Nat} (h : OverJ N n f n J) {m : Nat} (hm : m ≤ N + n) : cntR J m = min m N := by
  induction m with
  | zero => simp [cntR]
  | succ m ih =>
    rw [cntR_succ, ih (by omega)]
    rcases Nat.lt_or_ge m N with q | q
    · rw [if_pos (h.own m q)]; omega
    · have h1 := h.done (m - N) (by omega)
      have h2 := hf (m - N) (by omega)
      rw [show N + (m - N) = m by omega] at h1
      rw [if_neg (by omega)]
      omega
theorem over_plc {N n : Nat} {f : List Int} (hf : ∀ x, x < n → 0 ≤ f[x]?.getD 0 ∧ f[x]?.getD 0 < N) {J : List Nat} (h : OverJ N n f n J) {e : Nat} (he : e < N) : plc6 J e = e := by
  unfold plc6
  rw [h.own e he, over_cnt hf h (by omega)]
  omega
theorem over_plc2 {N n : Nat} {f : List Int} (hf : ∀ x, x < n → 0 ≤ f[x]?.getD 0 ∧ f[x]?.getD 0 < N) {J : List Nat} (h : OverJ N n f n J) {x : Nat} (hx : x < n) : (plc6 J (N + x) : Int) = f[x]?.getD 0 := by
  have h2 := hf x hx
  unfold plc6
  rw [h.done x hx, over_cnt hf h (by omega)]
  omega

/-- What Push answers over all of a, the other one being b. -/
theorem over_all {L0 L : List ByteArray} {P0 P : List (Int × Int)} {f : List Int} {N n : Nat} (hN : L.length = N) (hn : L0.length = n) (ha : arB L0 P0 L P f = true) :
    labG (L ++ L0) (joinsL (N + n) f (shL N (idL n))) = L ∧ gluP (joinsL (N + n) f (shL N (idL n))) (P ++ shP N P0) = P ∧
    (atZ (joinsL (N + n) f (shL N (idL n)))).take N = idL N ∧ (atZ (joinsL (N + n) f (shL N (idL n)))).drop N = f := by
  obtain ⟨c0, c1, fl, lf, _⟩ := arB_parts ha
  have hpr := arB_pairs ha
  have hf : ∀ x, x < n → 0 ≤ f[x]?.getD 0 ∧ f[x]?.getD 0 < N := fun x hx => by have := hasZ_iff.1 (lab1_of lf (i := x) (by omega)).1; rwa [hN] at this
  have hJ := over_joins (N := N) hf (Nat.le_refl n)
  have hI := joinsL_is (N + n) f (shL N (idL n))
  have he : joinsL (N + n) f (shL N (idL n)) = joinsK (List.range (N + n)) f (shL N (idL n)) n := by unfold joinsL; rw [fl, hn]
  rw [he] at hI ⊢
  generalize joinsK (List.range (N + n)) f (shL N (idL n)) n = J at *
  have hJl := hJ.len
  have hcnt : cntR J J.length = N := by rw [over_cnt hf hJ (by omega), hJl]; omega
  have hat1 : ∀ e, e < N → (atZ J)[e]?.getD 0 = (e : Int) := fun e he => by rw [atZ_get (by omega), over_plc hf hJ he]
  have hat2 : ∀ x, x < n → (atZ J)[N + x]?.getD 0 = f[x]?.getD 0 := fun x hx => by rw [atZ_get (by omega), over_plc2 hf hJ hx]
  have hal : (atZ J).length = N + n := by rw [atZ_len, hJl]
  refine ⟨?_, ?_, ?_, ?_⟩
  · apply List.ext_getElem
    · rw [labG_len, hcnt, hN]
    · intro i h1 h2
      have hi : i < N := by omega
      have h3 := glu_lab (Lb := L ++ L0) hI (e := i) (by omega)
      rw [over_plc hf hJ hi, hJ.own i hi, List.getElem?_append_left h2, List.getElem?_eq_getElem h1, List.getElem?_eq_getElem h2] at h3
      simpa using h3
  · unfold gluP gluR
    rw [hcnt]
    have hR : ofL N (mapP (atZ J) (P ++ shP N P0)) = ofL N P := by
      funext x y
      rw [Bool.eq_iff_iff, ofL_iff, ofL_iff]
      have hm : ((x : Int), (y : Int)) ∈ mapP (atZ J) (P ++ shP N P0) ↔ ((x : Int), (y : Int)) ∈ P := by
        unfold mapP
        rw [List.mem_map]
        constructor
        · rintro ⟨z, hz, e⟩
          rcases List.mem_append.1 hz with hz | hz
          · have q := in_of (chk_in c1).2.2.1 hz
            rw [hN] at q
            rw [hat1 _ (by omega), hat1 _ (by omega), Int.toNat_of_nonneg q.1, Int.toNat_of_nonneg q.2.2.1] at e
            rw [← e]
            exact hz
          · have hz2 := mem_shP.1 hz
            have q := in_of (chk_in c0).2.2.1 hz2
            rw [hn] at q
            simp only at q
            have h5 := hpr _ hz2
            simp only at h5
            rw [show z.1.toNat = N + (z.1 - N).toNat by omega, show z.2.toNat = N + (z.2 - N).toNat by omega, hat2 _ (by omega), hat2 _ (by omega)] at e
            rw [← e]
            exact h5
        · intro hz
          have q := in_of (chk_in c1).2.2.1 hz
          rw [hN] at q
          simp only at q
          refine ⟨_, List.mem_append.2 (.inl hz), ?_⟩
          simp only [Int.toNat_natCast]
          rw [hat1 _ (by omega), hat1 _ (by omega)]
      rw [hm]
    rw [hR, ← hN]
    exact obj_pairs c1
  · apply List.ext_getElem
    · rw [List.length_take, hal, idL_len]; omega
    · intro i h1 h2
      have hi : i < N := by rw [idL_len] at h2; exact h2
      have h3 := hat1 i hi
      rw [List.getElem?_eq_getElem (by omega)] at h3
      rw [List.getElem_take]
      simp only [Option.getD_some] at h3
      rw [h3]
      simp [idL]
  · apply List.ext_getElem
    · rw [List.length_drop, hal]; omega
    · intro i h1 h2
      have h3 := hat2 i (by omega)
      rw [List.getElem?_eq_getElem (by omega), List.getElem?_eq_getElem h2] at h3
      rw [List.getElem_drop]
      simpa using h3

end Go.Proofs.YtemnbkenihldgaaDoor
