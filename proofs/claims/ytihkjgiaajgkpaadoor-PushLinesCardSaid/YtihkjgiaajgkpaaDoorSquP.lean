/- Plain: what is put together over what both have: both ways are arrows, come to the same, reach all. -/
import Derived.Test.YtihkjgiaajgkpaaDoorEqlP
import Derived.Test.YtihkjgiaajgkpaaDoorThenP
namespace Go.Proofs.YtihkjgiaajgkpaaDoor

theorem risesB_up {l : List (Int × Int)} (h : l.Pairwise LtQ) : risesB l = true := by
  unfold risesB nbr
  rw [List.all_map, List.all_eq_true]
  intro i hi
  have hi' : i < l.length - 1 := by simpa using hi
  have h1 : i < l.length := by omega
  have h2 : i + 1 < l.length := by omega
  show ltP (l[i]?.getD (0, 0), l[i + 1]?.getD (0, 0)) = true
  rw [List.getElem?_eq_getElem h1, List.getElem?_eq_getElem h2]
  have := List.pairwise_iff_getElem.1 h i (i + 1) h1 h2 (by omega)
  unfold ltP
  simpa [LtQ] using this
/-- A closure's pairs are an object. -/
theorem chk_pairs {L : List ByteArray} {n : Nat} {R : Nat → Nat → Bool} (h : labErr L = 0) (hl : L.length = n) (hs : Supp n R) : chk L (pairsL n (clo n R) n) = 0 := by
  subst hl
  refine chk_ok h ?_
  have h1 : risesB (pairsL L.length (clo L.length R) L.length) = true := risesB_up (pairsL_up _ _ _).1
  have h2 : allIn L.length (pairsL L.length (clo L.length R) L.length) = true := by
    unfold allIn
    rw [List.all_eq_true]
    intro p hp
    simpa using pairsL_in p hp
  rw [h1, h2, ofL_pairsL (clo_supp hs)]
  cases hg : grewC L.length (clo L.length R) L.length
  · rfl
  · exact absurd (clo_clo hs) ((grewC_iff (clo_supp hs)).1 hg)
theorem lab_all {L : List ByteArray} (h : labErr L = 0) : L.all okS = true := by
  have := lab_small h
  unfold labErr at h
  rw [if_neg (by omega)] at h
  cases hb : L.all okS
  · rw [hb] at h; cases h
  · rfl

/-- Who is one stays one. -/
theorem joinZ_keep {L : List Nat} {a b : Nat} (x y : Int) (ha : a < L.length) (hb : b < L.length) (h : nx L a = nx L b) : nx (joinZ L x y) a = nx (joinZ L x y) b := by
  unfold joinZ
  split
  · rw [nx_joinL ha, nx_joinL hb, h]
  · exact h
theorem joinZ_one {L : List Nat} {x y : Int} (hx : 0 ≤ x ∧ x < L.length) (hy : 0 ≤ y ∧ y < L.length) : nx (joinZ L x y) x.toNat = nx (joinZ L x y) y.toNat := by
  unfold joinZ
  rw [if_pos (by rw [Bool.and_eq_true, hasZ_iff, hasZ_iff]; exact ⟨hx, hy⟩), nx_joinL (by omega), nx_joinL (by omega), if_pos (.inl rfl), if_pos (.inr rfl)]
theorem joinZ_lab {α : Type} {L : List Nat} {p : Nat → α} {x y : Int} (h : ∀ e, e < L.length → p (nx L e) = p e) (hx : 0 ≤ x ∧ x < L.length) (hy : 0 ≤ y ∧ y < L.length) (hp : p x.toNat = p y.toNat) (e : Nat) (he : e < L.length) : p (nx (joinZ L x y) e) = p e := by
  unfold joinZ
  rw [if_pos (by rw [Bool.and_eq_true, hasZ_iff, hasZ_iff]; exact ⟨hx, hy⟩), nx_joinL he]
  have h1 := h x.toNat (by omega)
  have h2 := h y.toNat (by omega)
  have h3 := h e he
  have hm : p (min (nx L x.toNat) (nx L y.toNat)) = p x.toNat := by
    rcases Nat.le_total (nx L x.toNat) (nx L y.toNat) with q | q
    · rw [Nat.min_eq_left q, h1]
    · rw [Nat.min_eq_right q, h2, hp]
  split
  · rename_i hh
    rw [hm]
    rcases hh with hh | hh
    · rw [← h3, hh, h1]
    · rw [← h3, hh, h2, hp]
  · exact h3
theorem joinsK_one {N : Nat} {f g : List Int} {k : Nat} (hf : ∀ j, j < k → 0 ≤ f[j]?.getD 0 ∧ f[j]?.getD 0 < N) (hg : ∀ j, j < k → 0 ≤ g[j]?.getD 0 ∧ g[j]?.getD 0 < N) {j : Nat} (hj : j < k) :
    nx (joinsK (List.range N) f g k) (f[j]?.getD 0).toNat = nx (joinsK (List.range N) f g k) (g[j]?.getD 0).toNat := by
  induction k with
  | zero => omega
  | succ k ih =>
    have hl : (joinsK (List.range N) f g k).length = N := by rw [joinsK_len, List.length_range]
    rw [joinsK]
    have a1 := hf j hj
    have a2 := hg j hj
    by_cases e : j = k
    · subst e
      exact joinZ_one (by rw [hl]; exact a1) (by rw [hl]; exact a2)
    · exact joinZ_keep _ _ (by omega) (by omega) (ih (fun i hi => hf i (by omega)) (fun i hi => hg i (by omega)) (by omega))
theorem joinsK_lab {α : Type} {N : Nat} {p : Nat → α} {f g : List Int} {k : Nat} (hf : ∀ j, j < k → 0 ≤ f[j]?.getD 0 ∧ f[j]?.getD 0 < N) (hg : ∀ j, j < k → 0 ≤ g[j]?.getD 0 ∧ g[j]?.getD 0 < N) (hp : ∀ j, j < k → p (f[j]?.getD 0).toNat = p (g[j]?.getD 0).toNat) (e : Nat) (he : e < N) : p (nx (joinsK (List.range N) f g k) e) = p e := by
  induction k generalizing e with
  | zero => rw [joinsK, nx_range he]
  | succ k ih =>
    have hl : (joinsK (List.range N) f g k).length = N := by rw [joinsK_len, List.length_range]
    rw [joinsK]
    exact joinZ_lab (fun e he => ih (fun i hi => hf i (by omega)) (fun i hi => hg i (by omega)) (fun i hi => hp i (by omega)) e (by omega)) (by rw [hl]; exact hf k (by omega)) (by rw [hl]; exact hg k (by omega)) (hp k (by omega)) e (by omega)

/-- The label of a class. -/
theorem glu_lab {Lb : List ByteArray} {J : List Nat} (h : isL J) {e : Nat} (he : e < J.length) : (labG Lb J)[plc6 J e]?.getD .empty = Lb[nx J e]?.getD .empty := by
  have h1 := leads_at h (Nat.le_refl _) (Nat.lt_of_le_of_lt (h.le e he) he) (h.fix e he)
  rw [leads_eq h] at h1
  unfold labG plc6
  rw [List.getElem?_map, h1]
  rfl
theorem glu_labErr {Lb : List ByteArray} {J : List Nat} (hl : J.length = Lb.length) (h : labErr Lb = 0) : labErr (labG Lb J) = 0 := by
  have h1 := lab_small h
  refine lab_of_all ?_ ?_
  · rw [labG_len]
    have := cntR_le J J.length
    omega
  · rw [List.all_eq_true]
    intro s hs
    unfold labG leadL at hs
    obtain ⟨e, he, rfl⟩ := List.mem_map.1 hs
    have he2 : e < J.length := List.mem_range.1 (List.mem_filter.1 he).1
    rw [List.getElem?_eq_getElem (by omega)]
    exact List.all_eq_true.1 (lab_all h) _ (List.getElem_mem (by omega))
theorem glu_obj {Lb : List ByteArray} {J : List Nat} (P : List (Int × Int)) (hl : J.length = Lb.length) (h : labErr Lb = 0) : chk (labG Lb J) (gluP J P) = 0 :=
  chk_pairs (glu_labErr hl h) (labG_len _ _) (ofL_supp _ _)
theorem glu_pair {J : List Nat} (h : isL J) {P : List (Int × Int)} {x : Int × Int} (hx : x ∈ P) (hi : inI J.length x.1 x.2) : ((plc6 J x.1.toNat : Int), (plc6 J x.2.toNat : Int)) ∈ gluP J P := by
  unfold inI at hi
  have h1 := plc6_lt h (e := x.1.toNat) (by omega)
  have h2 := plc6_lt h (e := x.2.toNat) (by omega)
  refine pairsL_mem.2 ⟨h1, h2, clo_sub _ _ _ _ ?_⟩
  unfold gluR
  refine (ofL_iff _ _ _ _).2 ⟨h1, h2, ?_⟩
  unfold mapP
  refine List.mem_map.2 ⟨x, hx, ?_⟩
  rw [atZ_get (by omega), atZ_get (by omega)]

/-- Where one of both goes, it goes as an arrow. -/
theorem glu_into {Lb L : List ByteArray} {J : List Nat} {PP P : List (Int × Int)} {i : List Int} {s : Nat} (hJ : isL J) (hl : J.length = Lb.length) (hb : labErr Lb = 0) (hc : chk L P = 0) (hs : s + L.length ≤ J.length)
    (hlab : ∀ e, e < L.length → Lb[s + e]?.getD .empty = L[e]?.getD .empty) (hpair : ∀ x ∈ P, ((s : Int) + x.1, (s : Int) + x.2) ∈ PP) (hkeep : ∀ e, e < J.length → Lb[nx J e]?.getD .empty = Lb[e]?.getD .empty)
    (hil : i.length = L.length) (hi : ∀ e, e < L.length → i[e]?.getD 0 = (plc6 J (s + e) : Int)) : arB L P (labG Lb J) (gluP J PP) i = true := by
  have hin := (chk_in hc).2.2.1
  refine arB_mk hc (glu_obj PP hl hb) hil (fun e he => ?_) (fun x hx => ?_)
  · rw [hil] at he
    rw [hi e he]
    have h1 := plc6_lt hJ (e := s + e) (by omega)
    refine ⟨hasZ_iff.2 ⟨by omega, by rw [labG_len]; omega⟩, ?_⟩
    rw [Int.toNat_natCast, glu_lab hJ (by omega), hkeep _ (by omega), hlab e he]
  · have hx2 : inI L.length x.1 x.2 := of_decide_eq_true (List.all_eq_true.1 hin x hx)
    unfold inI at hx2
    have h3 := glu_pair hJ (hpair x hx) (by unfold inI; simp only; omega)
    simp only at h3
    rw [hi _ (by omega), hi _ (by omega)]
    rwa [show ((s : Int) + x.1).toNat = s + x.1.toNat by omega, show ((s : Int) + x.2).toNat = s + x.2.toNat by omega] at h3
/-- Each class comes from somebody. -/
theorem glu_all {J : List Nat} (h : isL J) {k : Nat} (hk : k < cntR J J.length) : ∃ e, e < J.length ∧ plc6 J e = k := by
  have h1 : k < (leadL J).length := by rw [leadL_len]; exact hk
  have h2 : (leadL J)[k]? = some (leadL J)[k] := List.getElem?_eq_getElem h1
  have h3 := List.getElem_mem h1
  have h4 : (leadL J)[k] < J.length ∧ nx J (leadL J)[k] = (leadL J)[k] := by
    have h5 := h3
    unfold leadL at h5
    have := List.mem_filter.1 h5
    exact ⟨List.mem_range.1 this.1, of_decide_eq_true this.2⟩
  refine ⟨(leadL J)[k], h4.1, ?_⟩
  have h5 := leads_at h (Nat.le_refl _) h4.1 h4.2
  rw [leads_eq h] at h5
  obtain ⟨i1, i2⟩ := List.getElem?_eq_some_iff.1 h5
  unfold plc6
  rw [h4.2]
  have hnd : (leadL J).Nodup := by
    unfold leadL
    exact List.Nodup.sublist List.filter_sublist List.nodup_range
  exact (List.getElem_inj hnd (h₀ := i1) (h₁ := h1)).1 i2

theorem at_take {l : List Int} {n e : Nat} (h : e < n) : (l.take n)[e]?.getD 0 = l[e]?.getD 0 := by rw [List.getElem?_take_of_lt h]
theorem at_drop {l : List Int} {n e : Nat} : (l.drop n)[e]?.getD 0 = l[n + e]?.getD 0 := by rw [List.getElem?_drop]

/-- All that PushSquare asks. -/
structure SquA (L0 L L' A : List ByteArray) (P P' B : List (Int × Int)) (f g I J : List Int) : Prop where
  il : I.length = L.length
  jl : J.length = L'.length
  fl : f.length = L0.length
  gl : g.length = L0.length
  fb : thenB f I.length = true
  gb : thenB g J.length = true
  same : thenL f I = thenL g J
  ai : arB L P A B I = true
  aj : arB L' P' A B J = true
  all : ∀ k, k < A.length → (∃ e, e < I.length ∧ I[e]?.getD 0 = (k : Int)) ∨ (∃ e, e < J.length ∧ J[e]?.getD 0 = (k : Int))
theorem square {L0 L L' : List ByteArray} {P0 P P' : List (Int × Int)} {f g : List Int} {n n' : Nat} (hn : L.length = n) (hn' : L'.length = n') (hl : n + n' ≤ 40) (ha : arB L0 P0 L P f = true) (hb : arB L0 P0 L' P' g = true) :
    SquA L0 L L' (labG (L ++ L') (joinsL (n + n') f (shL n g))) P P' (gluP (joinsL (n + n') f (shL n g)) (P ++ shP n P')) f g ((atZ (joinsL (n + n') f (shL n g))).take n) ((atZ (joinsL (n + n') f (shL n g))).drop n) := by
  obtain ⟨_, c1, fl, lf, _⟩ := arB_parts ha
  obtain ⟨_, c2, gl, lg, _⟩ := arB_parts hb
  have hJ := joinsL_is (n + n') f (shL n g)
  have hJl := joinsL_len (n + n') f (shL n g)
  have ff : ∀ j, j < f.length → 0 ≤ f[j]?.getD 0 ∧ f[j]?.getD 0 < n := fun j hj => by have := hasZ_iff.1 (lab1_of lf hj).1; rwa [hn] at this
  have gg : ∀ j, j < g.length → 0 ≤ g[j]?.getD 0 ∧ g[j]?.getD 0 < n' := fun j hj => by have := hasZ_iff.1 (lab1_of lg hj).1; rwa [hn'] at this
  have hsg : ∀ j, j < g.length → (shL n g)[j]?.getD 0 = (n : Int) + g[j]?.getD 0 := fun j hj => by
    unfold shL
    rw [List.getElem?_map, List.getElem?_eq_getElem hj]
    rfl
  have f2 : ∀ j, j < f.length → 0 ≤ f[j]?.getD 0 ∧ f[j]?.getD 0 < (n + n' : Nat) := fun j hj => by have := ff j hj; omega
  have g2 : ∀ j, j < f.length → 0 ≤ (shL n g)[j]?.getD 0 ∧ (shL n g)[j]?.getD 0 < (n + n' : Nat) := fun j hj => by
    have := gg j (by omega)
    rw [hsg j (by omega)]
    omega
  have hla : (L ++ L').length = n + n' := by rw [List.length_append, hn, hn']
  have hle : labErr (L ++ L') = 0 := lab_app (chk_in c1).1 (chk_in c2).1 (by omega)
  have happ1 : ∀ e, e < n → (L ++ L')[e]?.getD .empty = L[e]?.getD .empty := fun e he => by rw [List.getElem?_append_left (by omega)]
  have happ2 : ∀ e, e < n' → (L ++ L')[n + e]?.getD .empty = L'[e]?.getD .empty := fun e he => by rw [List.getElem?_append_right (by omega), hn, show n + e - n = e by omega]
  have hkeep : ∀ e, e < n + n' → (L ++ L')[nx (joinsL (n + n') f (shL n g)) e]?.getD .empty = (L ++ L')[e]?.getD .empty := by
    intro e he
    refine joinsK_lab (p := fun e => (L ++ L')[e]?.getD ByteArray.empty) f2 g2 (fun j hj => ?_) e he
    have h1 := ff j hj
    have h2 := gg j (by omega)
    rw [hsg j (by omega), show ((n : Int) + g[j]?.getD 0).toNat = n + (g[j]?.getD 0).toNat by omega, happ1 _ (by omega), happ2 _ (by omega), ← (lab1_of lf hj).2, ← (lab1_of lg (i := j) (by omega)).2]
  have hone : ∀ j, j < f.length → nx (joinsL (n + n') f (shL n g)) (f[j]?.getD 0).toNat = nx (joinsL (n + n') f (shL n g)) (n + (g[j]?.getD 0).toNat) := fun j hj => by
    have := joinsK_one f2 g2 hj
    have h2 := gg j (by omega)
    rwa [hsg j (by omega), show ((n : Int) + g[j]?.getD 0).toNat = n + (g[j]?.getD 0).toNat by omega] at this
  generalize joinsL (n + n') f (shL n g) = J at *
  have hal : (atZ J).length = n + n' := by rw [atZ_len, hJl]
  have il : ((atZ J).take n).length = n := by rw [List.length_take, hal]; omega
  have jl : ((atZ J).drop n).length = n' := by rw [List.length_drop, hal]; omega
  have hi : ∀ e, e < n → ((atZ J).take n)[e]?.getD 0 = (plc6 J e : Int) := fun e he => by rw [at_take he, atZ_get (by omega)]
  have hj : ∀ e, e < n' → ((atZ J).drop n)[e]?.getD 0 = (plc6 J (n + e) : Int) := fun e he => by rw [at_drop, atZ_get (by omega)]
  refine ⟨by rw [il, hn], by rw [jl, hn'], fl, gl, ?_, ?_, ?_, ?_, ?_, ?_⟩
  · rw [il, ← hn]; exact lab_has lf
  · rw [jl, ← hn']; exact lab_has lg
  · apply List.ext_getElem?
    intro k
    unfold thenL
    rw [List.getElem?_map, List.getElem?_map]
    rcases Nat.lt_or_ge k f.length with h | h
    · have h1 := ff k h
      have h2 := gg k (by omega)
      have h3 := hone k h
      rw [List.getElem?_eq_getElem h, Option.getD_some] at h1 h3
      rw [List.getElem?_eq_getElem (show k < g.length by omega), Option.getD_some] at h2 h3
      rw [List.getElem?_eq_getElem h, List.getElem?_eq_getElem (show k < g.length by omega)]
      simp only [Option.map_some]
      rw [hi _ (by omega), hj _ (by omega)]
      unfold plc6
      rw [h3]
    · rw [List.getElem?_eq_none h, List.getElem?_eq_none (by omega)]
      rfl
  · refine glu_into (s := 0) hJ (by omega) hle c1 (by omega) (fun e he => by rw [Nat.zero_add]; exact happ1 e (by omega)) (fun x hx => ?_) (fun e he => hkeep e (by omega)) (by omega) (fun e he => by rw [hi e (by omega), Nat.zero_add])
    rw [List.mem_append]
    exact .inl (by simpa using hx)
  · refine glu_into (s := n) hJ (by omega) hle c2 (by omega) (fun e he => happ2 e (by omega)) (fun x hx => ?_) (fun e he => hkeep e (by omega)) (by omega) (fun e he => hj e (by omega))
    rw [List.mem_append]
    exact .inr (List.mem_map.2 ⟨x, hx, rfl⟩)
  · intro k hk
    rw [labG_len] at hk
    obtain ⟨e, he, rfl⟩ := glu_all hJ hk
    rcases Nat.lt_or_ge e n with h | h
    · exact .inl ⟨e, by omega, hi e h⟩
    · exact .inr ⟨e - n, by omega, by rw [hj _ (by omega), show n + (e - n) = e by omega]⟩

end Go.Proofs.YtihkjgiaajgkpaaDoor
