/- Plain: over all of one the other one stays as it is; over nothing it is the sum. -/
import Derived.Test.YtihkjgiaajgkpaaDoorSquP
namespace Go.Proofs.YtihkjgiaajgkpaaDoor

theorem obj_trans {L : List ByteArray} {P : List (Int × Int)} (h : chk L P = 0) : Trans (ofL L.length P) := by
  have h3 := (chk_in h).2.2.2
  have hc : clo L.length (ofL L.length P) = ofL L.length P := grewC_none (ofL_supp _ _) _ h3
  rw [← hc]
  exact clo_trans (ofL_supp _ _)
theorem mem_shP {n : Nat} {P : List (Int × Int)} {x : Int × Int} : x ∈ shP n P ↔ (x.1 - n, x.2 - n) ∈ P := by
  unfold shP
  rw [List.mem_map]
  constructor
  · rintro ⟨y, hy, rfl⟩
    simp only
    rwa [show (n : Int) + y.1 - n = y.1 by omega, show (n : Int) + y.2 - n = y.2 by omega]
  · intro h
    exact ⟨_, h, by simp only; ext <;> simp only <;> omega⟩
theorem in_of {n : Nat} {P : List (Int × Int)} (h : allIn n P = true) {x : Int × Int} (hx : x ∈ P) : 0 ≤ x.1 ∧ x.1 < n ∧ 0 ≤ x.2 ∧ x.2 < n := by
  have h1 : inI n x.1 x.2 := of_decide_eq_true (List.all_eq_true.1 h x hx)
  exact h1
/-- A sum of objects is an object. -/
theorem chk_beside {L L' : List ByteArray} {P P' : List (Int × Int)} (h : chk L P = 0) (h' : chk L' P' = 0) (hl : L.length + L'.length ≤ 40) : chk (L ++ L') (P ++ shP L.length P') = 0 := by
  obtain ⟨a1, a2, a3, _⟩ := chk_in h
  obtain ⟨b1, b2, b3, _⟩ := chk_in h'
  have t1 := obj_trans h
  have t2 := obj_trans h'
  have hall := allIn_app a3 b3
  refine chk_ok (lab_app a1 b1 hl) ?_
  have hr : risesB (P ++ shP L.length P') = true := by
    refine risesB_up (List.pairwise_append.2 ⟨rises_up a2, ?_, ?_⟩)
    · unfold shP
      rw [List.pairwise_map]
      exact (rises_up b2).imp fun {x y} hxy => by unfold LtQ at *; simp only; omega
    · intro x hx y hy
      have q1 := in_of a3 hx
      have q2 := in_of b3 (mem_shP.1 hy)
      simp only at q2
      exact .inl (by omega)
  have hlen : (L ++ L').length = L.length + L'.length := by simp
  rw [hr, hlen, hall]
  have htr : Trans (ofL (L.length + L'.length) (P ++ shP L.length P')) := by
    intro a b c hab hbc
    have e1 := (ofL_iff _ _ _ _).1 hab
    have e2 := (ofL_iff _ _ _ _).1 hbc
    refine (ofL_iff _ _ _ _).2 ⟨e1.1, e2.2.1, ?_⟩
    rw [List.mem_append]
    rcases List.mem_append.1 e1.2.2 with h1 | h1 <;> rcases List.mem_append.1 e2.2.2 with h2 | h2
    · have i1 := in_of a3 h1
      have i2 := in_of a3 h2
      simp only at i1 i2
      exact .inl ((ofL_iff _ _ _ _).1 (t1 a b c ((ofL_iff _ _ _ _).2 ⟨by omega, by omega, h1⟩) ((ofL_iff _ _ _ _).2 ⟨by omega, by omega, h2⟩))).2.2
    · have i1 := in_of a3 h1
      have i2 := in_of b3 (mem_shP.1 h2)
      simp only at i1 i2
      omega
    · have i1 := in_of b3 (mem_shP.1 h1)
      have i2 := in_of a3 h2
      simp only at i1 i2
      omega
    · have j1 := mem_shP.1 h1
      have j2 := mem_shP.1 h2
      have i1 := in_of b3 j1
      have i2 := in_of b3 j2
      simp only at i1 i2 j1 j2
      rw [show (a : Int) - L.length = ((a - L.length : Nat) : Int) by omega, show (b : Int) - L.length = ((b - L.length : Nat) : Int) by omega] at j1
      rw [show (b : Int) - L.length = ((b - L.length : Nat) : Int) by omega, show (c : Int) - L.length = ((c - L.length : Nat) : Int) by omega] at j2
      have h3 := ((ofL_iff _ _ _ _).1 (t2 _ _ _ ((ofL_iff _ _ _ _).2 ⟨by omega, by omega, j1⟩) ((ofL_iff _ _ _ _).2 ⟨by omega, by omega, j2⟩))).2.2
      refine .inr (mem_shP.2 ?_)
      simp only
      rwa [show (a : Int) - L.length = ((a - L.length : Nat) : Int) by omega, show (c : Int) - L.length = ((c - L.length : Nat) : Int) by omega]
  cases hg : grewC (L.length + L'.length) (ofL (L.length + L'.length) (P ++ shP L.length P')) (L.length + L'.length)
  · rfl
  · exact absurd (clo_of_trans htr) ((grewC_iff (ofL_supp _ _)).1 hg)

theorem joinsL_nil (n : Nat) (g : List Int) : joinsL n [] g = List.range n := rfl
theorem idL_take {n m : Nat} : (idL (n + m)).take n = idL n := by
  unfold idL
  rw [← List.map_take, List.take_range, Nat.min_eq_left (by omega)]
theorem idL_drop {n m : Nat} : (idL (n + m)).drop n = shL n (idL m) := by
  apply List.ext_getElem?
  intro k
  rw [List.getElem?_drop]
  unfold shL idL
  rw [List.getElem?_map, List.getElem?_map, List.getElem?_map]
  rcases Nat.lt_or_ge k m with h | h
  · rw [List.getElem?_range h, List.getElem?_range (by omega)]
    simp
  · rw [List.getElem?_eq_none (by simpa using h), List.getElem?_eq_none (by simp; omega)]
    rfl

/-- All of one made one with where it goes: nothing is new. -/
structure OverJ (N n : Nat) (f : List Int) (k : Nat) (J : List Nat) : Prop where
  len : J.length = N + n
  own : ∀ e, e < N → nx J e = e
  done : ∀ x, x < k → nx J (N + x) = (f[x]?.getD 0).toNat
  still : ∀ x, k ≤ x → x < n → nx J (N + x) = N + x
theorem over_joins {N n : Nat} {f : List Int} (hf : ∀ x, x < n → 0 ≤ f[x]?.getD 0 ∧ f[x]?.getD 0 < N) {k : Nat} (hk : k ≤ n) : OverJ N n f k (joinsK (List.range (N + n)) f (shL N (idL n)) k) := by
  induction k with
  | zero => exact ⟨by rw [joinsK, List.length_range], fun e he => nx_range (by omega), fun x hx => by omega, fun x _ hx => nx_range (by omega)⟩
  | succ k ih =>
    have h := ih (by omega)
    rw [joinsK]
    generalize joinsK (List.range (N + n)) f (shL N (idL n)) k = J at h
    have hs : (shL N (idL n))[k]?.getD 0 = (N : Int) + k := by
      unfold shL idL
      rw [List.getElem?_map, List.getElem?_map, List.getElem?_range (by omega)]
      rfl
    have h1 := hf k (by omega)
    have hl := h.len
    have hj : joinZ J (f[k]?.getD 0) ((shL N (idL n))[k]?.getD 0) = joinL J (f[k]?.getD 0).toNat (N + k) := by
      rw [hs]
      unfold joinZ
      rw [if_pos (by rw [Bool.and_eq_true, hasZ_iff, hasZ_iff]; omega)]
      rfl
    rw [hj]
    have a1 := h.own (f[k]?.getD 0).toNat (by omega)
    have a2 := h.still k (Nat.le_refl _) (by omega)
    refine ⟨by rw [joinL_len, hl], fun e he => ?_, fun x hx => ?_, fun x hx hxn => ?_⟩
    · rw [nx_joinL (by omega), a1, a2, h.own e he]
      split <;> omega
    · rw [nx_joinL (by omega), a1, a2]
      by_cases e : x = k
      · subst e
        rw [a2, if_pos (.inr rfl)]
        omega
      · rw [h.done x (by omega)]
        have h2 := hf x (by omega)
        split <;> omega
    · rw [nx_joinL (by omega), a1, a2, h.still x (by omega) hxn]
      split <;> omega
theorem over_cnt {N n : Nat} {f : List Int} (hf : ∀ x, x < n → 0 ≤ f[x]?.getD 0 ∧ f[x]?.getD 0 < N) {J : List Nat} (h : OverJ N n f n J) {m : Nat} (hm : m ≤ N + n) : cntR J m = min m N := by
  induction m with
  | zero => simp [cntR]
  | succ m ih =>
    rw [cntR_succ, ih (by omega)]
    rcases Nat.lt_or_ge m N with q | q
    · rw [if_pos (h.own m q)]; omega
    · have h1 := h.done (m - N) (by omega)
      have h2 := hf (m - N) (by omega)
      rw [show N + (m - N) = m by omega] at h1
      rw [if_neg (by omega)]
      omega
theorem over_plc {N n : Nat} {f : List Int} (hf : ∀ x, x < n → 0 ≤ f[x]?.getD 0 ∧ f[x]?.getD 0 < N) {J : List Nat} (h : OverJ N n f n J) {e : Nat} (he : e < N) : plc6 J e = e := by
  unfold plc6
  rw [h.own e he, over_cnt hf h (by omega)]
  omega
theorem over_plc2 {N n : Nat} {f : List Int} (hf : ∀ x, x < n → 0 ≤ f[x]?.getD 0 ∧ f[x]?.getD 0 < N) {J : List Nat} (h : OverJ N n f n J) {x : Nat} (hx : x < n) : (plc6 J (N + x) : Int) = f[x]?.getD 0 := by
  have h2 := hf x hx
  unfold plc6
  rw [h.done x hx, over_cnt hf h (by omega)]
  omega

/-- What Push answers over all of a, the other one being b. -/
theorem over_all {L0 L : List ByteArray} {P0 P : List (Int × Int)} {f : List Int} {N n : Nat} (hN : L.length = N) (hn : L0.length = n) (ha : arB L0 P0 L P f = true) :
    labG (L ++ L0) (joinsL (N + n) f (shL N (idL n))) = L ∧ gluP (joinsL (N + n) f (shL N (idL n))) (P ++ shP N P0) = P ∧
    (atZ (joinsL (N + n) f (shL N (idL n)))).take N = idL N ∧ (atZ (joinsL (N + n) f (shL N (idL n)))).drop N = f := by
  obtain ⟨c0, c1, fl, lf, _⟩ := arB_parts ha
  have hpr := arB_pairs ha
  have hf : ∀ x, x < n → 0 ≤ f[x]?.getD 0 ∧ f[x]?.getD 0 < N := fun x hx => by have := hasZ_iff.1 (lab1_of lf (i := x) (by omega)).1; rwa [hN] at this
  have hJ := over_joins (N := N) hf (Nat.le_refl n)
  have hI := joinsL_is (N + n) f (shL N (idL n))
  have he : joinsL (N + n) f (shL N (idL n)) = joinsK (List.range (N + n)) f (shL N (idL n)) n := by unfold joinsL; rw [fl, hn]
  rw [he] at hI ⊢
  generalize joinsK (List.range (N + n)) f (shL N (idL n)) n = J at *
  have hJl := hJ.len
  have hcnt : cntR J J.length = N := by rw [over_cnt hf hJ (by omega), hJl]; omega
  have hat1 : ∀ e, e < N → (atZ J)[e]?.getD 0 = (e : Int) := fun e he => by rw [atZ_get (by omega), over_plc hf hJ he]
  have hat2 : ∀ x, x < n → (atZ J)[N + x]?.getD 0 = f[x]?.getD 0 := fun x hx => by rw [atZ_get (by omega), over_plc2 hf hJ hx]
  have hal : (atZ J).length = N + n := by rw [atZ_len, hJl]
  refine ⟨?_, ?_, ?_, ?_⟩
  · apply List.ext_getElem
    · rw [labG_len, hcnt, hN]
    · intro i h1 h2
      have hi : i < N := by omega
      have h3 := glu_lab (Lb := L ++ L0) hI (e := i) (by omega)
      rw [over_plc hf hJ hi, hJ.own i hi, List.getElem?_append_left h2, List.getElem?_eq_getElem h1, List.getElem?_eq_getElem h2] at h3
      simpa using h3
  · unfold gluP gluR
    rw [hcnt]
    have hR : ofL N (mapP (atZ J) (P ++ shP N P0)) = ofL N P := by
      funext x y
      rw [Bool.eq_iff_iff, ofL_iff, ofL_iff]
      have hm : ((x : Int), (y : Int)) ∈ mapP (atZ J) (P ++ shP N P0) ↔ ((x : Int), (y : Int)) ∈ P := by
        unfold mapP
        rw [List.mem_map]
        constructor
        · rintro ⟨z, hz, e⟩
          rcases List.mem_append.1 hz with hz | hz
          · have q := in_of (chk_in c1).2.2.1 hz
            rw [hN] at q
            rw [hat1 _ (by omega), hat1 _ (by omega), Int.toNat_of_nonneg q.1, Int.toNat_of_nonneg q.2.2.1] at e
            rw [← e]
            exact hz
          · have hz2 := mem_shP.1 hz
            have q := in_of (chk_in c0).2.2.1 hz2
            rw [hn] at q
            simp only at q
            have h5 := hpr _ hz2
            simp only at h5
            rw [show z.1.toNat = N + (z.1 - N).toNat by omega, show z.2.toNat = N + (z.2 - N).toNat by omega, hat2 _ (by omega), hat2 _ (by omega)] at e
            rw [← e]
            exact h5
        · intro hz
          have q := in_of (chk_in c1).2.2.1 hz
          rw [hN] at q
          simp only at q
          refine ⟨_, List.mem_append.2 (.inl hz), ?_⟩
          simp only [Int.toNat_natCast]
          rw [hat1 _ (by omega), hat1 _ (by omega)]
      rw [hm]
    rw [hR, ← hN]
    exact obj_pairs c1
  · apply List.ext_getElem
    · rw [List.length_take, hal, idL_len]; omega
    · intro i h1 h2
      have hi : i < N := by rw [idL_len] at h2; exact h2
      have h3 := hat1 i hi
      rw [List.getElem?_eq_getElem (by omega)] at h3
      rw [List.getElem_take]
      simp only [Option.getD_some] at h3
      rw [h3]
      simp [idL]
  · apply List.ext_getElem
    · rw [List.length_drop, hal]; omega
    · intro i h1 h2
      have h3 := hat2 i (by omega)
      rw [List.getElem?_eq_getElem (by omega), List.getElem?_eq_getElem h2] at h3
      rw [List.getElem_drop]
      simpa using h3

end Go.Proofs.YtihkjgiaajgkpaaDoor
