/- Plain: out of what is put together over what both have there is just one way. -/
import Derived.Test.YtemnbkenihldgaaDoorSquP
namespace Go.Proofs.YtemnbkenihldgaaDoor

/-- Out of a gluing: where all of one class are led to one, the classes are led there, as an arrow. -/
theorem glu_out {Lb L : List ByteArray} {J : List Nat} {PP P : List (Int × Int)} {v U : List Int} (hJ : isL J) (hl : J.length = Lb.length) (hb : labErr Lb = 0) (hc : chk L P = 0) (hin : allIn Lb.length PP = true)
    (hv : ∀ e, e < J.length → hasZ L.length (v[e]?.getD 0) = true ∧ Lb[e]?.getD .empty = L[(v[e]?.getD 0).toNat]?.getD .empty)
    (hp : ∀ x ∈ PP, (v[x.1.toNat]?.getD 0, v[x.2.toNat]?.getD 0) ∈ P)
    (hU : U.length = cntR J J.length) (hu : ∀ e, e < J.length → U[plc6 J e]?.getD 0 = v[e]?.getD 0) : arB (labG Lb J) (gluP J PP) L P U = true := by
  have hN : (labG Lb J).length = cntR J J.length := labG_len _ _
  refine arB_mk (glu_obj PP hl hb) hc (by rw [hU, hN]) (fun k hk => ?_) (fun x hx => ?_)
  · rw [hU] at hk
    obtain ⟨e, he, rfl⟩ := glu_all hJ hk
    have h1 : nx J e < J.length := Nat.lt_of_le_of_lt (hJ.le e he) he
    have h2 : plc6 J (nx J e) = plc6 J e := by unfold plc6; rw [hJ.fix e he]
    have h3 := hu (nx J e) h1
    rw [h2, hu e he] at h3
    rw [hu e he, glu_lab hJ he]
    exact ⟨(hv e he).1, by rw [(hv _ h1).2, ← h3]⟩
  · have hT : Trans (fun a b => ofL L.length P (U[a]?.getD 0).toNat (U[b]?.getD 0).toNat) := fun a b c => obj_trans hc _ _ _
    have hS : Sub (gluR J PP) (fun a b => ofL L.length P (U[a]?.getD 0).toNat (U[b]?.getD 0).toNat) := by
      intro a b hab
      unfold gluR at hab
      obtain ⟨_, _, hm⟩ := (ofL_iff _ _ _ _).1 hab
      unfold mapP at hm
      obtain ⟨y, hy, hye⟩ := List.mem_map.1 hm
      have hiy : inI Lb.length y.1 y.2 := of_decide_eq_true (List.all_eq_true.1 hin y hy)
      unfold inI at hiy
      rw [atZ_get (by omega), atZ_get (by omega)] at hye
      injection hye with e1 e2
      have e1' : plc6 J y.1.toNat = a := by omega
      have e2' : plc6 J y.2.toNat = b := by omega
      have q1 := hu y.1.toNat (by omega)
      have q2 := hu y.2.toNat (by omega)
      rw [e1'] at q1
      rw [e2'] at q2
      have r1 := hasZ_iff.1 (hv y.1.toNat (by omega)).1
      have r2 := hasZ_iff.1 (hv y.2.toNat (by omega)).1
      have hm2 := hp y hy
      show ofL L.length P (U[a]?.getD 0).toNat (U[b]?.getD 0).toNat = true
      rw [q1, q2]
      refine (ofL_iff _ _ _ _).2 ⟨by omega, by omega, ?_⟩
      rw [Int.toNat_of_nonneg r1.1, Int.toNat_of_nonneg r2.1]
      exact hm2
    obtain ⟨x1, x2⟩ := x
    unfold gluP at hx
    have hxi := pairsL_in _ hx
    unfold inI at hxi
    simp only at hxi ⊢
    obtain ⟨a, rfl⟩ := Int.eq_ofNat_of_zero_le (show 0 ≤ x1 by omega)
    obtain ⟨b, rfl⟩ := Int.eq_ofNat_of_zero_le (show 0 ≤ x2 by omega)
    have h4 := clo_least hS hT a b (pairsL_mem.1 hx).2.2
    obtain ⟨_, _, h5⟩ := (ofL_iff _ _ _ _).1 h4
    rw [Int.toNat_natCast, Int.toNat_natCast]
    have hpos : ∀ k, k < cntR J J.length → 0 ≤ U[k]?.getD 0 := by
      intro k hk
      obtain ⟨e, he, rfl⟩ := glu_all hJ hk
      rw [hu e he]
      exact (hasZ_iff.1 (hv e he).1).1
    rwa [Int.toNat_of_nonneg (hpos a (by omega)), Int.toNat_of_nonneg (hpos b (by omega))] at h5

/-- Where each class is led, if its least element is led by v. -/
def outG (J : List Nat) (v : List Int) : List Int := (leadL J).map fun e => v[e]?.getD 0
theorem outG_len (J : List Nat) (v : List Int) : (outG J v).length = cntR J J.length := by simp [outG, leadL_len]
theorem outG_at {J : List Nat} {v : List Int} (h : isL J) {e : Nat} (he : e < J.length) : (outG J v)[plc6 J e]?.getD 0 = v[nx J e]?.getD 0 := by
  have h1 := leads_at h (Nat.le_refl _) (Nat.lt_of_le_of_lt (h.le e he) he) (h.fix e he)
  rw [leads_eq h] at h1
  unfold outG plc6
  rw [List.getElem?_map, h1]
  rfl

theorem ext0 {l r : List Int} (hl : l.length = r.length) (h : ∀ k, k < l.length → l[k]?.getD 0 = r[k]?.getD 0) : l = r := by
  apply List.ext_getElem hl
  intro k h1 h2
  have := h k h1
  rw [List.getElem?_eq_getElem h1, List.getElem?_eq_getElem h2] at this
  exact this

/-- The way out of what is put together: of each class where its least element is led. -/
def outW (n n' : Nat) (f g h k : List Int) : List Int := outG (joinsL (n + n') f (shL n g)) (h ++ k)
/-- The way out: there is one. -/
theorem push_out {L0 L L' D : List ByteArray} {P0 P P' Q : List (Int × Int)} {f g h k : List Int} {n n' : Nat} (hn : L.length = n) (hn' : L'.length = n') (hl : n + n' ≤ 40) (ha : arB L0 P0 L P f = true) (hb : arB L0 P0 L' P' g = true)
    (hh : arB L P D Q h = true) (hk : arB L' P' D Q k = true) (he : thenL f h = thenL g k) :
    arB (labG (L ++ L') (joinsL (n + n') f (shL n g))) (gluP (joinsL (n + n') f (shL n g)) (P ++ shP n P')) D Q (outW n n' f g h k) = true ∧
      thenL ((atZ (joinsL (n + n') f (shL n g))).take n) (outW n n' f g h k) = h ∧ thenL ((atZ (joinsL (n + n') f (shL n g))).drop n) (outW n n' f g h k) = k := by
  unfold outW
  obtain ⟨c1, c3, lh, kh, _⟩ := arB_parts hh
  obtain ⟨c2, _, lk, kk, _⟩ := arB_parts hk
  obtain ⟨_, _, fl, lf, _⟩ := arB_parts ha
  obtain ⟨_, _, gl, lg, _⟩ := arB_parts hb
  have hJ := joinsL_is (n + n') f (shL n g)
  have hJl := joinsL_len (n + n') f (shL n g)
  have ff : ∀ j, j < f.length → 0 ≤ f[j]?.getD 0 ∧ f[j]?.getD 0 < n := fun j hj => by have := hasZ_iff.1 (lab1_of lf hj).1; rwa [hn] at this
  have gg : ∀ j, j < g.length → 0 ≤ g[j]?.getD 0 ∧ g[j]?.getD 0 < n' := fun j hj => by have := hasZ_iff.1 (lab1_of lg hj).1; rwa [hn'] at this
  have hsg : ∀ j, j < g.length → (shL n g)[j]?.getD 0 = (n : Int) + g[j]?.getD 0 := fun j hj => by
    unfold shL
    rw [List.getElem?_map, List.getElem?_eq_getElem hj]
    rfl
  have f2 : ∀ j, j < f.length → 0 ≤ f[j]?.getD 0 ∧ f[j]?.getD 0 < (n + n' : Nat) := fun j hj => by have := ff j hj; omega
  have g2 : ∀ j, j < f.length → 0 ≤ (shL n g)[j]?.getD 0 ∧ (shL n g)[j]?.getD 0 < (n + n' : Nat) := fun j hj => by
    have := gg j (by omega)
    rw [hsg j (by omega)]
    omega
  have hla : (L ++ L').length = n + n' := by rw [List.length_append, hn, hn']
  have hle : labErr (L ++ L') = 0 := lab_app (chk_in c1).1 (chk_in c2).1 (by omega)
  have hv1 : ∀ e, e < n → (h ++ k)[e]?.getD 0 = h[e]?.getD 0 := fun e he => by rw [List.getElem?_append_left (by omega)]
  have hv2 : ∀ e, e < n' → (h ++ k)[n + e]?.getD 0 = k[e]?.getD 0 := fun e he => by rw [List.getElem?_append_right (by omega), show n + e - h.length = e by omega]
  have hkeep : ∀ e, e < n + n' → (h ++ k)[nx (joinsL (n + n') f (shL n g)) e]?.getD 0 = (h ++ k)[e]?.getD 0 := by
    intro e he2
    refine joinsK_lab (p := fun e => (h ++ k)[e]?.getD (0 : Int)) f2 g2 (fun j hj => ?_) e he2
    have h1 := ff j hj
    have h2 := gg j (by omega)
    rw [hsg j (by omega), show ((n : Int) + g[j]?.getD 0).toNat = n + (g[j]?.getD 0).toNat by omega, hv1 _ (by omega), hv2 _ (by omega), ← thenL_get hj, ← thenL_get (show j < g.length by omega), he]
  have hin1 := (chk_in c1).2.2.1
  have hin2 := (chk_in c2).2.2.1
  have hinA : allIn (L ++ L').length (P ++ shP n P') = true := by rw [hla]; exact allIn_app (by rw [hn] at hin1; exact hin1) (by rw [hn'] at hin2; exact hin2)
  generalize joinsL (n + n') f (shL n g) = J at *
  have hat : ∀ e, e < n + n' → (outG J (h ++ k))[plc6 J e]?.getD 0 = (h ++ k)[e]?.getD 0 := fun e he2 => by rw [outG_at hJ (by omega), hkeep e he2]
  have hal : (atZ J).length = n + n' := by rw [atZ_len, hJl]
  have il : ((atZ J).take n).length = n := by rw [List.length_take, hal]; omega
  have jl : ((atZ J).drop n).length = n' := by rw [List.length_drop, hal]; omega
  have hi : ∀ e, e < n → ((atZ J).take n)[e]?.getD 0 = (plc6 J e : Int) := fun e he => by rw [at_take he, atZ_get (by omega)]
  have hj : ∀ e, e < n' → ((atZ J).drop n)[e]?.getD 0 = (plc6 J (n + e) : Int) := fun e he => by rw [at_drop, atZ_get (by omega)]
  refine ⟨?_, ?_, ?_⟩
  · refine glu_out (v := h ++ k) hJ (by omega) hle c3 hinA (fun e he2 => ?_) (fun x hx => ?_) (outG_len _ _) (fun e he2 => hat e (by omega))
    · rcases Nat.lt_or_ge e n with q | q
      · rw [hv1 e q, List.getElem?_append_left (by omega)]
        exact lab1_of kh (by omega)
      · have := hv2 (e - n) (by omega)
        rw [show n + (e - n) = e by omega] at this
        rw [this, List.getElem?_append_right (by omega), hn]
        exact lab1_of kk (by omega)
    · rcases List.mem_append.1 hx with hx | hx
      · have hx2 := in_of hin1 hx
        rw [hv1 _ (by omega), hv1 _ (by omega)]
        exact arB_pairs hh x hx
      · unfold shP at hx
        obtain ⟨y, hy, rfl⟩ := List.mem_map.1 hx
        have hx2 := in_of hin2 hy
        simp only
        rw [show ((n : Int) + y.1).toNat = n + y.1.toNat by omega, show ((n : Int) + y.2).toNat = n + y.2.toNat by omega, hv2 _ (by omega), hv2 _ (by omega)]
        exact arB_pairs hk y hy
  · refine ext0 (by rw [thenL_len, il, lh, hn]) (fun e he2 => ?_)
    rw [thenL_len, il] at he2
    rw [thenL_get (by omega), hi e he2, Int.toNat_natCast, hat e (by omega), hv1 e he2]
  · refine ext0 (by rw [thenL_len, jl, lk, hn']) (fun e he2 => ?_)
    rw [thenL_len, jl] at he2
    rw [thenL_get (by omega), hj e he2, Int.toNat_natCast, hat _ (by omega), hv2 e he2]

/-- All of N are reached by I or J. -/
def Reach (N : Nat) (I J : List Int) : Prop := ∀ k, k < N → (∃ e, e < I.length ∧ I[e]?.getD 0 = (k : Int)) ∨ (∃ e, e < J.length ∧ J[e]?.getD 0 = (k : Int))
theorem Reach.swap {N : Nat} {I J : List Int} (h : Reach N I J) : Reach N J I := fun k hk => (h k hk).symm
/-- The way out: there is one alone. -/
theorem way_only {N : Nat} {I J U V : List Int} (h : Reach N I J) (hU : U.length = N) (hV : V.length = N) (hi : thenL I U = thenL I V) (hj : thenL J U = thenL J V) : U = V := by
  refine ext0 (by omega) (fun k hk => ?_)
  rcases h k (by omega) with ⟨e, he, hx⟩ | ⟨e, he, hx⟩
  · have h1 := thenL_get (f := I) (g := U) he
    have h2 := thenL_get (f := I) (g := V) he
    rw [hi] at h1
    rw [hx, Int.toNat_natCast] at h1 h2
    exact h1.symm.trans h2
  · have h1 := thenL_get (f := J) (g := U) he
    have h2 := thenL_get (f := J) (g := V) he
    rw [hj] at h1
    rw [hx, Int.toNat_natCast] at h1 h2
    exact h1.symm.trans h2

/-- Whether four maps are a cocone. -/
def coneB (L0 : List ByteArray) (P0 : List (Int × Int)) (L : List ByteArray) (P : List (Int × Int)) (L' : List ByteArray) (P' : List (Int × Int)) (f g : List Int) (D : List ByteArray) (Q : List (Int × Int)) (h k : List Int) : Bool :=
  arB L0 P0 L P f && (arB L0 P0 L' P' g && (arB L P D Q h && (arB L' P' D Q k && decide (thenL f h = thenL g k))))
/-- What Push tells. -/
def pushR (L0 : List ByteArray) (P0 : List (Int × Int)) (L : List ByteArray) (P : List (Int × Int)) (L' : List ByteArray) (P' : List (Int × Int)) (f g : List Int) : Int :=
  if 40 < L0.length then 11 else if 40 < L.length + L'.length then 11 else if (arB L0 P0 L P f && arB L0 P0 L' P' g) = true then 0 else 10
theorem pushR_swap (L0 : List ByteArray) (P0 : List (Int × Int)) (L : List ByteArray) (P : List (Int × Int)) (L' : List ByteArray) (P' : List (Int × Int)) (f g : List Int) : pushR L0 P0 L' P' L P g f = pushR L0 P0 L P L' P' f g := by
  unfold pushR
  rw [Nat.add_comm, Bool.and_comm]
theorem pushR_three (L0 : List ByteArray) (P0 : List (Int × Int)) (L : List ByteArray) (P : List (Int × Int)) (L' : List ByteArray) (P' : List (Int × Int)) (f g : List Int) : pushR L0 P0 L P L' P' f g = 0 ∨ pushR L0 P0 L P L' P' f g = 10 ∨ pushR L0 P0 L P L' P' f g = 11 := by
  unfold pushR
  split
  · exact .inr (.inr rfl)
  · split
    · exact .inr (.inr rfl)
    · split
      · exact .inl rfl
      · exact .inr (.inl rfl)
/-- What is true of what Push answers. -/
structure PushA (L0 L L' A : List ByteArray) (P0 P P' B : List (Int × Int)) (f g I J : List Int) : Prop where
  squ : SquA L0 L L' A P P' B f g I J
  af : arB L0 P0 L P f = true
  ag : arB L0 P0 L' P' g = true
  few : L.length + L'.length ≤ 40
  small : A.length ≤ 40
  pairs : B.length ≤ 1600
  way : ∀ (D : List ByteArray) (Q : List (Int × Int)) (h k : List Int), arB L P D Q h = true → arB L' P' D Q k = true → thenL f h = thenL g k → arB A B D Q (outW L.length L'.length f g h k) = true ∧ thenL I (outW L.length L'.length f g h k) = h ∧ thenL J (outW L.length L'.length f g h k) = k
theorem PushA.reach {L0 L L' A : List ByteArray} {P0 P P' B : List (Int × Int)} {f g I J : List Int} (h : PushA L0 L L' A P0 P P' B f g I J) : Reach A.length I J := h.squ.all
theorem PushA.thenI {L0 L L' A : List ByteArray} {P0 P P' B : List (Int × Int)} {f g I J : List Int} (h : PushA L0 L L' A P0 P P' B f g I J) {n : Nat} (hn : n = A.length) : thenB I n = true ∧ thenB J n = true := by
  subst hn
  exact ⟨lab_has (arB_parts h.squ.ai).2.2.2.1, lab_has (arB_parts h.squ.aj).2.2.2.1⟩
theorem coneB_parts {L0 L L' D : List ByteArray} {P0 P P' Q : List (Int × Int)} {f g h k : List Int} (hc : coneB L0 P0 L P L' P' f g D Q h k = true) : arB L0 P0 L P f = true ∧ arB L0 P0 L' P' g = true ∧ arB L P D Q h = true ∧ arB L' P' D Q k = true ∧ thenL f h = thenL g k := by
  unfold coneB at hc
  simp only [Bool.and_eq_true, decide_eq_true_eq] at hc
  exact ⟨hc.1, hc.2.1, hc.2.2.1, hc.2.2.2.1, hc.2.2.2.2⟩

/-- What Push answers: labels, pairs, both ways, and the error. -/
structure PushV (L0 : List ByteArray) (P0 : List (Int × Int)) (L : List ByteArray) (P : List (Int × Int)) (L' : List ByteArray) (P' : List (Int × Int)) (f g : List Int) (A : List ByteArray) (B : List (Int × Int)) (I J : List Int) (r : Int) : Prop where
  r : r = pushR L0 P0 L P L' P' f g
  a : A = if pushR L0 P0 L P L' P' f g = 0 then labG (L ++ L') (joinsL (L.length + L'.length) f (shL L.length g)) else []
  b : B = if pushR L0 P0 L P L' P' f g = 0 then gluP (joinsL (L.length + L'.length) f (shL L.length g)) (P ++ shP L.length P') else []
  i : I = if pushR L0 P0 L P L' P' f g = 0 then (atZ (joinsL (L.length + L'.length) f (shL L.length g))).take L.length else []
  j : J = if pushR L0 P0 L P L' P' f g = 0 then (atZ (joinsL (L.length + L'.length) f (shL L.length g))).drop L.length else []
theorem pushV_ex (L0 : List ByteArray) (P0 : List (Int × Int)) (L : List ByteArray) (P : List (Int × Int)) (L' : List ByteArray) (P' : List (Int × Int)) (f g : List Int) : ∃ A B I J r, PushV L0 P0 L P L' P' f g A B I J r := ⟨_, _, _, _, _, rfl, rfl, rfl, rfl, rfl⟩
theorem PushV.cases {L0 L L' A : List ByteArray} {P0 P P' B : List (Int × Int)} {f g I J : List Int} {r : Int} (h : PushV L0 P0 L P L' P' f g A B I J r) :
    ((r = 10 ∨ r = 11) ∧ A = [] ∧ B = [] ∧ I = [] ∧ J = []) ∨ (r = 0 ∧ PushA L0 L L' A P0 P P' B f g I J) := by
  obtain ⟨hr, ha, hb, hi, hj⟩ := h
  by_cases h0 : pushR L0 P0 L P L' P' f g = 0
  · rw [if_pos h0] at ha hb hi hj
    refine .inr ⟨hr.trans h0, ?_⟩
    unfold pushR at h0
    split at h0
    · cases h0
    · split at h0
      · cases h0
      · split at h0
        · rename_i h1 h2 h3
          rw [Bool.and_eq_true] at h3
          have hJ : (joinsL (L.length + L'.length) f (shL L.length g)).length ≤ 40 := by rw [joinsL_len]; omega
          have hc := cntR_le (joinsL (L.length + L'.length) f (shL L.length g)) (joinsL (L.length + L'.length) f (shL L.length g)).length
          subst ha hb hi hj
          refine ⟨square rfl rfl (by omega) h3.1 h3.2, h3.1, h3.2, by omega, ?_, ?_, fun D Q h k e1 e2 e3 => push_out rfl rfl (by omega) h3.1 h3.2 e1 e2 e3⟩
          · rw [labG_len]; omega
          · have h2 : cntR (joinsL (L.length + L'.length) f (shL L.length g)) (joinsL (L.length + L'.length) f (shL L.length g)).length * cntR (joinsL (L.length + L'.length) f (shL L.length g)) (joinsL (L.length + L'.length) f (shL L.length g)).length ≤ 40 * 40 := Nat.mul_le_mul (by omega) (by omega)
            unfold gluP
            exact Nat.le_trans (pairsL_len _ _ _) h2
        · cases h0
  · rw [if_neg h0] at ha hb hi hj
    refine .inl ⟨?_, ha, hb, hi, hj⟩
    rw [hr]
    rcases pushR_three L0 P0 L P L' P' f g with h | h | h
    · exact absurd h h0
    · exact .inl h
    · exact .inr h
/-- What Mediate answers. -/
def medR (L0 : List ByteArray) (P0 : List (Int × Int)) (L : List ByteArray) (P : List (Int × Int)) (L' : List ByteArray) (P' : List (Int × Int)) (f g : List Int) (D : List ByteArray) (Q : List (Int × Int)) (h k : List Int) : Int :=
  if pushR L0 P0 L P L' P' f g = 0 then (if 40 < D.length then 11 else if coneB L0 P0 L P L' P' f g D Q h k = true then 0 else 12) else pushR L0 P0 L P L' P' f g
structure MedV (L0 : List ByteArray) (P0 : List (Int × Int)) (L : List ByteArray) (P : List (Int × Int)) (L' : List ByteArray) (P' : List (Int × Int)) (f g : List Int) (D : List ByteArray) (Q : List (Int × Int)) (h k : List Int) (U : List Int) (r : Int) : Prop where
  r : r = medR L0 P0 L P L' P' f g D Q h k
  u : U = if medR L0 P0 L P L' P' f g D Q h k = 0 then outW L.length L'.length f g h k else []
theorem medV_ex (L0 : List ByteArray) (P0 : List (Int × Int)) (L : List ByteArray) (P : List (Int × Int)) (L' : List ByteArray) (P' : List (Int × Int)) (f g : List Int) (D : List ByteArray) (Q : List (Int × Int)) (h k : List Int) : ∃ U r, MedV L0 P0 L P L' P' f g D Q h k U r := ⟨_, _, rfl, rfl⟩
/-- What is true of what Mediate answers, beside what Push answers. -/
theorem MedV.cases {L0 L L' A D : List ByteArray} {P0 P P' B Q : List (Int × Int)} {f g I J h k U : List Int} {r r' : Int} (hv : MedV L0 P0 L P L' P' f g D Q h k U r) (hp : PushV L0 P0 L P L' P' f g A B I J r') :
    ((r' = 10 ∨ r' = 11) ∧ r = r' ∧ U = []) ∨ (r' = 0 ∧ 40 < D.length ∧ r = 11 ∧ U = []) ∨ (r' = 0 ∧ D.length ≤ 40 ∧ coneB L0 P0 L P L' P' f g D Q h k = false ∧ r = 12 ∧ U = []) ∨
      (r' = 0 ∧ D.length ≤ 40 ∧ coneB L0 P0 L P L' P' f g D Q h k = true ∧ r = 0 ∧ U = outW L.length L'.length f g h k ∧ arB A B D Q U = true ∧ thenL I U = h ∧ thenL J U = k) := by
  obtain ⟨hr, hu⟩ := hv
  have hr' := hp.r
  rcases hp.cases with ⟨h1, _⟩ | ⟨h1, hP⟩
  · have h2 : pushR L0 P0 L P L' P' f g ≠ 0 := by omega
    have h3 : medR L0 P0 L P L' P' f g D Q h k = pushR L0 P0 L P L' P' f g := by unfold medR; rw [if_neg h2]
    rw [h3] at hr hu
    rw [if_neg h2] at hu
    exact .inl ⟨h1, by omega, hu⟩
  · have h2 : pushR L0 P0 L P L' P' f g = 0 := by omega
    right
    by_cases hD : 40 < D.length
    · have h3 : medR L0 P0 L P L' P' f g D Q h k = 11 := by unfold medR; rw [if_pos h2, if_pos hD]
      rw [h3] at hr hu
      exact .inl ⟨h1, hD, hr, by rw [hu]; rfl⟩
    · right
      cases hc : coneB L0 P0 L P L' P' f g D Q h k with
      | false =>
        have h3 : medR L0 P0 L P L' P' f g D Q h k = 12 := by unfold medR; rw [if_pos h2, if_neg hD, hc]; rfl
        rw [h3] at hr hu
        exact .inl ⟨h1, by omega, rfl, hr, by rw [hu]; rfl⟩
      | true =>
        have h3 : medR L0 P0 L P L' P' f g D Q h k = 0 := by unfold medR; rw [if_pos h2, if_neg hD, hc]; rfl
        rw [h3] at hr hu
        rw [if_pos rfl] at hu
        obtain ⟨_, _, c3, c4, c5⟩ := coneB_parts hc
        have hw := hP.way D Q h k c3 c4 c5
        rw [← hu] at hw
        exact .inr ⟨h1, by omega, rfl, hr, hu, hw⟩

end Go.Proofs.YtemnbkenihldgaaDoor
