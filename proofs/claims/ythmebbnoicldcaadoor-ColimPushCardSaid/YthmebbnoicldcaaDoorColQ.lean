/- Plain: a diagram of two arrows out of one object is put together as those two over it. -/
import Derived.Test.YthmebbnoicldcaaDoorColP
namespace Go.Proofs.YthmebbnoicldcaaDoor

theorem cnt_same {J J' : List Nat} (h : ∀ e, e < J.length → nx J' e = nx J e) (hf : ∀ e, J.length ≤ e → e < J'.length → nx J' e < J.length) : (∀ m, m ≤ J.length → cntR J' m = cntR J m) ∧ ∀ m, J.length ≤ m → m ≤ J'.length → cntR J' m = cntR J J.length := by
  have h1 : ∀ m, m ≤ J.length → cntR J' m = cntR J m := fun m => by
    induction m with
    | zero => intro _; rfl
    | succ m ih =>
      intro hm
      rw [cntR_succ, cntR_succ, ih (by omega), h m (by omega)]
  refine ⟨h1, fun m => ?_⟩
  induction m with
  | zero => intro h2 _; rw [h1 0 (by omega), show J.length = 0 by omega]
  | succ m ih =>
    intro h2 h3
    rcases Nat.lt_or_ge m J.length with q | q
    · rw [show m + 1 = J.length by omega]
      exact h1 _ (Nat.le_refl _)
    · have := hf m q (by omega)
      rw [cntR_succ, ih q (by omega), if_neg (by omega), Nat.add_zero]
theorem lead_same {J J' : List Nat} (hl : J.length ≤ J'.length) (h : ∀ e, e < J.length → nx J' e = nx J e) (hf : ∀ e, J.length ≤ e → e < J'.length → nx J' e < J.length) : leadL J' = leadL J := by
  have key : ∀ m, J.length ≤ m → m ≤ J'.length → (List.range m).filter (fun j => decide (nx J' j = j)) = leadL J := fun m => by
    induction m with
    | zero =>
      intro h2 _
      unfold leadL
      rw [show J.length = 0 by omega]
      rfl
    | succ m ih =>
      intro h2 h3
      rcases Nat.lt_or_ge m J.length with q | q
      · unfold leadL
        rw [show m + 1 = J.length by omega]
        refine List.filter_congr (fun e he => ?_)
        rw [h e (List.mem_range.1 he)]
      · have := hf m q (by omega)
        rw [List.range_succ, List.filter_append, ih q (by omega), List.filter_cons_of_neg (by simp; omega)]
        simp
  exact key _ hl (Nat.le_refl _)
theorem plc_same {J J' : List Nat} (hj : isL J) (h : ∀ e, e < J.length → nx J' e = nx J e) (hf : ∀ e, J.length ≤ e → e < J'.length → nx J' e < J.length) {e : Nat} (he : e < J.length) : plc6 J' e = plc6 J e := by
  unfold plc6
  rw [h e he]
  exact (cnt_same h hf).1 _ (by have := hj.le e he; omega)
theorem ofL_same {n : Nat} {l l' : List (Int × Int)} (h : ∀ z, z ∈ l' ↔ z ∈ l) : ofL n l' = ofL n l := by
  funext x y
  rw [Bool.eq_iff_iff, ofL_iff, ofL_iff, h]
theorem glu_same {J J' : List Nat} {P P' : List (Int × Int)} (hl : J.length ≤ J'.length) (h : ∀ e, e < J.length → nx J' e = nx J e) (hf : ∀ e, J.length ≤ e → e < J'.length → nx J' e < J.length) (hp : ∀ z, z ∈ mapP (atZ J') P' ↔ z ∈ mapP (atZ J) P) : gluP J' P' = gluP J P := by
  unfold gluP gluR
  rw [(cnt_same h hf).2 _ hl (Nat.le_refl _), ofL_same hp]

/-- Two arrows out of one object. -/
def pN (L0 L1 L2 : List ByteArray) (P0 P1 P2 : List (Int × Int)) : List Nd := [(L1, P1), (L2, P2), (L0, P0)]
def pA (f g : List Int) : List Ar := [(2, 0, f), (2, 1, g)]
theorem push_diag {L0 L1 L2 : List ByteArray} {P0 P1 P2 : List (Int × Int)} {f g : List Int} (hf : arB L0 P0 L1 P1 f = true) (hg : arB L0 P0 L2 P2 g = true) : DiagA (pN L0 L1 L2 P0 P1 P2) (pA f g) := by
  refine ⟨by show 3 ≤ 6; decide, by show 2 ≤ 8; decide, fun k hk => ?_, fun a ha => ?_⟩
  · match k, hk with
    | 0, _ => exact (arB_chk hf).2
    | 1, _ => exact (arB_chk hg).2
    | 2, _ => exact (arB_chk hf).1
  · match a, ha with
    | 0, _ => exact ⟨⟨by show (0 : Int) ≤ 2; decide, by show (2 : Int) < ((3 : Nat) : Int); decide⟩, ⟨by show (0 : Int) ≤ 0; decide, by show (0 : Int) < ((3 : Nat) : Int); decide⟩, hf⟩
    | 1, _ => exact ⟨⟨by show (0 : Int) ≤ 2; decide, by show (2 : Int) < ((3 : Nat) : Int); decide⟩, ⟨by show (0 : Int) ≤ 1; decide, by show (1 : Int) < ((3 : Nat) : Int); decide⟩, hg⟩

theorem colim_push {L0 L1 L2 A : List ByteArray} {P0 P1 P2 B : List (Int × Int)} {f g I J : List Int} (hv : PushV L0 P0 L1 P1 L2 P2 f g A B I J 0) (hl : L0.length + L1.length + L2.length ≤ 40) :
    ∃ K, ColV (pN L0 L1 L2 P0 P1 P2) (pA f g) A B [I, J, K] 0 := by
  have hA := (hv.cases.resolve_left (fun h => by have := h.1; omega)).2
  obtain ⟨hr, ha, hb, hi, hj⟩ := hv
  rw [if_pos hr.symm] at ha hb hi hj
  have hf := hA.af
  have hg := hA.ag
  have hd := push_diag hf hg
  have hs : stK (pN L0 L1 L2 P0 P1 P2) (pN L0 L1 L2 P0 P1 P2).length = L1.length + L2.length + L0.length := by
    show (((0 + L1.length) + L2.length) + L0.length) = _
    omega
  have hcr : colR (pN L0 L1 L2 P0 P1 P2) (pA f g) = 0 := by
    unfold colR
    rw [if_neg (by rw [show manyB (pN L0 L1 L2 P0 P1 P2) (pA f g) = false from rfl]; decide), if_neg (by rw [hs]; omega), if_pos (diag_mk hd)]
  have fl := (arB_hasZ hf).1
  have gl := (arB_hasZ hg).1
  have fin : ∀ x, x < L0.length → 0 ≤ f[x]?.getD 0 ∧ f[x]?.getD 0 < L1.length := fun x hx => (arB_hasZ hf).2 _ (by rw [List.getElem?_eq_getElem (by omega)]; exact List.getElem_mem _)
  have gin : ∀ x, x < L0.length → 0 ≤ g[x]?.getD 0 ∧ g[x]?.getD 0 < L2.length := fun x hx => (arB_hasZ hg).2 _ (by rw [List.getElem?_eq_getElem (by omega)]; exact List.getElem_mem _)
  generalize hJ2 : joinsL (L1.length + L2.length) f (shL L1.length g) = J2 at *
  have h2l : J2.length = L1.length + L2.length := by rw [← hJ2, joinsL_len]
  have h2i : isL J2 := by rw [← hJ2]; exact joinsL_is _ _ _
  have gin2 : ∀ j, j < f.length → 0 ≤ (shL L1.length g)[j]?.getD 0 ∧ (shL L1.length g)[j]?.getD 0 < (L1.length + L2.length : Nat) := fun j hj => by
    rw [shL_at (by omega)]
    have := gin j (by omega)
    omega
  have fin2 : ∀ j, j < f.length → 0 ≤ f[j]?.getD 0 ∧ f[j]?.getD 0 < (L1.length + L2.length : Nat) := fun j hj => by
    have := fin j (by omega)
    omega
  have one2 : ∀ x, x < L0.length → nx J2 (f[x]?.getD 0).toNat = nx J2 (L1.length + (g[x]?.getD 0).toNat) := fun x hx => by
    have := joinsK_one (N := L1.length + L2.length) (f := f) (g := shL L1.length g) (k := f.length) fin2 gin2 (j := x) (by omega)
    rw [shL_at (by omega)] at this
    have e : ((L1.length : Int) + g[x]?.getD 0).toNat = L1.length + (g[x]?.getD 0).toNat := by have := gin x hx; omega
    rw [e] at this
    rw [← hJ2]
    exact this
  generalize hJ3 : joinsD (pN L0 L1 L2 P0 P1 P2) (pA f g) = J3 at *
  have h3l : J3.length = L1.length + L2.length + L0.length := by rw [← hJ3, joinsD_len, hs]
  have h3i : isL J3 := by rw [← hJ3]; exact joinsD_is _ _
  have oneA : ∀ x, x < L0.length → nx J3 (L1.length + L2.length + x) = nx J3 (f[x]?.getD 0).toNat := fun x hx => by
    have := joinsD_one hd (a := 0) (x := x) (by simp [pA]) (by show x < f.length; omega)
    rw [hJ3] at this
    have e1 : stK (pN L0 L1 L2 P0 P1 P2) (arA (pA f g) 0).1.toNat = L1.length + L2.length := by show ((0 + L1.length) + L2.length) = _; omega
    have e2 : stK (pN L0 L1 L2 P0 P1 P2) (arA (pA f g) 0).2.1.toNat = 0 := rfl
    rw [e1, e2, Nat.zero_add] at this
    exact this
  have oneB : ∀ x, x < L0.length → nx J3 (L1.length + L2.length + x) = nx J3 (L1.length + (g[x]?.getD 0).toNat) := fun x hx => by
    have := joinsD_one hd (a := 1) (x := x) (by simp [pA]) (by show x < g.length; omega)
    rw [hJ3] at this
    have e1 : stK (pN L0 L1 L2 P0 P1 P2) (arA (pA f g) 1).1.toNat = L1.length + L2.length := by show ((0 + L1.length) + L2.length) = _; omega
    have e2 : stK (pN L0 L1 L2 P0 P1 P2) (arA (pA f g) 1).2.1.toNat = L1.length := by show 0 + L1.length = _; omega
    rw [e1, e2] at this
    exact this
  have k1 : ∀ e, e < L1.length + L2.length → nx J3 (nx J2 e) = nx J3 e := fun e he => by
    have := joinsK_lab (N := L1.length + L2.length) (p := fun e => nx J3 e) (f := f) (g := shL L1.length g) (k := f.length) fin2 gin2 (fun j hj => by
      show nx J3 _ = nx J3 _
      rw [shL_at (by omega)]
      have e : ((L1.length : Int) + g[j]?.getD 0).toNat = L1.length + (g[j]?.getD 0).toNat := by have := gin j (by omega); omega
      rw [e, ← oneA j (by omega), ← oneB j (by omega)]) e he
    have h9 : joinsK (List.range (L1.length + L2.length)) f (shL L1.length g) f.length = J2 := hJ2
    rw [h9] at this
    exact this
  have k2 : ∀ e, e < L1.length + L2.length + L0.length → (fun e => if e < L1.length + L2.length then nx J2 e else nx J2 (f[e - (L1.length + L2.length)]?.getD 0).toNat) (nx J3 e) = (fun e => if e < L1.length + L2.length then nx J2 e else nx J2 (f[e - (L1.length + L2.length)]?.getD 0).toNat) e := fun e he => by
    have := joinsD_lab (p := fun e => if e < L1.length + L2.length then nx J2 e else nx J2 (f[e - (L1.length + L2.length)]?.getD 0).toNat) hd (fun a x ha hx => by
      match a, ha with
      | 0, _ =>
        have hx' : x < L0.length := by have : x < f.length := hx; omega
        have e1 : stK (pN L0 L1 L2 P0 P1 P2) (arA (pA f g) 0).1.toNat = L1.length + L2.length := by show ((0 + L1.length) + L2.length) = _; omega
        have e2 : stK (pN L0 L1 L2 P0 P1 P2) (arA (pA f g) 0).2.1.toNat = 0 := rfl
        have e3 : (arA (pA f g) 0).2.2 = f := rfl
        have h5 := fin x hx'
        rw [e1, e2, e3, Nat.zero_add]
        rw [if_neg (by omega), if_pos (by omega), Nat.add_sub_cancel_left]
      | 1, _ =>
        have hx' : x < L0.length := by have : x < g.length := hx; omega
        have e1 : stK (pN L0 L1 L2 P0 P1 P2) (arA (pA f g) 1).1.toNat = L1.length + L2.length := by show ((0 + L1.length) + L2.length) = _; omega
        have e2 : stK (pN L0 L1 L2 P0 P1 P2) (arA (pA f g) 1).2.1.toNat = L1.length := by show 0 + L1.length = _; omega
        have e3 : (arA (pA f g) 1).2.2 = g := rfl
        have h5 := gin x hx'
        rw [e1, e2, e3]
        rw [if_neg (by omega), if_pos (by omega), Nat.add_sub_cancel_left]
        exact one2 x hx') e (by rw [hs]; exact he)
    rw [hJ3] at this
    exact this
  have hnx : ∀ e, e < J2.length → nx J3 e = nx J2 e := fun e he => by
    rw [h2l] at he
    have h5 := h3i.le e (by omega)
    have h6 := h2i.le e (by omega)
    have h7 := k2 e (by omega)
    simp only at h7
    rw [if_pos (by omega), if_pos he] at h7
    have h8 := k1 e he
    have h9 := h2i.le (nx J3 e) (by omega)
    have h10 := h3i.le (nx J2 e) (by omega)
    omega
  have hnf : ∀ e, J2.length ≤ e → e < J3.length → nx J3 e < J2.length := fun e h1 h2 => by
    have h5 := oneA (e - (L1.length + L2.length)) (by omega)
    rw [show L1.length + L2.length + (e - (L1.length + L2.length)) = e by omega] at h5
    have h6 := fin (e - (L1.length + L2.length)) (by omega)
    rw [h5, hnx _ (by omega)]
    have := h2i.le (f[e - (L1.length + L2.length)]?.getD 0).toNat (by omega)
    omega
  have hle : J2.length ≤ J3.length := by omega
  have hpl := fun {e : Nat} (he : e < J2.length) => plc_same h2i hnx hnf he
  have hplA : ∀ x, x < L0.length → plc6 J3 (L1.length + L2.length + x) = plc6 J2 (f[x]?.getD 0).toNat := fun x hx => by
    have h6 := fin x hx
    have h7 : plc6 J3 (L1.length + L2.length + x) = plc6 J3 (f[x]?.getD 0).toNat := by unfold plc6; rw [oneA x hx]
    rw [h7]
    exact hpl (by omega)
  have hat : ∀ e, e < J2.length → (atZ J3)[e]?.getD 0 = (atZ J2)[e]?.getD 0 := fun e he => by rw [atZ_get (by omega), atZ_get he, hpl he]
  have in1 := (chk_in (arB_chk hf).2).2.2.1
  have in2 := (chk_in (arB_chk hg).2).2.2.1
  have in0 := (chk_in (arB_chk hf).1).2.2.1
  refine ⟨legD (pN L0 L1 L2 P0 P1 P2) J3 2, hcr.symm, ?_, ?_, ?_⟩
  · rw [if_pos hcr, ha, hJ3]
    unfold labG
    rw [lead_same hle hnx hnf]
    refine List.map_congr_left (fun e he => ?_)
    have he' : e < J2.length := by
      unfold leadL at he
      exact List.mem_range.1 (List.mem_filter.1 he).1
    show (L1 ++ L2)[e]?.getD ByteArray.empty = ((([] ++ L1) ++ L2) ++ L0)[e]?.getD ByteArray.empty
    rw [List.nil_append, List.getElem?_append_left (l₁ := L1 ++ L2) (l₂ := L0) (by rw [List.length_append]; omega)]
  · rw [if_pos hcr, hb, hJ3]
    refine (glu_same hle hnx hnf (fun z => ?_)).symm
    show z ∈ mapP (atZ J3) ((([] ++ shP 0 P1) ++ shP (0 + L1.length) P2) ++ shP (0 + L1.length + L2.length) P0) ↔ _
    unfold mapP
    simp only [List.nil_append, List.map_append, List.mem_append, List.mem_map, shP]
    constructor
    · rintro ((⟨y, ⟨x, hx, rfl⟩, rfl⟩ | ⟨y, ⟨x, hx, rfl⟩, rfl⟩) | ⟨y, ⟨x, hx, rfl⟩, rfl⟩)
      · have hi := in_of in1 hx
        refine .inl ⟨x, hx, ?_⟩
        simp only
        rw [show ((0 : Nat) : Int) + x.1 = x.1 by omega, show ((0 : Nat) : Int) + x.2 = x.2 by omega, hat _ (by omega), hat _ (by omega)]
      · have hi := in_of in2 hx
        refine .inr ⟨_, ⟨x, hx, rfl⟩, ?_⟩
        simp only
        rw [Nat.zero_add, hat _ (by omega), hat _ (by omega)]
      · have hi := in_of in0 hx
        have h5 := arB_pairs hf x hx
        have h6 := fin x.1.toNat (by omega)
        have h7 := fin x.2.toNat (by omega)
        refine .inl ⟨_, h5, ?_⟩
        simp only
        rw [Nat.zero_add, show (((L1.length + L2.length : Nat) : Int) + x.1).toNat = L1.length + L2.length + x.1.toNat by omega, show (((L1.length + L2.length : Nat) : Int) + x.2).toNat = L1.length + L2.length + x.2.toNat by omega, atZ_get (by omega), atZ_get (by omega), atZ_get (by omega), atZ_get (by omega), hplA _ (by omega), hplA _ (by omega)]
    · rintro (⟨x, hx, rfl⟩ | ⟨y, ⟨x, hx, rfl⟩, rfl⟩)
      · have hi := in_of in1 hx
        refine .inl (.inl ⟨_, ⟨x, hx, rfl⟩, ?_⟩)
        simp only
        rw [show ((0 : Nat) : Int) + x.1 = x.1 by omega, show ((0 : Nat) : Int) + x.2 = x.2 by omega, hat _ (by omega), hat _ (by omega)]
      · have hi := in_of in2 hx
        refine .inl (.inr ⟨_, ⟨x, hx, rfl⟩, ?_⟩)
        simp only
        rw [Nat.zero_add, hat _ (by omega), hat _ (by omega)]
  · rw [if_pos hcr, hi, hj, hJ3]
    have e0 : (atZ J2).take L1.length = legD (pN L0 L1 L2 P0 P1 P2) J3 0 := by
      show _ = ((atZ J3).drop 0).take L1.length
      refine ext0 (by simp only [List.length_take, List.length_drop, atZ_len]; omega) (fun k hk => ?_)
      simp only [List.length_take, atZ_len] at hk
      rw [at_take (by omega), at_take (by omega), at_drop, Nat.zero_add, hat _ (by omega)]
    have e1 : (atZ J2).drop L1.length = legD (pN L0 L1 L2 P0 P1 P2) J3 1 := by
      show _ = ((atZ J3).drop (0 + L1.length)).take L2.length
      refine ext0 (by simp only [List.length_take, List.length_drop, atZ_len]; omega) (fun k hk => ?_)
      simp only [List.length_drop, atZ_len] at hk
      rw [at_take (by omega), at_drop, at_drop, Nat.zero_add, hat _ (by omega)]
    rw [e0, e1]
    rfl

end Go.Proofs.YthmebbnoicldcaaDoor
