/- ArrowTurns: the turned maps and labels, in plain lists. -/
import Derived.Test.YtjimgihfejjilaaThenP
namespace Go.Proofs.Ytjimgihfejjilaa
open Go.RowKit

/-- The label of the i-th element. -/
def labS (i : Nat) : ByteArray := strOfNums [(97 : Int) + (i : Int)]
def labs (k : Nat) : List ByteArray := (List.range k).map labS
theorem labs_len (k : Nat) : (labs k).length = k := by simp [labs]
theorem labs_succ (k : Nat) : labs (k + 1) = labs k ++ [labS k] := by unfold labs; rw [List.range_succ, List.map_append]; rfl
/-- Where the j-th element goes. -/
def tn (k s j : Nat) : Nat := (j + s) % k
/-- The map when j places are laid; the way back; the labels of the turned one. -/
def fK (k s : Nat) : Nat → List Int
  | 0 => List.replicate k 0
  | j + 1 => (fK k s j).set j ((tn k s j : Nat) : Int)
def gK (k s : Nat) : Nat → List Int
  | 0 => List.replicate k 0
  | j + 1 => (gK k s j).set (tn k s j) ((j : Nat) : Int)
def bK (k s : Nat) : Nat → List ByteArray
  | 0 => List.replicate k .empty
  | j + 1 => (bK k s j).set (tn k s j) (labS j)
def othS : ByteArray := ⟨#[111, 116, 104, 101, 114]⟩
theorem fK_len (k s j : Nat) : (fK k s j).length = k := by
  induction j with
  | zero => simp [fK]
  | succ j ih => simp [fK, ih]
theorem gK_len (k s j : Nat) : (gK k s j).length = k := by
  induction j with
  | zero => simp [gK]
  | succ j ih => simp [gK, ih]
theorem bK_len (k s j : Nat) : (bK k s j).length = k := by
  induction j with
  | zero => simp [bK]
  | succ j ih => simp [bK, ih]

/-- All that is asked of one turn, but the closures. -/
def turnOK (k s : Nat) : Bool :=
  decide (thenL (fK k s k) (gK k s k) = idL k) && decide (thenL (gK k s k) (fK k s k) = idL k) && thenB (fK k s k) k && thenB (gK k s k) k
    && labK (labs k) (bK k s k) (fK k s k) k && labK (bK k s k) (labs k) (gK k s k) k && decide (labErr (bK k s k) = 0) && decide (labErr (labs k) = 0)
    && decide ((fK k s k)[0]?.getD (0 : Int) = ((tn k s 0 : Nat) : Int)) && decide ((fK k s k)[1]?.getD (0 : Int) = ((tn k s 1 : Nat) : Int)) && decide (tn k s 0 ≠ tn k s 1)
    && decide ((gK k s k)[tn k s 0]?.getD 0 = 0) && decide ((gK k s k)[tn k s 1]?.getD 0 = 1)
    && injB (fK k s k) && !labK (labs k) ((bK k s k).set (tn k s 1) othS) (fK k s k) k
theorem turn_ok : ∀ k, k < 12 → ∀ s, s < k → 2 ≤ k → turnOK k s = true := by decide +kernel

theorem turn_f : ∀ k, k < 12 → ∀ s, s < k → ∀ j, j < k → (fK k s k)[j]?.getD (0 : Int) = ((tn k s j : Nat) : Int) := by decide +kernel
theorem labs_get {k j : Nat} (h : j < k) : (labs k)[j]?.getD .empty = labS j := by
  unfold labs
  rw [List.getElem?_map, List.getElem?_range h]
  rfl
theorem chk_trans {L : List ByteArray} {P : List (Int × Int)} (h1 : labErr L = 0) (h2 : risesB P = true) (h3 : allIn L.length P = true) (h4 : Trans (ofL L.length P)) : chk L P = 0 := by
  refine chk_ok h1 ?_
  have h5 : grewC L.length (ofL L.length P) L.length = false := by
    cases e : grewC L.length (ofL L.length P) L.length with
    | false => rfl
    | true => exact absurd (clo_of_trans h4) ((grewC_iff (ofL_supp _ _)).1 e)
  rw [h2, h3, h5]
  rfl
theorem chk_no_pairs {L : List ByteArray} (h1 : labErr L = 0) : chk L [] = 0 :=
  chk_trans h1 rfl rfl (fun _ _ _ h _ => absurd ((ofL_iff _ _ _ _).1 h).2.2 List.not_mem_nil)
theorem chk_pair {L : List ByteArray} {x y : Nat} (h1 : labErr L = 0) (hx : x < L.length) (hy : y < L.length) (hne : x ≠ y) : chk L [((x : Int), (y : Int))] = 0 := by
  refine chk_trans h1 rfl ?_ (fun a b c h k => ?_)
  · unfold allIn
    simp only [List.all_cons, List.all_nil, Bool.and_true, decide_eq_true_eq]
    unfold inI
    omega
  · have e1 := ((ofL_iff _ _ _ _).1 h).2.2
    have e2 := ((ofL_iff _ _ _ _).1 k).2.2
    simp only [List.mem_cons, List.not_mem_nil, or_false, Prod.mk.injEq] at e1 e2
    omega

/-- What ArrowTurns asks, of one turn. -/
structure TurnF (k s : Nat) : Prop where
  inv : invB (labs k) [(0, 1)] (bK k s k) [((tn k s 0 : Nat), (tn k s 1 : Nat))] (fK k s k) (gK k s k) = true
  inj : injB (fK k s k) = true
  ac : arB (labs k) [(0, 1)] (bK k s k) [] (fK k s k) = false
  cb : arB (bK k s k) [] (bK k s k) [((tn k s 0 : Nat), (tn k s 1 : Nat))] (idL k) = true
  ad : arB (labs k) [(0, 1)] ((bK k s k).set (tn k s 1) othS) [((tn k s 0 : Nat), (tn k s 1 : Nat))] (fK k s k) = false
  iac : invB (labs k) [(0, 1)] (bK k s k) [] (fK k s k) (gK k s k) = false
  tl : arB (labs k) [(0, 1)] (bK k s k) [((tn k s 0 : Nat), (tn k s 1 : Nat))] ((fK k s k).drop 1) = false
  f0 : (fK k s k)[0]?.getD (0 : Int) = ((tn k s 0 : Nat) : Int)
  f1 : (fK k s k)[1]?.getD (0 : Int) = ((tn k s 1 : Nat) : Int)
theorem turnF {k s : Nat} (hk : k < 12) (hs : s < k) (h2 : 2 ≤ k) : TurnF k s := by
  have h := turn_ok k hk s hs h2
  unfold turnOK at h
  simp only [Bool.and_eq_true, decide_eq_true_eq, Bool.not_eq_true'] at h
  obtain ⟨⟨⟨⟨⟨⟨⟨⟨⟨⟨⟨⟨⟨⟨a1, a2⟩, a3⟩, a4⟩, a5⟩, a6⟩, a7⟩, a8⟩, a9⟩, a10⟩, a11⟩, a12⟩, a13⟩, a14⟩, a15⟩ := h
  have l1 := labs_len k
  have l2 := bK_len k s k
  have l3 := fK_len k s k
  have l4 := gK_len k s k
  have t0 : tn k s 0 < k := Nat.mod_lt _ (by omega)
  have t1 : tn k s 1 < k := Nat.mod_lt _ (by omega)
  have ca : chk (labs k) [(0, 1)] = 0 := chk_pair (x := 0) (y := 1) a8 (by omega) (by omega) (by omega)
  have cb : chk (bK k s k) [((tn k s 0 : Nat), (tn k s 1 : Nat))] = 0 := chk_pair a7 (by omega) (by omega) a11
  have cc : chk (bK k s k) [] = 0 := chk_no_pairs a7
  have rf : arB (labs k) [(0, 1)] (bK k s k) [((tn k s 0 : Nat), (tn k s 1 : Nat))] (fK k s k) = true := by
    refine arB_mk ca cb (by rw [l3, l1]) (fun i hi => lab1_of a5 (by rw [l3] at hi; exact hi)) (fun x hx => ?_)
    simp only [List.mem_cons, List.not_mem_nil, or_false] at hx
    subst hx
    rw [show ((0 : Int), (1 : Int)).1.toNat = 0 from rfl, show ((0 : Int), (1 : Int)).2.toNat = 1 from rfl, a9, a10]
    exact List.mem_singleton.2 rfl
  have rg : arB (bK k s k) [((tn k s 0 : Nat), (tn k s 1 : Nat))] (labs k) [(0, 1)] (gK k s k) = true := by
    refine arB_mk cb ca (by rw [l4, l2]) (fun i hi => lab1_of a6 (by rw [l4] at hi; exact hi)) (fun x hx => ?_)
    simp only [List.mem_cons, List.not_mem_nil, or_false] at hx
    subst hx
    simp only [Int.toNat_natCast, a12, a13]
    exact List.mem_singleton.2 rfl
  have nac : arB (labs k) [(0, 1)] (bK k s k) [] (fK k s k) = false := by
    rw [Bool.eq_false_iff]
    intro e
    exact absurd (arB_pairs e (0, 1) (List.mem_singleton.2 rfl)) List.not_mem_nil
  refine ⟨?_, a14, nac, ?_, ?_, ?_, ?_, a9, a10⟩
  · unfold invB stillB
    rw [rf, rg, l4, l3, a3, a4, idN_nat (by omega), decide_eq_true a1, decide_eq_true a2]
    rfl
  · refine arB_mk cc cb (by rw [idL_len, l2]) (fun i hi => ?_) (fun _ hx => absurd hx List.not_mem_nil)
    rw [idL_len] at hi
    rw [idL_get hi]
    exact ⟨hasZ_iff.2 ⟨by omega, by omega⟩, by rw [Int.toNat_natCast]⟩
  · rw [Bool.eq_false_iff]
    intro e
    obtain ⟨_, _, _, e4, _⟩ := arB_parts e
    rw [l3, a15] at e4
    cases e4
  · unfold invB
    rw [nac]
    rfl
  · rw [Bool.eq_false_iff]
    intro e
    obtain ⟨_, _, e3, _, _⟩ := arB_parts e
    rw [List.length_drop, l3, l1] at e3
    omega

end Go.Proofs.Ytjimgihfejjilaa
