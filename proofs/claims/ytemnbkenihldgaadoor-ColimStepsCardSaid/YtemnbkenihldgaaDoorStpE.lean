/- Plain: the ends of ColimSteps: what is common to two objects leads into both; the sizes at the end. -/
import Derived.Test.YtemnbkenihldgaaDoorColS
import Derived.Test.YtemnbkenihldgaaDoorConP
import Derived.Test.YtemnbkenihldgaaDoorThenP
namespace Go.Proofs.YtemnbkenihldgaaDoor

theorem supp_none9 (n : Nat) : Supp n (fun _ _ => false) := fun _ _ h => by cases h
theorem pairsL_none9 (n k : Nat) : pairsL n (fun _ _ => false) k = [] := by
  unfold pairsL onL
  rw [List.flatMap_eq_nil_iff]
  intro a _
  simp
theorem chk_alone9 {L : List ByteArray} (h : labErr L = 0) : chk L [] = 0 := by
  have h1 := chk_pairs h rfl (supp_none9 L.length)
  have ht : Trans (fun _ _ : Nat => false) := fun _ _ _ h _ => by cases h
  rwa [clo_of_trans ht, pairsL_none9] at h1
/-- One element, and where it goes. -/
theorem one_arB {L : List ByteArray} {P : List (Int × Int)} {x : Nat} {lab : ByteArray} (hc : chk L P = 0) (hx : x < L.length) (hl : L[x]?.getD .empty = lab) : arB [lab] [] L P [(x : Int)] = true := by
  have hL := (chk_in hc).1
  have hall : L.all okS = true := by
    unfold labErr at hL
    split at hL
    · cases hL
    · split at hL
      · assumption
      · cases hL
  have hok : okS lab = true := by
    rw [List.all_eq_true] at hall
    rw [← hl, List.getElem?_eq_getElem hx]
    exact hall _ (List.getElem_mem _)
  have h1 : labErr [lab] = 0 := by
    unfold labErr
    rw [if_neg (by simp), if_pos (by simp [hok])]
  refine arB_mk (chk_alone9 h1) hc rfl (fun i hi => ?_) (fun z hz => by cases hz)
  obtain rfl : i = 0 := by simpa using hi
  refine ⟨hasZ_iff.2 ⟨by simp, by simp; omega⟩, by simp [hl]⟩

theorem arB_pos {L L' : List ByteArray} {P P' : List (Int × Int)} {f : List Int} (h : arB L P L' P' f = true) (hl : 0 < L.length) : 0 < L'.length := by
  have h1 := arB_hasZ h
  have h2 := h1.1
  have := h1.2 (f[0]?.getD 0) (by rw [List.getElem?_eq_getElem (by omega)]; exact List.getElem_mem _)
  omega
theorem pushR_zero {L0 L L' : List ByteArray} {P0 P P' : List (Int × Int)} {f g : List Int} (hf : arB L0 P0 L P f = true) (hg : arB L0 P0 L' P' g = true) (hl : L.length + L'.length ≤ 40) : pushR L0 P0 L P L' P' f g = 0 := by
  unfold pushR
  have := lab_small (chk_in (arB_chk hf).1).1
  rw [if_neg (by omega), if_neg (by omega), hf, hg]
  rfl
theorem PushV.zero {L0 L L' A : List ByteArray} {P0 P P' B : List (Int × Int)} {f g I J : List Int} {r : Int} (h : PushV L0 P0 L P L' P' f g A B I J r) (hf : arB L0 P0 L P f = true) (hg : arB L0 P0 L' P' g = true) (hl : L.length + L'.length ≤ 40) : r = 0 ∧ PushA L0 L L' A P0 P P' B f g I J := by
  rcases h.cases with ⟨h1, _⟩ | h1
  · have := h.r
    rw [pushR_zero hf hg hl] at this
    omega
  · exact h1
theorem PushV.le {L0 L L' A : List ByteArray} {P0 P P' B : List (Int × Int)} {f g I J : List Int} (h : PushV L0 P0 L P L' P' f g A B I J 0) : A.length ≤ L.length + L'.length := by
  have ha := h.a
  rw [if_pos h.r.symm] at ha
  rw [ha, labG_len]
  refine Nat.le_trans (cntR_le _ _) ?_
  rw [joinsL_len]
  exact Nat.le_refl _

/-- What Of tells of the five. -/
theorem StpA.told {b c e x y : Nd} {f g h k : List Int} (s : StpA b c e x y f g h k) {A : List ByteArray} {B : List (Int × Int)} {Ls : List (List Int)} {r : Int} (hv : ColV (sN b c e x y) (sA f g h k) A B Ls r) :
    (40 < x.1.length + y.1.length + b.1.length + c.1.length + e.1.length ∧ r = 11 ∧ A = [] ∧ B = [] ∧ Ls = []) ∨ (x.1.length + y.1.length + b.1.length + c.1.length + e.1.length ≤ 40 ∧ r = 0 ∧ Ls.length = 5 ∧ ColA (sN b c e x y) (sA f g h k) A B Ls) := by
  have hs : stK (sN b c e x y) (sN b c e x y).length = b.1.length + c.1.length + e.1.length + x.1.length + y.1.length := by
    show (((((0 + b.1.length) + c.1.length) + e.1.length) + x.1.length) + y.1.length) = _
    omega
  have hcr := hv.r
  unfold colR at hcr
  rw [if_neg (by rw [show manyB (sN b c e x y) (sA f g h k) = false from rfl]; decide), hs, if_pos (diag_mk s.diag)] at hcr
  split at hcr
  · refine .inl ⟨by omega, hcr, ?_⟩
    rcases hv.cases with h1 | h1
    · exact h1.2
    · have := h1.1; omega
  · refine .inr ⟨by omega, hcr, ?_⟩
    rcases hv.cases with h1 | h1
    · have := h1.1; omega
    · exact ⟨h1.2.legs.len, h1.2⟩
/-- The sizes at the end. -/
theorem StpA.same {b c e x y : Nd} {f g h k : List Int} (s : StpA b c e x y f g h k) {P L O R A : List ByteArray} {PB LB OB RB B : List (Int × Int)} {i j a1 a2 i' j' b1 b2 : List Int} {Ls : List (List Int)}
    (hp : PushA x.1 b.1 c.1 P x.2 b.2 c.2 PB f g i j) (hl : PushA y.1 P e.1 L y.2 PB e.2 LB (thenL h j) k a1 a2) (ho : PushA y.1 c.1 e.1 O y.2 c.2 e.2 OB h k i' j') (hr : PushA x.1 b.1 O R x.2 b.2 OB RB f (thenL g i') b1 b2) (hc : ColA (sN b c e x y) (sA f g h k) A B Ls) :
    A.length = L.length ∧ L.length = R.length ∧ a1.length = P.length ∧ b2.length = O.length ∧ B.length = LB.length ∧ B.length = RB.length := by
  have h1 := steps_left s hp hl
  have h2 := steps_right s ho hr
  have q1 := uni_same hc.uni h1
  have q2 := uni_same h1 h2
  exact ⟨q1.1, q2.1, hl.squ.il, hr.squ.jl, q1.2, q1.2.trans q2.2⟩

end Go.Proofs.YtemnbkenihldgaaDoor
