/- Plain facts: going over the pairs as often as there are elements, and once more, marks just who is reached. -/
import Derived.Test.YtkcofakhcpajmaaDoorRelJoins
namespace Go.Proofs.YtkcofakhcpajmaaDoor
open Go.RowKit

/-- One pair looked at. -/
def seeS (a : Nat) (S : Nat → Bool) (x : Int × Int) (b : Nat) : Bool := S b || ((decide (x.1.toNat = a) || S x.1.toNat) && decide (b = x.2.toNat))
/-- All pairs looked at once. -/
def passS (a : Nat) (q : List (Int × Int)) (S : Nat → Bool) : Nat → Bool := q.foldl (seeS a) S
/-- As often as i times. -/
def seenS (a : Nat) (q : List (Int × Int)) : Nat → Nat → Bool
  | 0 => fun _ => false
  | i + 1 => passS a q (seenS a q i)

theorem seeS_iff (a : Nat) (S : Nat → Bool) (x : Int × Int) (b : Nat) : seeS a S x b = true ↔ S b = true ∨ ((x.1.toNat = a ∨ S x.1.toNat = true) ∧ b = x.2.toNat) := by simp [seeS]

theorem passS_grows (a : Nat) (q : List (Int × Int)) : ∀ S b, S b = true → passS a q S b = true := by
  induction q with
  | nil => intro S b h; exact h
  | cons x q ih => intro S b h; exact ih _ b ((seeS_iff a S x b).2 (.inl h))

/-- Whatever is closed holds what is marked. -/
theorem passS_in {a : Nat} {q : List (Int × Int)} {T : Nat → Bool} (hT : ∀ x, x ∈ q → (x.1.toNat = a ∨ T x.1.toNat = true) → T x.2.toNat = true) : ∀ S, (∀ b, S b = true → T b = true) → ∀ b, passS a q S b = true → T b = true := by
  induction q with
  | nil => intro S h b hb; exact h b hb
  | cons x q ih =>
    intro S h
    refine ih (fun y hy => hT y (List.mem_cons_of_mem _ hy)) _ ?_
    intro b hb
    rcases (seeS_iff a S x b).1 hb with hb | ⟨hor, rfl⟩
    · exact h b hb
    · exact hT x (List.mem_cons_self ..) (hor.imp id (h _))

theorem seenS_in {a : Nat} {q : List (Int × Int)} {T : Nat → Bool} (hT : ∀ x, x ∈ q → (x.1.toNat = a ∨ T x.1.toNat = true) → T x.2.toNat = true) (i : Nat) : ∀ b, seenS a q i b = true → T b = true := by
  induction i with
  | zero => intro b h; cases h
  | succ i ih => exact passS_in hT _ ih

/-- What one pass leaves as it was is closed. -/
theorem passS_fix {a : Nat} (q : List (Int × Int)) : ∀ S, passS a q S = S → ∀ x, x ∈ q → (x.1.toNat = a ∨ S x.1.toNat = true) → S x.2.toNat = true := by
  intro S h
  have key : ∀ (q : List (Int × Int)) (S : Nat → Bool), (∀ b, passS a q S b = true → S b = true) → ∀ x, x ∈ q → (x.1.toNat = a ∨ S x.1.toNat = true) → S x.2.toNat = true := by
    intro q
    induction q with
    | nil => intro S _ x hx; cases hx
    | cons y q ih =>
      intro S h x hx hor
      have hy : ∀ b, seeS a S y b = true → S b = true := fun b hb => h b (passS_grows a q _ b hb)
      have hS : seeS a S y = S := by
        funext b
        rw [Bool.eq_iff_iff]
        exact ⟨hy b, fun hb => (seeS_iff a S y b).2 (.inl hb)⟩
      rcases List.mem_cons.1 hx with rfl | hx
      · exact hy _ ((seeS_iff a S x _).2 (.inr ⟨hor, rfl⟩))
      · refine ih S (fun b hb => h b ?_) x hx hor
        show passS a q (seeS a S y) b = true
        rw [hS]
        exact hb
  exact key q S (fun b hb => by rw [h] at hb; exact hb)

theorem cnt_le_of_sub {S T : Nat → Bool} (h : ∀ b, S b = true → T b = true) (l : List Nat) : (l.filter S).length ≤ (l.filter T).length := by
  induction l with
  | nil => simp
  | cons x l ih =>
    rw [List.filter_cons, List.filter_cons]
    cases hs : S x
    · cases ht : T x
      · simpa using ih
      · simp; omega
    · rw [h x hs]; simpa using ih
theorem cnt_eq_of_sub {S T : Nat → Bool} (h : ∀ b, S b = true → T b = true) (l : List Nat) (e : (l.filter T).length ≤ (l.filter S).length) : ∀ x, x ∈ l → S x = T x := by
  induction l with
  | nil => intro x hx; cases hx
  | cons y l ih =>
    rw [List.filter_cons, List.filter_cons] at e
    have hle := cnt_le_of_sub h l
    intro x hx
    cases hs : S y
    · cases ht : T y
      · rw [hs, ht] at e
        rcases List.mem_cons.1 hx with rfl | hx
        · rw [hs, ht]
        · exact ih (by simpa using e) x hx
      · rw [hs, ht] at e
        simp at e
        omega
    · have ht := h y hs
      rw [hs, ht] at e
      rcases List.mem_cons.1 hx with rfl | hx
      · rw [hs, ht]
      · exact ih (by simpa using e) x hx

theorem passS_supp {a k : Nat} {q : List (Int × Int)} (hq : ∀ x, x ∈ q → x.2.toNat < k) : ∀ S, (∀ b, S b = true → b < k) → ∀ b, passS a q S b = true → b < k := by
  induction q with
  | nil => intro S h b hb; exact h b hb
  | cons x q ih =>
    intro S h
    refine ih (fun y hy => hq y (List.mem_cons_of_mem _ hy)) _ ?_
    intro b hb
    rcases (seeS_iff a S x b).1 hb with hb | ⟨_, rfl⟩
    · exact h b hb
    · exact hq x (List.mem_cons_self ..)
theorem seenS_supp {a k : Nat} {q : List (Int × Int)} (hq : ∀ x, x ∈ q → x.2.toNat < k) (i : Nat) : ∀ b, seenS a q i b = true → b < k := by
  induction i with
  | zero => intro b h; cases h
  | succ i ih => exact passS_supp hq _ ih

/-- Behind as many passes as there are elements, and one, nothing is marked any more. -/
theorem seenS_fix {a k : Nat} {q : List (Int × Int)} (hq : ∀ x, x ∈ q → x.2.toNat < k) : passS a q (seenS a q (k + 1)) = seenS a q (k + 1) := by
  have key : ∀ i, passS a q (seenS a q i) = seenS a q i ∨ i ≤ (onL (seenS a q i) k).length := by
    intro i
    induction i with
    | zero => exact .inr (Nat.zero_le _)
    | succ i ih =>
      rcases ih with h | h
      · left
        show passS a q (passS a q (seenS a q i)) = passS a q (seenS a q i)
        rw [h]
        exact h
      · by_cases hf : passS a q (seenS a q i) = seenS a q i
        · left
          show passS a q (passS a q (seenS a q i)) = passS a q (seenS a q i)
          rw [hf]
          exact hf
        · right
          have hsub : ∀ b, seenS a q i b = true → passS a q (seenS a q i) b = true := passS_grows a q _
          have hle := cnt_le_of_sub hsub (List.range k)
          by_cases he : ((List.range k).filter (passS a q (seenS a q i))).length ≤ ((List.range k).filter (seenS a q i)).length
          · exfalso
            apply hf
            funext b
            by_cases hb : b < k
            · exact (cnt_eq_of_sub hsub (List.range k) he b (by simpa using hb)).symm
            · cases h1 : passS a q (seenS a q i) b
              · cases h2 : seenS a q i b
                · rfl
                · exact absurd (seenS_supp hq i b h2) hb
              · exact absurd (seenS_supp hq (i + 1) b h1) hb
          · show i + 1 ≤ ((List.range k).filter (passS a q (seenS a q i))).length
            have : i ≤ ((List.range k).filter (seenS a q i)).length := h
            omega
  rcases key (k + 1) with h | h
  · exact h
  · have := onL_le (seenS a q (k + 1)) k
    omega

/-- Whoever comes from a, or from one who is marked, is marked. -/
def toT (a : Nat) (S : Nat → Bool) (x y : Nat) : Bool := !(decide (x = a) || S x) || S y
theorem toT_iff (a : Nat) (S : Nat → Bool) (x y : Nat) : toT a S x y = true ↔ ((x = a ∨ S x = true) → S y = true) := by
  unfold toT
  cases S y <;> cases S x <;> simp

/-- The marks are who is reached. -/
theorem seenS_clo {a k : Nat} {q : List (Int × Int)} (hq : allIn k q = true) (ha : a < k) (b : Nat) : seenS a q (k + 1) b = clo k (ofL k q) a b := by
  have hin : ∀ x, x ∈ q → inI k x.1 x.2 := by
    intro x hx
    have := List.all_eq_true.1 hq x hx
    simpa using this
  have hR : ∀ x, x ∈ q → ofL k q x.1.toNat x.2.toNat = true := by
    intro x hx
    obtain ⟨h1, h2, h3, h4⟩ := hin x hx
    rw [ofL_iff]
    refine ⟨by omega, by omega, ?_⟩
    rw [Int.toNat_of_nonneg h1, Int.toNat_of_nonneg h3]
    exact hx
  have hsu := ofL_supp k q
  rw [Bool.eq_iff_iff]
  constructor
  · refine seenS_in (T := clo k (ofL k q) a) ?_ (k + 1) b
    intro x hx hor
    have h1 := clo_sub k _ _ _ (hR x hx)
    rcases hor with e | e
    · rw [e] at h1; exact h1
    · exact clo_trans hsu _ _ _ e h1
  · intro hc
    have hfix := passS_fix q _ (seenS_fix (a := a) (k := k) (q := q) (fun x hx => by obtain ⟨h1, h2, h3, h4⟩ := hin x hx; omega))
    have hT : Trans (toT a (seenS a q (k + 1))) := by
      intro x y z h1 h2
      rw [toT_iff] at *
      exact fun h => h2 (.inr (h1 h))
    have hsub : Sub (ofL k q) (toT a (seenS a q (k + 1))) := by
      intro x y h
      obtain ⟨h1, h2, h3⟩ := (ofL_iff k q x y).1 h
      rw [toT_iff]
      intro hor
      have := hfix _ h3 (by simpa using hor)
      simpa using this
    exact (toT_iff _ _ _ _).1 (clo_least hsub hT a b hc) (.inl rfl)

end Go.Proofs.YtkcofakhcpajmaaDoor
