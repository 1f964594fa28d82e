/- Plain: rows put together over their ends; a row and the row turned round. -/
import Derived.Test.YtihkjgiaajgkpaaDoorSquP
namespace Go.Proofs.YtihkjgiaajgkpaaDoor

/-- n in a row: each ahead of all behind it. -/
def rowR (n a b : Nat) : Bool := decide (a < b) && decide (b < n)
theorem rowR_iff {n a b : Nat} : rowR n a b = true ↔ a < b ∧ b < n := by simp [rowR]
theorem rowR_supp (n : Nat) : Supp n (rowR n) := fun a b h => by have := rowR_iff.1 h; omega
theorem rowR_trans (n : Nat) : Trans (rowR n) := fun a b c h k => by
  have := rowR_iff.1 h
  have := rowR_iff.1 k
  exact rowR_iff.2 (by omega)
def rowP (n : Nat) : List (Int × Int) := pairsL n (rowR n) n
theorem rowP_obj {L : List ByteArray} {n : Nat} (h : labErr L = 0) (hl : L.length = n) : chk L (rowP n) = 0 := by
  have := chk_pairs h hl (rowR_supp n)
  rwa [clo_of_trans (rowR_trans n)] at this
theorem rowP_mem {n a b : Nat} : ((a : Int), (b : Int)) ∈ rowP n ↔ a < b ∧ b < n := by
  unfold rowP
  rw [pairsL_mem, rowR_iff]
  omega

/-- A relation given by its values among n. -/
def agreeR (n : Nat) (R T : Nat → Nat → Bool) : Bool := (List.range n).all fun a => (List.range n).all fun b => R a b == T a b
theorem agreeR_eq {n : Nat} {R T : Nat → Nat → Bool} (hR : Supp n R) (hT : Supp n T) (h : agreeR n R T = true) : R = T := by
  funext a b
  rw [Bool.eq_iff_iff]
  have key : ∀ a b, a < n → b < n → R a b = T a b := fun a b ha hb => by
    have h1 := List.all_eq_true.1 h a (List.mem_range.2 ha)
    have h2 := List.all_eq_true.1 h1 b (List.mem_range.2 hb)
    exact eq_of_beq h2
  constructor
  · intro e
    have := hR a b e
    rwa [← key a b this.1 this.2]
  · intro e
    have := hT a b e
    rwa [key a b this.1 this.2]

/-- Two rows of x + 2 and y + 2 over their ends: who is ahead of whom. -/
def linT (x y a b : Nat) : Bool := (decide (a < b) && decide (b ≤ x + 1)) || (decide (a = 0) && (decide (x + 1 < b) && decide (b < x + y + 2))) || (decide (x + 1 < a) && (decide (a < b) && decide (b < x + y + 2))) || (decide (x + 1 < a) && (decide (a < x + y + 2) && decide (b = x + 1)))
theorem linT_iff {x y a b : Nat} : linT x y a b = true ↔ (a < b ∧ b ≤ x + 1) ∨ (a = 0 ∧ x + 1 < b ∧ b < x + y + 2) ∨ (x + 1 < a ∧ a < b ∧ b < x + y + 2) ∨ (x + 1 < a ∧ a < x + y + 2 ∧ b = x + 1) := by
  unfold linT
  simp only [Bool.or_eq_true, Bool.and_eq_true, decide_eq_true_eq]
  omega
theorem linT_supp (x y : Nat) : Supp (x + y + 2) (linT x y) := fun a b h => by have := linT_iff.1 h; omega
theorem linT_trans (x y : Nat) : Trans (linT x y) := fun a b c h k => by
  have h1 := linT_iff.1 h
  have h2 := linT_iff.1 k
  exact linT_iff.2 (by omega)
def linF (x : Nat) : List Int := [0, (x : Int) + 1]
def linJ (x y : Nat) : List Nat := joinsL (x + 2 + (y + 2)) (linF x) (shL (x + 2) (linF y))
def linOK (x y : Nat) : Bool :=
  decide (cntR (linJ x y) (linJ x y).length = x + y + 2) && (agreeR (x + y + 2) (gluR (linJ x y) (rowP (x + 2) ++ shP (x + 2) (rowP (y + 2)))) (linT x y) &&
  (decide ((pairsL (x + y + 2) (linT x y) (x + y + 2)).length = (x + 2) * (x + 1) / 2 + (y + 2) * (y + 1) / 2 - 1) &&
  (decide ((atZ (linJ x y))[0]?.getD 0 = 0) && (decide ((atZ (linJ x y))[x + 1]?.getD 0 = (x : Int) + 1) && (decide ((atZ (linJ x y))[x + 2]?.getD 0 = 0) && decide ((atZ (linJ x y))[x + 2 + (y + 1)]?.getD 0 = (x : Int) + 1))))))
set_option maxRecDepth 100000 in
theorem linOK_all : ((List.range 6).all fun x => (List.range 6).all fun y => linOK x y) = true := by decide +kernel
theorem linOK_at {x y : Nat} (hx : x < 6) (hy : y < 6) : linOK x y = true :=
  List.all_eq_true.1 (List.all_eq_true.1 linOK_all x (List.mem_range.2 hx)) y (List.mem_range.2 hy)
theorem gluR_supp (J : List Nat) (P : List (Int × Int)) : Supp (cntR J J.length) (gluR J P) := ofL_supp _ _

/-- k in a row and turned round. -/
def cirG (k : Nat) : List Int := (List.range k).map fun i : Nat => (k : Int) - 1 - i
def cirJ (k : Nat) : List Nat := joinsL (k + k) (idL k) (shL k (cirG k))
def cirT (k a b : Nat) : Bool := decide (a < k) && (decide (b < k) && decide (a ≠ b))
def cirA (k a b : Nat) : Bool := decide (a < k) && decide (b < k)
def cirOK (k : Nat) : Bool :=
  decide (cntR (cirJ k) (cirJ k).length = k) && (agreeR k (gluR (cirJ k) (rowP k ++ shP k (rowP k))) (cirT k) && (decide ((pairsL k (cirA k) k).length = k * k) &&
  (decide ((atZ (cirJ k)).take k = idL k) && (decide ((atZ (cirJ k)).drop k = cirG k) && (decide (idL k).Nodup && decide (cirG k).Nodup)))))
set_option maxRecDepth 100000 in
theorem cirOK_all : ((List.range 8).all fun j => cirOK (j + 2)) = true := by decide +kernel
theorem cirOK_at {k : Nat} (h2 : 2 ≤ k) (h9 : k < 10) : cirOK k = true := by
  have := List.all_eq_true.1 cirOK_all (k - 2) (List.mem_range.2 (by omega))
  rwa [show k - 2 + 2 = k by omega] at this
theorem cirT_supp (k : Nat) : Supp k (cirT k) := fun a b h => by
  unfold cirT at h
  simp only [Bool.and_eq_true, decide_eq_true_eq] at h
  exact ⟨h.1, h.2.1⟩
theorem cirT_clo {k : Nat} (h2 : 2 ≤ k) : clo k (cirT k) = cirA k := by
  refine Sub.antisymm (fun a b h => ?_) (fun a b h => ?_)
  · have := clo_supp (cirT_supp k) a b h
    unfold cirA
    simp only [Bool.and_eq_true, decide_eq_true_eq]
    exact this
  · unfold cirA at h
    simp only [Bool.and_eq_true, decide_eq_true_eq] at h
    have one : ∀ a b, a < k → b < k → a ≠ b → clo k (cirT k) a b = true := fun a b ha hb hab => clo_sub _ _ _ _ (by unfold cirT; simp [ha, hb, hab])
    by_cases e : a = b
    · subst e
      by_cases z : a = 0
      · exact clo_trans (cirT_supp k) a 1 a (one a 1 h.1 (by omega) (by omega)) (one 1 a (by omega) h.1 (by omega))
      · exact clo_trans (cirT_supp k) a 0 a (one a 0 h.1 (by omega) z) (one 0 a (by omega) h.1 (fun e => z e.symm))
    · exact one a b h.1 h.2 e

end Go.Proofs.YtihkjgiaajgkpaaDoor
