/- The contract of Only of package rel. -/
import Derived.Test.YtdolcdededmlhaaDoorRelO
namespace Go.Proofs.YtdolcdededmlhaaDoor
open Go.RowKit

/-- A slice of bools that reads as l, in a block from lo to hi. -/
structure BoolsAt (w : World) (lo hi : Nat) (p : Option Addr) (n : Nat) (l : List Bool) : Prop where
  len : l.length = n
  cell : 0 < n → ∃ b off, p = some ⟨b, off, none⟩ ∧ lo ≤ b ∧ b < hi ∧ hi ≤ w.heap.size ∧ ∀ k, k < n → w.cell? ⟨b, off + k, none⟩ = some (.bool (l[k]?.getD false))

theorem BoolsAt.calm {w w' : World} {lo hi : Nat} {p : Option Addr} {n : Nat} {l : List Bool} (h : BoolsAt w lo hi p n l) (hg : w.grownBy w' none) : BoolsAt w' lo hi p n l := by
  refine ⟨h.len, fun hn => ?_⟩
  obtain ⟨b, off, hp, h1, h2, h3, hc⟩ := h.cell hn
  have hb : w'.heap[b]? = w.heap[b]? := hg.block b (by omega) (by simp)
  exact ⟨b, off, hp, h1, h2, Nat.le_trans h3 hg.size, fun k hk => (World.cell?_of_block (a := ⟨b, off + k, none⟩) hb).trans (hc k hk)⟩

theorem BoolsAt.apart {w w' : World} {lo hi lo' hi' : Nat} {p : Option Addr} {n : Nat} {l : List Bool} (h : BoolsAt w lo hi p n l) (hg : Kept lo' hi' w w') (hd : hi ≤ lo' ∨ hi' ≤ lo) : BoolsAt w' lo hi p n l := by
  refine ⟨h.len, fun hn => ?_⟩
  obtain ⟨b, off, hp, h1, h2, h3, hc⟩ := h.cell hn
  have hb : w'.heap[b]? = w.heap[b]? := hg.block b (by omega) (by omega)
  exact ⟨b, off, hp, h1, h2, Nat.le_trans h3 hg.size, fun k hk => (World.cell?_of_block (a := ⟨b, off + k, none⟩) hb).trans (hc k hk)⟩

/-- The kept elements ahead of k. -/
def keepS (keep : List Bool) (k a : Nat) : Bool := decide (a < k) && keptB keep a
theorem keepS_zero (keep : List Bool) (a : Nat) : keepS keep 0 a = false := by simp [keepS]
theorem keepS_succ (keep : List Bool) (n k : Nat) (hk : k < n) (a : Nat) : putS (keepS keep k) n (k : Int) (keptB keep k) a = keepS keep (k + 1) a := by
  unfold putS keepS
  by_cases e : a = k
  · subst e; simp [hk]
  · have e' : ¬ ((a : Int) = (k : Int) ∧ a < n) := by omega
    rw [if_neg e']
    by_cases h : a < k
    · have : a < k + 1 := by omega
      simp [h, this]
    · have : ¬ a < k + 1 := by omega
      simp [h, this]

/-- The rows of the first j kept elements. -/
def onlyJ (keep : List Bool) (n : Nat) (R : Nat → Nat → Bool) (xs : List Nat) (j a b : Nat) : Bool := decide (a ∈ xs.take j) && (R a b && keepS keep n b)

theorem onlyJ_supp {n : Nat} {R : Nat → Nat → Bool} (h : Supp n R) (keep : List Bool) (xs : List Nat) (j : Nat) : Supp n (onlyJ keep n R xs j) := fun a b e => by
  unfold onlyJ at e
  simp only [Bool.and_eq_true] at e
  exact h a b e.2.1
theorem onlyJ_all {n : Nat} {R : Nat → Nat → Bool} (h : Supp n R) (keep : List Bool) (xs : List Nat) (hx : xs = onL (keepS keep n) n) (j : Nat) (hj : xs.length ≤ j) : onlyJ keep n R xs j = onlyR keep R := by
  funext a b
  unfold onlyJ onlyR
  rw [List.take_of_length_le hj, hx]
  cases hr : R a b
  · simp
  · obtain ⟨ha, hb⟩ := h a b hr
    simp [onL, keepS, ha, hb]

theorem onlyJ_succ (keep : List Bool) (n : Nat) (R : Nat → Nat → Bool) (xs : List Nat) (j : Nat) (hj : j < xs.length) (x y : Nat) : onlyJ keep n R xs (j + 1) x y = if x = xs[j]?.getD 0 then (R x y && keepS keep n y) else onlyJ keep n R xs j x y := by
  unfold onlyJ
  rw [List.take_succ_eq_append_getElem hj, List.getElem?_eq_getElem hj, Option.getD_some]
  by_cases e : x = xs[j]
  · rw [if_pos e]
    have : x ∈ List.take j xs ++ [xs[j]] := List.mem_append.2 (.inr (by rw [e]; exact List.mem_singleton.2 rfl))
    simp only [this, decide_true, Bool.true_and]
  · rw [if_neg e]
    have : (x ∈ List.take j xs ++ [xs[j]]) ↔ x ∈ List.take j xs := by rw [List.mem_append, List.mem_singleton]; exact ⟨fun h => h.resolve_right e, .inl⟩
    simp only [this]
theorem onlyJ_row {n : Nat} {R : Nat → Nat → Bool} (h : Supp n R) (keep : List Bool) (xs : List Nat) (j a y : Nat) : ((onlyJ keep n R xs j a y || (R a y && decide (y < n))) && keepS keep n y) = (R a y && keepS keep n y) := by
  unfold onlyJ
  cases hr : R a y
  · simp
  · have := (h a y hr).2
    cases decide (a ∈ List.take j xs) <;> cases keepS keep n y <;> simp [this]

/-- A row of a relation under the join with another row, and the cut with a third one. -/
theorem Rows'.at {w : World} {lo hi p pb n k : Nat} {bs ws : Nat → Nat} {R : Nat → Nat → Bool} (h : Rows' w lo hi p pb n k bs ws R) {a : Nat} (ha : a < k) : IsSet w (bs a) (ws a) n (R a) := h.row a ha

theorem IsSet.keptIn {w w' : World} {b wb n lo hi : Nat} {S : Nat → Bool} (h : IsSet w b wb n S) (hg : Kept lo hi w w') (h1 : ¬ (lo ≤ b ∧ b < hi)) (h2 : ¬ (lo ≤ wb ∧ wb < hi)) : IsSet w' b wb n S := by
  obtain ⟨ws, hr, ho⟩ := h
  exact ⟨ws, hr.kept hg.size (hg.block b hr.hb h1) (hg.block wb hr.hw h2), ho⟩

theorem IsSet.lt {w : World} {b wb n : Nat} {S : Nat → Bool} (h : IsSet w b wb n S) : b < w.heap.size ∧ wb < w.heap.size := by
  obtain ⟨ws, hr, _⟩ := h
  exact ⟨hr.hb, hr.hw⟩

theorem relLen_r (p pb n cap : Nat) (w : World) (hc : w.cell? ⟨p, 0, none⟩ = some (.slice (some ⟨pb, 0, none⟩) n cap)) : Calls Tryd.prog 13 #[.pointer (some ⟨p, 0, none⟩)] w fun e w' => e = .returned (.int .i64 n) ∧ w' = w := by
  go_enter Tryd.func13, Tryd.ntmps13
  go_wp2
  go_ret
  exact ⟨rfl, rfl⟩

end Go.Proofs.YtdolcdededmlhaaDoor
