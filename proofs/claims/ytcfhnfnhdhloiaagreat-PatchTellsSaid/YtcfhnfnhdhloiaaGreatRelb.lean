/- Package rel: Only; the callers' forms of its contracts; the relation of a list of pairs. -/
import Derived.Test.YtcfhnfnhdhloiaaGreatRela
/-! The contract of Only of package rel. -/
namespace Go.Proofs.YtcfhnfnhdhloiaaGreat
open Go.RowKit

/-- A slice of bools that reads as l, in a block from lo to hi. -/
structure BoolsAt (w : World) (lo hi : Nat) (p : Option Addr) (n : Nat) (l : List Bool) : Prop where
  len : l.length = n
  cell : 0 < n → ∃ b off, p = some ⟨b, off, none⟩ ∧ lo ≤ b ∧ b < hi ∧ hi ≤ w.heap.size ∧ ∀ k, k < n → w.cell? ⟨b, off + k, none⟩ = some (.bool (l[k]?.getD false))

theorem BoolsAt.calm {w w' : World} {lo hi : Nat} {p : Option Addr} {n : Nat} {l : List Bool} (h : BoolsAt w lo hi p n l) (hg : w.grownBy w' none) : BoolsAt w' lo hi p n l := by
  refine ⟨h.len, fun hn => ?_⟩
  obtain ⟨b, off, hp, h1, h2, h3, hc⟩ := h.cell hn
  have hb : w'.heap[b]? = w.heap[b]? := hg.block b (by omega) (by simp)
  exact ⟨b, off, hp, h1, h2, Nat.le_trans h3 hg.size, fun k hk => (World.cell?_of_block (a := ⟨b, off + k, none⟩) hb).trans (hc k hk)⟩

theorem BoolsAt.apart {w w' : World} {lo hi lo' hi' : Nat} {p : Option Addr} {n : Nat} {l : List Bool} (h : BoolsAt w lo hi p n l) (hg : Kept lo' hi' w w') (hd : hi ≤ lo' ∨ hi' ≤ lo) : BoolsAt w' lo hi p n l := by
  refine ⟨h.len, fun hn => ?_⟩
  obtain ⟨b, off, hp, h1, h2, h3, hc⟩ := h.cell hn
  have hb : w'.heap[b]? = w.heap[b]? := hg.block b (by omega) (by omega)
  exact ⟨b, off, hp, h1, h2, Nat.le_trans h3 hg.size, fun k hk => (World.cell?_of_block (a := ⟨b, off + k, none⟩) hb).trans (hc k hk)⟩

/-- The kept elements ahead of k. -/
def keepS (keep : List Bool) (k a : Nat) : Bool := decide (a < k) && keptB keep a
theorem keepS_zero (keep : List Bool) (a : Nat) : keepS keep 0 a = false := by simp [keepS]
theorem keepS_succ (keep : List Bool) (n k : Nat) (hk : k < n) (a : Nat) : putS (keepS keep k) n (k : Int) (keptB keep k) a = keepS keep (k + 1) a := by
  unfold putS keepS
  by_cases e : a = k
  · subst e; simp [hk]
  · have e' : ¬ ((a : Int) = (k : Int) ∧ a < n) := by omega
    rw [if_neg e']
    by_cases h : a < k
    · have : a < k + 1 := by omega
      simp [h, this]
    · have : ¬ a < k + 1 := by omega
      simp [h, this]

/-- The rows of the first j kept elements. -/
def onlyJ (keep : List Bool) (n : Nat) (R : Nat → Nat → Bool) (xs : List Nat) (j a b : Nat) : Bool := decide (a ∈ xs.take j) && (R a b && keepS keep n b)

theorem onlyJ_supp {n : Nat} {R : Nat → Nat → Bool} (h : Supp n R) (keep : List Bool) (xs : List Nat) (j : Nat) : Supp n (onlyJ keep n R xs j) := fun a b e => by
  unfold onlyJ at e
  simp only [Bool.and_eq_true] at e
  exact h a b e.2.1
theorem onlyJ_all {n : Nat} {R : Nat → Nat → Bool} (h : Supp n R) (keep : List Bool) (xs : List Nat) (hx : xs = onL (keepS keep n) n) (j : Nat) (hj : xs.length ≤ j) : onlyJ keep n R xs j = onlyR keep R := by
  funext a b
  unfold onlyJ onlyR
  rw [List.take_of_length_le hj, hx]
  cases hr : R a b
  · simp
  · obtain ⟨ha, hb⟩ := h a b hr
    simp [onL, keepS, ha, hb]

theorem onlyJ_succ (keep : List Bool) (n : Nat) (R : Nat → Nat → Bool) (xs : List Nat) (j : Nat) (hj : j < xs.length) (x y : Nat) : onlyJ keep n R xs (j + 1) x y = if x = xs[j]?.getD 0 then (R x y && keepS keep n y) else onlyJ keep n R xs j x y := by
  unfold onlyJ
  rw [List.take_succ_eq_append_getElem hj, List.getElem?_eq_getElem hj, Option.getD_some]
  by_cases e : x = xs[j]
  · rw [if_pos e]
    have : x ∈ List.take j xs ++ [xs[j]] := List.mem_append.2 (.inr (by rw [e]; exact List.mem_singleton.2 rfl))
    simp only [this, decide_true, Bool.true_and]
  · rw [if_neg e]
    have : (x ∈ List.take j xs ++ [xs[j]]) ↔ x ∈ List.take j xs := by rw [List.mem_append, List.mem_singleton]; exact ⟨fun h => h.resolve_right e, .inl⟩
    simp only [this]
theorem onlyJ_row {n : Nat} {R : Nat → Nat → Bool} (h : Supp n R) (keep : List Bool) (xs : List Nat) (j a y : Nat) : ((onlyJ keep n R xs j a y || (R a y && decide (y < n))) && keepS keep n y) = (R a y && keepS keep n y) := by
  unfold onlyJ
  cases hr : R a y
  · simp
  · have := (h a y hr).2
    cases decide (a ∈ List.take j xs) <;> cases keepS keep n y <;> simp [this]

/-- A row of a relation under the join with another row, and the cut with a third one. -/
theorem Rows'.at {w : World} {lo hi p pb n k : Nat} {bs ws : Nat → Nat} {R : Nat → Nat → Bool} (h : Rows' w lo hi p pb n k bs ws R) {a : Nat} (ha : a < k) : IsSet w (bs a) (ws a) n (R a) := h.row a ha

theorem IsSet.keptIn {w w' : World} {b wb n lo hi : Nat} {S : Nat → Bool} (h : IsSet w b wb n S) (hg : Kept lo hi w w') (h1 : ¬ (lo ≤ b ∧ b < hi)) (h2 : ¬ (lo ≤ wb ∧ wb < hi)) : IsSet w' b wb n S := by
  obtain ⟨ws, hr, ho⟩ := h
  exact ⟨ws, hr.kept hg.size (hg.block b hr.hb h1) (hg.block wb hr.hw h2), ho⟩

theorem IsSet.lt {w : World} {b wb n : Nat} {S : Nat → Bool} (h : IsSet w b wb n S) : b < w.heap.size ∧ wb < w.heap.size := by
  obtain ⟨ws, hr, _⟩ := h
  exact ⟨hr.hb, hr.hw⟩

end Go.Proofs.YtcfhnfnhdhloiaaGreat
/-! The contracts of package rel as the statements use them; what their own function known does. Condition: the table of the lowest places is in memory. -/
namespace Go.Proofs.YtcfhnfnhdhloiaaGreat
open Go.RowKit

theorem pairsAt_nil (w : World) (lo hi : Nat) : PairsAt w lo hi none 0 [] := ⟨rfl, fun h => absurd h (by omega)⟩
/-- What known makes. -/
def r3 : Nat → Nat → Bool := ofL 3 [(0, 1), (1, 2)]
def c3 : Nat → Nat → Bool := clo 3 r3
theorem known_1 : ofErr ((3 : Nat) : Int) [(0, 1), (1, 2)] = 0 := by decide +kernel
theorem known_2 : ofErr 2 [(0, 2)] = 10 := by decide +kernel
theorem known_3 : ofErr (-1) [] = 11 := by decide +kernel
theorem known_4 : hasI 3 r3 0 2 = false := by decide +kernel
theorem known_5 : hasI 3 c3 0 2 = true := by decide +kernel
theorem known_6 : (!grewC 3 r3 3) = false := by decide +kernel
theorem known_7 : (!grewC 3 c3 3) = true := by decide +kernel
theorem known_8 : (pairsL 3 c3 3).length = 3 := by decide +kernel
theorem known_9 : joinG 3 c3 0 1 = false := by decide +kernel
theorem known_10 : newI 4 (fun _ _ => false) 1 1 = true := by decide +kernel

end Go.Proofs.YtcfhnfnhdhloiaaGreat
/-! The relation of a list of pairs, in plain lists. -/
namespace Go.Proofs.YtcfhnfnhdhloiaaGreat
open Go.RowKit

theorem ofL_iff (n : Nat) (l : List (Int × Int)) (x y : Nat) : ofL n l x y = true ↔ x < n ∧ y < n ∧ ((x : Int), (y : Int)) ∈ l := by
  have key : ∀ (l : List (Int × Int)) (R : Nat → Nat → Bool), l.foldl (addI n) R x y = true ↔ R x y = true ∨ (x < n ∧ y < n ∧ ((x : Int), (y : Int)) ∈ l) := by
    intro l
    induction l with
    | nil => intro R; simp
    | cons p l ih =>
      intro R
      rw [List.foldl_cons, ih]
      have : addI n R p x y = true ↔ R x y = true ∨ (x < n ∧ y < n ∧ ((x : Int), (y : Int)) = p) := by
        unfold addI
        split
        · rename_i h
          rw [addR_iff]
          constructor
          · rintro (h1 | ⟨h1, h2⟩)
            · exact .inl h1
            · exact .inr ⟨by omega, by omega, Prod.ext (by simp only; omega) (by simp only; omega)⟩
          · rintro (h1 | ⟨h1, h2, h3⟩)
            · exact .inl h1
            · right
              rw [← h3]
              simp
        · rename_i h
          constructor
          · exact .inl
          · rintro (h1 | ⟨h1, h2, h3⟩)
            · exact h1
            · exfalso
              apply h
              rw [← h3]
              simp only
              omega
      rw [this, List.mem_cons]
      constructor
      · rintro ((h | ⟨h1, h2, h3⟩) | ⟨h1, h2, h3⟩)
        · exact .inl h
        · exact .inr ⟨h1, h2, .inl h3⟩
        · exact .inr ⟨h1, h2, .inr h3⟩
      · rintro (h | ⟨h1, h2, h3 | h3⟩)
        · exact .inl (.inl h)
        · exact .inl (.inr ⟨h1, h2, h3⟩)
        · exact .inr ⟨h1, h2, h3⟩
  have := key l (fun _ _ => false)
  simpa [ofL] using this

/-- Lists of the same pairs. -/
theorem ofL_congr {n : Nat} {l r : List (Int × Int)} (h : ∀ x, x ∈ l ↔ x ∈ r) : ofL n l = ofL n r := by
  funext x y
  rw [Bool.eq_iff_iff, ofL_iff, ofL_iff, h]

theorem ofL_pairsL {n : Nat} {R : Nat → Nat → Bool} (h : Supp n R) : ofL n (pairsL n R n) = R := by
  funext x y
  have h1 := ofL_iff n (pairsL n R n) x y
  rw [pairsL_mem] at h1
  cases hr : R x y
  · cases ho : ofL n (pairsL n R n) x y
    · rfl
    · have := (h1.1 ho).2.2.2.2
      rw [hr] at this
      cases this
  · have := h x y hr
    exact h1.2 ⟨this.1, this.2, this.1, this.2, hr⟩
theorem pairsL_in {n : Nat} {R : Nat → Nat → Bool} : ∀ p ∈ pairsL n R n, inI n p.1 p.2 := by
  intro p hp
  unfold pairsL at hp
  rw [List.mem_flatMap] at hp
  obtain ⟨a, ha, hb⟩ := hp
  rw [List.mem_map] at hb
  obtain ⟨b, hb, rfl⟩ := hb
  have h1 : a < n := by simpa using ha
  have h2 : b < n := by unfold onL at hb; simpa using (List.mem_filter.1 hb).1
  unfold inI
  simp only
  omega
theorem pairsL_ok {n : Nat} {R : Nat → Nat → Bool} (hn : n ≤ 200) : ofErr n (pairsL n R n) = 0 := by
  unfold ofErr
  rw [if_neg (by omega), Int.toNat_natCast, if_pos]
  unfold allIn
  rw [List.all_eq_true]
  intro p hp
  simpa using pairsL_in p hp

end Go.Proofs.YtcfhnfnhdhloiaaGreat
