/- The reference's relations: the contracts of New, Has, Of, Copy, Closure, Same, Pairs, Some. -/
import Derived.Deep.AppendLies
import Derived.Deep.RegionLaw
import Derived.Test.YtcfhnfnhdhloiaaGreatRelb
import Derived.StillTailTactics
/-! The document's relations in memory: a table of marks; the contracts of New, Is, Has of package centoref2. -/
namespace Go.Proofs.YtcfhnfnhdhloiaaGreat
open Go.RowKit

/-- A row of marks in a block of its own. -/
def BoolRow (w : World) (b n : Nat) (S : Nat → Bool) : Prop := ∃ cur : Array Value, w.heap[b]? = some (.cells cur 4 (0, 0)) ∧ ∀ i, i < n → cur[i]? = some (.bool (S i))

theorem BoolRow.kept {w w' : World} {b n : Nat} {S : Nat → Bool} (h : BoolRow w b n S) (e : w'.heap[b]? = w.heap[b]?) : BoolRow w' b n S := by
  obtain ⟨cur, h1, h2⟩ := h
  exact ⟨cur, e.trans h1, h2⟩
theorem BoolRow.cell {w : World} {b n : Nat} {S : Nat → Bool} (h : BoolRow w b n S) {i : Nat} (hi : i < n) : w.cell? ⟨b, i, none⟩ = some (.bool (S i)) := by
  obtain ⟨cur, h1, h2⟩ := h
  simp only [World.cell?, h1]
  exact h2 i hi
theorem BoolRow.free {w : World} {b n : Nat} {S : Nat → Bool} (h : BoolRow w b n S) (i : Nat) : w.frozen? ⟨b, i, none⟩ = false := by
  obtain ⟨cur, h1, h2⟩ := h
  simp only [World.frozen?, h1]
  simp
theorem BoolRow.lt {w : World} {b n : Nat} {S : Nat → Bool} (h : BoolRow w b n S) : b < w.heap.size := by
  obtain ⟨cur, h1, h2⟩ := h
  exact (Array.getElem?_eq_some_iff.1 h1).1
theorem BoolRow.congr {w : World} {b n : Nat} {S T : Nat → Bool} (h : BoolRow w b n S) (e : ∀ i, i < n → S i = T i) : BoolRow w b n T := by
  obtain ⟨cur, h1, h2⟩ := h
  exact ⟨cur, h1, fun i hi => by rw [← e i hi]; exact h2 i hi⟩
theorem BoolRow.set {w : World} {b n : Nat} {S : Nat → Bool} (h : BoolRow w b n S) {i : Nat} (hi : i < n) (v : Bool) : BoolRow (w.setCell ⟨b, i, none⟩ (.bool v)) b n (fun j => if j = i then v else S j) := by
  obtain ⟨cur, h1, h2⟩ := h
  refine ⟨_, heap_setCell_same w b i cur _ _ h1, fun j hj => ?_⟩
  have hl : i < cur.size := (Array.getElem?_eq_some_iff.1 (h2 i hi)).1
  by_cases e : j = i
  · subst e
    simp [hl]
  · show _ = some (Value.bool (if j = i then v else S j))
    rw [if_neg e, ← h2 j hj, Array.getElem?_setIfInBounds_ne (fun e' => e e'.symm)]

theorem Tryz.infoB4 : (Tryz.prog.info? 4).map (fun i => (i.zero, i.size, i.bytes)) = some (some (.bool false), 1, 1) := by kernel_rfl
/-- The headers of the rows. -/
def heads (n : Nat) (rb : Nat → Nat) (k : Nat) : List Value := (List.range k).map fun a => .slice (some ⟨rb a, 0, none⟩) n n

theorem heads_succ (n : Nat) (rb : Nat → Nat) (k : Nat) : heads n rb (k + 1) = heads n rb k ++ [.slice (some ⟨rb k, 0, none⟩) n n] := by
  unfold heads; rw [List.range_succ, List.map_append]; rfl
theorem heads_congr {n : Nat} {rb rc : Nat → Nat} {k : Nat} (h : ∀ a, a < k → rb a = rc a) : heads n rb k = heads n rc k := by
  unfold heads
  apply List.map_congr_left
  intro a ha
  rw [h a (by simpa using ha)]

theorem boolRow_new (w : World) (n : Nat) : BoolRow (w.alloc (.cells (madeCells #[.bool false] n) 4)) w.heap.size n (fun _ => false) :=
  ⟨_, World.alloc_heap_new w _, fun _ hi => made_get _ _ _ hi⟩

end Go.Proofs.YtcfhnfnhdhloiaaGreat
/-! The contracts of Has, Of, Copy, Closure of package centoref2. -/
namespace Go.Proofs.YtcfhnfnhdhloiaaGreat
open Go.RowKit

theorem addR_put (R : Nat → Nat → Bool) (a b x y : Nat) : addR R a b x y = if x = a ∧ y = b then true else R x y := by
  unfold addR
  by_cases h : x = a ∧ y = b
  · rw [if_pos h]; simp [h.1, h.2]
  · rw [if_neg h]
    have : (decide (x = a) && decide (y = b)) = false := by
      rw [Bool.and_eq_false_iff, decide_eq_false_iff_not, decide_eq_false_iff_not]
      by_cases e : x = a
      · exact .inr fun e2 => h ⟨e, e2⟩
      · exact .inl e
    rw [this, Bool.or_false]

/-- The first a rows, and the first b marks of the next one. -/
def partR (R : Nat → Nat → Bool) (a b x y : Nat) : Bool := if x < a ∨ (x = a ∧ y < b) then R x y else false
theorem partR_start (R : Nat → Nat → Bool) (a : Nat) : partR R a 0 = firstR R a := by
  funext x y
  unfold partR firstR
  by_cases h : x < a
  · rw [if_pos (.inl h), if_pos h]
  · rw [if_neg (by omega), if_neg h]
theorem partR_end {n : Nat} {R : Nat → Nat → Bool} (h : Supp n R) (a : Nat) : partR R a n = firstR R (a + 1) := by
  funext x y
  unfold partR firstR
  by_cases hx : x < a + 1
  · rw [if_pos hx]
    by_cases hc : x < a ∨ (x = a ∧ y < n)
    · rw [if_pos hc]
    · rw [if_neg hc]
      cases hr : R x y
      · rfl
      · have := (h x y hr).2
        omega
  · rw [if_neg (by omega), if_neg hx]
theorem partR_put (R : Nat → Nat → Bool) (a b x y : Nat) : partR R a (b + 1) x y = if x = a ∧ y = b then R a b else partR R a b x y := by
  unfold partR
  by_cases h : x = a ∧ y = b
  · rw [if_pos h, if_pos (by omega), h.1, h.2]
  · rw [if_neg h]
    by_cases h2 : x < a ∨ (x = a ∧ y < b)
    · rw [if_pos (by omega), if_pos h2]
    · rw [if_neg (by omega), if_neg h2]
theorem partR_supp {n : Nat} {R : Nat → Nat → Bool} (h : Supp n R) (a b : Nat) : Supp n (partR R a b) := fun x y e => by
  unfold partR at e
  split at e
  · exact h x y e
  · cases e

end Go.Proofs.YtcfhnfnhdhloiaaGreat
/-! The contracts of Closure, Same, Pairs, Only of package centoref2. -/
namespace Go.Proofs.YtcfhnfnhdhloiaaGreat
open Go.RowKit

/-- Rows ahead of a behind the steps over v; of row a the first b marks. -/
def innV (W : Nat → Nat → Bool) (v a b x y : Nat) : Bool := if x < a ∨ (x = a ∧ y < b) then wvia W v x y else W x y
theorem innV_start (W : Nat → Nat → Bool) (v a : Nat) : innV W v a 0 = midV W v a := by
  funext x y
  unfold innV midV
  by_cases h : x < a
  · rw [if_pos (.inl h), if_pos h]
  · rw [if_neg (by omega), if_neg h]
theorem innV_end {n : Nat} {W : Nat → Nat → Bool} (h : Supp n W) (v a : Nat) : innV W v a n = midV W v (a + 1) := by
  funext x y
  unfold innV midV
  by_cases hx : x < a + 1
  · rw [if_pos hx]
    by_cases hc : x < a ∨ (x = a ∧ y < n)
    · rw [if_pos hc]
    · rw [if_neg hc]
      cases hw : wvia W v x y
      · cases hr : W x y
        · rfl
        · have := (h x y hr).2; omega
      · have := (wvia_supp h v x y hw).2; omega
  · rw [if_neg (by omega), if_neg hx]
theorem innV_supp {n : Nat} {W : Nat → Nat → Bool} (h : Supp n W) (v a b : Nat) : Supp n (innV W v a b) := fun x y e => by
  unfold innV at e
  split at e
  · exact wvia_supp h v x y e
  · exact h x y e
theorem innV_yes {W : Nat → Nat → Bool} {v a b : Nat} (h1 : W a v = true) (h2 : W v b = true) (x y : Nat) : innV W v a (b + 1) x y = if x = a ∧ y = b then true else innV W v a b x y := by
  unfold innV
  by_cases h : x = a ∧ y = b
  · rw [if_pos h, if_pos (by omega), h.1, h.2]
    exact (wvia_iff _ _ _ _).2 (.inr ⟨h1, h2⟩)
  · rw [if_neg h]
    by_cases h2 : x < a ∨ (x = a ∧ y < b)
    · rw [if_pos (by omega), if_pos h2]
    · rw [if_neg (by omega), if_neg h2]
theorem innV_no {W : Nat → Nat → Bool} {v a b : Nat} (h2 : W v b = false) : innV W v a (b + 1) = innV W v a b := by
  funext x y
  unfold innV
  by_cases h : x = a ∧ y = b
  · rw [if_pos (by omega), if_neg (by omega), h.1, h.2]
    unfold wvia
    rw [h2]
    simp
  · by_cases h2 : x < a ∨ (x = a ∧ y < b)
    · rw [if_pos (by omega), if_pos h2]
    · rw [if_neg (by omega), if_neg h2]
theorem innV_row (W : Nat → Nat → Bool) (v a b : Nat) : innV W v a b v b = W v b := by
  unfold innV
  split
  · exact wvia_row W v b
  · rfl
theorem midV_at (W : Nat → Nat → Bool) (v a y : Nat) : midV W v a a y = W a y := by simp [midV]
theorem midV_skip {W : Nat → Nat → Bool} {v a : Nat} (h : W a v = false) : midV W v (a + 1) = midV W v a := by
  funext x y
  rw [midV_succ]
  split
  · rename_i e
    subst e
    simp [midV, wvia, h]
  · rfl

/-- Whether two relations of n elements are the same. -/
def sameR (n : Nat) (R T : Nat → Nat → Bool) : Bool := (List.range n).all fun a => (List.range n).all fun b => R a b == T a b
theorem sameR_iff {n : Nat} {R T : Nat → Nat → Bool} (h1 : Supp n R) (h2 : Supp n T) : sameR n R T = true ↔ R = T := by
  unfold sameR
  simp only [List.all_eq_true, List.mem_range, beq_iff_eq]
  constructor
  · intro h
    funext a b
    by_cases hab : a < n ∧ b < n
    · exact h a hab.1 b hab.2
    · cases hr : R a b
      · cases ht : T a b
        · rfl
        · exact absurd (h2 a b ht) hab
      · exact absurd (h1 a b hr) hab
  · rintro rfl a _ b _
    rfl

end Go.Proofs.YtcfhnfnhdhloiaaGreat
/-! The contract of Pairs of package centoref2. -/
namespace Go.Proofs.YtcfhnfnhdhloiaaGreat
open Go.RowKit

theorem onL_succ (S : Nat → Bool) (b : Nat) : onL S (b + 1) = onL S b ++ if S b then [b] else [] := by
  unfold onL
  rw [List.range_succ, List.filter_append, List.filter_cons]
  cases S b <;> rfl

/-- The pairs of the rows ahead of a, and of row a those ahead of b. -/
def pairsP (n : Nat) (R : Nat → Nat → Bool) (a b : Nat) : List (Int × Int) := pairsL n R a ++ (onL (R a) b).map fun y : Nat => ((a : Int), (y : Int))
theorem pairsP_zero (n : Nat) (R : Nat → Nat → Bool) (a : Nat) : pairsP n R a 0 = pairsL n R a := by simp [pairsP, onL]
theorem pairsP_end (n : Nat) (R : Nat → Nat → Bool) (a : Nat) : pairsP n R a n = pairsL n R (a + 1) := (pairsL_succ n R a).symm
theorem pairsP_yes {n : Nat} {R : Nat → Nat → Bool} {a b : Nat} (h : R a b = true) : pairsP n R a (b + 1) = pairsP n R a b ++ [((a : Int), (b : Int))] := by
  unfold pairsP
  rw [onL_succ, h]
  simp
theorem pairsP_no {n : Nat} {R : Nat → Nat → Bool} {a b : Nat} (h : R a b = false) : pairsP n R a (b + 1) = pairsP n R a b := by
  unfold pairsP
  rw [onL_succ, h]
  simp
theorem pairsP_len (n : Nat) (R : Nat → Nat → Bool) (a b : Nat) (hn : n ≤ 200) (ha : a ≤ 200) (hb : b ≤ 200) : (pairsP n R a b).length ≤ 40200 := by
  unfold pairsP
  rw [List.length_append, List.length_map]
  have h1 := pairsL_len n R a
  have h2 := onL_le (R a) b
  have h3 : a * n ≤ 200 * 200 := Nat.mul_le_mul ha hn
  omega

end Go.Proofs.YtcfhnfnhdhloiaaGreat
/-! The contract of Some of package centoref2. -/
namespace Go.Proofs.YtcfhnfnhdhloiaaGreat
open Go.RowKit

end Go.Proofs.YtcfhnfnhdhloiaaGreat
