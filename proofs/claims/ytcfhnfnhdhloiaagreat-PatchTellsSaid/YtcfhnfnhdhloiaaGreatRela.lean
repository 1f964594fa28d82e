/- Package rel: relations in memory, the contracts of New, Copy, Add, Closure, Join, Pairs, Of and what they call; slices of pairs. -/
import Derived.Test.YtcfhnfnhdhloiaaGreatBits
import Derived.Laws.StructEq
/-! Plain facts on relations of numbers: what going through the elements once makes of one: the least transitive relation that holds it; and the list of its pairs. -/
namespace Go.Proofs.YtcfhnfnhdhloiaaGreat

/-- Who is ahead behind the steps over one element. -/
def wvia (R : Nat → Nat → Bool) (v : Nat) (a b : Nat) : Bool := R a b || (R a v && R v b)

/-- Who is ahead behind the steps over the elements ahead of k. -/
def warsh (R : Nat → Nat → Bool) : Nat → Nat → Nat → Bool
  | 0 => R
  | k + 1 => wvia (warsh R k) k

/-- Of n elements. -/
def Supp (n : Nat) (R : Nat → Nat → Bool) : Prop := ∀ a b, R a b = true → a < n ∧ b < n
def Trans (R : Nat → Nat → Bool) : Prop := ∀ a b c, R a b = true → R b c = true → R a c = true
def Sub (R T : Nat → Nat → Bool) : Prop := ∀ a b, R a b = true → T a b = true

theorem Sub.refl (R : Nat → Nat → Bool) : Sub R R := fun _ _ h => h
theorem Sub.trans {R S T : Nat → Nat → Bool} (h : Sub R S) (k : Sub S T) : Sub R T := fun a b e => k a b (h a b e)
theorem Sub.antisymm {R T : Nat → Nat → Bool} (h : Sub R T) (k : Sub T R) : R = T := by
  funext a b
  rw [Bool.eq_iff_iff]
  exact ⟨h a b, k a b⟩

theorem wvia_iff (R : Nat → Nat → Bool) (v a b : Nat) : wvia R v a b = true ↔ R a b = true ∨ (R a v = true ∧ R v b = true) := by simp [wvia]
theorem wvia_sub (R : Nat → Nat → Bool) (v : Nat) : Sub R (wvia R v) := fun a b h => (wvia_iff R v a b).2 (.inl h)
theorem wvia_supp {n : Nat} {R : Nat → Nat → Bool} (h : Supp n R) (v : Nat) : Supp n (wvia R v) := fun a b e => by
  rcases (wvia_iff R v a b).1 e with e | ⟨e1, e2⟩
  · exact h a b e
  · exact ⟨(h a v e1).1, (h v b e2).2⟩
theorem wvia_row (R : Nat → Nat → Bool) (v b : Nat) : wvia R v v b = R v b := by
  unfold wvia
  cases R v b <;> simp

theorem warsh_sub (R : Nat → Nat → Bool) (k : Nat) : Sub R (warsh R k) := by
  induction k with
  | zero => exact Sub.refl R
  | succ k ih => exact ih.trans (wvia_sub _ _)
theorem warsh_supp {n : Nat} {R : Nat → Nat → Bool} (h : Supp n R) (k : Nat) : Supp n (warsh R k) := by
  induction k with
  | zero => exact h
  | succ k ih => exact wvia_supp ih k
theorem warsh_least {R T : Nat → Nat → Bool} (h : Sub R T) (ht : Trans T) (k : Nat) : Sub (warsh R k) T := by
  induction k with
  | zero => exact h
  | succ k ih =>
    intro a b e
    rcases (wvia_iff _ _ _ _).1 e with e | ⟨e1, e2⟩
    · exact ih a b e
    · exact ht a k b (ih a k e1) (ih k b e2)

theorem warsh_mid (R : Nat → Nat → Bool) (k : Nat) : ∀ j, j < k → ∀ a b, warsh R k a j = true → warsh R k j b = true → warsh R k a b = true := by
  induction k with
  | zero => intro j hj; omega
  | succ k ih =>
    intro j hj a b h1 h2
    have g1 := (wvia_iff _ _ _ _).1 h1
    have g2 := (wvia_iff _ _ _ _).1 h2
    apply (wvia_iff _ _ _ _).2
    by_cases e : j = k
    · subst e
      have a1 : warsh R j a j = true := by rcases g1 with g | g; exact g; exact g.1
      have a2 : warsh R j j b = true := by rcases g2 with g | g; exact g; exact g.2
      exact .inr ⟨a1, a2⟩
    · have hj' : j < k := by omega
      rcases g1 with g1 | ⟨g1, g1'⟩
      · rcases g2 with g2 | ⟨g2, g2'⟩
        · exact .inl (ih j hj' a b g1 g2)
        · exact .inr ⟨ih j hj' a k g1 g2, g2'⟩
      · rcases g2 with g2 | ⟨g2, g2'⟩
        · exact .inr ⟨g1, ih j hj' k b g1' g2⟩
        · exact .inr ⟨g1, g2'⟩

/-- The closure. -/
def clo (n : Nat) (R : Nat → Nat → Bool) : Nat → Nat → Bool := warsh R n

theorem clo_trans {n : Nat} {R : Nat → Nat → Bool} (h : Supp n R) : Trans (clo n R) := fun a b c h1 h2 => warsh_mid R n b ((warsh_supp h n a b h1).2) a c h1 h2
theorem clo_sub (n : Nat) (R : Nat → Nat → Bool) : Sub R (clo n R) := warsh_sub R n
theorem clo_supp {n : Nat} {R : Nat → Nat → Bool} (h : Supp n R) : Supp n (clo n R) := warsh_supp h n
theorem clo_least {n : Nat} {R T : Nat → Nat → Bool} (h : Sub R T) (ht : Trans T) : Sub (clo n R) T := warsh_least h ht n
theorem clo_of_trans {n : Nat} {R : Nat → Nat → Bool} (h : Trans R) : clo n R = R := (clo_least (Sub.refl R) h).antisymm (clo_sub n R)
theorem clo_clo {n : Nat} {R : Nat → Nat → Bool} (h : Supp n R) : clo n (clo n R) = clo n R := clo_of_trans (clo_trans h)
theorem clo_mono {n : Nat} {R T : Nat → Nat → Bool} (h : Sub R T) (ht : Supp n T) : Sub (clo n R) (clo n T) := clo_least (h.trans (clo_sub n T)) (clo_trans ht)

/-- One pair more. -/
def addR (R : Nat → Nat → Bool) (a b : Nat) (x y : Nat) : Bool := R x y || (decide (x = a) && decide (y = b))
theorem addR_iff (R : Nat → Nat → Bool) (a b x y : Nat) : addR R a b x y = true ↔ R x y = true ∨ (x = a ∧ y = b) := by simp [addR]
theorem addR_sub (R : Nat → Nat → Bool) (a b : Nat) : Sub R (addR R a b) := fun x y h => (addR_iff R a b x y).2 (.inl h)
theorem addR_supp {n : Nat} {R : Nat → Nat → Bool} (h : Supp n R) {a b : Nat} (ha : a < n) (hb : b < n) : Supp n (addR R a b) := fun x y e => by
  rcases (addR_iff R a b x y).1 e with e | ⟨rfl, rfl⟩
  · exact h x y e
  · exact ⟨ha, hb⟩
theorem addR_self {R : Nat → Nat → Bool} {a b : Nat} (h : R a b = true) : addR R a b = R := by
  apply Sub.antisymm _ (addR_sub R a b)
  intro x y e
  rcases (addR_iff R a b x y).1 e with e | ⟨rfl, rfl⟩
  · exact e
  · exact h

/-- The pair (a, b), if both are elements. -/
def addI (n : Nat) (R : Nat → Nat → Bool) (p : Int × Int) : Nat → Nat → Bool := if 0 ≤ p.1 ∧ p.1 < n ∧ 0 ≤ p.2 ∧ p.2 < n then addR R p.1.toNat p.2.toNat else R
theorem addI_supp {n : Nat} {R : Nat → Nat → Bool} (h : Supp n R) (p : Int × Int) : Supp n (addI n R p) := by
  unfold addI
  split
  · exact addR_supp h (by omega) (by omega)
  · exact h
theorem addI_sub (n : Nat) (R : Nat → Nat → Bool) (p : Int × Int) : Sub R (addI n R p) := by
  unfold addI
  split
  · exact addR_sub _ _ _
  · exact Sub.refl R

theorem supp_none (n : Nat) : Supp n (fun _ _ => false) := fun _ _ h => by cases h

/-- Of all pairs of a list. -/
def ofL (n : Nat) (l : List (Int × Int)) : Nat → Nat → Bool := l.foldl (addI n) (fun _ _ => false)
theorem foldl_supp {n : Nat} (l : List (Int × Int)) : ∀ {R : Nat → Nat → Bool}, Supp n R → Supp n (l.foldl (addI n) R) := by
  induction l with
  | nil => exact fun h => h
  | cons p l ih => exact fun h => ih (addI_supp h p)
theorem ofL_supp (n : Nat) (l : List (Int × Int)) : Supp n (ofL n l) := foldl_supp l (supp_none n)
theorem ofL_snoc (n : Nat) (l : List (Int × Int)) (p : Int × Int) : ofL n (l ++ [p]) = addI n (ofL n l) p := by simp [ofL]

/-- The pairs, rising. -/
def pairsL (n : Nat) (R : Nat → Nat → Bool) (k : Nat) : List (Int × Int) := (List.range k).flatMap fun a => (onL (R a) n).map fun b : Nat => ((a : Int), (b : Int))
theorem pairsL_succ (n : Nat) (R : Nat → Nat → Bool) (k : Nat) : pairsL n R (k + 1) = pairsL n R k ++ (onL (R k) n).map fun b : Nat => ((k : Int), (b : Int)) := by
  unfold pairsL; rw [List.range_succ, List.flatMap_append]; simp
theorem pairsL_congr {n : Nat} {R T : Nat → Nat → Bool} (k : Nat) (h : ∀ a, a < k → ∀ b, b < n → R a b = T a b) : pairsL n R k = pairsL n T k := by
  induction k with
  | zero => rfl
  | succ k ih =>
    rw [pairsL_succ, pairsL_succ, ih (fun a ha => h a (by omega)), onL_congr (h k (by omega))]
theorem pairsL_mem {n : Nat} {R : Nat → Nat → Bool} {k a b : Nat} : ((a : Int), (b : Int)) ∈ pairsL n R k ↔ a < k ∧ b < n ∧ R a b = true := by
  unfold pairsL onL
  simp only [List.mem_flatMap, List.mem_range, List.mem_map, List.mem_filter, Prod.mk.injEq]
  constructor
  · rintro ⟨x, hx, y, ⟨hy, hr⟩, e1, e2⟩
    obtain rfl : x = a := by omega
    obtain rfl : y = b := by omega
    exact ⟨hx, hy, hr⟩
  · rintro ⟨h1, h2, h3⟩
    exact ⟨a, h1, b, ⟨h2, h3⟩, rfl, rfl⟩
/-- Relations of the same pairs are the same. -/
theorem pairsL_inj {n : Nat} {R T : Nat → Nat → Bool} (h1 : Supp n R) (h2 : Supp n T) (e : pairsL n R n = pairsL n T n) : R = T := by
  apply Sub.antisymm
  · intro a b h
    have := pairsL_mem.2 ⟨(h1 a b h).1, (h1 a b h).2, h⟩
    rw [e] at this
    exact (pairsL_mem.1 this).2.2
  · intro a b h
    have := pairsL_mem.2 ⟨(h2 a b h).1, (h2 a b h).2, h⟩
    rw [← e] at this
    exact (pairsL_mem.1 this).2.2
theorem pairsL_len (n : Nat) (R : Nat → Nat → Bool) (k : Nat) : (pairsL n R k).length ≤ k * n := by
  induction k with
  | zero => simp [pairsL]
  | succ k ih =>
    rw [pairsL_succ, List.length_append, List.length_map, Nat.succ_mul]
    have := onL_le (R k) n
    omega

/-- How many pairs the rows ahead of k have. -/
theorem pairsL_count (n : Nat) (R : Nat → Nat → Bool) (k : Nat) : (pairsL n R (k + 1)).length = (pairsL n R k).length + (onL (R k) n).length := by
  rw [pairsL_succ, List.length_append, List.length_map]

/-- Behind the steps over v of the rows ahead of k: whether one of them grew. -/
def grewV (n : Nat) (R : Nat → Nat → Bool) (v k : Nat) : Bool := (List.range k).any fun a => R a v && ((List.range n).any fun b => R v b && !R a b)
/-- Whether anything became so in the steps over the elements ahead of k. -/
def grewC (n : Nat) (R : Nat → Nat → Bool) (k : Nat) : Bool := (List.range k).any fun v => grewV n (warsh R v) v n

theorem grewV_iff (n : Nat) (R : Nat → Nat → Bool) (v k : Nat) : grewV n R v k = true ↔ ∃ a b, a < k ∧ b < n ∧ R a v = true ∧ R v b = true ∧ R a b = false := by
  unfold grewV
  simp only [List.any_eq_true, List.mem_range, Bool.and_eq_true, Bool.not_eq_true']
  constructor
  · rintro ⟨a, ha, h1, b, hb, h2, h3⟩; exact ⟨a, b, ha, hb, h1, h2, h3⟩
  · rintro ⟨a, b, ha, hb, h1, h2, h3⟩; exact ⟨a, ha, h1, b, hb, h2, h3⟩

theorem grewV_same {n : Nat} {R : Nat → Nat → Bool} (h : Supp n R) (v : Nat) (e : grewV n R v n = false) : wvia R v = R := by
  apply Sub.antisymm _ (wvia_sub R v)
  intro a b hw
  rcases (wvia_iff R v a b).1 hw with hr | ⟨h1, h2⟩
  · exact hr
  · cases hr : R a b
    · have : grewV n R v n = true := (grewV_iff n R v n).2 ⟨a, b, (h a v h1).1, (h v b h2).2, h1, h2, hr⟩
      rw [e] at this
      cases this
    · rfl

theorem grewC_none {n : Nat} {R : Nat → Nat → Bool} (h : Supp n R) (k : Nat) (e : grewC n R k = false) : warsh R k = R := by
  induction k with
  | zero => rfl
  | succ k ih =>
    unfold grewC at e
    rw [List.range_succ, List.any_append, Bool.or_eq_false_iff] at e
    have e1 := ih e.1
    have e2 : grewV n (warsh R k) k n = false := by simpa using e.2
    show wvia (warsh R k) k = R
    rw [grewV_same (warsh_supp h k) k e2, e1]

theorem warsh_mono_k {R : Nat → Nat → Bool} {j k : Nat} (h : j ≤ k) : Sub (warsh R j) (warsh R k) := by
  induction k with
  | zero => obtain rfl : j = 0 := by omega
            exact Sub.refl _
  | succ k ih =>
    by_cases e : j = k + 1
    · subst e; exact Sub.refl _
    · exact (ih (by omega)).trans (wvia_sub _ _)

theorem grewC_some {n : Nat} {R : Nat → Nat → Bool} (k : Nat) (e : grewC n R k = true) : ∃ a b, warsh R k a b = true ∧ R a b = false := by
  unfold grewC at e
  rw [List.any_eq_true] at e
  obtain ⟨v, hv, hg⟩ := e
  have hv' : v < k := by simpa using hv
  obtain ⟨a, b, _, _, h1, h2, h3⟩ := (grewV_iff _ _ _ _).1 hg
  refine ⟨a, b, warsh_mono_k (R := R) (by omega : v + 1 ≤ k) a b ((wvia_iff _ _ _ _).2 (.inr ⟨h1, h2⟩)), ?_⟩
  cases hr : R a b
  · rfl
  · rw [warsh_sub R v a b hr] at h3; cases h3

/-- The steps told of growth just when the closure is another one. -/
theorem grewC_iff {n : Nat} {R : Nat → Nat → Bool} (h : Supp n R) : grewC n R n = true ↔ clo n R ≠ R := by
  constructor
  · intro e heq
    obtain ⟨a, b, h1, h2⟩ := grewC_some n e
    have : clo n R a b = true := h1
    rw [heq, h2] at this
    cases this
  · intro hne
    cases e : grewC n R n
    · exact absurd (grewC_none h n e) hne
    · rfl

/-- Rows ahead of k behind the steps over v, the others as they were. -/
def midV (R : Nat → Nat → Bool) (v k : Nat) (a b : Nat) : Bool := if a < k then wvia R v a b else R a b
theorem midV_zero (R : Nat → Nat → Bool) (v : Nat) : midV R v 0 = R := by funext a b; simp [midV]
theorem midV_all {n : Nat} {R : Nat → Nat → Bool} (h : Supp n R) (v : Nat) : midV R v n = wvia R v := by
  funext a b
  unfold midV
  split
  · rfl
  · rename_i ha
    cases hw : wvia R v a b
    · cases hr : R a b
      · rfl
      · exact absurd (h a b hr).1 ha
    · exact absurd (wvia_supp h v a b hw).1 ha
theorem midV_row (R : Nat → Nat → Bool) (v k b : Nat) : midV R v k v b = R v b := by
  unfold midV; split
  · exact wvia_row R v b
  · rfl
theorem midV_supp {n : Nat} {R : Nat → Nat → Bool} (h : Supp n R) (v k : Nat) : Supp n (midV R v k) := fun a b e => by
  unfold midV at e
  split at e
  · exact wvia_supp h v a b e
  · exact h a b e
theorem midV_succ (R : Nat → Nat → Bool) (v k a b : Nat) : midV R v (k + 1) a b = if a = k then wvia R v k b else midV R v k a b := by
  unfold midV
  by_cases e : a = k
  · subst e; simp
  · by_cases h : a < k
    · rw [if_pos (by omega), if_neg e, if_pos h]
    · rw [if_neg (by omega), if_neg e, if_neg h]
theorem grewV_succ (n : Nat) (R : Nat → Nat → Bool) (v k : Nat) : grewV n R v (k + 1) = (grewV n R v k || (R k v && ((List.range n).any fun b => R v b && !R k b))) := by
  unfold grewV; rw [List.range_succ, List.any_append]; simp
theorem grewC_succ (n : Nat) (R : Nat → Nat → Bool) (k : Nat) : grewC n R (k + 1) = (grewC n R k || grewV n (warsh R k) k n) := by
  unfold grewC; rw [List.range_succ, List.any_append]; simp

/-- The pairs whose both elements are kept. -/
def keptB (keep : List Bool) (a : Nat) : Bool := keep[a]?.getD false
def onlyR (keep : List Bool) (R : Nat → Nat → Bool) (a b : Nat) : Bool := R a b && (keptB keep a && keptB keep b)
theorem onlyR_supp {n : Nat} {R : Nat → Nat → Bool} (h : Supp n R) (keep : List Bool) : Supp n (onlyR keep R) := fun a b e => h a b (by unfold onlyR at e; simp at e; exact e.1)
theorem onlyR_trans {R : Nat → Nat → Bool} (h : Trans R) (keep : List Bool) : Trans (onlyR keep R) := fun a b c h1 h2 => by
  unfold onlyR at h1 h2 ⊢
  simp only [Bool.and_eq_true] at h1 h2 ⊢
  exact ⟨h a b c h1.1 h2.1, h1.2.1, h2.2.2⟩

end Go.Proofs.YtcfhnfnhdhloiaaGreat
/-! A relation in memory: a row of pointers to rows of bits; and the contracts of the functions of package rel that only ask. -/
namespace Go.Proofs.YtcfhnfnhdhloiaaGreat
open Go.RowKit

/-- All blocks that were there are as they were, but those from lo to hi. -/
structure Kept (lo hi : Nat) (w w' : World) : Prop where
  os : w'.os = w.os
  tape : w'.tape = w.tape
  output : w'.output = w.output
  size : w.heap.size ≤ w'.heap.size
  block : ∀ i, i < w.heap.size → ¬ (lo ≤ i ∧ i < hi) → w'.heap[i]? = w.heap[i]?

theorem Kept.refl (lo hi : Nat) (w : World) : Kept lo hi w w := ⟨rfl, rfl, rfl, Nat.le_refl _, fun _ _ _ => rfl⟩
theorem Kept.trans {lo hi : Nat} {a b c : World} (h : Kept lo hi a b) (k : Kept lo hi b c) : Kept lo hi a c :=
  ⟨k.os.trans h.os, k.tape.trans h.tape, k.output.trans h.output, Nat.le_trans h.size k.size, fun i hi hr => (k.block i (Nat.lt_of_lt_of_le hi h.size) hr).trans (h.block i hi hr)⟩
theorem Kept.row {lo hi r : Nat} {w w' : World} (h : w.grownBy w' (some r)) (h1 : lo ≤ r) (h2 : r < hi) : Kept lo hi w w' :=
  ⟨h.os, h.tape, h.output, h.size, fun i hi hn => h.block i hi (fun e => hn (by cases e; exact ⟨h1, h2⟩))⟩
theorem Kept.calm {lo hi : Nat} {w w' : World} (h : w.grownBy w' none) : Kept lo hi w w' :=
  ⟨h.os, h.tape, h.output, h.size, fun i hi _ => h.block i hi (by simp)⟩
/-- What was turned lay beyond the world where we began. -/
theorem Kept.new {lo hi : Nat} {a b c : World} (h : a.grownBy b none) (k : Kept lo hi b c) (hl : a.heap.size ≤ lo) : a.grownBy c none :=
  ⟨k.os.trans h.os, k.tape.trans h.tape, k.output.trans h.output, Nat.le_trans h.size k.size, fun i hi _ => (k.block i (Nat.lt_of_lt_of_le hi h.size) (by omega)).trans (h.block i hi (by simp))⟩
theorem Kept.outer {lo hi lo' hi' : Nat} {w w' : World} (h : Kept lo hi w w') (h1 : lo' ≤ lo) (h2 : hi ≤ hi') : Kept lo' hi' w w' :=
  ⟨h.os, h.tape, h.output, h.size, fun i hi hn => h.block i hi (by omega)⟩
theorem Kept.cell {lo hi : Nat} {w w' : World} (h : Kept lo hi w w') {b o : Nat} {v : Value} (hc : w.cell? ⟨b, o, none⟩ = some v) (hb : b < w.heap.size) (hn : ¬ (lo ≤ b ∧ b < hi)) : w'.cell? ⟨b, o, none⟩ = some v :=
  (World.cell?_of_block (a := ⟨b, o, none⟩) (h.block b hb hn)).trans hc

/-- The first k rows of a relation of n elements that lies in the blocks from lo to hi. -/
structure Rows' (w : World) (lo hi p pb n k : Nat) (bs ws : Nat → Nat) (R : Nat → Nat → Bool) : Prop where
  top : hi ≤ w.heap.size
  p1 : lo ≤ p
  p2 : p < hi
  q1 : lo ≤ pb
  q2 : pb < hi
  pq : p ≠ pb
  c0 : ∃ cap, w.cell? ⟨p, 0, none⟩ = some (.slice (some ⟨pb, 0, none⟩) n cap)
  cp : ∀ a, a < k → w.cell? ⟨pb, a, none⟩ = some (.pointer (some ⟨bs a, 0, none⟩))
  row : ∀ a, a < k → IsSet w (bs a) (ws a) n (R a)
  inb : ∀ a, a < k → lo ≤ bs a ∧ bs a < hi ∧ lo ≤ ws a ∧ ws a < hi
  ap : ∀ a, a < k → ws a ≠ p ∧ ws a ≠ pb ∧ bs a ≠ pb
  ap2 : ∀ a, a < k → ∀ c, c < k → ws a ≠ bs c ∧ (a ≠ c → ws a ≠ ws c)

/-- A relation of n elements at block p, in the blocks from lo to hi. -/
def IsRel (w : World) (lo hi p n : Nat) (R : Nat → Nat → Bool) : Prop := n ≤ 200 ∧ Supp n R ∧ ∃ pb bs ws, Rows' w lo hi p pb n n bs ws R

theorem Rows'.kept {w w' : World} {lo hi p pb n k : Nat} {bs ws : Nat → Nat} {R : Nat → Nat → Bool} (h : Rows' w lo hi p pb n k bs ws R) (hs : w.heap.size ≤ w'.heap.size) (hb : ∀ i, lo ≤ i → i < hi → w'.heap[i]? = w.heap[i]?) : Rows' w' lo hi p pb n k bs ws R := by
  obtain ⟨cap, hc⟩ := h.c0
  refine ⟨Nat.le_trans h.top hs, h.p1, h.p2, h.q1, h.q2, h.pq, ⟨cap, (World.cell?_of_block (a := ⟨p, 0, none⟩) (hb p h.p1 h.p2)).trans hc⟩, fun a ha => (World.cell?_of_block (a := ⟨pb, a, none⟩) (hb pb h.q1 h.q2)).trans (h.cp a ha), fun a ha => ?_, h.inb, h.ap, h.ap2⟩
  obtain ⟨u, hr, ho⟩ := h.row a ha
  obtain ⟨i1, i2, i3, i4⟩ := h.inb a ha
  exact ⟨u, hr.kept hs (hb _ i1 i2) (hb _ i3 i4), ho⟩

theorem IsRel.kept {w w' : World} {lo hi p n : Nat} {R : Nat → Nat → Bool} (h : IsRel w lo hi p n R) (hs : w.heap.size ≤ w'.heap.size) (hb : ∀ i, lo ≤ i → i < hi → w'.heap[i]? = w.heap[i]?) : IsRel w' lo hi p n R := by
  obtain ⟨h1, h2, pb, bs, ws, h3⟩ := h
  exact ⟨h1, h2, pb, bs, ws, h3.kept hs hb⟩

theorem IsRel.top {w : World} {lo hi p n : Nat} {R : Nat → Nat → Bool} (h : IsRel w lo hi p n R) : hi ≤ w.heap.size := by
  obtain ⟨_, _, _, _, _, h3⟩ := h
  exact h3.top
theorem IsRel.small {w : World} {lo hi p n : Nat} {R : Nat → Nat → Bool} (h : IsRel w lo hi p n R) : n ≤ 200 := h.1
theorem IsRel.supp {w : World} {lo hi p n : Nat} {R : Nat → Nat → Bool} (h : IsRel w lo hi p n R) : Supp n R := h.2.1
theorem IsRel.lt {w : World} {lo hi p n : Nat} {R : Nat → Nat → Bool} (h : IsRel w lo hi p n R) : lo < hi := by
  obtain ⟨_, _, _, _, _, h3⟩ := h
  have := h3.p1; have := h3.p2; omega

/-- Nothing that lay has turned. -/
theorem IsRel.calm {w w' : World} {lo hi p n : Nat} {R : Nat → Nat → Bool} (h : IsRel w lo hi p n R) (hg : w.grownBy w' none) : IsRel w' lo hi p n R :=
  h.kept hg.size fun i _ h2 => hg.block i (Nat.lt_of_lt_of_le h2 h.top) (by simp)
/-- Another one has turned. -/
theorem IsRel.apart {w w' : World} {lo hi p n lo' hi' : Nat} {R : Nat → Nat → Bool} (h : IsRel w lo hi p n R) (hg : Kept lo' hi' w w') (hd : hi ≤ lo' ∨ hi' ≤ lo) : IsRel w' lo hi p n R :=
  h.kept hg.size fun i h1 h2 => hg.block i (Nat.lt_of_lt_of_le h2 h.top) (by omega)

theorem Rows'.wider {w : World} {lo hi p pb n k hi' lo' : Nat} {bs ws : Nat → Nat} {R : Nat → Nat → Bool} (h : Rows' w lo hi p pb n k bs ws R) (h1 : hi ≤ hi') (h2 : hi' ≤ w.heap.size) (h3 : lo' ≤ lo) : Rows' w lo' hi' p pb n k bs ws R := by
  refine ⟨h2, Nat.le_trans h3 h.p1, Nat.lt_of_lt_of_le h.p2 h1, Nat.le_trans h3 h.q1, Nat.lt_of_lt_of_le h.q2 h1, h.pq, h.c0, h.cp, h.row, fun a ha => ?_, h.ap, h.ap2⟩
  have := h.inb a ha
  omega
theorem IsRel.wider {w : World} {lo hi p n : Nat} {R : Nat → Nat → Bool} (h : IsRel w lo hi p n R) {hi' : Nat} (h1 : hi ≤ hi') (h2 : hi' ≤ w.heap.size := by exact Nat.le_refl _) : IsRel w lo hi' p n R := by
  obtain ⟨a1, a2, pb, bs, ws, a3⟩ := h
  exact ⟨a1, a2, pb, bs, ws, a3.wider h1 h2 (Nat.le_refl _)⟩

theorem IsRel.outer {w : World} {lo hi p n : Nat} {R : Nat → Nat → Bool} (h : IsRel w lo hi p n R) {lo' : Nat} (h3 : lo' ≤ lo) (h1 : hi ≤ w.heap.size) : IsRel w lo' w.heap.size p n R := by
  obtain ⟨a1, a2, pb, bs, ws, a3⟩ := h
  exact ⟨a1, a2, pb, bs, ws, a3.wider h1 (Nat.le_refl _) h3⟩

/-- The rows of a relation are turned to others, within. -/
theorem Rows'.put {w w' : World} {lo hi p pb n k : Nat} {bs ws : Nat → Nat} {R T : Nat → Nat → Bool} (h : Rows' w lo hi p pb n k bs ws R) {a : Nat} (ha : a < k) (hg : w.grownBy w' (some (ws a))) (hs : IsSet w' (bs a) (ws a) n (T a)) (ht : ∀ x, x ≠ a → T x = R x) : Rows' w' lo hi p pb n k bs ws T := by
  obtain ⟨cap, hc⟩ := h.c0
  obtain ⟨a1, a2, a3⟩ := h.ap a ha
  obtain ⟨i1, i2, i3, i4⟩ := h.inb a ha
  have htop := h.top
  have hp2 := h.p2
  have hq2 := h.q2
  refine ⟨Nat.le_trans h.top hg.size, h.p1, h.p2, h.q1, h.q2, h.pq, ⟨cap, (World.cell?_of_block (a := ⟨p, 0, none⟩) (hg.block p (by omega) (fun e => a1 (Option.some.inj e).symm))).trans hc⟩, fun x hx => (World.cell?_of_block (a := ⟨pb, x, none⟩) (hg.block pb (by omega) (fun e => a2 (Option.some.inj e).symm))).trans (h.cp x hx), fun x hx => ?_, h.inb, h.ap, h.ap2⟩
  by_cases e : x = a
  · subst e; exact hs
  · rw [ht x e]
    obtain ⟨b1, b2⟩ := h.ap2 a ha x hx
    exact (h.row x hx).grown hg (fun e' => b1 (Option.some.inj e').symm) (fun e' => b2 (fun e3 => e e3.symm) (Option.some.inj e').symm)

/-- Whether a is ahead of b. -/
def hasI (n : Nat) (R : Nat → Nat → Bool) (a b : Int) : Bool := (decide (0 ≤ a) && decide (a < n)) && (decide (0 ≤ b) && decide (b < n) && R a.toNat b.toNat)

end Go.Proofs.YtcfhnfnhdhloiaaGreat
/-! The contracts of Add and complete of package rel: a pair more; the closure in place. -/
namespace Go.Proofs.YtcfhnfnhdhloiaaGreat
open Go.RowKit

/-- What a call that turns a relation leaves. -/
def TurnPost (lo hi p n : Nat) (g : Bool) (T : Nat → Nat → Bool) (w : World) (e : Ending) (w' : World) : Prop :=
  e = .returned (.bool g) ∧ IsRel w' lo hi p n T ∧ Kept lo hi w w'

/-- Both are elements. -/
def inI (n : Nat) (a b : Int) : Prop := 0 ≤ a ∧ a < n ∧ 0 ≤ b ∧ b < n
instance (n : Nat) (a b : Int) : Decidable (inI n a b) := by unfold inI; infer_instance

theorem addI_yes {n : Nat} {R : Nat → Nat → Bool} {a b : Int} (h : inI n a b) : addI n R (a, b) = addR R a.toNat b.toNat := by unfold addI; rw [if_pos (by simpa [inI] using h)]
theorem addI_no {n : Nat} {R : Nat → Nat → Bool} {a b : Int} (h : ¬ inI n a b) : addI n R (a, b) = R := by unfold addI; rw [if_neg (by simpa [inI] using h)]

theorem putS_add (R : Nat → Nat → Bool) (n i j : Nat) (hj : j < n) (y : Nat) : putS (R i) n (j : Int) true y = addR R i j i y := by
  unfold putS addR
  by_cases e : y = j
  · subst e; simp [hj]
  · have : ¬ ((y : Int) = (j : Int)) := by omega
    simp [e, this]

/-- Whether a pair becomes so. -/
def newI (n : Nat) (R : Nat → Nat → Bool) (a b : Int) : Bool := decide (inI n a b) && !hasI n R a b

theorem hasI_in {n : Nat} {R : Nat → Nat → Bool} {a b : Int} (h : inI n a b) : hasI n R a b = R a.toNat b.toNat := by
  obtain ⟨h1, h2, h3, h4⟩ := h
  unfold hasI
  simp [h1, h2, h3, h4]

theorem hasS_row {n : Nat} {S : Nat → Bool} {v : Nat} (hv : v < n) : hasS S n (v : Int) = S v := by
  unfold hasS
  simp [hv]

end Go.Proofs.YtcfhnfnhdhloiaaGreat
/-! The contracts of New and Copy of package rel: a relation of its own. -/
namespace Go.Proofs.YtcfhnfnhdhloiaaGreat
open Go.RowKit

/-- What makes a relation of its own. -/
def MadePost (n : Nat) (T : Nat → Nat → Bool) (w : World) (e : Ending) (w' : World) : Prop :=
  ∃ p, e = .returned (.pointer (some ⟨p, 0, none⟩)) ∧ IsRel w' w.heap.size w'.heap.size p n T ∧ w.grownBy w' none

/-- A relation under way: k rows are there, the others are nil. -/
structure Half (w0 w : World) (p pb n k : Nat) (R : Nat → Nat → Bool) : Prop where
  rows : ∃ bs ws, Rows' w w0.heap.size w.heap.size p pb n k bs ws R
  rest : ∀ a, a < n → (∃ v, w.cell? ⟨pb, a, none⟩ = some v) ∧ w.frozen? ⟨pb, a, none⟩ = false
  grown : w0.grownBy w none

/-- A row made is laid. -/
theorem Half.step {w0 w w1 : World} {p pb n k b wb : Nat} {R T : Nat → Nat → Bool} (h : Half w0 w p pb n k R) (hk : k < n) (hg : w.grownBy w1 none) (hb : w.heap.size ≤ b) (hwb : w.heap.size ≤ wb) (hs : IsSet w1 b wb n (T k)) (ht : ∀ a, a < k → T a = R a) :
    Half w0 (w1.setCell ⟨pb, k, none⟩ (.pointer (some ⟨b, 0, none⟩))) p pb n (k + 1) T := by
  obtain ⟨bs, ws, hr⟩ := h.rows
  have hgs := grownBy_setCell w1 ⟨pb, k, none⟩ (.pointer (some ⟨b, 0, none⟩))
  have hsz := hg.size
  have hsz2 : (w1.setCell ⟨pb, k, none⟩ (.pointer (some ⟨b, 0, none⟩))).heap.size = w1.heap.size := by simp [World.setCell]
  have hq2 := hr.q2
  have hp2 := hr.p2
  have hq1 := hr.q1
  have hr1 : Rows' w1 w0.heap.size w.heap.size p pb n k bs ws R := hr.kept hsz fun i _ h2 => hg.block i h2 (by simp)
  obtain ⟨u, hrow, hon⟩ := hs
  have hbl := hrow.hb
  have hwl := hrow.hw
  have hne := hrow.ne
  obtain ⟨cap, hc⟩ := hr1.c0
  have hcell : ∃ v, w1.cell? ⟨pb, k, none⟩ = some v := by
    obtain ⟨⟨v, hv⟩, _⟩ := h.rest k hk
    exact ⟨v, (World.cell?_of_block (a := ⟨pb, k, none⟩) (hg.block pb hq2 (by simp))).trans hv⟩
  obtain ⟨v0, hv0⟩ := hcell
  refine ⟨⟨fun a => if a = k then b else bs a, fun a => if a = k then wb else ws a, ?_⟩, ?_, ?_⟩
  · refine ⟨Nat.le_refl _, hr1.p1, by rw [hsz2]; omega, hr1.q1, by rw [hsz2]; omega, hr1.pq, ⟨cap, ?_⟩, ?_, ?_, ?_, ?_, ?_⟩
    · exact (World.cell?_of_block (a := ⟨p, 0, none⟩) (hgs.block p (by omega) (fun e => hr1.pq (by simpa using e)))).trans hc
    · intro a ha
      by_cases e : a = k
      · subst e
        rw [if_pos rfl]
        exact World.cell?_setCell_same' _ _ _ (by rw [hv0]; rfl)
      · rw [if_neg e, ← hr1.cp a (by omega)]
        (apply World.cell?_setCell_other; intro e'; cases e'; exact e rfl)
    · intro a ha
      by_cases e : a = k
      · subst e
        simp only [if_pos]
        exact ⟨u, hrow.grown hgs (fun e => by have := Option.some.inj e; simp at this; omega) (fun e => by have := Option.some.inj e; simp at this; omega), hon⟩
      · simp only [if_neg e]
        rw [ht a (by omega)]
        obtain ⟨a1, a2, a3⟩ := hr1.ap a (by omega)
        exact (hr1.row a (by omega)).grown hgs (fun e => a3 (by simpa using e)) (fun e => a2 (by simpa using e))
    · intro a ha
      by_cases e : a = k
      · subst e
        simp only [if_pos]
        have := h.grown.size
        rw [hsz2]
        omega
      · simp only [if_neg e]
        have := hr1.inb a (by omega)
        rw [hsz2]
        omega
    · intro a ha
      by_cases e : a = k
      · subst e
        simp only [if_pos]
        omega
      · simp only [if_neg e]
        exact hr1.ap a (by omega)
    · intro a ha c hc
      by_cases e : a = k
      · subst e
        simp only [if_pos]
        by_cases e2 : c = a
        · subst e2
          simp only [if_pos]
          exact ⟨fun e => hne e.symm, fun e => absurd rfl e⟩
        · simp only [if_neg e2]
          have := hr1.inb c (by omega)
          exact ⟨by omega, fun _ => by omega⟩
      · simp only [if_neg e]
        have := hr1.inb a (by omega)
        by_cases e2 : c = k
        · subst e2
          simp only [if_pos]
          exact ⟨by omega, fun _ => by omega⟩
        · simp only [if_neg e2]
          exact hr1.ap2 a (by omega) c (by omega)
  · intro a ha
    obtain ⟨⟨v, hv⟩, hf⟩ := h.rest a ha
    have hv1 := (World.cell?_of_block (a := ⟨pb, a, none⟩) (hg.block pb hq2 (by simp))).trans hv
    have hf1 := (World.frozen?_of_block (a := ⟨pb, a, none⟩) (hg.block pb hq2 (by simp))).trans hf
    constructor
    · by_cases e : a = k
      · subst e
        exact ⟨_, World.cell?_setCell_same' _ _ _ (by rw [hv1]; rfl)⟩
      · refine ⟨v, ?_⟩
        rw [← hv1]
        (apply World.cell?_setCell_other; intro e'; cases e'; exact e rfl)
    · rw [World.frozen?_setCell]
      exact hf1
  · exact grownBy_new (grownBy_trans h.grown hg) hgs (by have := h.grown.size; show w0.heap.size ≤ pb; omega)

theorem Half.end {w0 w : World} {p pb n : Nat} {R : Nat → Nat → Bool} (h : Half w0 w p pb n n R) (hn : n ≤ 200) (hs : Supp n R) : IsRel w w0.heap.size w.heap.size p n R ∧ w0.grownBy w none := by
  obtain ⟨bs, ws, hr⟩ := h.rows
  exact ⟨⟨hn, hs, pb, bs, ws, hr⟩, h.grown⟩

/-- The first k rows of R. -/
def firstR (R : Nat → Nat → Bool) (k : Nat) (a b : Nat) : Bool := if a < k then R a b else false
theorem firstR_zero (R : Nat → Nat → Bool) : firstR R 0 = fun _ _ => false := by funext a b; simp [firstR]
theorem firstR_all {n : Nat} {R : Nat → Nat → Bool} (h : Supp n R) : firstR R n = R := by
  funext a b
  unfold firstR
  split
  · rfl
  · cases hr : R a b
    · rfl
    · exact absurd (h a b hr).1 (by assumption)

/-- Whether joining a pair tells that anything became so. -/
def joinB (n : Nat) (R : Nat → Nat → Bool) (a b : Int) : Bool := newI n R a b || grewC n (addI n R (a, b)) n

/-- A pair joined: it, and the closure, if both are elements. -/
def joinI (n : Nat) (R : Nat → Nat → Bool) (p : Int × Int) : Nat → Nat → Bool := if inI n p.1 p.2 then clo n (addI n R p) else R
def joinG (n : Nat) (R : Nat → Nat → Bool) (a b : Int) : Bool := decide (inI n a b) && joinB n R a b

end Go.Proofs.YtcfhnfnhdhloiaaGreat
/-! Slices of pairs in memory; and the contract of the statements' own function same. -/
namespace Go.Proofs.YtcfhnfnhdhloiaaGreat
open Go.RowKit

/-- A slice of pairs that reads as l, in a block from lo to hi. -/
structure PairsAt (w : World) (lo hi : Nat) (p : Option Addr) (n : Nat) (l : List (Int × Int)) : Prop where
  len : l.length = n
  cell : 0 < n → ∃ b off, p = some ⟨b, off, none⟩ ∧ lo ≤ b ∧ b < hi ∧ hi ≤ w.heap.size ∧ ∀ k, k < n → w.cell? ⟨b, off + k * 2, none⟩ = some (.int .i64 (l[k]?.getD (0, 0)).1) ∧ w.cell? ⟨b, off + k * 2 + 1, none⟩ = some (.int .i64 (l[k]?.getD (0, 0)).2)

theorem PairsAt.kept {w w' : World} {lo hi : Nat} {p : Option Addr} {n : Nat} {l : List (Int × Int)} (h : PairsAt w lo hi p n l) (hs : w.heap.size ≤ w'.heap.size) (hb : ∀ i, lo ≤ i → i < hi → w'.heap[i]? = w.heap[i]?) : PairsAt w' lo hi p n l := by
  refine ⟨h.len, fun hn => ?_⟩
  obtain ⟨b, off, hp, h1, h2, h3, hc⟩ := h.cell hn
  exact ⟨b, off, hp, h1, h2, Nat.le_trans h3 hs, fun k hk => ⟨(World.cell?_of_block (a := ⟨b, off + k * 2, none⟩) (hb b h1 h2)).trans (hc k hk).1, (World.cell?_of_block (a := ⟨b, off + k * 2 + 1, none⟩) (hb b h1 h2)).trans (hc k hk).2⟩⟩

theorem PairsAt.calm {w w' : World} {lo hi : Nat} {p : Option Addr} {n : Nat} {l : List (Int × Int)} (h : PairsAt w lo hi p n l) (hg : w.grownBy w' none) : PairsAt w' lo hi p n l := by
  refine ⟨h.len, fun hn => ?_⟩
  obtain ⟨b, off, hp, h1, h2, h3, hc⟩ := h.cell hn
  have hb : w'.heap[b]? = w.heap[b]? := hg.block b (by omega) (by simp)
  exact ⟨b, off, hp, h1, h2, Nat.le_trans h3 hg.size, fun k hk => ⟨(World.cell?_of_block (a := ⟨b, off + k * 2, none⟩) hb).trans (hc k hk).1, (World.cell?_of_block (a := ⟨b, off + k * 2 + 1, none⟩) hb).trans (hc k hk).2⟩⟩

theorem PairsAt.apart {w w' : World} {lo hi lo' hi' : Nat} {p : Option Addr} {n : Nat} {l : List (Int × Int)} (h : PairsAt w lo hi p n l) (hg : Kept lo' hi' w w') (hd : hi ≤ lo' ∨ hi' ≤ lo) : PairsAt w' lo hi p n l := by
  refine ⟨h.len, fun hn => ?_⟩
  obtain ⟨b, off, hp, h1, h2, h3, hc⟩ := h.cell hn
  have hb : w'.heap[b]? = w.heap[b]? := hg.block b (by omega) (by omega)
  exact ⟨b, off, hp, h1, h2, Nat.le_trans h3 hg.size, fun k hk => ⟨(World.cell?_of_block (a := ⟨b, off + k * 2, none⟩) hb).trans (hc k hk).1, (World.cell?_of_block (a := ⟨b, off + k * 2 + 1, none⟩) hb).trans (hc k hk).2⟩⟩

/-- The cells of pairs. -/
def pcells (l : List (Int × Int)) : List Value := l.flatMap fun x => [.int .i64 x.1, .int .i64 x.2]
theorem pcells_len (l : List (Int × Int)) : (pcells l).length = l.length * 2 := by
  induction l with
  | nil => rfl
  | cons x l ih => simp only [pcells, List.flatMap_cons, List.length_append, List.length_cons, List.length_nil] at ih ⊢; omega
theorem pcells_snoc (l : List (Int × Int)) (x : Int × Int) : pcells (l ++ [x]) = pcells l ++ [.int .i64 x.1, .int .i64 x.2] := by simp [pcells]
theorem pcells_get (l : List (Int × Int)) : ∀ k, k < l.length → (pcells l)[k * 2]? = some (.int .i64 (l[k]?.getD (0, 0)).1) ∧ (pcells l)[k * 2 + 1]? = some (.int .i64 (l[k]?.getD (0, 0)).2) := by
  induction l with
  | nil => intro k hk; simp at hk
  | cons x l ih =>
    intro k hk
    have e : pcells (x :: l) = .int .i64 x.1 :: .int .i64 x.2 :: pcells l := by simp [pcells]
    rw [e]
    cases k with
    | zero => simp
    | succ k =>
      have := ih k (by simpa using hk)
      rw [show (k + 1) * 2 = k * 2 + 1 + 1 from by omega]
      simpa using this

/-- What hands back a new slice of pairs. -/
def PairsPost (l : List (Int × Int)) (w : World) (e : Ending) (w' : World) : Prop :=
  ∃ p c, e = .returned (.slice p l.length c) ∧ PairsAt w' w.heap.size w'.heap.size p l.length l ∧ w.grownBy w' none

theorem take_eq_succ {l1 l2 : List (Int × Int)} {k : Nat} (h1 : k < l1.length) (h2 : k < l2.length) (h : l1.take k = l2.take k) (e : l1[k]?.getD (0, 0) = l2[k]?.getD (0, 0)) : l1.take (k + 1) = l2.take (k + 1) := by
  rw [List.getElem?_eq_getElem h1, List.getElem?_eq_getElem h2] at e
  simp only [Option.getD_some] at e
  rw [List.take_succ_eq_append_getElem h1, List.take_succ_eq_append_getElem h2, h, e]

end Go.Proofs.YtcfhnfnhdhloiaaGreat
/-! The contract of the iterator behind Pairs of package rel: it hands over the pairs, rising. -/
namespace Go.Proofs.YtcfhnfnhdhloiaaGreat
open Go.RowKit Go.Shelf
attribute [local go_sem] Oper.semAt_some

/-- Rows of ints lie as they lay. -/
def KeepI (W W' : World) : Prop := ∀ (g : Nat) (cur : Array Value), W.heap[g]? = some (.cells cur 3 (0, 0)) → W'.heap[g]? = some (.cells cur 3 (0, 0))

theorem KeepI.calm {W W' : World} (h : W.grownBy W' none) : KeepI W W' := fun g cur hg => (h.block g (Array.getElem?_eq_some_iff.1 hg).1 (by simp)).trans hg
theorem KeepI.refl (W : World) : KeepI W W := fun _ _ h => h
theorem KeepI.trans {A B C : World} (h : KeepI A B) (k : KeepI B C) : KeepI A C := fun g cur hg => k g cur (h g cur hg)

/-- What a body keeps of what the iterator leans on. -/
def KeepP (n₀ : Nat) (W W' : World) : Prop := Below n₀ W W' ∧ KeepI W W'

/-- A slice that All made, written out. -/
theorem allPost_row {l : List Nat} {w w' : World} {e : Ending} (h : AllPost (ints l) w e w') :
    ∃ g cap cur, e = .returned (.slice (some ⟨g, 0, none⟩) l.length cap) ∧ w.heap.size ≤ g ∧ w'.heap[g]? = some (.cells cur 3 (0, 0)) ∧ (∀ k, k < l.length → cur[k]? = some (.int .i64 (l[k]?.getD 0 : Nat))) ∧ w.grownBy w' none := by
  have hlen : (ints l).length = l.length := by simp [ints]
  obtain ⟨v, rfl, hrow, hnil, hg⟩ := h
  rw [hlen] at hrow
  rcases hrow.2 with ⟨rfl, _⟩ | ⟨g, cap, cur, rfl, hb, hh, h1, h2, h3, h4⟩
  · exact absurd rfl hnil
  · refine ⟨g, cap, cur, rfl, hb, hh, fun k hk => ?_, hg⟩
    have e : ((ints l).map (Value.int .i64))[k]? = some (.int .i64 (l[k]?.getD 0 : Nat)) := by
      unfold ints
      rw [List.getElem?_map, List.getElem?_map, List.getElem?_eq_getElem hk]; rfl
    rw [← h4, List.getElem?_take_of_lt (by omega), Array.getElem?_toList] at e
    exact e

theorem pairsL_split {n : Nat} {R : Nat → Nat → Bool} {m k j : Nat} (hk : k < m) (hj : j < (onL (R k) n).length) :
    ∃ rest, pairsL n R m = (pairsL n R k ++ ((onL (R k) n).take j).map fun b : Nat => ((k : Int), (b : Int))) ++ ([((k : Int), (((onL (R k) n)[j]?.getD 0 : Nat) : Int))] ++ rest) := by
  have h1 : ∃ r1, pairsL n R m = pairsL n R (k + 1) ++ r1 := by
    unfold pairsL
    refine ⟨((List.range (m - (k + 1))).map fun x => (k + 1) + x).flatMap fun a => (onL (R a) n).map fun b : Nat => ((a : Int), (b : Int)), ?_⟩
    rw [← List.flatMap_append, ← List.range_add]
    congr 2
    omega
  obtain ⟨r1, h1⟩ := h1
  refine ⟨((onL (R k) n).drop (j + 1)).map (fun b : Nat => ((k : Int), (b : Int))) ++ r1, ?_⟩
  rw [h1, pairsL_succ]
  have e : (onL (R k) n) = (onL (R k) n).take j ++ ([(onL (R k) n)[j]?.getD 0] ++ (onL (R k) n).drop (j + 1)) := by
    rw [List.getElem?_eq_getElem hj]
    simp
  generalize (onL (R k) n)[j]?.getD 0 = y at *
  generalize (onL (R k) n).drop (j + 1) = d at *
  generalize (onL (R k) n).take j = t at *
  rw [e]
  simp

/-- A pair as a value. -/
def pairV (x : Int × Int) : Array Value := #[.agg #[.int .i64 x.1, .int .i64 x.2]]

end Go.Proofs.YtcfhnfnhdhloiaaGreat
/-! The contract of Pairs of package rel: a new slice of the pairs, rising. -/
namespace Go.Proofs.YtcfhnfnhdhloiaaGreat
open Go.RowKit Go.Shelf
attribute [local go_sem] Oper.semAt_some

theorem keepP_t {n₀ : Nat} {A B C : World} (h : KeepP n₀ A B) (k : KeepP n₀ B C) : KeepP n₀ A C := ⟨h.1.trans k.1, h.2.trans k.2⟩
theorem keepP_b {w : World} {n₀ : Nat} (hn : n₀ ≤ w.heap.size) (W : World) (l : Nat) (o o' : Obj) (hl : w.heap.size ≤ l) (hw : W.heap[l]? = some o) (hc : o.isCells = false) (hk : o.isWalk = false) : KeepP n₀ W (W.putObj l o') := by
  refine ⟨belowK_b hn W l o o' hl hw hc hk, fun g cur hg => ?_⟩
  have hne : g ≠ l := fun e => by subst e; rw [hg] at hw; cases hw; cases hc
  exact (World.putObj_heap_other hne).trans hg

theorem cell_two_new (w : World) (x y : Value) (t : TypeId) : ∀ j u, [x, y][j]? = some u → (w.alloc (.cells #[x, y] t)).cell? ((⟨w.heap.size, 0, none⟩ : Addr).add j) = some u := by
  intro j u hu
  have hadd : (⟨w.heap.size, 0, none⟩ : Addr).add j = ⟨w.heap.size, j, none⟩ := by unfold Addr.add; split <;> simp_all
  rw [hadd]
  match j, hu with
  | 0, hu => simpa using hu
  | 1, hu => simpa using hu
  | j + 2, hu => simp at hu

end Go.Proofs.YtcfhnfnhdhloiaaGreat
/-! The contracts of Of and Only of package rel. -/
namespace Go.Proofs.YtcfhnfnhdhloiaaGreat
open Go.RowKit

/-- Whether all pairs are of elements. -/
def allIn (n : Nat) (l : List (Int × Int)) : Bool := l.all fun x => decide (inI n x.1 x.2)
/-- What Of tells. -/
def ofErr (n : Int) (l : List (Int × Int)) : Int := if n < 0 ∨ 200 < n then 11 else if allIn n.toNat l then 0 else 10

theorem allIn_snoc {n : Nat} {l : List (Int × Int)} {k : Nat} (hk : k < l.length) : allIn n (l.take (k + 1)) = (allIn n (l.take k) && decide (inI n (l[k]?.getD (0, 0)).1 (l[k]?.getD (0, 0)).2)) := by
  unfold allIn
  rw [List.take_succ_eq_append_getElem hk, List.all_append, List.getElem?_eq_getElem hk]
  simp
theorem ofL_take {n : Nat} {l : List (Int × Int)} {k : Nat} (hk : k < l.length) : ofL n (l.take (k + 1)) = addI n (ofL n (l.take k)) (l[k]?.getD (0, 0)) := by
  rw [List.take_succ_eq_append_getElem hk, ofL_snoc, List.getElem?_eq_getElem hk]
  rfl
theorem allIn_take {n : Nat} {l : List (Int × Int)} {k : Nat} (h : allIn n (l.take k) = false) : allIn n l = false := by
  unfold allIn at *
  rw [List.all_eq_false] at *
  obtain ⟨x, hx, hn⟩ := h
  exact ⟨x, List.mem_of_mem_take hx, hn⟩

/-- What Of leaves. -/
def RelOfPost (n : Int) (l : List (Int × Int)) (w : World) (e : Ending) (w' : World) : Prop :=
  (ofErr n l = 0 ∧ ∃ p, e = .returned (.tuple #[.pointer (some ⟨p, 0, none⟩), .int .i64 0]) ∧ IsRel w' w.heap.size w'.heap.size p n.toNat (ofL n.toNat l) ∧ w.grownBy w' none) ∨
  (ofErr n l ≠ 0 ∧ e = .returned (.tuple #[.pointer none, .int .i64 (ofErr n l)]) ∧ w.grownBy w' none)

end Go.Proofs.YtcfhnfnhdhloiaaGreat
