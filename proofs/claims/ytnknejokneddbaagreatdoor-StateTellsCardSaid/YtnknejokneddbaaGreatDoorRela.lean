/- Package rel: relations in memory, the contracts of New, Copy, Add, Closure, Join, Pairs, Of and what they call; slices of pairs. -/
import Derived.Laws.StructEq
import Derived.Test.YtnknejokneddbaaGreatDoorBits
/-! Plain facts on relations of numbers: what going through the elements once makes of one: the least transitive relation that holds it; and the list of its pairs. -/
namespace Go.Proofs.YtnknejokneddbaaGreatDoor

/-- Who is ahead behind the steps over one element. -/
def wvia (R : Nat → Nat → Bool) (v : Nat) (a b : Nat) : Bool := R a b || (R a v && R v b)

/-- Who is ahead behind the steps over the elements ahead of k. -/
def warsh (R : Nat → Nat → Bool) : Nat → Nat → Nat → Bool
 | 0 => R
 | k + 1 => wvia (warsh R k) k

/-- Of n elements. -/
def Supp (n : Nat) (R : Nat → Nat → Bool) : Prop := ∀ a b, R a b = true → a < n ∧ b < n
def Sub (R T : Nat → Nat → Bool) : Prop := ∀ a b, R a b = true → T a b = true

theorem Sub.refl (R : Nat → Nat → Bool) : Sub R R := fun _ _ h => h
theorem Sub.trans {R S T : Nat → Nat → Bool} (h : Sub R S) (k : Sub S T) : Sub R T := fun a b e => k a b (h a b e)
theorem Sub.antisymm {R T : Nat → Nat → Bool} (h : Sub R T) (k : Sub T R) : R = T := by
 funext a b
 rw [Bool.eq_iff_iff]
 exact ⟨h a b, k a b⟩

theorem wvia_iff (R : Nat → Nat → Bool) (v a b : Nat) : wvia R v a b = true ↔ R a b = true ∨ (R a v = true ∧ R v b = true) := by simp [wvia]
theorem wvia_supp {n : Nat} {R : Nat → Nat → Bool} (h : Supp n R) (v : Nat) : Supp n (wvia R v) := fun a b e => by
 rcases (wvia_iff R v a b).1 e with e | ⟨e1, e2⟩
 ·exact h a b e
 ·exact ⟨(h a v e1).1, (h v b e2).2⟩
theorem wvia_row (R : Nat → Nat → Bool) (v b : Nat) : wvia R v v b = R v b := by
 unfold wvia
 cases R v b <;> simp

theorem warsh_supp {n : Nat} {R : Nat → Nat → Bool} (h : Supp n R) (k : Nat) : Supp n (warsh R k) := by
 induction k with
 | zero => exact h
 | succ k ih => exact wvia_supp ih k
/-- The closure. -/
def clo (n : Nat) (R : Nat → Nat → Bool) : Nat → Nat → Bool := warsh R n

theorem clo_supp {n : Nat} {R : Nat → Nat → Bool} (h : Supp n R) : Supp n (clo n R) := warsh_supp h n
/-- One pair more. -/
def addR (R : Nat → Nat → Bool) (a b : Nat) (x y : Nat) : Bool := R x y || (decide (x = a) && decide (y = b))
theorem addR_iff (R : Nat → Nat → Bool) (a b x y : Nat) : addR R a b x y = true ↔ R x y = true ∨ (x = a ∧ y = b) := by simp [addR]
theorem addR_sub (R : Nat → Nat → Bool) (a b : Nat) : Sub R (addR R a b) := fun x y h => (addR_iff R a b x y).2 (.inl h)
theorem addR_supp {n : Nat} {R : Nat → Nat → Bool} (h : Supp n R) {a b : Nat} (ha : a < n) (hb : b < n) : Supp n (addR R a b) := fun x y e => by
 rcases (addR_iff R a b x y).1 e with e | ⟨rfl, rfl⟩
 ·exact h x y e
 ·exact ⟨ha, hb⟩
theorem addR_self {R : Nat → Nat → Bool} {a b : Nat} (h : R a b = true) : addR R a b = R := by
 apply Sub.antisymm _ (addR_sub R a b)
 intro x y e
 rcases (addR_iff R a b x y).1 e with e | ⟨rfl, rfl⟩
 ·exact e
 ·exact h

/-- The pair (a, b), if both are elements. -/
def addI (n : Nat) (R : Nat → Nat → Bool) (p : Int × Int) : Nat → Nat → Bool := if 0 ≤ p.1 ∧ p.1 < n ∧ 0 ≤ p.2 ∧ p.2 < n then addR R p.1.toNat p.2.toNat else R
theorem supp_none (n : Nat) : Supp n (fun _ _ => false) := fun _ _ h => by cases h

/-- Of all pairs of a list. -/
def ofL (n : Nat) (l : List (Int × Int)) : Nat → Nat → Bool := l.foldl (addI n) (fun _ _ => false)
/-- The pairs, rising. -/
def pairsL (n : Nat) (R : Nat → Nat → Bool) (k : Nat) : List (Int × Int) := (List.range k).flatMap fun a => (onL (R a) n).map fun b : Nat => ((a : Int), (b : Int))
theorem pairsL_succ (n : Nat) (R : Nat → Nat → Bool) (k : Nat) : pairsL n R (k + 1) = pairsL n R k ++ (onL (R k) n).map fun b : Nat => ((k : Int), (b : Int)) := by
 unfold pairsL; rw [List.range_succ, List.flatMap_append]; simp
theorem pairsL_len (n : Nat) (R : Nat → Nat → Bool) (k : Nat) : (pairsL n R k).length ≤ k * n := by
 induction k with
 | zero => simp [pairsL]
 | succ k ih =>
  rw [pairsL_succ, List.length_append, List.length_map, Nat.succ_mul]
  have := onL_le (R k) n
  omega

/-- How many pairs the rows ahead of k have. -/
theorem pairsL_count (n : Nat) (R : Nat → Nat → Bool) (k : Nat) : (pairsL n R (k + 1)).length = (pairsL n R k).length + (onL (R k) n).length := by
 rw [pairsL_succ, List.length_append, List.length_map]

/-- Behind the steps over v of the rows ahead of k: whether one of them grew. -/
def grewV (n : Nat) (R : Nat → Nat → Bool) (v k : Nat) : Bool := (List.range k).any fun a => R a v && ((List.range n).any fun b => R v b && !R a b)
/-- Whether anything became so in the steps over the elements ahead of k. -/
def grewC (n : Nat) (R : Nat → Nat → Bool) (k : Nat) : Bool := (List.range k).any fun v => grewV n (warsh R v) v n

/-- Rows ahead of k behind the steps over v, the others as they were. -/
def midV (R : Nat → Nat → Bool) (v k : Nat) (a b : Nat) : Bool := if a < k then wvia R v a b else R a b
theorem midV_zero (R : Nat → Nat → Bool) (v : Nat) : midV R v 0 = R := by funext a b; simp [midV]
theorem midV_all {n : Nat} {R : Nat → Nat → Bool} (h : Supp n R) (v : Nat) : midV R v n = wvia R v := by
 funext a b
 unfold midV
 split
 ·rfl
 ·rename_i ha
  cases hw : wvia R v a b
  ·cases hr : R a b
   ·rfl
   ·exact absurd (h a b hr).1 ha
  ·exact absurd (wvia_supp h v a b hw).1 ha
theorem midV_row (R : Nat → Nat → Bool) (v k b : Nat) : midV R v k v b = R v b := by
 unfold midV; split
 ·exact wvia_row R v b
 ·rfl
theorem midV_succ (R : Nat → Nat → Bool) (v k a b : Nat) : midV R v (k + 1) a b = if a = k then wvia R v k b else midV R v k a b := by
 unfold midV
 by_cases e : a = k
 ·subst e; simp
 ·by_cases h : a < k
  ·rw [if_pos (by omega), if_neg e, if_pos h]
  ·rw [if_neg (by omega), if_neg e, if_neg h]
theorem grewV_succ (n : Nat) (R : Nat → Nat → Bool) (v k : Nat) : grewV n R v (k + 1) = (grewV n R v k || (R k v && ((List.range n).any fun b => R v b && !R k b))) := by
 unfold grewV; rw [List.range_succ, List.any_append]; simp
theorem grewC_succ (n : Nat) (R : Nat → Nat → Bool) (k : Nat) : grewC n R (k + 1) = (grewC n R k || grewV n (warsh R k) k n) := by
 unfold grewC; rw [List.range_succ, List.any_append]; simp

end Go.Proofs.YtnknejokneddbaaGreatDoor
/-! A relation in memory: a row of pointers to rows of bits; and the contracts of the functions of package rel that only ask. -/
namespace Go.Proofs.YtnknejokneddbaaGreatDoor
open Go.RowKit

/-- All blocks that were there are as they were, but those from lo to hi. -/
structure Kept (lo hi : Nat) (w w' : World) : Prop where
 os : w'.os = w.os
 tape : w'.tape = w.tape
 output : w'.output = w.output
 size : w.heap.size ≤ w'.heap.size
 block : ∀ i, i < w.heap.size → ¬ (lo ≤ i ∧ i < hi) → w'.heap[i]? = w.heap[i]?

theorem Kept.refl (lo hi : Nat) (w : World) : Kept lo hi w w := ⟨rfl, rfl, rfl, Nat.le_refl _, fun _ _ _ => rfl⟩
theorem Kept.trans {lo hi : Nat} {a b c : World} (h : Kept lo hi a b) (k : Kept lo hi b c) : Kept lo hi a c :=
 ⟨k.os.trans h.os, k.tape.trans h.tape, k.output.trans h.output, Nat.le_trans h.size k.size, fun i hi hr => (k.block i (Nat.lt_of_lt_of_le hi h.size) hr).trans (h.block i hi hr)⟩
theorem Kept.row {lo hi r : Nat} {w w' : World} (h : w.grownBy w' (some r)) (h1 : lo ≤ r) (h2 : r < hi) : Kept lo hi w w' :=
 ⟨h.os, h.tape, h.output, h.size, fun i hi hn => h.block i hi (fun e => hn (by cases e; exact ⟨h1, h2⟩))⟩
theorem Kept.calm {lo hi : Nat} {w w' : World} (h : w.grownBy w' none) : Kept lo hi w w' :=
 ⟨h.os, h.tape, h.output, h.size, fun i hi _ => h.block i hi (by simp)⟩
/-- What was turned lay beyond the world where we began. -/
theorem Kept.new {lo hi : Nat} {a b c : World} (h : a.grownBy b none) (k : Kept lo hi b c) (hl : a.heap.size ≤ lo) : a.grownBy c none :=
 ⟨k.os.trans h.os, k.tape.trans h.tape, k.output.trans h.output, Nat.le_trans h.size k.size, fun i hi _ => (k.block i (Nat.lt_of_lt_of_le hi h.size) (by omega)).trans (h.block i hi (by simp))⟩
theorem Kept.outer {lo hi lo' hi' : Nat} {w w' : World} (h : Kept lo hi w w') (h1 : lo' ≤ lo) (h2 : hi ≤ hi') : Kept lo' hi' w w' :=
 ⟨h.os, h.tape, h.output, h.size, fun i hi hn => h.block i hi (by omega)⟩
theorem Kept.cell {lo hi : Nat} {w w' : World} (h : Kept lo hi w w') {b o : Nat} {v : Value} (hc : w.cell? ⟨b, o, none⟩ = some v) (hb : b < w.heap.size) (hn : ¬ (lo ≤ b ∧ b < hi)) : w'.cell? ⟨b, o, none⟩ = some v :=
 (World.cell?_of_block (a := ⟨b, o, none⟩) (h.block b hb hn)).trans hc

/-- The first k rows of a relation of n elements that lies in the blocks from lo to hi. -/
structure Rows' (w : World) (lo hi p pb n k : Nat) (bs ws : Nat → Nat) (R : Nat → Nat → Bool) : Prop where
 top : hi ≤ w.heap.size
 p1 : lo ≤ p
 p2 : p < hi
 q1 : lo ≤ pb
 q2 : pb < hi
 pq : p ≠ pb
 c0 : ∃ cap, w.cell? ⟨p, 0, none⟩ = some (.slice (some ⟨pb, 0, none⟩) n cap)
 cp : ∀ a, a < k → w.cell? ⟨pb, a, none⟩ = some (.pointer (some ⟨bs a, 0, none⟩))
 row : ∀ a, a < k → IsSet w (bs a) (ws a) n (R a)
 inb : ∀ a, a < k → lo ≤ bs a ∧ bs a < hi ∧ lo ≤ ws a ∧ ws a < hi
 ap : ∀ a, a < k → ws a ≠ p ∧ ws a ≠ pb ∧ bs a ≠ pb
 ap2 : ∀ a, a < k → ∀ c, c < k → ws a ≠ bs c ∧ (a ≠ c → ws a ≠ ws c)

/-- A relation of n elements at block p, in the blocks from lo to hi. -/
def IsRel (w : World) (lo hi p n : Nat) (R : Nat → Nat → Bool) : Prop := n ≤ 200 ∧ Supp n R ∧ ∃ pb bs ws, Rows' w lo hi p pb n n bs ws R

theorem Rows'.kept {w w' : World} {lo hi p pb n k : Nat} {bs ws : Nat → Nat} {R : Nat → Nat → Bool} (h : Rows' w lo hi p pb n k bs ws R) (hs : w.heap.size ≤ w'.heap.size) (hb : ∀ i, lo ≤ i → i < hi → w'.heap[i]? = w.heap[i]?) : Rows' w' lo hi p pb n k bs ws R := by
 obtain ⟨cap, hc⟩ := h.c0
 refine ⟨Nat.le_trans h.top hs, h.p1, h.p2, h.q1, h.q2, h.pq, ⟨cap, (World.cell?_of_block (a := ⟨p, 0, none⟩) (hb p h.p1 h.p2)).trans hc⟩, fun a ha => (World.cell?_of_block (a := ⟨pb, a, none⟩) (hb pb h.q1 h.q2)).trans (h.cp a ha), fun a ha => ?_, h.inb, h.ap, h.ap2⟩
 obtain ⟨u, hr, ho⟩ := h.row a ha
 obtain ⟨i1, i2, i3, i4⟩ := h.inb a ha
 exact ⟨u, hr.kept hs (hb _ i1 i2) (hb _ i3 i4), ho⟩

theorem IsRel.kept {w w' : World} {lo hi p n : Nat} {R : Nat → Nat → Bool} (h : IsRel w lo hi p n R) (hs : w.heap.size ≤ w'.heap.size) (hb : ∀ i, lo ≤ i → i < hi → w'.heap[i]? = w.heap[i]?) : IsRel w' lo hi p n R := by
 obtain ⟨h1, h2, pb, bs, ws, h3⟩ := h
 exact ⟨h1, h2, pb, bs, ws, h3.kept hs hb⟩

theorem IsRel.top {w : World} {lo hi p n : Nat} {R : Nat → Nat → Bool} (h : IsRel w lo hi p n R) : hi ≤ w.heap.size := by
 obtain ⟨_, _, _, _, _, h3⟩ := h
 exact h3.top
theorem IsRel.small {w : World} {lo hi p n : Nat} {R : Nat → Nat → Bool} (h : IsRel w lo hi p n R) : n ≤ 200 := h.1
theorem IsRel.lt {w : World} {lo hi p n : Nat} {R : Nat → Nat → Bool} (h : IsRel w lo hi p n R) : lo < hi := by
 obtain ⟨_, _, _, _, _, h3⟩ := h
 have := h3.p1; have := h3.p2; omega

/-- Nothing that lay has turned. -/
theorem IsRel.calm {w w' : World} {lo hi p n : Nat} {R : Nat → Nat → Bool} (h : IsRel w lo hi p n R) (hg : w.grownBy w' none) : IsRel w' lo hi p n R :=
 h.kept hg.size fun i _ h2 => hg.block i (Nat.lt_of_lt_of_le h2 h.top) (by simp)
/-- Another one has turned. -/
theorem IsRel.apart {w w' : World} {lo hi p n lo' hi' : Nat} {R : Nat → Nat → Bool} (h : IsRel w lo hi p n R) (hg : Kept lo' hi' w w') (hd : hi ≤ lo' ∨ hi' ≤ lo) : IsRel w' lo hi p n R :=
 h.kept hg.size fun i h1 h2 => hg.block i (Nat.lt_of_lt_of_le h2 h.top) (by omega)

theorem Rows'.wider {w : World} {lo hi p pb n k hi' lo' : Nat} {bs ws : Nat → Nat} {R : Nat → Nat → Bool} (h : Rows' w lo hi p pb n k bs ws R) (h1 : hi ≤ hi') (h2 : hi' ≤ w.heap.size) (h3 : lo' ≤ lo) : Rows' w lo' hi' p pb n k bs ws R := by
 refine ⟨h2, Nat.le_trans h3 h.p1, Nat.lt_of_lt_of_le h.p2 h1, Nat.le_trans h3 h.q1, Nat.lt_of_lt_of_le h.q2 h1, h.pq, h.c0, h.cp, h.row, fun a ha => ?_, h.ap, h.ap2⟩
 have := h.inb a ha
 omega
theorem IsRel.wider {w : World} {lo hi p n : Nat} {R : Nat → Nat → Bool} (h : IsRel w lo hi p n R) {hi' : Nat} (h1 : hi ≤ hi') (h2 : hi' ≤ w.heap.size := by exact Nat.le_refl _) : IsRel w lo hi' p n R := by
 obtain ⟨a1, a2, pb, bs, ws, a3⟩ := h
 exact ⟨a1, a2, pb, bs, ws, a3.wider h1 h2 (Nat.le_refl _)⟩

theorem IsRel.outer {w : World} {lo hi p n : Nat} {R : Nat → Nat → Bool} (h : IsRel w lo hi p n R) {lo' : Nat} (h3 : lo' ≤ lo) (h1 : hi ≤ w.heap.size) : IsRel w lo' w.heap.size p n R := by
 obtain ⟨a1, a2, pb, bs, ws, a3⟩ := h
 exact ⟨a1, a2, pb, bs, ws, a3.wider h1 (Nat.le_refl _) h3⟩

/-- The rows of a relation are turned to others, within. -/
theorem Rows'.put {w w' : World} {lo hi p pb n k : Nat} {bs ws : Nat → Nat} {R T : Nat → Nat → Bool} (h : Rows' w lo hi p pb n k bs ws R) {a : Nat} (ha : a < k) (hg : w.grownBy w' (some (ws a))) (hs : IsSet w' (bs a) (ws a) n (T a)) (ht : ∀ x, x ≠ a → T x = R x) : Rows' w' lo hi p pb n k bs ws T := by
 obtain ⟨cap, hc⟩ := h.c0
 obtain ⟨a1, a2, a3⟩ := h.ap a ha
 obtain ⟨i1, i2, i3, i4⟩ := h.inb a ha
 have htop := h.top
 have hp2 := h.p2
 have hq2 := h.q2
 refine ⟨Nat.le_trans h.top hg.size, h.p1, h.p2, h.q1, h.q2, h.pq, ⟨cap, (World.cell?_of_block (a := ⟨p, 0, none⟩) (hg.block p (by omega) (fun e => a1 (Option.some.inj e).symm))).trans hc⟩, fun x hx => (World.cell?_of_block (a := ⟨pb, x, none⟩) (hg.block pb (by omega) (fun e => a2 (Option.some.inj e).symm))).trans (h.cp x hx), fun x hx => ?_, h.inb, h.ap, h.ap2⟩
 by_cases e : x = a
 ·subst e; exact hs
 ·rw [ht x e]
  obtain ⟨b1, b2⟩ := h.ap2 a ha x hx
  exact (h.row x hx).grown hg (fun e' => b1 (Option.some.inj e').symm) (fun e' => b2 (fun e3 => e e3.symm) (Option.some.inj e').symm)

/-- Whether a is ahead of b. -/
def hasI (n : Nat) (R : Nat → Nat → Bool) (a b : Int) : Bool := (decide (0 ≤ a) && decide (a < n)) && (decide (0 ≤ b) && decide (b < n) && R a.toNat b.toNat)

theorem isEl_yes (p pb n cap : Nat) (i : Int) (w : World) (hc : w.cell? ⟨p, 0, none⟩ = some (.slice (some ⟨pb, 0, none⟩) n cap)) (h0 : 0 ≤ i) (h1 : i < n) : Calls Tryz.prog 98 #[.pointer (some ⟨p, 0, none⟩), .int .i64 i] w fun e w' => e = .returned (.bool true) ∧ w' = w := by
 go_enter Tryz.func98, Tryz.ntmps98
 go_wp2
 go_ret
 exact ⟨rfl, rfl⟩

theorem isEl_no (p pb n cap : Nat) (i : Int) (w : World) (hc : w.cell? ⟨p, 0, none⟩ = some (.slice (some ⟨pb, 0, none⟩) n cap)) (h : i < 0 ∨ (n : Int) ≤ i) : Calls Tryz.prog 98 #[.pointer (some ⟨p, 0, none⟩), .int .i64 i] w fun e w' => e = .returned (.bool false) ∧ w' = w := by
 by_cases h0 : i < 0
 ·clear h
  go_enter Tryz.func98, Tryz.ntmps98
  go_wp2
  go_ret
  exact ⟨rfl, rfl⟩
 ·have h1 : 0 ≤ i := by omega
  have h2 : decide (i < n) = false := by simp; omega
  clear h
  go_enter Tryz.func98, Tryz.ntmps98
  go_wp2
  go_ret
  exact ⟨rfl, rfl⟩

set_option maxHeartbeats 400000 in
theorem relHas_c (lo hi p n : Nat) (a b : Int) (R : Nat → Nat → Bool) (w : World) (h : IsRel w lo hi p n R) : Calls Tryz.prog 99 #[.pointer (some ⟨p, 0, none⟩), .int .i64 a, .int .i64 b] w fun e w' => e = .returned (.bool (hasI n R a b)) ∧ ∃ m, w' = w.drewN m := by
 obtain ⟨_, _, pb, bs, ws, h3⟩ := h
 obtain ⟨cap, hc⟩ := h3.c0
 by_cases ha : 0 ≤ a ∧ a < n
 ·obtain ⟨i, rfl⟩ := Int.eq_ofNat_of_zero_le ha.1
  have hi' : i < n := by omega
  have hcp := h3.cp i hi'
  have hrow := Lib.hid (h3.row i hi')
  have he : hasI n R (i : Int) b = hasS (R i) n b := by
   unfold hasI hasS
   simp [hi']
  rw [he]
  clear h3 he
  go_enter Tryz.func99, Tryz.ntmps99
  go_wp2_with fail
  refine (isEl_yes p pb n cap _ _ hc ha.1 ha.2).mono ?_
  rintro e w' ⟨rfl, h9⟩
  subst w'
  go_wp2_with fail
  refine (has_c (bs i) (ws i) n b (R i) _ hrow.out).mono ?_
  rintro e w' ⟨rfl, m, rfl⟩
  go_wp2
  go_ret
  exact ⟨rfl, m, rfl⟩
 ·have he : hasI n R a b = false := by
   unfold hasI
   have : (decide (0 ≤ a) && decide (a < (n : Int))) = false := by
    rw [Bool.and_eq_false_iff, decide_eq_false_iff_not, decide_eq_false_iff_not]; omega
   rw [this]; rfl
  rw [he]
  have hn' := Lib.hid (show a < 0 ∨ (n : Int) ≤ a by omega)
  clear h3 he ha
  go_enter Tryz.func99, Tryz.ntmps99
  go_wp2_with fail
  refine (isEl_no p pb n cap _ _ hc hn'.out).mono ?_
  rintro e w' ⟨rfl, h9⟩
  subst w'
  go_wp2
  go_ret
  exact ⟨rfl, 0, rfl⟩

end Go.Proofs.YtnknejokneddbaaGreatDoor
/-! The contracts of Add and complete of package rel: a pair more; the closure in place. -/
namespace Go.Proofs.YtnknejokneddbaaGreatDoor
open Go.RowKit

/-- What a call that turns a relation leaves. -/
def TurnPost (lo hi p n : Nat) (g : Bool) (T : Nat → Nat → Bool) (w : World) (e : Ending) (w' : World) : Prop :=
 e = .returned (.bool g) ∧ IsRel w' lo hi p n T ∧ Kept lo hi w w'

/-- Both are elements. -/
def inI (n : Nat) (a b : Int) : Prop := 0 ≤ a ∧ a < n ∧ 0 ≤ b ∧ b < n
instance (n : Nat) (a b : Int) : Decidable (inI n a b) := by unfold inI; infer_instance

theorem addI_yes {n : Nat} {R : Nat → Nat → Bool} {a b : Int} (h : inI n a b) : addI n R (a, b) = addR R a.toNat b.toNat := by unfold addI; rw [if_pos (by simpa [inI] using h)]
theorem addI_no {n : Nat} {R : Nat → Nat → Bool} {a b : Int} (h : ¬ inI n a b) : addI n R (a, b) = R := by unfold addI; rw [if_neg (by simpa [inI] using h)]

theorem putS_add (R : Nat → Nat → Bool) (n i j : Nat) (hj : j < n) (y : Nat) : putS (R i) n (j : Int) true y = addR R i j i y := by
 unfold putS addR
 by_cases e : y = j
 ·subst e; simp [hj]
 ·have : ¬ ((y : Int) = (j : Int)) := by omega
  simp [e, this]

set_option maxHeartbeats 1000000 in
theorem add_new (lo hi p n i j : Nat) (R : Nat → Nat → Bool) (w : World) (h : IsRel w lo hi p n R) (hi' : i < n) (hj : j < n) (hr : R i j = false) :
  Calls Tryz.prog 62 #[.pointer (some ⟨p, 0, none⟩), .int .i64 i, .int .i64 j] w (TurnPost lo hi p n true (addR R i j) w) := by
 have hh : hasI n R i j = false := by unfold hasI; simp [hr]
 have H := Lib.hid h
 obtain ⟨hn, hsu, pb, bs, ws, h3⟩ := h
 obtain ⟨cap, hc⟩ := h3.c0
 have hcp := h3.cp i hi'
 have H3 := Lib.hid h3
 have HH := Lib.hid hh
 clear h3 hh hr
 have a0 : (0 : Int) ≤ i := by omega
 have a1 : (i : Int) < n := by omega
 have b0 : (0 : Int) ≤ j := by omega
 have b1 : (j : Int) < n := by omega
 go_enter Tryz.func62, Tryz.ntmps62
 go_wp2_with fail
 refine (isEl_yes p pb n cap _ _ hc a0 a1).mono ?_
 rintro e w' ⟨rfl, h9⟩
 subst w'
 go_wp2_with fail
 refine (isEl_yes p pb n cap _ _ hc b0 b1).mono ?_
 rintro e w' ⟨rfl, h9⟩
 subst w'
 go_wp2_with fail
 refine (relHas_c lo hi p n _ _ R _ H.out).mono ?_
 rintro e w' ⟨he, m, rfl⟩
 rw [HH.out] at he
 subst he
 go_wp2_with fail
 refine (put_c (bs i) (ws i) n j true (R i) _ ((H3.out.row i hi').drewN m)).mono ?_
 rintro e w' ⟨⟨v, rfl⟩, hs, hg⟩
 have hs' := Lib.hid hs
 have hg' := Lib.hid (grownBy_trans (grownBy_drewN w m _) hg)
 clear hs hg
 go_wp2
 go_ret
 refine ⟨rfl, ⟨hn, addR_supp hsu hi' hj, pb, bs, ws, H3.out.put hi' hg'.out (hs'.out.congr (putS_add R n i j hj)) ?_⟩, Kept.row hg'.out (H3.out.inb i hi').2.2.1 (H3.out.inb i hi').2.2.2⟩
 intro x hx
 funext y
 unfold addR
 simp [hx]

set_option maxHeartbeats 1000000 in
theorem add_not (lo hi p n : Nat) (a b : Int) (R : Nat → Nat → Bool) (w : World) (h : IsRel w lo hi p n R) (hno : ¬ inI n a b ∨ hasI n R a b = true) :
  Calls Tryz.prog 62 #[.pointer (some ⟨p, 0, none⟩), .int .i64 a, .int .i64 b] w (TurnPost lo hi p n false R w) := by
 have H := Lib.hid h
 obtain ⟨hn, hsu, pb, bs, ws, h3⟩ := h
 obtain ⟨cap, hc⟩ := h3.c0
 clear h3
 by_cases ha : 0 ≤ a ∧ a < n
 ·obtain ⟨a0, a1⟩ := ha
  by_cases hb : 0 ≤ b ∧ b < n
  ·obtain ⟨b0, b1⟩ := hb
   have HH := Lib.hid (show hasI n R a b = true from by
    rcases hno with h | h
    ·exact absurd ⟨a0, a1, b0, b1⟩ h
    ·exact h)
   clear hno
   go_enter Tryz.func62, Tryz.ntmps62
   go_wp2_with fail
   refine (isEl_yes p pb n cap _ _ hc a0 a1).mono ?_
   rintro e w' ⟨rfl, h9⟩
   subst w'
   go_wp2_with fail
   refine (isEl_yes p pb n cap _ _ hc b0 b1).mono ?_
   rintro e w' ⟨rfl, h9⟩
   subst w'
   go_wp2_with fail
   refine (relHas_c lo hi p n _ _ R _ H.out).mono ?_
   rintro e w' ⟨he, m, rfl⟩
   rw [HH.out] at he
   subst he
   go_wp2
   go_ret
   exact ⟨rfl, H.out.calm (grownBy_drewN w m none), Kept.calm (grownBy_drewN w m none)⟩
  ·have hb' := Lib.hid (show b < 0 ∨ (n : Int) ≤ b by omega)
   clear hno hb
   go_enter Tryz.func62, Tryz.ntmps62
   go_wp2_with fail
   refine (isEl_yes p pb n cap _ _ hc a0 a1).mono ?_
   rintro e w' ⟨rfl, h9⟩
   subst w'
   go_wp2_with fail
   refine (isEl_no p pb n cap _ _ hc hb'.out).mono ?_
   rintro e w' ⟨rfl, h9⟩
   subst w'
   go_wp2
   go_ret
   exact ⟨rfl, H.out, Kept.refl _ _ w⟩
 ·have ha' := Lib.hid (show a < 0 ∨ (n : Int) ≤ a by omega)
  clear hno ha
  go_enter Tryz.func62, Tryz.ntmps62
  go_wp2_with fail
  refine (isEl_no p pb n cap _ _ hc ha'.out).mono ?_
  rintro e w' ⟨rfl, h9⟩
  subst w'
  go_wp2
  go_ret
  exact ⟨rfl, H.out, Kept.refl _ _ w⟩

/-- Whether a pair becomes so. -/
def newI (n : Nat) (R : Nat → Nat → Bool) (a b : Int) : Bool := decide (inI n a b) && !hasI n R a b

theorem hasI_in {n : Nat} {R : Nat → Nat → Bool} {a b : Int} (h : inI n a b) : hasI n R a b = R a.toNat b.toNat := by
 obtain ⟨h1, h2, h3, h4⟩ := h
 unfold hasI
 simp [h1, h2, h3, h4]

theorem add_c (lo hi p n : Nat) (a b : Int) (R : Nat → Nat → Bool) (w : World) (h : IsRel w lo hi p n R) :
  Calls Tryz.prog 62 #[.pointer (some ⟨p, 0, none⟩), .int .i64 a, .int .i64 b] w (TurnPost lo hi p n (newI n R a b) (addI n R (a, b)) w) := by
 by_cases hin : inI n a b
 ·cases hr : hasI n R a b
  ·have e1 : newI n R a b = true := by unfold newI; simp [hin, hr]
   rw [e1, addI_yes hin]
   obtain ⟨h1, h2, h3, h4⟩ := id hin
   obtain ⟨i, rfl⟩ := Int.eq_ofNat_of_zero_le h1
   obtain ⟨j, rfl⟩ := Int.eq_ofNat_of_zero_le h3
   rw [hasI_in hin] at hr
   exact add_new lo hi p n i j R w h (by omega) (by omega) hr
  ·have e1 : newI n R a b = false := by unfold newI; simp [hr]
   have e2 : addI n R (a, b) = R := by
    rw [addI_yes hin]
    rw [hasI_in hin] at hr
    exact addR_self hr
   rw [e1, e2]
   exact add_not lo hi p n a b R w h (.inr hr)
 ·have e1 : newI n R a b = false := by unfold newI; simp [hin]
  rw [e1, addI_no hin]
  exact add_not lo hi p n a b R w h (.inl hin)

theorem hasS_row {n : Nat} {S : Nat → Bool} {v : Nat} (hv : v < n) : hasS S n (v : Int) = S v := by
 unfold hasS
 simp [hv]

set_option maxHeartbeats 2000000 in
theorem complete_c (lo hi p n : Nat) (R : Nat → Nat → Bool) (w : World) (h : IsRel w lo hi p n R) :
  Calls Tryz.prog 102 #[.pointer (some ⟨p, 0, none⟩)] w (TurnPost lo hi p n (grewC n R n) (clo n R) w) := by
 obtain ⟨hn, hsu, pb, bs, ws, h3⟩ := h
 obtain ⟨cap, hc⟩ := h3.c0
 have H3 := Lib.hid h3
 have HSU := Lib.hid hsu
 clear h3 hsu
 go_enter Tryz.func102, Tryz.ntmps102
 go_wp2
 go_loopw [3, 13] (fun g i wr => ∃ v : Nat, v ≤ n ∧ i = .int .i64 v ∧ g = .bool (grewC n R v) ∧ Rows' wr lo hi p pb n n bs ws (warsh R v) ∧ Kept lo hi w wr) (fun _ i _ => n - (intOf i).toNat)
 case atStart => exact ⟨0, Nat.zero_le _, rfl, rfl, H3.out, Kept.refl _ _ _⟩
 case round =>
  obtain ⟨v, hv, rfl, rfl, hrows, hkept⟩ := hrel
  by_cases hvn : v < n
  ·have hcpv := hrows.cp v hvn
   obtain ⟨cap2, hc2⟩ := hrows.c0
   have HR := Lib.hid hrows
   have HSW := Lib.hid (warsh_supp HSU.out v)
   have HGC := Lib.hid (grewC_succ n R v)
   have HWS : Hid (warsh R (v + 1) = wvia (warsh R v) v) := Lib.hid rfl
   clear hrows
   generalize hW : warsh R v = W at *
   clear hW
   generalize grewC n R v = g0 at *
   go_wp2
   go_loopw [3, 23] (fun g i wi => ∃ k : Nat, k ≤ n ∧ i = .int .i64 k ∧ g = .bool (g0 || grewV n W v k) ∧ Rows' wi lo hi p pb n n bs ws (midV W v k) ∧ Kept lo hi w wi) (fun _ i _ => n - (intOf i).toNat)
   case atStart =>
    refine ⟨0, Nat.zero_le _, rfl, ?_, by rw [midV_zero]; exact HR.out, hkept⟩
    simp [grewV]
   case round =>
    obtain ⟨k, hk, rfl, rfl, hrk, hkk⟩ := hrel
    by_cases hkn : k < n
    ·have hcpk := hrk.cp k hkn
     have HRK := Lib.hid hrk
     have HMS := Lib.hid (midV_succ W v k)
     have hrowk := hrk.row k hkn
     rw [show midV W v k k = W k from by funext b; simp [midV]] at hrowk
     have HROW := Lib.hid hrowk
     have hrowv := hrk.row v hvn
     rw [show midV W v k v = W v from by funext b; exact midV_row W v k b] at hrowv
     have HROWV := Lib.hid hrowv
     have HG1 := Lib.hid (grewV_succ n W v k)
     have HAP := Lib.hid (hrk.ap2 k hkn)
     have HIN := Lib.hid (hrk.inb k hkn)
     have hne : ¬ k = v → ¬ v = k := fun h e => h e.symm
     clear hrk hrowk hrowv hne
     generalize hG : grewV n W v k = g1 at *
     clear hG
     go_wp2_with fail
     refine (has_c (bs k) (ws k) n v (W k) _ HROW.out).mono ?_
     rintro e w' ⟨he, m, rfl⟩
     rw [hasS_row hvn] at he
     cases hkv : W k v
     ·rw [hkv] at he
      subst he
      have hend : Hid (Rows' (wr.drewN m) lo hi p pb n n bs ws (midV W v (k + 1)) ∧ Kept lo hi w (wr.drewN m) ∧ (g0 || grewV n W v (k + 1)) = (g0 || g1)) := by
       refine Lib.hid ⟨?_, hkk.trans (Kept.calm (grownBy_drewN _ m none)), by rw [HG1.out, hkv]; simp⟩
       have e1 : midV W v (k + 1) = midV W v k := by
        funext a b
        rw [HMS.out]
        split
        ·rename_i ha
         subst ha
         simp [midV, wvia, hkv]
        ·rfl
       rw [e1]
       exact HRK.out.kept (Nat.le_refl _) (fun _ _ _ => rfl)
      clear hkv HG1
      go_wp2
      exact ⟨⟨k + 1, by omega, by go_num, by rw [hend.out.2.2], hend.out.1, hend.out.2.1⟩, by simp [intOf]; omega⟩
     ·rw [hkv] at he
      subst he
      -- joined with the row of v
      have hor : Calls Tryz.prog 148 #[.pointer (some ⟨bs k, 0, none⟩), .pointer (some ⟨bs v, 0, none⟩)] (wr.drewN m) (OrPost (bs k) (ws k) n (grewS n (W k) (W v)) (wvia W v k) (wr.drewN m)) := by
       by_cases ekv : k = v
       ·subst ekv
        have e1 : grewS n (W k) (W k) = false := by unfold grewS; simp
        have e2 : wvia W k k = W k := by funext b; exact wvia_row W k b
        rw [e1, e2]
        exact or_self_c (bs k) (ws k) n (W k) _ (HROW.out.drewN m)
       ·refine (or_c (bs k) (ws k) n n (some ⟨bs v, 0, none⟩) (W k) (W v) _ (HROW.out.drewN m) (.inr ⟨bs v, ws v, rfl, fun e => (HAP.out v hvn).1 e.symm, fun e => (HAP.out v hvn).2 ekv e.symm, HROWV.out.drewN m⟩)).mono ?_
        rintro e w' ⟨h1, h2, h3⟩
        refine ⟨h1, h2.congr fun b => ?_, h3⟩
        unfold wvia
        rw [hkv]
        cases hvb : W v b
        ·simp
        ·simp [(HSW.out v b hvb).2]
      have HOR := Lib.hid hor
      have HG2 : Hid (grewV n W v (k + 1) = (g1 || grewS n (W k) (W v))) := Lib.hid (by rw [HG1.out, hkv]; rfl)
      clear hor hkv HG1
      generalize hgs : grewS n (W k) (W v) = gs at *
      clear hgs
      go_wp2_with fail
      refine HOR.out.mono ?_
      rintro e w' ⟨rfl, h2, h3⟩
      have hend : Hid (Rows' w' lo hi p pb n n bs ws (midV W v (k + 1)) ∧ Kept lo hi w w') := by
       have hg := grownBy_trans (grownBy_drewN wr m _) h3
       refine Lib.hid ⟨HRK.out.put hkn hg ?_ ?_, hkk.trans (Kept.row hg HIN.out.2.2.1 HIN.out.2.2.2)⟩
       ·refine h2.congr fun b => ?_
        rw [HMS.out, if_pos rfl]
       ·intro x hx
        funext b
        rw [HMS.out, if_neg hx]
      clear h2 h3
      cases gs
      ·go_wp2
       exact ⟨⟨k + 1, by omega, by go_num, by rw [HG2.out]; simp, hend.out.1, hend.out.2⟩, by simp [intOf]; omega⟩
      ·go_wp2
       exact ⟨⟨k + 1, by omega, by go_num, by rw [HG2.out]; simp, hend.out.1, hend.out.2⟩, by simp [intOf]; omega⟩
    ·obtain rfl : k = n := by omega
     rw [midV_all HSW.out] at hrk
     go_wp2
     exact ⟨⟨v + 1, by omega, by go_num, by rw [HGC.out], by rw [HWS.out]; exact hrk, hkk⟩, by simp [intOf]; omega⟩
  ·obtain rfl : v = n := by omega
   go_wp2
   go_ret
   exact ⟨rfl, ⟨hn, clo_supp HSU.out, pb, bs, ws, hrows⟩, hkept⟩

end Go.Proofs.YtnknejokneddbaaGreatDoor
/-! The contracts of New and Copy of package rel: a relation of its own. -/
namespace Go.Proofs.YtnknejokneddbaaGreatDoor
open Go.RowKit

theorem Tryz.info143 : (Tryz.prog.info? 143).map (fun i => (i.zero, i.size, i.bytes)) = some (some (.pointer none), 1, 8) := by kernel_rfl

/-- What makes a relation of its own. -/
def MadePost (n : Nat) (T : Nat → Nat → Bool) (w : World) (e : Ending) (w' : World) : Prop :=
 ∃ p, e = .returned (.pointer (some ⟨p, 0, none⟩)) ∧ IsRel w' w.heap.size w'.heap.size p n T ∧ w.grownBy w' none

/-- A relation under way: k rows are there, the others are nil. -/
structure Half (w0 w : World) (p pb n k : Nat) (R : Nat → Nat → Bool) : Prop where
 rows : ∃ bs ws, Rows' w w0.heap.size w.heap.size p pb n k bs ws R
 rest : ∀ a, a < n → (∃ v, w.cell? ⟨pb, a, none⟩ = some v) ∧ w.frozen? ⟨pb, a, none⟩ = false
 grown : w0.grownBy w none

/-- A row made is laid. -/
theorem Half.step {w0 w w1 : World} {p pb n k b wb : Nat} {R T : Nat → Nat → Bool} (h : Half w0 w p pb n k R) (hk : k < n) (hg : w.grownBy w1 none) (hb : w.heap.size ≤ b) (hwb : w.heap.size ≤ wb) (hs : IsSet w1 b wb n (T k)) (ht : ∀ a, a < k → T a = R a) :
  Half w0 (w1.setCell ⟨pb, k, none⟩ (.pointer (some ⟨b, 0, none⟩))) p pb n (k + 1) T := by
 obtain ⟨bs, ws, hr⟩ := h.rows
 have hgs := grownBy_setCell w1 ⟨pb, k, none⟩ (.pointer (some ⟨b, 0, none⟩))
 have hsz := hg.size
 have hsz2 : (w1.setCell ⟨pb, k, none⟩ (.pointer (some ⟨b, 0, none⟩))).heap.size = w1.heap.size := by simp [World.setCell]
 have hq2 := hr.q2
 have hp2 := hr.p2
 have hq1 := hr.q1
 have hr1 : Rows' w1 w0.heap.size w.heap.size p pb n k bs ws R := hr.kept hsz fun i _ h2 => hg.block i h2 (by simp)
 obtain ⟨u, hrow, hon⟩ := hs
 have hbl := hrow.hb
 have hwl := hrow.hw
 have hne := hrow.ne
 obtain ⟨cap, hc⟩ := hr1.c0
 have hcell : ∃ v, w1.cell? ⟨pb, k, none⟩ = some v := by
  obtain ⟨⟨v, hv⟩, _⟩ := h.rest k hk
  exact ⟨v, (World.cell?_of_block (a := ⟨pb, k, none⟩) (hg.block pb hq2 (by simp))).trans hv⟩
 obtain ⟨v0, hv0⟩ := hcell
 refine ⟨⟨fun a => if a = k then b else bs a, fun a => if a = k then wb else ws a, ?_⟩, ?_, ?_⟩
 ·refine ⟨Nat.le_refl _, hr1.p1, by rw [hsz2]; omega, hr1.q1, by rw [hsz2]; omega, hr1.pq, ⟨cap, ?_⟩, ?_, ?_, ?_, ?_, ?_⟩
  ·exact (World.cell?_of_block (a := ⟨p, 0, none⟩) (hgs.block p (by omega) (fun e => hr1.pq (by simpa using e)))).trans hc
  ·intro a ha
   by_cases e : a = k
   ·subst e
    rw [if_pos rfl]
    exact World.cell?_setCell_same' _ _ _ (by rw [hv0]; rfl)
   ·rw [if_neg e, ← hr1.cp a (by omega)]
    (apply World.cell?_setCell_other; intro e'; cases e'; exact e rfl)
  ·intro a ha
   by_cases e : a = k
   ·subst e
    simp only [if_pos]
    exact ⟨u, hrow.grown hgs (fun e => by have := Option.some.inj e; simp at this; omega) (fun e => by have := Option.some.inj e; simp at this; omega), hon⟩
   ·simp only [if_neg e]
    rw [ht a (by omega)]
    obtain ⟨a1, a2, a3⟩ := hr1.ap a (by omega)
    exact (hr1.row a (by omega)).grown hgs (fun e => a3 (by simpa using e)) (fun e => a2 (by simpa using e))
  ·intro a ha
   by_cases e : a = k
   ·subst e
    simp only [if_pos]
    have := h.grown.size
    rw [hsz2]
    omega
   ·simp only [if_neg e]
    have := hr1.inb a (by omega)
    rw [hsz2]
    omega
  ·intro a ha
   by_cases e : a = k
   ·subst e
    simp only [if_pos]
    omega
   ·simp only [if_neg e]
    exact hr1.ap a (by omega)
  ·intro a ha c hc
   by_cases e : a = k
   ·subst e
    simp only [if_pos]
    by_cases e2 : c = a
    ·subst e2
     simp only [if_pos]
     exact ⟨fun e => hne e.symm, fun e => absurd rfl e⟩
    ·simp only [if_neg e2]
     have := hr1.inb c (by omega)
     exact ⟨by omega, fun _ => by omega⟩
   ·simp only [if_neg e]
    have := hr1.inb a (by omega)
    by_cases e2 : c = k
    ·subst e2
     simp only [if_pos]
     exact ⟨by omega, fun _ => by omega⟩
    ·simp only [if_neg e2]
     exact hr1.ap2 a (by omega) c (by omega)
 ·intro a ha
  obtain ⟨⟨v, hv⟩, hf⟩ := h.rest a ha
  have hv1 := (World.cell?_of_block (a := ⟨pb, a, none⟩) (hg.block pb hq2 (by simp))).trans hv
  have hf1 := (World.frozen?_of_block (a := ⟨pb, a, none⟩) (hg.block pb hq2 (by simp))).trans hf
  constructor
  ·by_cases e : a = k
   ·subst e
    exact ⟨_, World.cell?_setCell_same' _ _ _ (by rw [hv1]; rfl)⟩
   ·refine ⟨v, ?_⟩
    rw [← hv1]
    (apply World.cell?_setCell_other; intro e'; cases e'; exact e rfl)
  ·rw [World.frozen?_setCell]
   exact hf1
 ·exact grownBy_new (grownBy_trans h.grown hg) hgs (by have := h.grown.size; show w0.heap.size ≤ pb; omega)

/-- The relation's own cells, before any row is laid. -/
theorem Half.start (w : World) (n : Nat) :
  Half w ((w.alloc (.cells (madeCells #[.pointer none] n) 143)).alloc (.cells #[.slice (some ⟨w.heap.size, 0, none⟩) n n] 142)) (w.heap.size + 1) w.heap.size n 0 (fun _ _ => false) := by
 refine ⟨⟨fun _ => 0, fun _ => 0, ?_⟩, ?_, grownBy_trans (World.grownBy_alloc w _ none) (World.grownBy_alloc _ _ none)⟩
 ·refine ⟨Nat.le_refl _, by omega, by simp, Nat.le_refl _, by simp; omega, by omega, ⟨n, by simp⟩, ?_, ?_, ?_, ?_, ?_⟩ <;> (intro a ha; omega)
 ·intro a ha
  refine ⟨⟨.pointer none, ?_⟩, ?_⟩
  ·rw [World.cell?_alloc2_first, made_get _ _ _ ha]
  ·rw [World.frozen?_alloc2_first]

theorem Half.end {w0 w : World} {p pb n : Nat} {R : Nat → Nat → Bool} (h : Half w0 w p pb n n R) (hn : n ≤ 200) (hs : Supp n R) : IsRel w w0.heap.size w.heap.size p n R ∧ w0.grownBy w none := by
 obtain ⟨bs, ws, hr⟩ := h.rows
 exact ⟨⟨hn, hs, pb, bs, ws, hr⟩, h.grown⟩

/-- New of bits beside a cell that stays. -/
theorem newK_c (n p pb m cap : Nat) (w : World) (hn : n ≤ 200) (hp : p < w.heap.size) (hc : w.cell? ⟨p, 0, none⟩ = some (.slice (some ⟨pb, 0, none⟩) m cap)) : Calls Tryz.prog 97 #[.int .i64 n] w fun e w' => NewPost n w e w' ∧ w'.cell? ⟨p, 0, none⟩ = some (.slice (some ⟨pb, 0, none⟩) m cap) :=
 (new_mid n w (by omega)).mono fun _ w' ⟨b, wb, h1, h2, h3, h4, h5⟩ => ⟨⟨b, wb, h1, h2, h3, h4, h5⟩, (World.cell?_of_block (w' := w') (a := ⟨p, 0, none⟩) (h5.block p hp (by simp))).trans hc⟩

set_option maxHeartbeats 1000000 in
theorem relNew_mid (n : Nat) (w : World) (hn : n ≤ 200) : Calls Tryz.prog 61 #[.int .i64 n] w (MadePost n (fun _ _ => false) w) := by
 have hmk := run_make_row' (P := Tryz.prog) 140 143 (.pointer none) 8 Tryz.underlying140 Tryz.info143 rfl .i64 .i64 n (by omega) (by omega)
 have h0 : (0 : Int) ≤ n := by omega
 have h1 : (n : Int) ≤ 200 := by omega
 have HS := Lib.hid (Half.start w n)
 go_enter Tryz.func61, Tryz.ntmps61
 go_wp2
 go_loopw [16] (fun i wr => ∃ k : Nat, k ≤ n ∧ i = .int .i64 k ∧ Half w wr (w.heap.size + 1) w.heap.size n k (fun _ _ => false)) (fun i _ => n - (intOf i).toNat)
 case atStart => exact ⟨0, Nat.zero_le _, rfl, HS.out⟩
 case round =>
  obtain ⟨k, hk, rfl, hhalf⟩ := hrel
  by_cases hkn : k < n
  ·have HH := Lib.hid hhalf
   obtain ⟨bs, ws, hrows⟩ := hhalf.rows
   obtain ⟨cap, hc⟩ := hrows.c0
   obtain ⟨⟨v, hv⟩, hf⟩ := hhalf.rest k hkn
   have hp2 := hrows.p2
   have hq2 := hrows.q2
   have k0 : (0 : Int) ≤ k := by omega
   have k1 : (k : Int) < n := by omega
   clear hhalf hrows
   go_wp2
   go_region_held3 (fun w' => w'.cell? ⟨w.heap.size + 1, 0, none⟩ = some (.slice (some ⟨w.heap.size, 0, none⟩) n cap)) (first | exact hkeep | go_keep)
    (first | (go_at_call 97; refine (newK_c n (w.heap.size + 1) w.heap.size n cap _ hn (by exact hp2) (by exact hc)).mono ?_; rintro e w1 ⟨⟨b, wb, rfl, hb, hwb, hs, hg⟩, hkeep⟩; have hv1 := (World.cell?_of_block (a := ⟨w.heap.size, k, none⟩) (hg.block w.heap.size (by exact hq2) (by simp))).trans hv; have hf1 := (World.frozen?_of_block (a := ⟨w.heap.size, k, none⟩) (hg.block w.heap.size (by exact hq2) (by simp))).trans hf))
   all_goals go_wp2
   exact ⟨⟨k + 1, by omega, by go_num, HH.out.step hkn (grownBy_trans (grownBy_drewN wr 1 none) hg) hb hwb hs (fun _ _ => rfl)⟩, by simp [intOf]; omega⟩
  ·obtain rfl : k = n := by omega
   have HE := Lib.hid (hhalf.end hn (supp_none k))
   clear hhalf
   go_wp2
   go_ret
   exact ⟨_, rfl, HE.out.1, HE.out.2⟩

/-- Copy of a row beside a cell that stays. -/
theorem copyK_c (b wb n p pb m cap : Nat) (S : Nat → Bool) (w : World) (h : IsSet w b wb n S) (hp : p < w.heap.size) (hc : w.cell? ⟨p, 0, none⟩ = some (.slice (some ⟨pb, 0, none⟩) m cap)) : Calls Tryz.prog 147 #[.pointer (some ⟨b, 0, none⟩)] w fun e w' => CopyPost n S w e w' ∧ w'.cell? ⟨p, 0, none⟩ = some (.slice (some ⟨pb, 0, none⟩) m cap) :=
 (copy_c b wb n S w h).mono fun _ w' ⟨b', wb', h1, h2, h3, h4, h5⟩ => ⟨⟨b', wb', h1, h2, h3, h4, h5⟩, (World.cell?_of_block (w' := w') (a := ⟨p, 0, none⟩) (h5.block p hp (by simp))).trans hc⟩

/-- The first k rows of R. -/
def firstR (R : Nat → Nat → Bool) (k : Nat) (a b : Nat) : Bool := if a < k then R a b else false
theorem firstR_zero (R : Nat → Nat → Bool) : firstR R 0 = fun _ _ => false := by funext a b; simp [firstR]
theorem firstR_all {n : Nat} {R : Nat → Nat → Bool} (h : Supp n R) : firstR R n = R := by
 funext a b
 unfold firstR
 split
 ·rfl
 ·cases hr : R a b
  ·rfl
  ·exact absurd (h a b hr).1 (by assumption)

set_option maxHeartbeats 1000000 in
theorem relCopy_c (lo hi p n : Nat) (R : Nat → Nat → Bool) (w : World) (h : IsRel w lo hi p n R) : Calls Tryz.prog 101 #[.pointer (some ⟨p, 0, none⟩)] w (MadePost n R w) := by
 have HI := Lib.hid h
 obtain ⟨hn, hsu, qb, cs, us, h3⟩ := h
 obtain ⟨cap0, hc0⟩ := h3.c0
 have hmk := run_make_row' (P := Tryz.prog) 140 143 (.pointer none) 8 Tryz.underlying140 Tryz.info143 rfl .i64 .i64 n (by omega) (by omega)
 have HS := Lib.hid (Half.start w n)
 have HSU := Lib.hid hsu
 have H3 := Lib.hid h3
 have hpl : p < w.heap.size := by have := h3.p2; have := h3.top; omega
 clear h3 hsu
 have hc0' : ((w.alloc (.cells (madeCells #[.pointer none] n) 143)).alloc (.cells #[.slice (some ⟨w.heap.size, 0, none⟩) n n] 142)).cell? ⟨p, 0, none⟩ = some (.slice (some ⟨qb, 0, none⟩) n cap0) :=
  (World.cell?_of_block (a := ⟨p, 0, none⟩) ((grownBy_trans (World.grownBy_alloc w _ none) (World.grownBy_alloc _ _ none)).block p hpl (by simp))).trans hc0
 go_enter Tryz.func101, Tryz.ntmps101
 go_wp2
 go_loopw [19] (fun i wr => ∃ k : Nat, k ≤ n ∧ i = .int .i64 k ∧ Half w wr (w.heap.size + 1) w.heap.size n k (firstR R k)) (fun i _ => n - (intOf i).toNat)
 case atStart => exact ⟨0, Nat.zero_le _, rfl, by rw [firstR_zero]; exact HS.out⟩
 case round =>
  obtain ⟨k, hk, rfl, hhalf⟩ := hrel
  by_cases hkn : k < n
  ·have HH := Lib.hid hhalf
   obtain ⟨bs, ws, hrows⟩ := hhalf.rows
   obtain ⟨cap, hc⟩ := hrows.c0
   obtain ⟨⟨v, hv⟩, hf⟩ := hhalf.rest k hkn
   have hp2 := hrows.p2
   have hq2 := hrows.q2
   have k0 : (0 : Int) ≤ k := by omega
   have k1 : (k : Int) < n := by omega
   have h3' : Rows' wr lo hi p qb n n cs us R := H3.out.kept hhalf.grown.size fun i _ h2 => hhalf.grown.block i (Nat.lt_of_lt_of_le h2 H3.out.top) (by simp)
   have hcp := h3'.cp k hkn
   have hrow := Lib.hid (h3'.row k hkn)
   clear hhalf hrows h3'
   go_wp2
   go_region_held3 (fun w' => w'.cell? ⟨w.heap.size + 1, 0, none⟩ = some (.slice (some ⟨w.heap.size, 0, none⟩) n cap)) (first | exact hkeep | go_keep)
    (first | (go_at_call 147; refine (copyK_c (cs k) (us k) n (w.heap.size + 1) w.heap.size n cap (R k) _ (by exact hrow.out.drewN 1) (by exact hp2) (by exact hc)).mono ?_; rintro e w1 ⟨⟨b, wb, rfl, hb, hwb, hs, hg⟩, hkeep⟩; have hv1 := (World.cell?_of_block (a := ⟨w.heap.size, k, none⟩) (hg.block w.heap.size (by exact hq2) (by simp))).trans hv; have hf1 := (World.frozen?_of_block (a := ⟨w.heap.size, k, none⟩) (hg.block w.heap.size (by exact hq2) (by simp))).trans hf))
   all_goals go_wp2
   refine ⟨⟨k + 1, by omega, by go_num, HH.out.step hkn (grownBy_trans (grownBy_drewN wr 1 none) hg) hb hwb (hs.congr fun i => by simp [firstR]) (fun a ha => ?_)⟩, by simp [intOf]; omega⟩
   funext b
   unfold firstR
   rw [if_pos (by omega), if_pos ha]
  ·obtain rfl : k = n := by omega
   rw [firstR_all HSU.out] at hhalf
   have HE := Lib.hid (hhalf.end hn HSU.out)
   clear hhalf
   go_wp2
   go_ret
   exact ⟨_, rfl, HE.out.1, HE.out.2⟩

set_option maxHeartbeats 400000 in
theorem closure_c (lo hi p n : Nat) (R : Nat → Nat → Bool) (w : World) (h : IsRel w lo hi p n R) : Calls Tryz.prog 63 #[.pointer (some ⟨p, 0, none⟩)] w (MadePost n (clo n R) w) := by
 have H := Lib.hid h
 clear h
 go_enter Tryz.func63, Tryz.ntmps63
 go_wp2_with fail
 refine (relCopy_c lo hi p n R _ H.out).mono ?_
 rintro e w1 ⟨q, rfl, h1, hg1⟩
 have H1 := Lib.hid h1
 have HG := Lib.hid hg1
 clear h1 hg1
 go_wp2_with fail
 refine (complete_c _ _ q n R _ H1.out).mono ?_
 rintro e w2 ⟨rfl, h2, hk2⟩
 have H2 := Lib.hid h2
 have HK := Lib.hid hk2
 clear h2 hk2
 go_wp2
 go_ret
 have ht := H2.out.top
 refine ⟨q, rfl, ?_, Kept.new HG.out HK.out (Nat.le_refl _)⟩
 exact H2.out.wider ht

end Go.Proofs.YtnknejokneddbaaGreatDoor
/-! Slices of pairs in memory; and the contract of the statements' own function same. -/
namespace Go.Proofs.YtnknejokneddbaaGreatDoor
open Go.RowKit

/-- A slice of pairs that reads as l, in a block from lo to hi. -/
structure PairsAt (w : World) (lo hi : Nat) (p : Option Addr) (n : Nat) (l : List (Int × Int)) : Prop where
 len : l.length = n
 cell : 0 < n → ∃ b off, p = some ⟨b, off, none⟩ ∧ lo ≤ b ∧ b < hi ∧ hi ≤ w.heap.size ∧ ∀ k, k < n → w.cell? ⟨b, off + k * 2, none⟩ = some (.int .i64 (l[k]?.getD (0, 0)).1) ∧ w.cell? ⟨b, off + k * 2 + 1, none⟩ = some (.int .i64 (l[k]?.getD (0, 0)).2)

theorem PairsAt.kept {w w' : World} {lo hi : Nat} {p : Option Addr} {n : Nat} {l : List (Int × Int)} (h : PairsAt w lo hi p n l) (hs : w.heap.size ≤ w'.heap.size) (hb : ∀ i, lo ≤ i → i < hi → w'.heap[i]? = w.heap[i]?) : PairsAt w' lo hi p n l := by
 refine ⟨h.len, fun hn => ?_⟩
 obtain ⟨b, off, hp, h1, h2, h3, hc⟩ := h.cell hn
 exact ⟨b, off, hp, h1, h2, Nat.le_trans h3 hs, fun k hk => ⟨(World.cell?_of_block (a := ⟨b, off + k * 2, none⟩) (hb b h1 h2)).trans (hc k hk).1, (World.cell?_of_block (a := ⟨b, off + k * 2 + 1, none⟩) (hb b h1 h2)).trans (hc k hk).2⟩⟩

theorem PairsAt.calm {w w' : World} {lo hi : Nat} {p : Option Addr} {n : Nat} {l : List (Int × Int)} (h : PairsAt w lo hi p n l) (hg : w.grownBy w' none) : PairsAt w' lo hi p n l := by
 refine ⟨h.len, fun hn => ?_⟩
 obtain ⟨b, off, hp, h1, h2, h3, hc⟩ := h.cell hn
 have hb : w'.heap[b]? = w.heap[b]? := hg.block b (by omega) (by simp)
 exact ⟨b, off, hp, h1, h2, Nat.le_trans h3 hg.size, fun k hk => ⟨(World.cell?_of_block (a := ⟨b, off + k * 2, none⟩) hb).trans (hc k hk).1, (World.cell?_of_block (a := ⟨b, off + k * 2 + 1, none⟩) hb).trans (hc k hk).2⟩⟩

theorem PairsAt.apart {w w' : World} {lo hi lo' hi' : Nat} {p : Option Addr} {n : Nat} {l : List (Int × Int)} (h : PairsAt w lo hi p n l) (hg : Kept lo' hi' w w') (hd : hi ≤ lo' ∨ hi' ≤ lo) : PairsAt w' lo hi p n l := by
 refine ⟨h.len, fun hn => ?_⟩
 obtain ⟨b, off, hp, h1, h2, h3, hc⟩ := h.cell hn
 have hb : w'.heap[b]? = w.heap[b]? := hg.block b (by omega) (by omega)
 exact ⟨b, off, hp, h1, h2, Nat.le_trans h3 hg.size, fun k hk => ⟨(World.cell?_of_block (a := ⟨b, off + k * 2, none⟩) hb).trans (hc k hk).1, (World.cell?_of_block (a := ⟨b, off + k * 2 + 1, none⟩) hb).trans (hc k hk).2⟩⟩

/-- The cells of pairs. -/
def pcells (l : List (Int × Int)) : List Value := l.flatMap fun x => [.int .i64 x.1, .int .i64 x.2]
theorem pcells_len (l : List (Int × Int)) : (pcells l).length = l.length * 2 := by
 induction l with
 | nil => rfl
 | cons x l ih => simp only [pcells, List.flatMap_cons, List.length_append, List.length_cons, List.length_nil] at ih ⊢; omega
theorem pcells_snoc (l : List (Int × Int)) (x : Int × Int) : pcells (l ++ [x]) = pcells l ++ [.int .i64 x.1, .int .i64 x.2] := by simp [pcells]
theorem pcells_get (l : List (Int × Int)) : ∀ k, k < l.length → (pcells l)[k * 2]? = some (.int .i64 (l[k]?.getD (0, 0)).1) ∧ (pcells l)[k * 2 + 1]? = some (.int .i64 (l[k]?.getD (0, 0)).2) := by
 induction l with
 | nil => intro k hk; simp at hk
 | cons x l ih =>
  intro k hk
  have e : pcells (x :: l) = .int .i64 x.1 :: .int .i64 x.2 :: pcells l := by simp [pcells]
  rw [e]
  cases k with
  | zero => simp
  | succ k =>
   have := ih k (by simpa using hk)
   rw [show (k + 1) * 2 = k * 2 + 1 + 1 from by omega]
   simpa using this

/-- What hands back a new slice of pairs. -/
def PairsPost (l : List (Int × Int)) (w : World) (e : Ending) (w' : World) : Prop :=
 ∃ p c, e = .returned (.slice p l.length c) ∧ PairsAt w' w.heap.size w'.heap.size p l.length l ∧ w.grownBy w' none

theorem pairsAt_own {w : World} {base : Nat} {v : Value} {l : List (Int × Int)} (h : w.ownsRow base 88 2 v l.length (pcells l)) :
  ∃ p c, v = .slice p l.length c ∧ PairsAt w base w.heap.size p l.length l := by
 rcases h.2 with ⟨rfl, h0⟩ | ⟨g, cap, cur, rfl, hb, hg, _⟩
 ·rw [h0]; exact ⟨none, 0, rfl, h0, fun h => absurd h (by omega)⟩
 ·refine ⟨_, cap, rfl, rfl, fun hn => ⟨g, 0, rfl, hb, (Array.getElem?_eq_some_iff.1 hg).1, Nat.le_refl _, fun k hk => ?_⟩⟩
  have hc := h.cells (g := g) rfl
  have hadd : ∀ j, (⟨g, 0, none⟩ : Addr).add j = ⟨g, 0 + j, none⟩ := fun j => by unfold Addr.add; split <;> simp_all
  have g1 := hc (k * 2) _ (pcells_get l k hk).1
  have g2 := hc (k * 2 + 1) _ (pcells_get l k hk).2
  rw [hadd] at g1 g2
  exact ⟨g1, g2⟩

theorem pair_neq (x y z t : Int) (w : World) : (binOp .neq 88 (.agg #[.int .i64 x, .int .i64 y]) (.agg #[.int .i64 z, .int .i64 t])).run Tryz.prog w = .ok (.bool (!(x == z && y == t))) w := by
 rw [run_neq_struct, run_equalIn_agg _ _ _ _ _ (by kernel_rfl) Tryz.stoodInHeld88]
 have e : (Tryz.prog.fieldsOf 88).toList = [{ name := "A", type := 3, offset := 0, embedded := false, tag := "", pkgPath := "", byteOffset := 0 }, { name := "B", type := 3, offset := 1, embedded := false, tag := "", pkgPath := "", byteOffset := 8 }] := by kernel_rfl
 rw [e]
 simp [Op.eqFields, part, go_sem]
 cases h : (x == z) <;> cases h' : (y == t) <;> simp_all

theorem take_eq_succ {l1 l2 : List (Int × Int)} {k : Nat} (h1 : k < l1.length) (h2 : k < l2.length) (h : l1.take k = l2.take k) (e : l1[k]?.getD (0, 0) = l2[k]?.getD (0, 0)) : l1.take (k + 1) = l2.take (k + 1) := by
 rw [List.getElem?_eq_getElem h1, List.getElem?_eq_getElem h2] at e
 simp only [Option.getD_some] at e
 rw [List.take_succ_eq_append_getElem h1, List.take_succ_eq_append_getElem h2, h, e]

end Go.Proofs.YtnknejokneddbaaGreatDoor
/-! The contract of the iterator behind Pairs of package rel: it hands over the pairs, rising. -/
namespace Go.Proofs.YtnknejokneddbaaGreatDoor
open Go.RowKit Go.Shelf
attribute [local go_sem] Oper.semAt_some

/-- Rows of ints lie as they lay. -/
def KeepI (W W' : World) : Prop := ∀ (g : Nat) (cur : Array Value), W.heap[g]? = some (.cells cur 3 (0, 0)) → W'.heap[g]? = some (.cells cur 3 (0, 0))

theorem KeepI.calm {W W' : World} (h : W.grownBy W' none) : KeepI W W' := fun g cur hg => (h.block g (Array.getElem?_eq_some_iff.1 hg).1 (by simp)).trans hg
theorem KeepI.refl (W : World) : KeepI W W := fun _ _ h => h
theorem KeepI.trans {A B C : World} (h : KeepI A B) (k : KeepI B C) : KeepI A C := fun g cur hg => k g cur (h g cur hg)

/-- What a body keeps of what the iterator leans on. -/
def KeepP (n₀ : Nat) (W W' : World) : Prop := Below n₀ W W' ∧ KeepI W W'

theorem allS_in (n : Nat) (hn : 3 ≤ n) (b wb m : Nat) (S : Nat → Bool) (w : World) (h : IsSet w b wb m S) (ht : Tab w) :
  CallsIn Fence.wide n Tryz.prog 151 #[.pointer (some ⟨b, 0, none⟩)] w (AllPost (ints (onL S m)) w) := by
 obtain ⟨ws, hr, ho⟩ := h
 have e : onL (onB ws) (64 * ws.length) = onL S m := by rw [words_onL hr.words]; exact onL_congr fun i _ => ho i
 rw [← e]
 exact all_in n hn b wb m ws w hr ht

/-- A slice that All made, written out. -/
theorem allPost_row {l : List Nat} {w w' : World} {e : Ending} (h : AllPost (ints l) w e w') :
  ∃ g cap cur, e = .returned (.slice (some ⟨g, 0, none⟩) l.length cap) ∧ w.heap.size ≤ g ∧ w'.heap[g]? = some (.cells cur 3 (0, 0)) ∧ (∀ k, k < l.length → cur[k]? = some (.int .i64 (l[k]?.getD 0 : Nat))) ∧ w.grownBy w' none := by
 have hlen : (ints l).length = l.length := by simp [ints]
 obtain ⟨v, rfl, hrow, hnil, hg⟩ := h
 rw [hlen] at hrow
 rcases hrow.2 with ⟨rfl, _⟩ | ⟨g, cap, cur, rfl, hb, hh, h1, h2, h3, h4⟩
 ·exact absurd rfl hnil
 ·refine ⟨g, cap, cur, rfl, hb, hh, fun k hk => ?_, hg⟩
  have e : ((ints l).map (Value.int .i64))[k]? = some (.int .i64 (l[k]?.getD 0 : Nat)) := by
   unfold ints
   rw [List.getElem?_map, List.getElem?_map, List.getElem?_eq_getElem hk]; rfl
  rw [← h4, List.getElem?_take_of_lt (by omega), Array.getElem?_toList] at e
  exact e

theorem pairsL_split {n : Nat} {R : Nat → Nat → Bool} {m k j : Nat} (hk : k < m) (hj : j < (onL (R k) n).length) :
  ∃ rest, pairsL n R m = (pairsL n R k ++ ((onL (R k) n).take j).map fun b : Nat => ((k : Int), (b : Int))) ++ ([((k : Int), (((onL (R k) n)[j]?.getD 0 : Nat) : Int))] ++ rest) := by
 have h1 : ∃ r1, pairsL n R m = pairsL n R (k + 1) ++ r1 := by
  unfold pairsL
  refine ⟨((List.range (m - (k + 1))).map fun x => (k + 1) + x).flatMap fun a => (onL (R a) n).map fun b : Nat => ((a : Int), (b : Int)), ?_⟩
  rw [← List.flatMap_append, ← List.range_add]
  congr 2
  omega
 obtain ⟨r1, h1⟩ := h1
 refine ⟨((onL (R k) n).drop (j + 1)).map (fun b : Nat => ((k : Int), (b : Int))) ++ r1, ?_⟩
 rw [h1, pairsL_succ]
 have e : (onL (R k) n) = (onL (R k) n).take j ++ ([(onL (R k) n)[j]?.getD 0] ++ (onL (R k) n).drop (j + 1)) := by
  rw [List.getElem?_eq_getElem hj]
  simp
 generalize (onL (R k) n)[j]?.getD 0 = y at *
 generalize (onL (R k) n).drop (j + 1) = d at *
 generalize (onL (R k) n).take j = t at *
 rw [e]
 simp

set_option maxRecDepth 100000 in
set_option maxHeartbeats 4000000 in
theorem relEach1_in (n : Nat) (hn : 4 ≤ n) (l Bn n₀ lo hi p m : Nat) (R : Nat → Nat → Bool) (hg : 0 < n₀) (hlo : hi ≤ n₀)
  (J Jx : List (Int × Int) → World → Prop) (hab : ∀ s A B, J s A → A.grownBy B none → J s B)
  (hY : ∀ pre x W, J pre W → pre.length < (pairsL m R m).length → YieldAt Fence.wide (n - 1) Tryz.prog l #[.agg #[.int .i64 x.1, .int .i64 x.2]] W fun e W' =>
   (e = .returned (.bool true) ∧ J (pre ++ [x]) W' ∧ KeepP n₀ W W') ∨ (e = .returned (.bool false) ∧ Jx (pre ++ [x]) W'))
  (W : World) (ht : Tab W) (hBn : W.cell? ⟨Bn, 0, none⟩ = some (.pointer (some ⟨p, 0, none⟩))) (hn₀ : n₀ ≤ W.heap.size)
  (hR : IsRel W lo hi p m R) (h0 : J [] W) :
  CallsIn Fence.wide n Tryz.prog 150 #[.func (.yield l) #[] #[], .pointer (some ⟨Bn, 0, none⟩)] W fun e W' => (∃ v, e = .returned v) ∧
   ((∃ ys, ys = pairsL m R m ∧ J ys W') ∨ (∃ pre, pre <+: pairsL m R m ∧ Jx pre W')) := by
 have hm := hR.small
 obtain ⟨_, _, pb, bs, ws, h3⟩ := hR
 obtain ⟨cap, hc⟩ := h3.c0
 have HY := Lib.hid hY
 have HAB := Lib.hid hab
 have HT := Lib.hid ht
 have H3 := Lib.hid h3
 clear hY hab ht h3
 refine callsIn_of_wp Tryz.func150 rfl trivial ?_ rfl
 simp only [Tryz.ntmps150, List.size_toArray, List.length_cons, List.length_nil, Nat.reduceAdd, Nat.reduceSub, Array.replicate_succ, Array.replicate_zero, List.push_toArray, List.append_toArray, List.nil_append, List.cons_append]
 gi_wp2
 gi_loopw [12] (fun i wr => ∃ k : Nat, k ≤ m ∧ i = .int .i64 k ∧ J (pairsL m R k) wr ∧ Below n₀ W wr) (fun i _ => m - (intOf i).toNat)
 case atStart => exact ⟨0, Nat.zero_le _, rfl, h0, Below.refl _ _⟩
 case round =>
  obtain ⟨k, hk, rfl, hJ, hB⟩ := hrel
  by_cases hkm : k < m
  ·have h3' : Rows' wr lo hi p pb m m bs ws R := H3.out.kept hB.size fun i _ h2 => hB.block i (by omega)
   have hcp := h3'.cp k hkm
   have hrow := Lib.hid (h3'.row k hkm)
   have htab := Lib.hid (HT.out.below hB hg)
   clear h3'
   gi_wp2_with fail
   refine ⟨trivial, fun _ => by omega, ?_⟩
   refine (allS_in (n - 1) (by omega) (bs k) (ws k) m (R k) _ (by exact hrow.out) (by exact htab.out)).mono ?_
   rintro e w9 h9
   obtain ⟨g, c, cur, rfl, hgb, hgc, hcur, hgr⟩ := allPost_row h9
   have HCUR := Lib.hid hcur
   have HGR := Lib.hid hgr
   have HGC := Lib.hid hgc
   clear h9 hcur hgr hgc
   gi_wp2
   have hJ9 := HAB.out _ _ _ hJ HGR.out
   have hB9 := hB.trans (grownBy_below HGR.out |>.mono (by have := hB.size; omega))
   have HSP := Lib.hid (fun j hj => pairsL_split (n := m) (R := R) (m := m) (k := k) (j := j) hkm hj)
   have HSU := Lib.hid (pairsL_succ m R k)
   have hL : (onL (R k) m).length ≤ 200 := Nat.le_trans (onL_le _ _) hm
   clear hJ hB
   generalize hO : onL (R k) m = os at *
   have HO := Lib.hid hO
   clear hO
   generalize hOL : os.length = L at *
   have HOL := Lib.hid hOL
   clear hOL
   gi_loopw [20] (fun i wi => ∃ j : Nat, j ≤ L ∧ i = .int .i64 j ∧ J (pairsL m R k ++ (os.take j).map fun b : Nat => ((k : Int), (b : Int))) wi ∧ Below n₀ W wi ∧ Hid (wi.heap[g]? = some (.cells cur 3 (0, 0)))) (fun i _ => L - (intOf i).toNat)
   case atStart => exact ⟨0, Nat.zero_le _, rfl, by simpa using hJ9, hB9, HGC⟩
   case round =>
    obtain ⟨j, hj, rfl, hJj, hBj, hGj⟩ := hrel
    by_cases hjl : j < L
    ·have hcell : wr.cell? ⟨g, j, none⟩ = some (.int .i64 (os[j]?.getD 0 : Nat)) := by
      simp only [World.cell?, hGj.out]
      exact HCUR.out j hjl
     obtain ⟨rest, hsp⟩ := HSP.out j hjl
     have hlen : (pairsL m R k ++ (os.take j).map fun b : Nat => ((k : Int), (b : Int))).length < (pairsL m R m).length := by
      rw [hsp]; simp
     have hprefix : (pairsL m R k ++ (os.take j).map fun b : Nat => ((k : Int), (b : Int))) ++ [((k : Int), ((os[j]?.getD 0 : Nat) : Int))] <+: pairsL m R m := by
      rw [hsp, ← List.append_assoc]
      exact List.prefix_append _ _
     have HPX := Lib.hid hprefix
     have hnx : (pairsL m R k ++ (os.take (j + 1)).map fun b : Nat => ((k : Int), (b : Int))) = (pairsL m R k ++ (os.take j).map fun b : Nat => ((k : Int), (b : Int))) ++ [((k : Int), ((os[j]?.getD 0 : Nat) : Int))] := by
      rw [List.take_succ_eq_append_getElem (by rw [HOL.out]; exact hjl), List.getElem?_eq_getElem (by rw [HOL.out]; exact hjl), List.map_append, ← List.append_assoc]
      rfl
     have HNX := Lib.hid hnx
     obtain ⟨fn, tmps, assign, body, hyy, hR⟩ := HY.out _ ((k : Int), ((os[j]?.getD 0 : Nat) : Int)) wr hJj hlen
     clear hsp hlen hprefix hnx
     generalize os[j]?.getD 0 = y at *
     gi_wp2
     refine ⟨fun _ => by omega, hR.mono ?_⟩
     rintro e W3 (⟨rfl, hJ3, hk3⟩ | ⟨rfl, hJx3⟩)
     ·gi_wp2
      exact ⟨⟨j + 1, by omega, by go_num, by rw [HNX.out]; exact hJ3, hBj.trans hk3.1, Lib.hid (hk3.2 _ _ hGj.out)⟩, by simp [intOf]; omega⟩
     ·gi_wp2
      refine bodyPost_ret (results_none rfl _ _ _) rfl ?_
      exact ⟨⟨_, rfl⟩, .inr ⟨_, HPX.out, hJx3⟩⟩
    ·obtain rfl : j = L := by omega
     rw [List.take_of_length_le (by rw [HOL.out]; exact Nat.le_refl _), ← HSU.out] at hJj
     gi_wp2
     exact ⟨⟨k + 1, by omega, by go_num, hJj, hBj⟩, by simp [intOf]; omega⟩
  ·obtain rfl : k = m := by omega
   gi_wp2
   go_end0
   exact ⟨⟨_, rfl⟩, .inl ⟨_, rfl, hJ⟩⟩

set_option maxHeartbeats 1000000 in
theorem relEach_in (n : Nat) (p : Option Addr) (w : World) :
  CallsIn Fence.wide n Tryz.prog 104 #[.pointer p] w fun e w' => e = .returned (.func (.func 150) #[] #[.pointer (some ⟨w.heap.size, 0, none⟩)]) ∧ w' = w.alloc (.cells #[.pointer p] 104) := by
 refine callsIn_of_wp Tryz.func104 rfl trivial ?_ rfl
 simp only [Tryz.ntmps104, List.size_toArray, List.length_cons, List.length_nil, Nat.reduceAdd, Nat.reduceSub, Array.replicate_succ, Array.replicate_zero, List.push_toArray, List.append_toArray, List.nil_append, List.cons_append]
 gi_wp2
 go_ret
 exact ⟨rfl, rfl⟩

/-- A pair as a value. -/
def pairV (x : Int × Int) : Array Value := #[.agg #[.int .i64 x.1, .int .i64 x.2]]

/-- The iterator hands over all pairs, rising, or the first of them. -/
theorem relEach_stops (n : Nat) (hn : 4 ≤ n) (Bn n₀ lo hi p m : Nat) (R : Nat → Nat → Bool) (w : World) (hR : IsRel w lo hi p m R) (ht : Tab w) (hlo : hi ≤ n₀) (hg : 0 < n₀) (hBn : Bn < w.heap.size) (hn₀ : n₀ ≤ w.heap.size)
  (hc : w.cell? ⟨Bn, 0, none⟩ = some (.pointer (some ⟨p, 0, none⟩))) :
  SeqStopsK Fence.wide n Tryz.prog 150 #[.pointer (some ⟨Bn, 0, none⟩)] pairV (KeepP n₀) (fun ys => ys = pairsL m R m) (fun pre => pre <+: pairsL m R m) (pairsL m R m).length w := fun l J Jx W hW hJ _ hY h0 =>
 relEach1_in n hn l Bn n₀ lo hi p m R hg hlo J Jx (fun s A B hs hg' => hJ s A B none hs hg' (by simp)) hY W (ht.below (hW.mono hn₀) hg) ((hW.cell (p := ⟨Bn, 0, none⟩) hBn).trans hc) (Nat.le_trans hn₀ hW.size)
  (hR.kept hW.size fun i _ h2 => hW.block i (by omega)) h0

end Go.Proofs.YtnknejokneddbaaGreatDoor
/-! The contract of Pairs of package rel: a new slice of the pairs, rising. -/
namespace Go.Proofs.YtnknejokneddbaaGreatDoor
open Go.RowKit Go.Shelf
attribute [local go_sem] Oper.semAt_some

theorem Tryz.info88 : (Tryz.prog.info? 88).map (fun i => (i.zero, i.size, i.bytes)) = some (some (.agg #[.int .i64 0, .int .i64 0]), 2, 16) := by kernel_rfl

theorem keepP_t {n₀ : Nat} {A B C : World} (h : KeepP n₀ A B) (k : KeepP n₀ B C) : KeepP n₀ A C := ⟨h.1.trans k.1, h.2.trans k.2⟩
theorem keepP_b {w : World} {n₀ : Nat} (hn : n₀ ≤ w.heap.size) (W : World) (l : Nat) (o o' : Obj) (hl : w.heap.size ≤ l) (hw : W.heap[l]? = some o) (hc : o.isCells = false) (hk : o.isWalk = false) : KeepP n₀ W (W.putObj l o') := by
 refine ⟨belowK_b hn W l o o' hl hw hc hk, fun g cur hg => ?_⟩
 have hne : g ≠ l := fun e => by subst e; rw [hg] at hw; cases hw; cases hc
 exact (World.putObj_heap_other hne).trans hg

/-- Behind an append to a row of pairs that a box holds rows of ints lie as they lay. -/
theorem keepI_appended {W w1 : World} {n₀ B k : Nat} {v u v' : Value} {xs : List Value} {tmp : Obj} (hv : Boxed W B 33 u) (hrow : W.ownsRow n₀ 88 2 v k xs) (hgrow : (W.alloc tmp).grownBy w1 v.ownBlock) : KeepI W (w1.setCell ⟨B, 0, none⟩ v') := by
 intro g cur hg
 have hlt : g < W.heap.size := (Array.getElem?_eq_some_iff.1 hg).1
 have h1 : (W.alloc tmp).heap[g]? = some (.cells cur 3 (0, 0)) := ((World.grownBy_alloc W tmp none).block g hlt (by simp)).trans hg
 have hne : some g ≠ v.ownBlock := by
  rcases hrow.2 with ⟨rfl, _⟩ | ⟨g', cap, cur', rfl, _, hgb, _⟩
  ·simp [Value.ownBlock]
  ·intro e
   obtain rfl : g = g' := by simpa [Value.ownBlock] using e
   rw [hg] at hgb
   simp at hgb
 have h2 : w1.heap[g]? = some (.cells cur 3 (0, 0)) := (hgrow.block g (by simp; omega) hne).trans h1
 have hneB : g ≠ B := fun e => by
  subst e
  rw [show W.heap[g]? = _ from hv] at hg
  simp at hg
 exact (Below.heap_setCell _ _ _ _ hneB).trans h2

theorem cell_two_new (w : World) (x y : Value) (t : TypeId) : ∀ j u, [x, y][j]? = some u → (w.alloc (.cells #[x, y] t)).cell? ((⟨w.heap.size, 0, none⟩ : Addr).add j) = some u := by
 intro j u hu
 have hadd : (⟨w.heap.size, 0, none⟩ : Addr).add j = ⟨w.heap.size, j, none⟩ := by unfold Addr.add; split <;> simp_all
 rw [hadd]
 match j, hu with
 | 0, hu => simpa using hu
 | 1, hu => simpa using hu
 | j + 2, hu => simp at hu

/-- The loop's variable, in a block of its own. -/
def PairBox (x : Int × Int) (B : Nat) (W : World) : Prop := W.heap[B]? = some (.cells #[.int .i64 x.1, .int .i64 x.2] 88 (0, 0))

/-- What hands back a new slice of pairs, a row of its own. -/
def PairsPostO (l : List (Int × Int)) (w : World) (e : Ending) (w' : World) : Prop :=
 ∃ v, e = .returned v ∧ w'.ownsRow w.heap.size 88 2 v l.length (pcells l) ∧ w.grownBy w' none
theorem PairsPostO.plain {l : List (Int × Int)} {w w' : World} {e : Ending} (h : PairsPostO l w e w') : PairsPost l w e w' := by
 obtain ⟨v, rfl, hr, hg⟩ := h
 obtain ⟨p, c, rfl, hp⟩ := pairsAt_own hr
 exact ⟨p, c, rfl, hp, hg⟩

set_option maxRecDepth 100000 in
set_option maxHeartbeats 4000000 in
theorem relPairs_in (n : Nat) (hn : 6 ≤ n) (lo hi p m : Nat) (R : Nat → Nat → Bool) (w : World) (hR : IsRel w lo hi p m R) (ht : Tab w) :
  CallsIn Fence.wide n Tryz.prog 64 #[.pointer (some ⟨p, 0, none⟩)] w (PairsPostO (pairsL m R m) w) := by
 have h1 : 1 ≤ n := by omega
 have hro : Fence.wide.round = none := rfl
 obtain ⟨i0, hi', hz0, hz1, hz2⟩ := info_parts Tryz.info88
 have hm := hR.small
 have HR := Lib.hid hR
 have HT := Lib.hid ht
 obtain ⟨_, _, pb, bs, ws, h3⟩ := hR
 obtain ⟨cap, hc⟩ := h3.c0
 have H3 := Lib.hid h3
 clear h3 ht
 have hmk := fun (c : Nat) (hc : c ≤ 40000) (w1 : World) => run_make (P := Tryz.prog) w1 33 88 i0 (.agg #[.int .i64 0, .int .i64 0]) Tryz.underlying33 hi' hz0 .i64 .i64 0 (c : Int) (by omega) (by omega) (by rw [hz2]; omega) (by omega)
 simp only [hz1, Int.toNat_zero, Int.toNat_natCast] at hmk
 have HMK := Lib.hid hmk
 clear hmk
 refine callsIn_of_wp_marks Tryz.func64 rfl trivial ?_ hro
 simp only [Tryz.ntmps64, List.size_toArray, List.length_cons, List.length_nil, Nat.reduceAdd, Nat.reduceSub, Array.replicate_succ, Array.replicate_zero, List.push_toArray, List.append_toArray, List.nil_append, List.cons_append]
 gi_wp2
 gi_loop [3, 13] (fun t i => ∃ k : Nat, k ≤ m ∧ i = .int .i64 k ∧ t = .int .i64 (pairsL m R k).length) (fun _ i => m - (intOf i).toNat)
 case atStart => exact ⟨0, Nat.zero_le _, rfl, rfl⟩
 case round =>
  obtain ⟨k, hk, rfl, rfl⟩ := hrel
  by_cases hkm : k < m
  ·have hcp := H3.out.cp k hkm
   have hrow := Lib.hid (H3.out.row k hkm)
   have HC := Lib.hid (pairsL_count m R k)
   have hle := pairsL_len m R k
   have hle2 : (pairsL m R k).length ≤ 40000 := by
    have : k * m ≤ 200 * 200 := Nat.mul_le_mul (by omega) hm
    omega
   have hl2 : (onL (R k) m).length ≤ 200 := Nat.le_trans (onL_le _ _) hm
   clear hle
   generalize hP : (pairsL m R k).length = pl at *
   clear hP
   gi_wp2_with fail
   refine ⟨trivial, ?_⟩
   refine (callsIn_wide.2 (count_c (bs k) (ws k) m (R k) _ (by exact hrow.out))).mono ?_
   rintro e w9 ⟨rfl, h9⟩
   subst w9
   generalize hO : (onL (R k) m).length = ol at *
   clear hO
   gi_wp2
   exact ⟨⟨k + 1, by omega, by go_num, by rw [HC.out]; go_num⟩, by simp [intOf]; omega⟩
  ·obtain rfl : k = m := by omega
   have hle2 : (pairsL k R k).length ≤ 40000 := by
    have := pairsL_len k R k
    have : k * k ≤ 200 * 200 := Nat.mul_le_mul hm hm
    omega
   have hmk := HMK.out _ hle2
   generalize hC : (pairsL k R k).length = c at *
   have HC := Lib.hid hC
   clear hC
   gi_wp2_with (refine ⟨trivial, ?_⟩; gi_at_call 104; refine (relEach_in (n - 1) _ _).mono ?_; rintro e w9 ⟨rfl, rfl⟩)
   have bO := Boxed.new (w.alloc (.cells (madeCells #[.int .i64 0, .int .i64 0] (c * 2)) 88)) 33 (.slice (some ⟨w.heap.size, 0, none⟩) 0 c)
   rw [World.size_alloc] at bO
   have bN := Boxed.new ((w.alloc (.cells (madeCells #[.int .i64 0, .int .i64 0] (c * 2)) 88)).alloc (.cells #[.slice (some ⟨w.heap.size, 0, none⟩) 0 c] 33)) 104 (.pointer (some ⟨p, 0, none⟩))
   rw [World.size_alloc, World.size_alloc] at bN
   have hown0 : (w.alloc (.cells (madeCells #[.int .i64 0, .int .i64 0] (c * 2)) 88)).ownsRow w.heap.size 88 2 (.slice (some ⟨w.heap.size, 0, none⟩) 0 c) 0 [] :=
    World.ownsRow_made w _ c (Nat.le_refl _) (by unfold maxLen; omega) (by rw [size_madeCells])
   have hB0 : Below w.heap.size w (((w.alloc (.cells (madeCells #[.int .i64 0, .int .i64 0] (c * 2)) 88)).alloc (.cells #[.slice (some ⟨w.heap.size, 0, none⟩) 0 c] 33)).alloc (.cells #[.pointer (some ⟨p, 0, none⟩)] 104)) :=
    (((Below.refl _ w).alloc (Nat.le_refl _) _).alloc (by simp) _).alloc (by simp; omega) _
   have hr3 := HR.out.calm (below_grownBy hB0)
   have ht3 := HT.out.grown (below_grownBy hB0) (by simp)
   have htop := HR.out.top
   refine wpIn_rangeFunc_ownH hro h1 (gf := 150) (lb := #[.pointer (some ⟨w.heap.size + 1 + 1, 0, none⟩)]) rfl trivial (enters_of Tryz.func150 (by kernel_rfl) rfl)
    (relEach_stops (n - 1) (by omega) (w.heap.size + 1 + 1) w.heap.size lo hi p k R _ hr3 ht3 htop HT.out.1 (by simp) (by simp; omega) bN.cell) keepP_t (keepP_b (by simp; omega)) (Below.refl _ _) (fun _ => rfl)
    (fun pre W => (∃ v, Boxed W (w.heap.size + 1) 33 v ∧ W.ownsRow w.heap.size 88 2 v pre.length (pcells pre) ∧ True) ∧ Below w.heap.size w W)
    (fun _ _ _ => False)
    (OwnFrom.and (Own.from (holdsRow_own w.heap.size (w.heap.size + 1) 33 88 2 (fun pre : List (Int × Int) => pre.length) pcells (fun _ _ => True)) _) (ownFrom_below (Nat.le_refl _) (by simp; omega)))
    (fun _ _ _ _ _ hs _ _ => hs)
    ⟨⟨_, bO.alloc _, (hown0.alloc _).alloc _, trivial⟩, hB0⟩
    (fun x a' W => ∃ B, PairBox x B W ∧ w.heap.size < B ∧ B ≠ w.heap.size + 1 ∧ a' = { tmps := #[.pointer (some ⟨p, 0, none⟩), undef, .slice none 0 0, .int .i64 c, undef, u5, .pointer (some ⟨w.heap.size + 1, 0, none⟩), .pointer (some ⟨B, 0, none⟩), .pointer (some ⟨p, 0, none⟩), .pointer (some ⟨p, 0, none⟩), .pointer (some ⟨p, 0, none⟩), .slice (some ⟨pb, 0, none⟩) k cap, .int .i64 k, .int .i64 k, .bool false, u15, u16, u17, u18, u19, u20, u21, .int .i64 c, .slice (some ⟨w.heap.size, 0, none⟩) 0 c, .pointer (some ⟨p, 0, none⟩), .func (.func 150) #[] #[.pointer (some ⟨w.heap.size + 1 + 1, 0, none⟩)], .agg #[.int .i64 x.1, .int .i64 x.2], undef, undef, undef, undef, undef], defers := [] })
    ?hAx ?assign ?body ?done ?stop
   case hAx =>
    rintro x a' _ A B row ⟨b, hb, h2, h3, h4⟩ hg hrow
    refine ⟨b, (hg.block b (Array.getElem?_eq_some_iff.1 hb).1 fun e => ?_).trans hb, h2, h3, h4⟩
    obtain ⟨_, o, ho, hoc⟩ := hrow b e.symm
    rw [show A.heap[b]? = _ from hb] at ho
    cases ho
    cases hoc
   case assign =>
    intro l pre x W K hI hK
    have HK := Lib.hid hK
    clear hK
    unfold pairV
    gi_wp2
    obtain ⟨⟨v, hv, hrow, _⟩, hB⟩ := hI
    have hlt := hv.lt
    refine HK.out _ _ ((KeepsOthers.alloc W _).from _) ⟨(Below.refl _ W).alloc hB.size _, KeepI.calm (World.grownBy_alloc W _ none)⟩ ⟨⟨v, hv.alloc _, hrow.alloc _, trivial⟩, hB.alloc hB.size _⟩ ⟨W.heap.size, World.alloc_heap_new W _, by omega, by omega, rfl⟩
   case body =>
    rintro l pre x a' W hl hlr ⟨⟨v, hv, hrow, _⟩, hB⟩ ⟨b, hb, hb2, hb3, rfl⟩ hlt
    have hcv := hv.cell
    have hx1 : W.cell? ⟨b, 0, none⟩ = some (.int .i64 x.1) := by simp [World.cell?, show W.heap[b]? = _ from hb]
    have hx2 : W.cell? ⟨b, 1, none⟩ = some (.int .i64 x.2) := by simp [World.cell?, show W.heap[b]? = _ from hb]
    have hpl : pre.length < 40000 := by rw [HC.out] at hlt; omega
    gi_wp2_with (gi_at_builtin; refine wpListIn_append_own _ rfl _ _ 33 rfl w.heap.size 88 i0 (.agg #[.int .i64 0, .int .i64 0]) 2 16 Tryz.underlying33 hi' hz0 hz1 hz2 rfl (by decide) _ _ _ rfl (hrow.alloc _) ⟨W.heap.size, 0, none⟩ 1 1 [.int .i64 x.1, .int .i64 x.2] rfl rfl (cell_two_new _ _ _ _) (by simp [Value.oneCell']) (by unfold maxLen; omega) (by omega) (by have := hB.size; simp; omega) ?_; intro v' w1 hown' hgrow _; obtain ⟨g', cap', rfl⟩ := ownsRow_succ hown'; obtain ⟨hv1, hv2, hr2, hk2, hb2⟩ := hv.appended (by decide) hrow hB.size (by omega) hown' hgrow; have hki := keepI_appended (v' := .slice (some ⟨g', 0, none⟩) (pre.length + 1) cap') hv hrow hgrow; have hc1 := hv1.cell; have hf1 := hv1.frozen)
    exact ⟨hk2.from _, ⟨hb2, hki⟩, ⟨_, hv2, by rw [pcells_snoc]; simpa using hr2, trivial⟩, hB.trans hb2⟩
   case done =>
    rintro D ys W hD rfl ⟨⟨v, hv, hrow, _⟩, hB⟩ hK
    have hc := hv.cell
    gi_wp2
    refine ⟨by simp, .inl ⟨_, _, rfl, run_takeDeferred hK, ?_⟩⟩
    exact ⟨_, results_tmp rfl _ _ _, _, rfl, ownsRow_putObj hrow _ hK rfl, below_grownBy (hB.trans (belowK_b (w := w) (Nat.le_refl _) W D _ _ (by simp at hD; omega) hK rfl rfl))⟩
   case stop =>
    rintro D c pre W _ _ h _
    exact h.elim

theorem relPairs_o (lo hi p m : Nat) (R : Nat → Nat → Bool) (w : World) (hR : IsRel w lo hi p m R) (ht : Tab w) :
  Calls Tryz.prog 64 #[.pointer (some ⟨p, 0, none⟩)] w (PairsPostO (pairsL m R m) w) :=
 callsIn_wide.1 (relPairs_in 6 (Nat.le_refl _) lo hi p m R w hR ht)

end Go.Proofs.YtnknejokneddbaaGreatDoor
/-! The contracts of Of and Only of package rel. -/
namespace Go.Proofs.YtnknejokneddbaaGreatDoor
open Go.RowKit

end Go.Proofs.YtnknejokneddbaaGreatDoor
