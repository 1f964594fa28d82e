/- A relation in memory: a row of pointers to rows of bits; and the contracts of the functions of package rel that only ask. -/
import Derived.Test.YtdolcdededmlhaaDoorOrSelf
import Derived.Test.YtdolcdededmlhaaDoorAll
import Derived.Test.YtdolcdededmlhaaDoorClo
namespace Go.Proofs.YtdolcdededmlhaaDoor
open Go.RowKit

/-- All blocks that were there are as they were, but those from lo to hi. -/
structure Kept (lo hi : Nat) (w w' : World) : Prop where
  os : w'.os = w.os
  tape : w'.tape = w.tape
  output : w'.output = w.output
  size : w.heap.size ≤ w'.heap.size
  block : ∀ i, i < w.heap.size → ¬ (lo ≤ i ∧ i < hi) → w'.heap[i]? = w.heap[i]?

theorem Kept.refl (lo hi : Nat) (w : World) : Kept lo hi w w := ⟨rfl, rfl, rfl, Nat.le_refl _, fun _ _ _ => rfl⟩
theorem Kept.trans {lo hi : Nat} {a b c : World} (h : Kept lo hi a b) (k : Kept lo hi b c) : Kept lo hi a c :=
  ⟨k.os.trans h.os, k.tape.trans h.tape, k.output.trans h.output, Nat.le_trans h.size k.size, fun i hi hr => (k.block i (Nat.lt_of_lt_of_le hi h.size) hr).trans (h.block i hi hr)⟩
theorem Kept.row {lo hi r : Nat} {w w' : World} (h : w.grownBy w' (some r)) (h1 : lo ≤ r) (h2 : r < hi) : Kept lo hi w w' :=
  ⟨h.os, h.tape, h.output, h.size, fun i hi hn => h.block i hi (fun e => hn (by cases e; exact ⟨h1, h2⟩))⟩
theorem Kept.calm {lo hi : Nat} {w w' : World} (h : w.grownBy w' none) : Kept lo hi w w' :=
  ⟨h.os, h.tape, h.output, h.size, fun i hi _ => h.block i hi (by simp)⟩
/-- What was turned lay beyond the world where we began. -/
theorem Kept.new {lo hi : Nat} {a b c : World} (h : a.grownBy b none) (k : Kept lo hi b c) (hl : a.heap.size ≤ lo) : a.grownBy c none :=
  ⟨k.os.trans h.os, k.tape.trans h.tape, k.output.trans h.output, Nat.le_trans h.size k.size, fun i hi _ => (k.block i (Nat.lt_of_lt_of_le hi h.size) (by omega)).trans (h.block i hi (by simp))⟩
theorem Kept.outer {lo hi lo' hi' : Nat} {w w' : World} (h : Kept lo hi w w') (h1 : lo' ≤ lo) (h2 : hi ≤ hi') : Kept lo' hi' w w' :=
  ⟨h.os, h.tape, h.output, h.size, fun i hi hn => h.block i hi (by omega)⟩
theorem Kept.cell {lo hi : Nat} {w w' : World} (h : Kept lo hi w w') {b o : Nat} {v : Value} (hc : w.cell? ⟨b, o, none⟩ = some v) (hb : b < w.heap.size) (hn : ¬ (lo ≤ b ∧ b < hi)) : w'.cell? ⟨b, o, none⟩ = some v :=
  (World.cell?_of_block (a := ⟨b, o, none⟩) (h.block b hb hn)).trans hc

/-- The first k rows of a relation of n elements that lies in the blocks from lo to hi. -/
structure Rows' (w : World) (lo hi p pb n k : Nat) (bs ws : Nat → Nat) (R : Nat → Nat → Bool) : Prop where
  top : hi ≤ w.heap.size
  p1 : lo ≤ p
  p2 : p < hi
  q1 : lo ≤ pb
  q2 : pb < hi
  pq : p ≠ pb
  c0 : ∃ cap, w.cell? ⟨p, 0, none⟩ = some (.slice (some ⟨pb, 0, none⟩) n cap)
  cp : ∀ a, a < k → w.cell? ⟨pb, a, none⟩ = some (.pointer (some ⟨bs a, 0, none⟩))
  row : ∀ a, a < k → IsSet w (bs a) (ws a) n (R a)
  inb : ∀ a, a < k → lo ≤ bs a ∧ bs a < hi ∧ lo ≤ ws a ∧ ws a < hi
  ap : ∀ a, a < k → ws a ≠ p ∧ ws a ≠ pb ∧ bs a ≠ pb
  ap2 : ∀ a, a < k → ∀ c, c < k → ws a ≠ bs c ∧ (a ≠ c → ws a ≠ ws c)

/-- A relation of n elements at block p, in the blocks from lo to hi. -/
def IsRel (w : World) (lo hi p n : Nat) (R : Nat → Nat → Bool) : Prop := n ≤ 200 ∧ Supp n R ∧ ∃ pb bs ws, Rows' w lo hi p pb n n bs ws R

theorem Rows'.kept {w w' : World} {lo hi p pb n k : Nat} {bs ws : Nat → Nat} {R : Nat → Nat → Bool} (h : Rows' w lo hi p pb n k bs ws R) (hs : w.heap.size ≤ w'.heap.size) (hb : ∀ i, lo ≤ i → i < hi → w'.heap[i]? = w.heap[i]?) : Rows' w' lo hi p pb n k bs ws R := by
  obtain ⟨cap, hc⟩ := h.c0
  refine ⟨Nat.le_trans h.top hs, h.p1, h.p2, h.q1, h.q2, h.pq, ⟨cap, (World.cell?_of_block (a := ⟨p, 0, none⟩) (hb p h.p1 h.p2)).trans hc⟩, fun a ha => (World.cell?_of_block (a := ⟨pb, a, none⟩) (hb pb h.q1 h.q2)).trans (h.cp a ha), fun a ha => ?_, h.inb, h.ap, h.ap2⟩
  obtain ⟨u, hr, ho⟩ := h.row a ha
  obtain ⟨i1, i2, i3, i4⟩ := h.inb a ha
  exact ⟨u, hr.kept hs (hb _ i1 i2) (hb _ i3 i4), ho⟩

theorem IsRel.kept {w w' : World} {lo hi p n : Nat} {R : Nat → Nat → Bool} (h : IsRel w lo hi p n R) (hs : w.heap.size ≤ w'.heap.size) (hb : ∀ i, lo ≤ i → i < hi → w'.heap[i]? = w.heap[i]?) : IsRel w' lo hi p n R := by
  obtain ⟨h1, h2, pb, bs, ws, h3⟩ := h
  exact ⟨h1, h2, pb, bs, ws, h3.kept hs hb⟩

theorem IsRel.top {w : World} {lo hi p n : Nat} {R : Nat → Nat → Bool} (h : IsRel w lo hi p n R) : hi ≤ w.heap.size := by
  obtain ⟨_, _, _, _, _, h3⟩ := h
  exact h3.top
theorem IsRel.small {w : World} {lo hi p n : Nat} {R : Nat → Nat → Bool} (h : IsRel w lo hi p n R) : n ≤ 200 := h.1
theorem IsRel.supp {w : World} {lo hi p n : Nat} {R : Nat → Nat → Bool} (h : IsRel w lo hi p n R) : Supp n R := h.2.1
theorem IsRel.lt {w : World} {lo hi p n : Nat} {R : Nat → Nat → Bool} (h : IsRel w lo hi p n R) : lo < hi := by
  obtain ⟨_, _, _, _, _, h3⟩ := h
  have := h3.p1; have := h3.p2; omega

/-- Nothing that lay has turned. -/
theorem IsRel.calm {w w' : World} {lo hi p n : Nat} {R : Nat → Nat → Bool} (h : IsRel w lo hi p n R) (hg : w.grownBy w' none) : IsRel w' lo hi p n R :=
  h.kept hg.size fun i _ h2 => hg.block i (Nat.lt_of_lt_of_le h2 h.top) (by simp)
/-- Another one has turned. -/
theorem IsRel.apart {w w' : World} {lo hi p n lo' hi' : Nat} {R : Nat → Nat → Bool} (h : IsRel w lo hi p n R) (hg : Kept lo' hi' w w') (hd : hi ≤ lo' ∨ hi' ≤ lo) : IsRel w' lo hi p n R :=
  h.kept hg.size fun i h1 h2 => hg.block i (Nat.lt_of_lt_of_le h2 h.top) (by omega)

theorem Rows'.wider {w : World} {lo hi p pb n k hi' lo' : Nat} {bs ws : Nat → Nat} {R : Nat → Nat → Bool} (h : Rows' w lo hi p pb n k bs ws R) (h1 : hi ≤ hi') (h2 : hi' ≤ w.heap.size) (h3 : lo' ≤ lo) : Rows' w lo' hi' p pb n k bs ws R := by
  refine ⟨h2, Nat.le_trans h3 h.p1, Nat.lt_of_lt_of_le h.p2 h1, Nat.le_trans h3 h.q1, Nat.lt_of_lt_of_le h.q2 h1, h.pq, h.c0, h.cp, h.row, fun a ha => ?_, h.ap, h.ap2⟩
  have := h.inb a ha
  omega
theorem IsRel.wider {w : World} {lo hi p n : Nat} {R : Nat → Nat → Bool} (h : IsRel w lo hi p n R) {hi' : Nat} (h1 : hi ≤ hi') (h2 : hi' ≤ w.heap.size := by exact Nat.le_refl _) : IsRel w lo hi' p n R := by
  obtain ⟨a1, a2, pb, bs, ws, a3⟩ := h
  exact ⟨a1, a2, pb, bs, ws, a3.wider h1 h2 (Nat.le_refl _)⟩

theorem IsRel.outer {w : World} {lo hi p n : Nat} {R : Nat → Nat → Bool} (h : IsRel w lo hi p n R) {lo' : Nat} (h3 : lo' ≤ lo) (h1 : hi ≤ w.heap.size) : IsRel w lo' w.heap.size p n R := by
  obtain ⟨a1, a2, pb, bs, ws, a3⟩ := h
  exact ⟨a1, a2, pb, bs, ws, a3.wider h1 (Nat.le_refl _) h3⟩

/-- The rows of a relation are turned to others, within. -/
theorem Rows'.put {w w' : World} {lo hi p pb n k : Nat} {bs ws : Nat → Nat} {R T : Nat → Nat → Bool} (h : Rows' w lo hi p pb n k bs ws R) {a : Nat} (ha : a < k) (hg : w.grownBy w' (some (ws a))) (hs : IsSet w' (bs a) (ws a) n (T a)) (ht : ∀ x, x ≠ a → T x = R x) : Rows' w' lo hi p pb n k bs ws T := by
  obtain ⟨cap, hc⟩ := h.c0
  obtain ⟨a1, a2, a3⟩ := h.ap a ha
  obtain ⟨i1, i2, i3, i4⟩ := h.inb a ha
  have htop := h.top
  have hp2 := h.p2
  have hq2 := h.q2
  refine ⟨Nat.le_trans h.top hg.size, h.p1, h.p2, h.q1, h.q2, h.pq, ⟨cap, (World.cell?_of_block (a := ⟨p, 0, none⟩) (hg.block p (by omega) (fun e => a1 (Option.some.inj e).symm))).trans hc⟩, fun x hx => (World.cell?_of_block (a := ⟨pb, x, none⟩) (hg.block pb (by omega) (fun e => a2 (Option.some.inj e).symm))).trans (h.cp x hx), fun x hx => ?_, h.inb, h.ap, h.ap2⟩
  by_cases e : x = a
  · subst e; exact hs
  · rw [ht x e]
    obtain ⟨b1, b2⟩ := h.ap2 a ha x hx
    exact (h.row x hx).grown hg (fun e' => b1 (Option.some.inj e').symm) (fun e' => b2 (fun e3 => e e3.symm) (Option.some.inj e').symm)

/-- Whether a is ahead of b. -/
def hasI (n : Nat) (R : Nat → Nat → Bool) (a b : Int) : Bool := (decide (0 ≤ a) && decide (a < n)) && (decide (0 ≤ b) && decide (b < n) && R a.toNat b.toNat)

theorem isEl_yes (p pb n cap : Nat) (i : Int) (w : World) (hc : w.cell? ⟨p, 0, none⟩ = some (.slice (some ⟨pb, 0, none⟩) n cap)) (h0 : 0 ≤ i) (h1 : i < n) : Calls Tryd.prog 41 #[.pointer (some ⟨p, 0, none⟩), .int .i64 i] w fun e w' => e = .returned (.bool true) ∧ w' = w := by
  go_enter Tryd.func41, Tryd.ntmps41
  go_wp2
  go_ret
  exact ⟨rfl, rfl⟩

theorem isEl_no (p pb n cap : Nat) (i : Int) (w : World) (hc : w.cell? ⟨p, 0, none⟩ = some (.slice (some ⟨pb, 0, none⟩) n cap)) (h : i < 0 ∨ (n : Int) ≤ i) : Calls Tryd.prog 41 #[.pointer (some ⟨p, 0, none⟩), .int .i64 i] w fun e w' => e = .returned (.bool false) ∧ w' = w := by
  by_cases h0 : i < 0
  · clear h
    go_enter Tryd.func41, Tryd.ntmps41
    go_wp2
    go_ret
    exact ⟨rfl, rfl⟩
  · have h1 : 0 ≤ i := by omega
    have h2 : decide (i < n) = false := by simp; omega
    clear h
    go_enter Tryd.func41, Tryd.ntmps41
    go_wp2
    go_ret
    exact ⟨rfl, rfl⟩

theorem relLen_c (lo hi p n : Nat) (R : Nat → Nat → Bool) (w : World) (h : IsRel w lo hi p n R) : Calls Tryd.prog 13 #[.pointer (some ⟨p, 0, none⟩)] w fun e w' => e = .returned (.int .i64 n) ∧ w' = w := by
  obtain ⟨_, _, pb, bs, ws, h3⟩ := h
  obtain ⟨cap, hc⟩ := h3.c0
  clear h3
  go_enter Tryd.func13, Tryd.ntmps13
  go_wp2
  go_ret
  exact ⟨rfl, rfl⟩

set_option maxHeartbeats 400000 in
theorem relHas_c (lo hi p n : Nat) (a b : Int) (R : Nat → Nat → Bool) (w : World) (h : IsRel w lo hi p n R) : Calls Tryd.prog 28 #[.pointer (some ⟨p, 0, none⟩), .int .i64 a, .int .i64 b] w fun e w' => e = .returned (.bool (hasI n R a b)) ∧ ∃ m, w' = w.drewN m := by
  obtain ⟨_, _, pb, bs, ws, h3⟩ := h
  obtain ⟨cap, hc⟩ := h3.c0
  by_cases ha : 0 ≤ a ∧ a < n
  · obtain ⟨i, rfl⟩ := Int.eq_ofNat_of_zero_le ha.1
    have hi' : i < n := by omega
    have hcp := h3.cp i hi'
    have hrow := Lib.hid (h3.row i hi')
    have he : hasI n R (i : Int) b = hasS (R i) n b := by
      unfold hasI hasS
      simp [hi']
    rw [he]
    clear h3 he
    go_enter Tryd.func28, Tryd.ntmps28
    go_wp2_with fail
    refine (isEl_yes p pb n cap _ _ hc ha.1 ha.2).mono ?_
    rintro e w' ⟨rfl, h9⟩
    subst w'
    go_wp2_with fail
    refine (has_c (bs i) (ws i) n b (R i) _ hrow.out).mono ?_
    rintro e w' ⟨rfl, m, rfl⟩
    go_wp2
    go_ret
    exact ⟨rfl, m, rfl⟩
  · have he : hasI n R a b = false := by
      unfold hasI
      have : (decide (0 ≤ a) && decide (a < (n : Int))) = false := by
        rw [Bool.and_eq_false_iff, decide_eq_false_iff_not, decide_eq_false_iff_not]; omega
      rw [this]; rfl
    rw [he]
    have hn' := Lib.hid (show a < 0 ∨ (n : Int) ≤ a by omega)
    clear h3 he ha
    go_enter Tryd.func28, Tryd.ntmps28
    go_wp2_with fail
    refine (isEl_no p pb n cap _ _ hc hn'.out).mono ?_
    rintro e w' ⟨rfl, h9⟩
    subst w'
    go_wp2
    go_ret
    exact ⟨rfl, 0, rfl⟩

end Go.Proofs.YtdolcdededmlhaaDoor
