/- The reference's relations: the contracts of New, Has, Of, Copy, Closure, Same, Pairs, Some. -/
import Derived.Deep.AppendLies
import Derived.Deep.RegionLaw
import Derived.Test.YtemnbkenihldgaaDoorRelb
import Derived.StillTailTactics
/-! The document's relations in memory: a table of marks; the contracts of New, Is, Has of package centoref2. -/
namespace Go.Proofs.YtemnbkenihldgaaDoor
open Go.RowKit

/-- A row of marks in a block of its own. -/
def BoolRow (w : World) (b n : Nat) (S : Nat → Bool) : Prop := ∃ cur : Array Value, w.heap[b]? = some (.cells cur 4 (0, 0)) ∧ ∀ i, i < n → cur[i]? = some (.bool (S i))

theorem BoolRow.kept {w w' : World} {b n : Nat} {S : Nat → Bool} (h : BoolRow w b n S) (e : w'.heap[b]? = w.heap[b]?) : BoolRow w' b n S := by
  obtain ⟨cur, h1, h2⟩ := h
  exact ⟨cur, e.trans h1, h2⟩
theorem BoolRow.cell {w : World} {b n : Nat} {S : Nat → Bool} (h : BoolRow w b n S) {i : Nat} (hi : i < n) : w.cell? ⟨b, i, none⟩ = some (.bool (S i)) := by
  obtain ⟨cur, h1, h2⟩ := h
  simp only [World.cell?, h1]
  exact h2 i hi
theorem BoolRow.free {w : World} {b n : Nat} {S : Nat → Bool} (h : BoolRow w b n S) (i : Nat) : w.frozen? ⟨b, i, none⟩ = false := by
  obtain ⟨cur, h1, h2⟩ := h
  simp only [World.frozen?, h1]
  simp
theorem BoolRow.lt {w : World} {b n : Nat} {S : Nat → Bool} (h : BoolRow w b n S) : b < w.heap.size := by
  obtain ⟨cur, h1, h2⟩ := h
  exact (Array.getElem?_eq_some_iff.1 h1).1
theorem BoolRow.congr {w : World} {b n : Nat} {S T : Nat → Bool} (h : BoolRow w b n S) (e : ∀ i, i < n → S i = T i) : BoolRow w b n T := by
  obtain ⟨cur, h1, h2⟩ := h
  exact ⟨cur, h1, fun i hi => by rw [← e i hi]; exact h2 i hi⟩
theorem BoolRow.set {w : World} {b n : Nat} {S : Nat → Bool} (h : BoolRow w b n S) {i : Nat} (hi : i < n) (v : Bool) : BoolRow (w.setCell ⟨b, i, none⟩ (.bool v)) b n (fun j => if j = i then v else S j) := by
  obtain ⟨cur, h1, h2⟩ := h
  refine ⟨_, heap_setCell_same w b i cur _ _ h1, fun j hj => ?_⟩
  have hl : i < cur.size := (Array.getElem?_eq_some_iff.1 (h2 i hi)).1
  by_cases e : j = i
  · subst e
    simp [hl]
  · show _ = some (Value.bool (if j = i then v else S j))
    rw [if_neg e, ← h2 j hj, Array.getElem?_setIfInBounds_ne (fun e' => e e'.symm)]

/-- The first k rows of a table of n elements. -/
structure Tabl (w : World) (lo hi p n k : Nat) (pm : Option Addr) (cap mb : Nat) (rb : Nat → Nat) (R : Nat → Nat → Bool) : Prop where
  top : hi ≤ w.heap.size
  p1 : lo ≤ p
  p2 : p < hi
  st : w.heap[p]? = some (.cells #[.int .i64 n, .slice pm k cap] 81 (0, 0))
  tab : 0 < k → pm = some ⟨mb, 0, none⟩ ∧ lo ≤ mb ∧ mb < hi ∧ ∃ cur : Array Value, w.heap[mb]? = some (.cells cur 78 (0, 0)) ∧ ∀ a, a < k → cur[a]? = some (.slice (some ⟨rb a, 0, none⟩) n n)
  inb : ∀ a, a < k → lo ≤ rb a ∧ rb a < hi
  row : ∀ a, a < k → BoolRow w (rb a) n (R a)
  inj : ∀ a, a < k → ∀ c, c < k → a ≠ c → rb a ≠ rb c

def IsMat (w : World) (lo hi p n : Nat) (R : Nat → Nat → Bool) : Prop := n ≤ 200 ∧ Supp n R ∧ ∃ pm cap mb rb, Tabl w lo hi p n n pm cap mb rb R

theorem Tabl.kept {w w' : World} {lo hi p n k cap mb : Nat} {pm : Option Addr} {rb : Nat → Nat} {R : Nat → Nat → Bool} (h : Tabl w lo hi p n k pm cap mb rb R) (hs : w.heap.size ≤ w'.heap.size) (hb : ∀ i, lo ≤ i → i < hi → w'.heap[i]? = w.heap[i]?) : Tabl w' lo hi p n k pm cap mb rb R := by
  refine ⟨Nat.le_trans h.top hs, h.p1, h.p2, (hb p h.p1 h.p2).trans h.st, fun hk => ?_, h.inb, fun a ha => (h.row a ha).kept (hb _ (h.inb a ha).1 (h.inb a ha).2), h.inj⟩
  obtain ⟨e1, e2, e3, cur, e4, e5⟩ := h.tab hk
  exact ⟨e1, e2, e3, cur, (hb mb e2 e3).trans e4, e5⟩
theorem IsMat.kept {w w' : World} {lo hi p n : Nat} {R : Nat → Nat → Bool} (h : IsMat w lo hi p n R) (hs : w.heap.size ≤ w'.heap.size) (hb : ∀ i, lo ≤ i → i < hi → w'.heap[i]? = w.heap[i]?) : IsMat w' lo hi p n R := by
  obtain ⟨h1, h2, pm, cap, mb, rb, h3⟩ := h
  exact ⟨h1, h2, pm, cap, mb, rb, h3.kept hs hb⟩
theorem IsMat.top {w : World} {lo hi p n : Nat} {R : Nat → Nat → Bool} (h : IsMat w lo hi p n R) : hi ≤ w.heap.size := by
  obtain ⟨_, _, _, _, _, _, h3⟩ := h
  exact h3.top
theorem IsMat.lt {w : World} {lo hi p n : Nat} {R : Nat → Nat → Bool} (h : IsMat w lo hi p n R) : lo < hi := by
  obtain ⟨_, _, _, _, _, _, h3⟩ := h
  have := h3.p1; have := h3.p2; omega
theorem IsMat.small {w : World} {lo hi p n : Nat} {R : Nat → Nat → Bool} (h : IsMat w lo hi p n R) : n ≤ 200 := h.1
theorem IsMat.supp {w : World} {lo hi p n : Nat} {R : Nat → Nat → Bool} (h : IsMat w lo hi p n R) : Supp n R := h.2.1
theorem IsMat.calm {w w' : World} {lo hi p n : Nat} {R : Nat → Nat → Bool} (h : IsMat w lo hi p n R) (hg : w.grownBy w' none) : IsMat w' lo hi p n R :=
  h.kept hg.size fun i _ h2 => hg.block i (Nat.lt_of_lt_of_le h2 h.top) (by simp)
theorem IsMat.apart {w w' : World} {lo hi p n lo' hi' : Nat} {R : Nat → Nat → Bool} (h : IsMat w lo hi p n R) (hg : Kept lo' hi' w w') (hd : hi ≤ lo' ∨ hi' ≤ lo) : IsMat w' lo hi p n R :=
  h.kept hg.size fun i h1 h2 => hg.block i (Nat.lt_of_lt_of_le h2 h.top) (by omega)
theorem IsMat.outer {w : World} {lo hi p n : Nat} {R : Nat → Nat → Bool} (h : IsMat w lo hi p n R) {lo' : Nat} (h3 : lo' ≤ lo) (h1 : hi ≤ w.heap.size) : IsMat w lo' w.heap.size p n R := by
  obtain ⟨a1, a2, pm, cap, mb, rb, a3⟩ := h
  refine ⟨a1, a2, pm, cap, mb, rb, Nat.le_refl _, by have := a3.p1; omega, by have := a3.p2; omega, a3.st, fun hk => ?_, fun a ha => by have := a3.inb a ha; omega, a3.row, a3.inj⟩
  obtain ⟨e1, e2, e3, e4⟩ := a3.tab hk
  exact ⟨e1, by omega, by omega, e4⟩

theorem Tabl.c0 {w : World} {lo hi p n k cap mb : Nat} {pm : Option Addr} {rb : Nat → Nat} {R : Nat → Nat → Bool} (h : Tabl w lo hi p n k pm cap mb rb R) : w.cell? ⟨p, 0, none⟩ = some (.int .i64 n) := by simp [World.cell?, h.st]
theorem Tabl.c1 {w : World} {lo hi p n k cap mb : Nat} {pm : Option Addr} {rb : Nat → Nat} {R : Nat → Nat → Bool} (h : Tabl w lo hi p n k pm cap mb rb R) : w.cell? ⟨p, 1, none⟩ = some (.slice pm k cap) := by simp [World.cell?, h.st]
theorem Tabl.f1 {w : World} {lo hi p n k cap mb : Nat} {pm : Option Addr} {rb : Nat → Nat} {R : Nat → Nat → Bool} (h : Tabl w lo hi p n k pm cap mb rb R) : w.frozen? ⟨p, 1, none⟩ = false := by simp [World.frozen?, h.st]
theorem Tabl.cm {w : World} {lo hi p n k cap mb : Nat} {pm : Option Addr} {rb : Nat → Nat} {R : Nat → Nat → Bool} (h : Tabl w lo hi p n k pm cap mb rb R) {a : Nat} (ha : a < k) : pm = some ⟨mb, 0, none⟩ ∧ w.cell? ⟨mb, a, none⟩ = some (.slice (some ⟨rb a, 0, none⟩) n n) := by
  obtain ⟨e1, e2, e3, cur, e4, e5⟩ := h.tab (by omega)
  refine ⟨e1, ?_⟩
  simp only [World.cell?, e4]
  exact e5 a ha

/-- A mark is put. -/
theorem Tabl.put {w : World} {lo hi p n k cap mb : Nat} {pm : Option Addr} {rb : Nat → Nat} {R T : Nat → Nat → Bool} (h : Tabl w lo hi p n k pm cap mb rb R) {a b : Nat} (ha : a < k) (hb : b < n) (v : Bool) (hT : ∀ x y, y < n → T x y = if x = a ∧ y = b then v else R x y) :
    Tabl (w.setCell ⟨rb a, b, none⟩ (.bool v)) lo hi p n k pm cap mb rb T := by
  have hgs := grownBy_setCell w ⟨rb a, b, none⟩ (.bool v)
  have hr := h.row a ha
  obtain ⟨cur, hcur, _⟩ := id hr
  have hother : ∀ i o, w.heap[i]? = some o → i ≠ rb a → (w.setCell ⟨rb a, b, none⟩ (.bool v)).heap[i]? = some o := fun i o ho hne => (Below.heap_setCell _ _ _ _ hne).trans ho
  refine ⟨Nat.le_trans h.top hgs.size, h.p1, h.p2, hother _ _ h.st (fun e => by have := h.st; rw [e, hcur] at this; simp at this), fun hk => ?_, h.inb, fun x hx => ?_, h.inj⟩
  · obtain ⟨e1, e2, e3, cur2, e4, e5⟩ := h.tab hk
    exact ⟨e1, e2, e3, cur2, hother _ _ e4 (fun e => by rw [e, hcur] at e4; simp at e4), e5⟩
  · by_cases e : x = a
    · subst e
      refine (hr.set hb v).congr fun i hi => ?_
      rw [hT x i hi]
      simp
    · refine ((h.row x hx).kept (Below.heap_setCell _ _ _ _ (h.inj x hx a ha e))).congr fun i hi => ?_
      rw [hT x i hi, if_neg (by simp [e])]

theorem matIs_yes (p n i : Nat) (w : World) (hc : w.cell? ⟨p, 0, none⟩ = some (.int .i64 n)) (h1 : i < n) : Calls Tryd.prog 54 #[.pointer (some ⟨p, 0, none⟩), .int .i64 i] w fun e w' => e = .returned (.bool true) ∧ w' = w := by
  have a0 : (0 : Int) ≤ i := by omega
  have a1 : (i : Int) < n := by omega
  go_enter Tryd.func54, Tryd.ntmps54
  go_wp2
  go_ret
  exact ⟨rfl, rfl⟩
theorem matIs_no (p n : Nat) (i : Int) (w : World) (hc : w.cell? ⟨p, 0, none⟩ = some (.int .i64 n)) (h : i < 0 ∨ (n : Int) ≤ i) : Calls Tryd.prog 54 #[.pointer (some ⟨p, 0, none⟩), .int .i64 i] w fun e w' => e = .returned (.bool false) ∧ w' = w := by
  by_cases h0 : i < 0
  · clear h
    go_enter Tryd.func54, Tryd.ntmps54
    go_wp2
    go_ret
    exact ⟨rfl, rfl⟩
  · have h1 : 0 ≤ i := by omega
    have h2 : decide (i < (n : Int)) = false := by simp; omega
    clear h
    go_enter Tryd.func54, Tryd.ntmps54
    go_wp2
    go_ret
    exact ⟨rfl, rfl⟩

theorem Tryd.infoB4 : (Tryd.prog.info? 4).map (fun i => (i.zero, i.size, i.bytes)) = some (some (.bool false), 1, 1) := by kernel_rfl
theorem Tryd.infoB78 : (Tryd.prog.info? 78).map (fun i => (i.zero, i.size, i.bytes)) = some (some (.slice none 0 0), 1, 24) := by kernel_rfl

/-- The headers of the rows. -/
def heads (n : Nat) (rb : Nat → Nat) (k : Nat) : List Value := (List.range k).map fun a => .slice (some ⟨rb a, 0, none⟩) n n

/-- A table under way. -/
structure MatUp (w0 w : World) (p n k : Nat) (pm : Option Addr) (cap : Nat) (rb : Nat → Nat) : Prop where
  p1 : w0.heap.size ≤ p
  st : w.heap[p]? = some (.cells #[.int .i64 n, .slice pm k cap] 81 (0, 0))
  own : w.ownsRow w0.heap.size 78 1 (.slice pm k cap) k (heads n rb k)
  inb : ∀ a, a < k → w0.heap.size ≤ rb a
  row : ∀ a, a < k → BoolRow w (rb a) n (fun _ => false)
  inj : ∀ a, a < k → ∀ c, c < k → a ≠ c → rb a ≠ rb c
  grown : w0.grownBy w none

/-- What makes a table of its own. -/
def MatPost (n : Nat) (T : Nat → Nat → Bool) (w : World) (e : Ending) (w' : World) : Prop :=
  ∃ p, e = .returned (.pointer (some ⟨p, 0, none⟩)) ∧ IsMat w' w.heap.size w'.heap.size p n T ∧ w.grownBy w' none

theorem MatUp.end {w0 w : World} {p n cap : Nat} {pm : Option Addr} {rb : Nat → Nat} (h : MatUp w0 w p n n pm cap rb) (hn : n ≤ 200) : IsMat w w0.heap.size w.heap.size p n (fun _ _ => false) ∧ w0.grownBy w none := by
  have hp := (Array.getElem?_eq_some_iff.1 h.st).1
  rcases h.own.2 with ⟨e, h0⟩ | ⟨g, cap', cur, e, hb, hg, _, _, _, ht⟩
  · subst h0
    exact ⟨⟨by omega, supp_none _, pm, cap, 0, rb, Nat.le_refl _, h.p1, hp, h.st, fun hk => by omega, fun a ha => by omega, fun a ha => by omega, fun a ha => by omega⟩, h.grown⟩
  · simp only [Value.slice.injEq, true_and] at e
    obtain ⟨rfl, rfl⟩ := e
    refine ⟨⟨hn, supp_none _, some ⟨g, 0, none⟩, cap, g, rb, Nat.le_refl _, h.p1, hp, h.st, fun _ => ⟨rfl, hb, (Array.getElem?_eq_some_iff.1 hg).1, cur, hg, fun a ha => ?_⟩, fun a ha => ⟨h.inb a ha, (h.row a ha).lt⟩, h.row, h.inj⟩, h.grown⟩
    have e2 : (heads n rb n)[a]? = some (.slice (some ⟨rb a, 0, none⟩) n n) := by
      unfold heads
      rw [List.getElem?_map, List.getElem?_range ha]
      rfl
    rw [← ht, List.getElem?_take_of_lt (by omega), Array.getElem?_toList] at e2
    exact e2

theorem heads_succ (n : Nat) (rb : Nat → Nat) (k : Nat) : heads n rb (k + 1) = heads n rb k ++ [.slice (some ⟨rb k, 0, none⟩) n n] := by
  unfold heads; rw [List.range_succ, List.map_append]; rfl
theorem heads_congr {n : Nat} {rb rc : Nat → Nat} {k : Nat} (h : ∀ a, a < k → rb a = rc a) : heads n rb k = heads n rc k := by
  unfold heads
  apply List.map_congr_left
  intro a ha
  rw [h a (by simpa using ha)]

theorem boolRow_new (w : World) (n : Nat) : BoolRow (w.alloc (.cells (madeCells #[.bool false] n) 4)) w.heap.size n (fun _ => false) :=
  ⟨_, World.alloc_heap_new w _, fun _ hi => made_get _ _ _ hi⟩

/-- A row made and appended. -/
theorem MatUp.step {w0 w w1 : World} {p n k cap cap' g : Nat} {pm : Option Addr} {rb : Nat → Nat} (h : MatUp w0 w p n k pm cap rb)
    (hown : w1.ownsRow w0.heap.size 78 1 (.slice (some ⟨g, 0, none⟩) (k + 1) cap') (k + 1) (heads n rb k ++ [.slice (some ⟨w.heap.size, 0, none⟩) n n]))
    (hgrow : ((w.alloc (Obj.cells (madeCells #[.bool false] n) 4)).alloc (.cells #[.slice (some ⟨w.heap.size, 0, none⟩) n n] 78)).grownBy w1 (Value.slice pm k cap).ownBlock) :
    MatUp w0 (w1.setCell ⟨p, 1, none⟩ (.slice (some ⟨g, 0, none⟩) (k + 1) cap')) p n (k + 1) (some ⟨g, 0, none⟩) cap' (fun a => if a = k then w.heap.size else rb a) := by
  have hsz := h.grown.size
  have hA := grownBy_trans (World.grownBy_alloc w (Obj.cells (madeCells #[.bool false] n) 4) none) (World.grownBy_alloc _ (.cells #[.slice (some ⟨w.heap.size, 0, none⟩) n n] 78) none)
  -- every block of w that is no row of headers lies in w1 as it lay
  have keepA : ∀ (i : Nat) (cur : Array Value) (t : TypeId), ((w.alloc (Obj.cells (madeCells #[.bool false] n) 4)).alloc (.cells #[.slice (some ⟨w.heap.size, 0, none⟩) n n] 78)).heap[i]? = some (.cells cur t (0, 0)) → t ≠ 78 → w1.heap[i]? = some (.cells cur t (0, 0)) := by
    intro i cur t hi ht
    refine (hgrow.block i (Array.getElem?_eq_some_iff.1 hi).1 fun e => ?_).trans hi
    rcases h.own.2 with ⟨e2, _⟩ | ⟨g2, cap2, cur2, e2, _, hg2, _⟩
    · rw [e2] at e; simp [Value.ownBlock] at e
    · rw [e2] at e
      obtain rfl : i = g2 := by simpa [Value.ownBlock] using e
      have := (hA.block i (Array.getElem?_eq_some_iff.1 hg2).1 (by simp)).trans hg2
      rw [hi] at this
      simp at this
      exact ht this.2
  have keepW : ∀ (i : Nat) (cur : Array Value) (t : TypeId), w.heap[i]? = some (.cells cur t (0, 0)) → t ≠ 78 → w1.heap[i]? = some (.cells cur t (0, 0)) := fun i cur t hi ht =>
    keepA i cur t ((hA.block i (Array.getElem?_eq_some_iff.1 hi).1 (by simp)).trans hi) ht
  have hp1 := keepW p _ _ h.st (by decide)
  have hset : ∀ i o, w1.heap[i]? = some o → i ≠ p → (w1.setCell ⟨p, 1, none⟩ (.slice (some ⟨g, 0, none⟩) (k + 1) cap')).heap[i]? = some o := fun i o ho hne => (Below.heap_setCell _ _ _ _ hne).trans ho
  have hnewrow : BoolRow (w1.setCell ⟨p, 1, none⟩ (.slice (some ⟨g, 0, none⟩) (k + 1) cap')) w.heap.size n (fun _ => false) := by
    obtain ⟨cur, hc1, hc2⟩ := boolRow_new w n
    have h2 := ((World.grownBy_alloc _ (.cells #[.slice (some ⟨w.heap.size, 0, none⟩) n n] 78) none).block w.heap.size (by simp) (by simp)).trans hc1
    exact ⟨cur, hset _ _ (keepA _ _ _ h2 (by decide)) (fun e => by have := (Array.getElem?_eq_some_iff.1 h.st).1; omega), hc2⟩
  refine ⟨h.p1, ?_, ?_, ?_, ?_, ?_, ?_⟩
  · rw [heap_setCell_same _ _ _ _ _ _ hp1]
    rfl
  · have e : heads n (fun a => if a = k then w.heap.size else rb a) (k + 1) = heads n rb k ++ [.slice (some ⟨w.heap.size, 0, none⟩) n n] := by
      rw [heads_succ, if_pos rfl, heads_congr (rb := fun a => if a = k then w.heap.size else rb a) (rc := rb) (fun a ha => if_neg (by omega))]
    rw [e]
    refine hown.kept (grownBy_setCell w1 ⟨p, 1, none⟩ _) (.inr fun e => ?_)
    rcases hown.2 with ⟨e2, _⟩ | ⟨g2, cap2, cur2, e2, _, hg2, _⟩
    · cases e2
    · simp only [Value.slice.injEq, Option.some.injEq, Addr.mk.injEq, and_true, true_and] at e2
      obtain ⟨rfl, rfl⟩ := e2
      obtain rfl : g = p := by simpa [Value.ownBlock] using e
      rw [hp1] at hg2
      simp at hg2
  · intro a ha
    by_cases e : a = k
    · simp only [if_pos e]; exact hsz
    · simp only [if_neg e]; exact h.inb a (by omega)
  · intro a ha
    by_cases e : a = k
    · simp only [if_pos e]; exact hnewrow
    · simp only [if_neg e]
      obtain ⟨cur, hc1, hc2⟩ := h.row a (by omega)
      refine ⟨cur, hset _ _ (keepW _ _ _ hc1 (by decide)) (fun e => ?_), hc2⟩
      have := h.st
      rw [← e, hc1] at this
      simp at this
  · intro a ha c hc hne
    by_cases e : a = k
    · subst e
      simp only [if_pos]
      rw [if_neg (fun e => hne e.symm)]
      have := (h.row c (by omega)).lt
      omega
    · simp only [if_neg e]
      by_cases e2 : c = k
      · simp only [if_pos e2]
        have := (h.row a (by omega)).lt
        omega
      · simp only [if_neg e2]
        exact h.inj a (by omega) c (by omega) hne
  · have h1 : w0.grownBy w1 none := by
      have h2 := grownBy_trans h.grown hA
      cases hob : (Value.slice pm k cap).ownBlock with
      | none => rw [hob] at hgrow; exact grownBy_trans h2 hgrow
      | some r => rw [hob] at hgrow; exact grownBy_new h2 hgrow (h.own.lt r hob).1
    exact grownBy_new h1 (grownBy_setCell w1 ⟨p, 1, none⟩ _) h.p1

set_option maxHeartbeats 400000 in
theorem matNew_zero (w : World) : Calls Tryd.prog 41 #[.int .i64 0] w (MatPost 0 (fun _ _ => false) w) := by
  have HS : Hid (MatUp w (w.alloc (.cells #[.int .i64 ((0 : Nat) : Int), .slice none 0 0] 81)) w.heap.size 0 0 none 0 (fun _ => 0)) := Lib.hid ⟨Nat.le_refl _, World.alloc_heap_new w _, World.ownsRow_nil _ _ _ _, fun a ha => by omega, fun a ha => by omega, fun a ha => by omega, World.grownBy_alloc _ _ _⟩
  go_enter Tryd.func41, Tryd.ntmps41
  go_wp2
  go_loop [4] (fun i => i = .int .i64 0) (fun _ => 0)
  case atStart => rfl
  case round =>
    obtain rfl := hrel
    go_wp2
    go_ret
    exact ⟨_, rfl, (HS.out.end (by omega)).1, (HS.out.end (by omega)).2⟩

set_option maxHeartbeats 1000000 in
theorem matNew_pos (n : Nat) (w : World) (hn : n ≤ 200) (hpos : 0 < n) : Calls Tryd.prog 41 #[.int .i64 n] w (MatPost n (fun _ _ => false) w) := by
  have hmk := run_make_row' (P := Tryd.prog) 78 4 (.bool false) 1 Tryd.underlying78 Tryd.infoB4 rfl .i64 .i64 n (by omega) (by omega)
  obtain ⟨i0, hi0, hz0, hz1, hz2⟩ := info_parts Tryd.infoB78
  have h0 : (0 : Int) ≤ n := by omega
  have h1 : (n : Int) ≤ 200 := by omega
  have HS : Hid (MatUp w (w.alloc (.cells #[.int .i64 n, .slice none 0 0] 81)) w.heap.size n 0 none 0 (fun _ => 0)) := Lib.hid ⟨Nat.le_refl _, World.alloc_heap_new w _, World.ownsRow_nil _ _ _ _, fun a ha => by omega, fun a ha => by omega, fun a ha => by omega, World.grownBy_alloc _ _ _⟩
  go_enter Tryd.func41, Tryd.ntmps41
  go_wp2
  go_loopw [4] (fun i wr => ∃ (k : Nat) (pm : Option Addr) (cap : Nat) (rb : Nat → Nat), k ≤ n ∧ i = .int .i64 k ∧ MatUp w wr w.heap.size n k pm cap rb) (fun i _ => n - (intOf i).toNat)
  case atStart => exact ⟨0, none, 0, _, Nat.zero_le _, rfl, HS.out⟩
  case round =>
    obtain ⟨k, pm, cap, rb, hk, rfl, hup⟩ := hrel
    have hc0 : wr.cell? ⟨w.heap.size, 0, none⟩ = some (.int .i64 n) := by simp [World.cell?, hup.st]
    have hc1 : wr.cell? ⟨w.heap.size, 1, none⟩ = some (.slice pm k cap) := by simp [World.cell?, hup.st]
    have hf1 : wr.frozen? ⟨w.heap.size, 1, none⟩ = false := by simp [World.frozen?, hup.st]
    by_cases hkn : k < n
    · have HUP := Lib.hid hup
      have hlt : w.heap.size < wr.heap.size := (Array.getElem?_eq_some_iff.1 hup.st).1
      have hcn := cell_one_new (wr.alloc (.cells (madeCells #[.bool false] n) 4)) (.slice (some ⟨wr.heap.size, 0, none⟩) n n) 78
      rw [World.size_alloc] at hcn
      have HCN := Lib.hid hcn
      have HNE : Hid (some w.heap.size ≠ (Value.slice pm k cap).ownBlock) := Lib.hid (fun e => by
        rcases hup.own.2 with ⟨e2, _⟩ | ⟨g2, cap2, cur2, e2, _, hg2, _⟩
        · rw [e2] at e; simp [Value.ownBlock] at e
        · rw [e2] at e
          obtain rfl : w.heap.size = g2 := by simpa [Value.ownBlock] using e
          rw [hup.st] at hg2
          simp at hg2)
      have hgA := grownBy_trans (World.grownBy_alloc wr (.cells (madeCells #[.bool false] n) 4) none) (World.grownBy_alloc _ (.cells #[.slice (some ⟨wr.heap.size, 0, none⟩) n n] 78) none)
      have HC0 := Lib.hid ((World.cell?_of_block (a := ⟨w.heap.size, 0, none⟩) (hgA.block _ hlt (by simp))).trans hc0)
      have HC1 := Lib.hid ((World.cell?_of_block (a := ⟨w.heap.size, 1, none⟩) (hgA.block _ hlt (by simp))).trans hc1)
      have HF1 := Lib.hid ((World.frozen?_of_block (a := ⟨w.heap.size, 1, none⟩) (hgA.block _ hlt (by simp))).trans hf1)
      have HLT := Lib.hid (Nat.lt_of_lt_of_le hlt hgA.size)
      clear hup hcn hgA
      go_wp2
      go_region_law (first | ((refine step_append_lies _ (by rfl) _ _ _ (by rfl) w.heap.size 78 i0 (.slice none 0 0) 1 24 Tryd.underlying79 hi0 hz0 hz1 hz2 rfl (by decide) (.slice pm k cap) k (heads n rb k) (by rfl) (by exact (HUP.out.own.alloc _).alloc _) ⟨wr.heap.size + 1, 0, none⟩ 1 1 [.slice (some ⟨wr.heap.size, 0, none⟩) n n] (by rfl) rfl (by exact HCN.out) (by simp [Value.oneCell']) (by decide) (by unfold maxLen; omega) (by omega) (by simp; omega) (wr.heap.size + 1 + 1) (by simp) ?_; intro g cap' w1 hown hgrow hat hgl; have hk0 := World.grownBy.cell hgrow (a := ⟨w.heap.size, 0, none⟩) HC0.out HNE.out; have hk1 := World.grownBy.cell hgrow (a := ⟨w.heap.size, 1, none⟩) HC1.out HNE.out; have hkf := (World.frozen?_of_block (a := ⟨w.heap.size, 1, none⟩) (hgrow.block _ HLT.out HNE.out)).trans HF1.out)))
      all_goals go_wp2
      all_goals exact ⟨⟨k + 1, _, _, _, by omega, by go_num, HUP.out.step hown (grownBy_trans (grownBy_drewN _ 1 _) hgrow)⟩, by simp [intOf]; omega⟩
    · obtain rfl : k = n := by omega
      have HE := Lib.hid (hup.end hn)
      clear hup
      go_wp2
      go_ret
      exact ⟨_, rfl, HE.out.1, HE.out.2⟩

theorem matNew_c (n : Nat) (w : World) (hn : n ≤ 200) : Calls Tryd.prog 41 #[.int .i64 n] w (MatPost n (fun _ _ => false) w) := by
  by_cases h : n = 0
  · subst h; exact matNew_zero w
  · exact matNew_pos n w hn (by omega)

end Go.Proofs.YtemnbkenihldgaaDoor
/-! The contracts of Has, Of, Copy, Closure of package centoref2. -/
namespace Go.Proofs.YtemnbkenihldgaaDoor
open Go.RowKit

set_option maxHeartbeats 400000 in
theorem matHas_r (lo hi p n : Nat) (a b : Int) (R : Nat → Nat → Bool) (w : World) (h : IsMat w lo hi p n R) : Calls Tryd.prog 39 #[.pointer (some ⟨p, 0, none⟩), .int .i64 a, .int .i64 b] w fun e w' => e = .returned (.bool (hasI n R a b)) ∧ w' = w := by
  obtain ⟨_, _, pm, cap, mb, rb, h3⟩ := h
  have hc0 := h3.c0
  by_cases ha : 0 ≤ a ∧ a < n
  · obtain ⟨i, rfl⟩ := Int.eq_ofNat_of_zero_le ha.1
    have hi' : i < n := by omega
    by_cases hb : 0 ≤ b ∧ b < n
    · obtain ⟨j, rfl⟩ := Int.eq_ofNat_of_zero_le hb.1
      have hj' : j < n := by omega
      rw [hasI_in (by unfold inI; omega)]
      have hc1 := h3.c1
      obtain ⟨rfl, hcm⟩ := h3.cm hi'
      have hcr := (h3.row i hi').cell hj'
      clear h3
      simp only [Int.toNat_natCast]
      generalize R i j = v at *
      have i0 : (0 : Int) ≤ i := by omega
      have j0 : (0 : Int) ≤ j := by omega
      have i1 : (i : Int) < n := by omega
      have j1 : (j : Int) < n := by omega
      go_enter Tryd.func39, Tryd.ntmps39
      go_wp2_with fail
      refine (matIs_yes p n i _ hc0 hi').mono ?_
      rintro e w' ⟨rfl, h9⟩
      subst w'
      go_wp2_with fail
      refine (matIs_yes p n j _ hc0 hj').mono ?_
      rintro e w' ⟨rfl, h9⟩
      subst w'
      go_wp2
      go_ret
      exact ⟨rfl, rfl⟩
    · have he : hasI n R i b = false := by
        unfold hasI
        have : (decide (0 ≤ b) && decide (b < (n : Int))) = false := by
          rw [Bool.and_eq_false_iff, decide_eq_false_iff_not, decide_eq_false_iff_not]; omega
        rw [this]; simp
      rw [he]
      have hn' := Lib.hid (show b < 0 ∨ (n : Int) ≤ b by omega)
      clear h3 he ha hb
      go_enter Tryd.func39, Tryd.ntmps39
      go_wp2_with fail
      refine (matIs_yes p n i _ hc0 hi').mono ?_
      rintro e w' ⟨rfl, h9⟩
      subst w'
      go_wp2_with fail
      refine (matIs_no p n _ _ hc0 hn'.out).mono ?_
      rintro e w' ⟨rfl, h9⟩
      subst w'
      go_wp2
      go_ret
      exact ⟨rfl, rfl⟩
  · have he : hasI n R a b = false := by
      unfold hasI
      have : (decide (0 ≤ a) && decide (a < (n : Int))) = false := by
        rw [Bool.and_eq_false_iff, decide_eq_false_iff_not, decide_eq_false_iff_not]; omega
      rw [this]; rfl
    rw [he]
    have hn' := Lib.hid (show a < 0 ∨ (n : Int) ≤ a by omega)
    clear h3 he ha
    go_enter Tryd.func39, Tryd.ntmps39
    go_wp2_with fail
    refine (matIs_no p n _ _ hc0 hn'.out).mono ?_
    rintro e w' ⟨rfl, h9⟩
    subst w'
    go_wp2
    go_ret
    exact ⟨rfl, rfl⟩

/-- A mark put in a table. -/
theorem IsMat.put {w : World} {lo hi p n : Nat} {R T : Nat → Nat → Bool} (h : IsMat w lo hi p n R) {a b : Nat} (ha : a < n) (hb : b < n) (v : Bool) (hT : ∀ x y, T x y = if x = a ∧ y = b then v else R x y) (hsT : Supp n T) :
    ∃ pm mb rb cap, pm = some ⟨mb, 0, none⟩ ∧ w.cell? ⟨p, 1, none⟩ = some (.slice pm n cap) ∧ w.cell? ⟨mb, a, none⟩ = some (.slice (some ⟨rb, 0, none⟩) n n) ∧ w.cell? ⟨rb, b, none⟩ = some (.bool (R a b)) ∧ w.frozen? ⟨rb, b, none⟩ = false ∧
      ∀ w' : World, w'.heap = w.heap → w'.os = w.os → w'.tape = w.tape → w'.output = w.output → IsMat (w'.setCell ⟨rb, b, none⟩ (.bool v)) lo hi p n T ∧ Kept lo hi w (w'.setCell ⟨rb, b, none⟩ (.bool v)) := by
  obtain ⟨h1, h2, pm, cap, mb, rb, h3⟩ := h
  obtain ⟨e1, e2⟩ := h3.cm ha
  refine ⟨pm, mb, rb a, cap, e1, h3.c1, e2, (h3.row a ha).cell hb, (h3.row a ha).free b, fun w' hw ho ht hu => ?_⟩
  have h3' : Tabl w' lo hi p n n pm cap mb rb R := h3.kept (by rw [hw]; exact Nat.le_refl _) fun i _ _ => by rw [hw]
  refine ⟨⟨h1, hsT, pm, cap, mb, rb, h3'.put ha hb v fun x y _ => hT x y⟩, ?_⟩
  have hk := Kept.row (lo := lo) (hi := hi) (grownBy_setCell w' ⟨rb a, b, none⟩ (.bool v)) (h3.inb a ha).1 (h3.inb a ha).2
  exact ⟨hk.os.trans ho, hk.tape.trans ht, hk.output.trans hu, by have := hk.size; rw [hw] at this; exact this, fun i hi hn => (hk.block i (by rw [hw]; exact hi) hn).trans (by rw [hw])⟩

/-- A mark of a table. -/
theorem IsMat.get {w : World} {lo hi p n : Nat} {R : Nat → Nat → Bool} (h : IsMat w lo hi p n R) {a b : Nat} (ha : a < n) (hb : b < n) :
    ∃ mb rb cap, w.cell? ⟨p, 1, none⟩ = some (.slice (some ⟨mb, 0, none⟩) n cap) ∧ w.cell? ⟨mb, a, none⟩ = some (.slice (some ⟨rb, 0, none⟩) n n) ∧ w.cell? ⟨rb, b, none⟩ = some (.bool (R a b)) := by
  obtain ⟨h1, h2, pm, cap, mb, rb, h3⟩ := h
  obtain ⟨rfl, e2⟩ := h3.cm ha
  exact ⟨mb, rb a, cap, h3.c1, e2, (h3.row a ha).cell hb⟩
theorem IsMat.c0 {w : World} {lo hi p n : Nat} {R : Nat → Nat → Bool} (h : IsMat w lo hi p n R) : w.cell? ⟨p, 0, none⟩ = some (.int .i64 n) := by
  obtain ⟨h1, h2, pm, cap, mb, rb, h3⟩ := h
  exact h3.c0

theorem addR_put (R : Nat → Nat → Bool) (a b x y : Nat) : addR R a b x y = if x = a ∧ y = b then true else R x y := by
  unfold addR
  by_cases h : x = a ∧ y = b
  · rw [if_pos h]; simp [h.1, h.2]
  · rw [if_neg h]
    have : (decide (x = a) && decide (y = b)) = false := by
      rw [Bool.and_eq_false_iff, decide_eq_false_iff_not, decide_eq_false_iff_not]
      by_cases e : x = a
      · exact .inr fun e2 => h ⟨e, e2⟩
      · exact .inl e
    rw [this, Bool.or_false]

/-- What Of of centoref2 leaves. -/
def MatOfPost (n : Int) (l : List (Int × Int)) (w : World) (e : Ending) (w' : World) : Prop :=
  (ofErr n l = 0 ∧ ∃ p, e = .returned (.tuple #[.pointer (some ⟨p, 0, none⟩), .int .i64 0]) ∧ IsMat w' w.heap.size w'.heap.size p n.toNat (ofL n.toNat l) ∧ w.grownBy w' none) ∨
  (ofErr n l ≠ 0 ∧ e = .returned (.tuple #[.pointer none, .int .i64 (ofErr n l)]) ∧ w.grownBy w' none)

theorem matOf_large (n : Int) (p : Option Addr) (L c : Nat) (l : List (Int × Int)) (w : World) (h : n < 0 ∨ 200 < n) : Calls Tryd.prog 35 #[.int .i64 n, .slice p L c] w (MatOfPost n l w) := by
  have he : ofErr n l = 11 := by unfold ofErr; rw [if_pos h]
  have HE : Hid (MatOfPost n l w (.returned (.tuple #[.pointer none, .int .i64 11])) w) := Lib.hid (.inr ⟨by rw [he]; decide, by rw [he], grownBy_refl _ _⟩)
  clear he
  rcases h with h | h
  · go_enter Tryd.func35, Tryd.ntmps35
    go_wp2
    go_ret2
    exact HE.out
  · have h' : ¬ n < 0 := by omega
    go_enter Tryd.func35, Tryd.ntmps35
    go_wp2
    go_ret2
    exact HE.out

set_option maxHeartbeats 2000000 in
set_option maxRecDepth 20000 in
theorem matOf_mid (n : Nat) (p : Option Addr) (L c lo hi : Nat) (l : List (Int × Int)) (w : World) (hn : n ≤ 200) (hl : PairsAt w lo hi p L l) (hL : L ≤ 1000000) : Calls Tryd.prog 35 #[.int .i64 n, .slice p L c] w (MatOfPost n l w) := by
  have n0 : ¬ ((n : Int) < 0) := by omega
  have n1 : ¬ (200 < (n : Int)) := by omega
  have HOK : Hid (∀ q w', allIn n l = true → IsMat w' w.heap.size w'.heap.size q n (ofL n l) → w.grownBy w' none → MatOfPost n l w (.returned (.tuple #[.pointer (some ⟨q, 0, none⟩), .int .i64 0])) w') := Lib.hid (fun q w' h1 h2 h3 => by
    have he : ofErr n l = 0 := by unfold ofErr; rw [if_neg (by omega), Int.toNat_natCast, h1]; rfl
    exact .inl ⟨he, q, rfl, by rw [Int.toNat_natCast]; exact h2, h3⟩)
  have HNO : Hid (∀ w', allIn n l = false → w.grownBy w' none → MatOfPost n l w (.returned (.tuple #[.pointer none, .int .i64 10])) w') := Lib.hid (fun w' h1 h3 => by
    have he : ofErr n l = 10 := by unfold ofErr; rw [if_neg (by omega), Int.toNat_natCast, h1]; rfl
    exact .inr ⟨by rw [he]; decide, by rw [he], h3⟩)
  have HL := Lib.hid hl
  have HLEN := Lib.hid hl.len
  clear hl
  go_enter Tryd.func35, Tryd.ntmps35
  go_wp2_with fail
  refine (matNew_c n _ hn).mono ?_
  rintro e w1 ⟨q, rfl, hr1, hg1⟩
  have HR1 := Lib.hid hr1
  have HG1 := Lib.hid hg1
  clear hr1 hg1
  go_wp2_with fail
  go_loopw [7] (fun i wr => ∃ k : Nat, k ≤ L ∧ i = .int .i64 k ∧ Hid (allIn n (l.take k) = true) ∧ IsMat wr w.heap.size w1.heap.size q n (ofL n (l.take k)) ∧ w.grownBy wr none) (fun i _ => L - (intOf i).toNat)
  case atStart => exact ⟨0, Nat.zero_le _, rfl, Lib.hid rfl, HR1.out, HG1.out⟩
  case round =>
    obtain ⟨k, hk, rfl, HA, hmat, hgr⟩ := hrel
    by_cases hkL : k < L
    · obtain ⟨b, off, rfl, q1, q2, q3, hcs⟩ := (HL.out.calm hgr).cell (by omega)
      obtain ⟨x1, x2⟩ := hcs k hkL
      have HTA := Lib.hid (allIn_snoc (n := n) (l := l) (k := k) (by rw [HLEN.out]; exact hkL))
      have HTO := Lib.hid (ofL_take (n := n) (l := l) (k := k) (by rw [HLEN.out]; exact hkL))
      have hc0 := hmat.c0
      have HMAT := Lib.hid hmat
      have HGR := Lib.hid hgr
      clear hcs hgr hmat
      generalize l[k]?.getD (0, 0) = x at *
      obtain ⟨x, y⟩ := x
      simp only at x1 x2 HTA
      have k0 : (0 : Int) ≤ k := by omega
      have k1 : (k : Int) < L := by omega
      by_cases hx : 0 ≤ x ∧ x < n
      · obtain ⟨a0, a1⟩ := hx
        obtain ⟨u, rfl⟩ := Int.eq_ofNat_of_zero_le a0
        have hu : u < n := by omega
        by_cases hy : 0 ≤ y ∧ y < n
        · obtain ⟨b0, b1⟩ := hy
          obtain ⟨v, rfl⟩ := Int.eq_ofNat_of_zero_le b0
          have hv : v < n := by omega
          have hin : inI n (u : Int) (v : Int) := ⟨a0, a1, b0, b1⟩
          have hA2 : allIn n (l.take (k + 1)) = true := by rw [HTA.out, HA.out]; simp [hin]
          have HA2 := Lib.hid hA2
          rw [addI_yes hin] at HTO
          simp only [Int.toNat_natCast] at HTO
          obtain ⟨pm, mb, rb, cap, rfl, hc1, hcm, hcr, hfr, hput⟩ := HMAT.out.put (T := addR (ofL n (l.take k)) u v) hu hv true (addR_put _ _ _) (addR_supp HMAT.out.supp hu hv)
          have HPUT := Lib.hid (hput (wr.drewN 1) rfl rfl rfl rfl)
          clear hA2 hin hput
          go_wp2_with fail
          refine (matIs_yes q n u _ hc0 hu).mono ?_
          rintro e w' ⟨rfl, h9⟩
          subst w'
          go_wp2_with fail
          refine (matIs_yes q n v _ hc0 hv).mono ?_
          rintro e w' ⟨rfl, h9⟩
          subst w'
          go_wp2
          refine wp_region_still_tail 17 (by kernel_rfl) (by kernel_rfl) ?_
          simp only [List.take_succ_cons, List.take_zero, List.drop_succ_cons, List.drop_zero]
          repeat still_step
          refine wpStill_nil ?_
          change wpList _ _ _ _ _ wr.drew
          go_wp2
          exact ⟨⟨k + 1, by omega, by go_num, HA2, by rw [HTO.out]; exact HPUT.out.1, Kept.new HGR.out HPUT.out.2 (Nat.le_refl _)⟩, by simp [intOf]; omega⟩
        · have hb' := Lib.hid (show y < 0 ∨ (n : Int) ≤ y by omega)
          have hA2 : allIn n l = false := allIn_take (k := k + 1) (by rw [HTA.out]; have : ¬ inI n (u : Int) y := by unfold inI; omega
                                                                      simp [this])
          have HFIN := Lib.hid (HNO.out _ hA2 HGR.out)
          clear hA2 hy
          go_wp2_with fail
          refine (matIs_yes q n u _ hc0 hu).mono ?_
          rintro e w' ⟨rfl, h9⟩
          subst w'
          go_wp2_with fail
          refine (matIs_no q n _ _ hc0 hb'.out).mono ?_
          rintro e w' ⟨rfl, h9⟩
          subst w'
          go_wp2
          go_ret2
          exact HFIN.out
      · have ha' := Lib.hid (show x < 0 ∨ (n : Int) ≤ x by omega)
        have hA2 : allIn n l = false := allIn_take (k := k + 1) (by rw [HTA.out]; have : ¬ inI n x y := by unfold inI; omega
                                                                    simp [this])
        have HFIN := Lib.hid (HNO.out _ hA2 HGR.out)
        clear hA2 hx
        go_wp2_with fail
        refine (matIs_no q n _ _ hc0 ha'.out).mono ?_
        rintro e w' ⟨rfl, h9⟩
        subst w'
        go_wp2
        go_ret2
        exact HFIN.out
    · obtain rfl : k = L := by omega
      have hta : l.take k = l := List.take_of_length_le (by rw [HLEN.out]; exact Nat.le_refl _)
      rw [hta] at HA hmat
      have HFIN := Lib.hid (HOK.out q wr HA.out (hmat.outer (Nat.le_refl _) hmat.top) hgr)
      clear hmat hgr hta
      go_wp2
      go_ret2
      exact HFIN.out

theorem matOf_c (n : Int) (p : Option Addr) (L c lo hi : Nat) (l : List (Int × Int)) (w : World) (hl : PairsAt w lo hi p L l) (hL : L ≤ 1000000) : Calls Tryd.prog 35 #[.int .i64 n, .slice p L c] w (MatOfPost n l w) := by
  by_cases h : n < 0 ∨ 200 < n
  · exact matOf_large n p L c l w h
  · obtain ⟨m, rfl⟩ := Int.eq_ofNat_of_zero_le (show 0 ≤ n by omega)
    exact matOf_mid m p L c lo hi l w (by omega) hl hL

/-- The first a rows, and the first b marks of the next one. -/
def partR (R : Nat → Nat → Bool) (a b x y : Nat) : Bool := if x < a ∨ (x = a ∧ y < b) then R x y else false
theorem partR_start (R : Nat → Nat → Bool) (a : Nat) : partR R a 0 = firstR R a := by
  funext x y
  unfold partR firstR
  by_cases h : x < a
  · rw [if_pos (.inl h), if_pos h]
  · rw [if_neg (by omega), if_neg h]
theorem partR_end {n : Nat} {R : Nat → Nat → Bool} (h : Supp n R) (a : Nat) : partR R a n = firstR R (a + 1) := by
  funext x y
  unfold partR firstR
  by_cases hx : x < a + 1
  · rw [if_pos hx]
    by_cases hc : x < a ∨ (x = a ∧ y < n)
    · rw [if_pos hc]
    · rw [if_neg hc]
      cases hr : R x y
      · rfl
      · have := (h x y hr).2
        omega
  · rw [if_neg (by omega), if_neg hx]
theorem partR_put (R : Nat → Nat → Bool) (a b x y : Nat) : partR R a (b + 1) x y = if x = a ∧ y = b then R a b else partR R a b x y := by
  unfold partR
  by_cases h : x = a ∧ y = b
  · rw [if_pos h, if_pos (by omega), h.1, h.2]
  · rw [if_neg h]
    by_cases h2 : x < a ∨ (x = a ∧ y < b)
    · rw [if_pos (by omega), if_pos h2]
    · rw [if_neg (by omega), if_neg h2]
theorem partR_supp {n : Nat} {R : Nat → Nat → Bool} (h : Supp n R) (a b : Nat) : Supp n (partR R a b) := fun x y e => by
  unfold partR at e
  split at e
  · exact h x y e
  · cases e

set_option maxHeartbeats 2000000 in
set_option maxRecDepth 20000 in
theorem matCopy_c (lo hi p n : Nat) (R : Nat → Nat → Bool) (w : World) (h : IsMat w lo hi p n R) : Calls Tryd.prog 71 #[.pointer (some ⟨p, 0, none⟩)] w (MatPost n R w) := by
  have hn := h.small
  have hc0 := h.c0
  have H := Lib.hid h
  have HSU := Lib.hid h.supp
  clear h
  go_enter Tryd.func71, Tryd.ntmps71
  go_wp2_with fail
  refine (matNew_c n _ hn).mono ?_
  rintro e w1 ⟨q, rfl, hr1, hg1⟩
  have HR1 := Lib.hid hr1
  have HG1 := Lib.hid hg1
  clear hr1 hg1
  go_wp2_with fail
  go_loopw [4] (fun i wr => ∃ a : Nat, a ≤ n ∧ i = .int .i64 a ∧ IsMat wr w.heap.size w1.heap.size q n (firstR R a) ∧ w.grownBy wr none) (fun i _ => n - (intOf i).toNat)
  case atStart => exact ⟨0, Nat.zero_le _, rfl, by rw [firstR_zero]; exact HR1.out, HG1.out⟩
  case round =>
    obtain ⟨a, ha, rfl, hma, hga⟩ := hrel
    have hc0a := (H.out.calm hga).c0
    by_cases han : a < n
    · have HMA := Lib.hid hma
      have HGA := Lib.hid hga
      clear hma hga
      go_wp2_with fail
      go_loopw [5] (fun i wr => ∃ b : Nat, b ≤ n ∧ i = .int .i64 b ∧ IsMat wr w.heap.size w1.heap.size q n (partR R a b) ∧ w.grownBy wr none) (fun i _ => n - (intOf i).toNat)
      case atStart => exact ⟨0, Nat.zero_le _, rfl, by rw [partR_start]; exact HMA.out, HGA.out⟩
      case round =>
        obtain ⟨b, hb, rfl, hmb, hgb⟩ := hrel
        have hc0b := (H.out.calm hgb).c0
        by_cases hbn : b < n
        · obtain ⟨mb0, rb0, cap0, g1, g2, g3⟩ := (H.out.calm hgb).get han hbn
          obtain ⟨pm, mb, rb, cap, rfl, hc1, hcm, hcr, hfr, hput⟩ := hmb.put (T := partR R a (b + 1)) han hbn (R a b) (partR_put R a b) (partR_supp HSU.out a (b + 1))
          have HPUT := Lib.hid (hput (wr.drewN 1) rfl rfl rfl rfl)
          have HGB := Lib.hid hgb
          have a0 : (0 : Int) ≤ a := by omega
          have b0 : (0 : Int) ≤ b := by omega
          have a1 : (a : Int) < n := by omega
          have b1 : (b : Int) < n := by omega
          clear hput hmb hgb
          generalize R a b = v at *
          go_wp2
          refine wp_region_still_tail 19 (by kernel_rfl) (by kernel_rfl) ?_
          simp only [List.take_succ_cons, List.take_zero, List.drop_succ_cons, List.drop_zero]
          repeat still_step
          refine wpStill_nil ?_
          change wpList _ _ _ _ _ wr.drew
          go_wp2
          exact ⟨⟨b + 1, by omega, by go_num, HPUT.out.1, Kept.new HGB.out HPUT.out.2 (Nat.le_refl _)⟩, by simp [intOf]; omega⟩
        · obtain rfl : b = n := by omega
          rw [partR_end HSU.out] at hmb
          go_wp2
          exact ⟨⟨a + 1, by omega, by go_num, hmb, hgb⟩, by simp [intOf]; omega⟩
    · obtain rfl : a = n := by omega
      rw [firstR_all HSU.out] at hma
      have HE := Lib.hid (show MatPost a R w (.returned (.pointer (some ⟨q, 0, none⟩))) wr from ⟨q, rfl, hma.outer (Nat.le_refl _) hma.top, hga⟩)
      clear hma hga
      go_wp2
      go_ret
      exact HE.out

end Go.Proofs.YtemnbkenihldgaaDoor
/-! The contracts of Closure, Same, Pairs, Only of package centoref2. -/
namespace Go.Proofs.YtemnbkenihldgaaDoor
open Go.RowKit

/-- Rows ahead of a behind the steps over v; of row a the first b marks. -/
def innV (W : Nat → Nat → Bool) (v a b x y : Nat) : Bool := if x < a ∨ (x = a ∧ y < b) then wvia W v x y else W x y
theorem innV_start (W : Nat → Nat → Bool) (v a : Nat) : innV W v a 0 = midV W v a := by
  funext x y
  unfold innV midV
  by_cases h : x < a
  · rw [if_pos (.inl h), if_pos h]
  · rw [if_neg (by omega), if_neg h]
theorem innV_end {n : Nat} {W : Nat → Nat → Bool} (h : Supp n W) (v a : Nat) : innV W v a n = midV W v (a + 1) := by
  funext x y
  unfold innV midV
  by_cases hx : x < a + 1
  · rw [if_pos hx]
    by_cases hc : x < a ∨ (x = a ∧ y < n)
    · rw [if_pos hc]
    · rw [if_neg hc]
      cases hw : wvia W v x y
      · cases hr : W x y
        · rfl
        · have := (h x y hr).2; omega
      · have := (wvia_supp h v x y hw).2; omega
  · rw [if_neg (by omega), if_neg hx]
theorem innV_supp {n : Nat} {W : Nat → Nat → Bool} (h : Supp n W) (v a b : Nat) : Supp n (innV W v a b) := fun x y e => by
  unfold innV at e
  split at e
  · exact wvia_supp h v x y e
  · exact h x y e
theorem innV_yes {W : Nat → Nat → Bool} {v a b : Nat} (h1 : W a v = true) (h2 : W v b = true) (x y : Nat) : innV W v a (b + 1) x y = if x = a ∧ y = b then true else innV W v a b x y := by
  unfold innV
  by_cases h : x = a ∧ y = b
  · rw [if_pos h, if_pos (by omega), h.1, h.2]
    exact (wvia_iff _ _ _ _).2 (.inr ⟨h1, h2⟩)
  · rw [if_neg h]
    by_cases h2 : x < a ∨ (x = a ∧ y < b)
    · rw [if_pos (by omega), if_pos h2]
    · rw [if_neg (by omega), if_neg h2]
theorem innV_no {W : Nat → Nat → Bool} {v a b : Nat} (h2 : W v b = false) : innV W v a (b + 1) = innV W v a b := by
  funext x y
  unfold innV
  by_cases h : x = a ∧ y = b
  · rw [if_pos (by omega), if_neg (by omega), h.1, h.2]
    unfold wvia
    rw [h2]
    simp
  · by_cases h2 : x < a ∨ (x = a ∧ y < b)
    · rw [if_pos (by omega), if_pos h2]
    · rw [if_neg (by omega), if_neg h2]
theorem innV_row (W : Nat → Nat → Bool) (v a b : Nat) : innV W v a b v b = W v b := by
  unfold innV
  split
  · exact wvia_row W v b
  · rfl
theorem midV_at (W : Nat → Nat → Bool) (v a y : Nat) : midV W v a a y = W a y := by simp [midV]
theorem midV_skip {W : Nat → Nat → Bool} {v a : Nat} (h : W a v = false) : midV W v (a + 1) = midV W v a := by
  funext x y
  rw [midV_succ]
  split
  · rename_i e
    subst e
    simp [midV, wvia, h]
  · rfl

set_option maxHeartbeats 4000000 in
theorem matClosure_c (lo hi p n : Nat) (R : Nat → Nat → Bool) (w : World) (h : IsMat w lo hi p n R) : Calls Tryd.prog 56 #[.pointer (some ⟨p, 0, none⟩)] w (MatPost n (clo n R) w) := by
  have hn := h.small
  have H := Lib.hid h
  have HSU := Lib.hid h.supp
  clear h
  go_enter Tryd.func56, Tryd.ntmps56
  go_wp2_with fail
  refine (matCopy_c lo hi p n R _ H.out).mono ?_
  rintro e w1 ⟨q, rfl, hr1, hg1⟩
  have HR1 := Lib.hid hr1
  have HG1 := Lib.hid hg1
  clear hr1 hg1
  go_wp2_with fail
  go_loopw [4] (fun i wr => ∃ v : Nat, v ≤ n ∧ i = .int .i64 v ∧ IsMat wr w.heap.size w1.heap.size q n (warsh R v) ∧ w.grownBy wr none) (fun i _ => n - (intOf i).toNat)
  case atStart => exact ⟨0, Nat.zero_le _, rfl, HR1.out, HG1.out⟩
  case round =>
    obtain ⟨v, hv, rfl, hmv, hgv⟩ := hrel
    have hc0v := hmv.c0
    by_cases hvn : v < n
    · have HSW := Lib.hid hmv.supp
      have HWS : Hid (warsh R (v + 1) = wvia (warsh R v) v) := Lib.hid rfl
      generalize hW : warsh R v = W at *
      clear hW
      have HMV := Lib.hid hmv
      have HGV := Lib.hid hgv
      clear hmv hgv
      go_wp2_with fail
      go_loopw [5] (fun i wr => ∃ a : Nat, a ≤ n ∧ i = .int .i64 a ∧ IsMat wr w.heap.size w1.heap.size q n (midV W v a) ∧ w.grownBy wr none) (fun i _ => n - (intOf i).toNat)
      case atStart => exact ⟨0, Nat.zero_le _, rfl, by rw [midV_zero]; exact HMV.out, HGV.out⟩
      case round =>
        obtain ⟨a, ha, rfl, hma, hga⟩ := hrel
        have hc0a := hma.c0
        by_cases han : a < n
        · obtain ⟨mb0, rb0, cap0, g1, g2, g3⟩ := hma.get han hvn
          rw [midV_at] at g3
          have HMA := Lib.hid hma
          have HGA := Lib.hid hga
          have a0 : (0 : Int) ≤ a := by omega
          have v0 : (0 : Int) ≤ v := by omega
          have a1 : (a : Int) < n := by omega
          have v1 : (v : Int) < n := by omega
          clear hma hga
          cases hav : W a v
          · rw [hav] at g3
            have HSK := Lib.hid (midV_skip hav)
            clear hav
            go_wp2
            exact ⟨⟨a + 1, by omega, by go_num, by rw [HSK.out]; exact HMA.out, HGA.out⟩, by simp [intOf]; omega⟩
          · rw [hav] at g3
            have HAV := Lib.hid hav
            clear hav
            go_wp2_with fail
            go_loopw [6] (fun i wr => ∃ b : Nat, b ≤ n ∧ i = .int .i64 b ∧ IsMat wr w.heap.size w1.heap.size q n (innV W v a b) ∧ w.grownBy wr none) (fun i _ => n - (intOf i).toNat)
            case atStart => exact ⟨0, Nat.zero_le _, rfl, by rw [innV_start]; exact HMA.out, HGA.out⟩
            case round =>
              obtain ⟨b, hb, rfl, hmb, hgb⟩ := hrel
              have hc0b := hmb.c0
              by_cases hbn : b < n
              · obtain ⟨mb1, rb1, cap1, e1, e2, e3⟩ := hmb.get hvn hbn
                rw [innV_row] at e3
                have b0 : (0 : Int) ≤ b := by omega
                have b1 : (b : Int) < n := by omega
                cases hvb : W v b
                · rw [hvb] at e3
                  have HSK := Lib.hid (innV_no (a := a) hvb)
                  have HMB := Lib.hid hmb
                  have HGB := Lib.hid hgb
                  clear hvb hmb hgb
                  go_wp2
                  exact ⟨⟨b + 1, by omega, by go_num, by rw [HSK.out]; exact HMB.out, HGB.out⟩, by simp [intOf]; omega⟩
                · rw [hvb] at e3
                  obtain ⟨pm, mb, rb, cap, rfl, hc1, hcm, hcr, hfr, hput⟩ := hmb.put (T := innV W v a (b + 1)) han hbn true (innV_yes HAV.out hvb) (innV_supp HSW.out v a (b + 1))
                  have HPUT := Lib.hid (hput wr rfl rfl rfl rfl)
                  have HGB := Lib.hid hgb
                  have he : (Value.slice (some ⟨mb, 0, none⟩) n cap) = .slice (some ⟨mb1, 0, none⟩) n cap1 := by
                    rw [hc1] at e1; exact Option.some.inj e1
                  simp only [Value.slice.injEq, Option.some.injEq, Addr.mk.injEq, and_true, true_and] at he
                  obtain ⟨rfl, rfl⟩ := he
                  clear hput hvb hmb hgb hc1
                  go_wp2
                  exact ⟨⟨b + 1, by omega, by go_num, HPUT.out.1, Kept.new HGB.out HPUT.out.2 (Nat.le_refl _)⟩, by simp [intOf]; omega⟩
              · obtain rfl : b = n := by omega
                rw [innV_end HSW.out] at hmb
                go_wp2
                exact ⟨⟨a + 1, by omega, by go_num, hmb, hgb⟩, by simp [intOf]; omega⟩
        · obtain rfl : a = n := by omega
          rw [midV_all HSW.out] at hma
          go_wp2
          exact ⟨⟨v + 1, by omega, by go_num, by rw [HWS.out]; exact hma, hga⟩, by simp [intOf]; omega⟩
    · obtain rfl : v = n := by omega
      have HE := Lib.hid (show MatPost v (clo v R) w (.returned (.pointer (some ⟨q, 0, none⟩))) wr from ⟨q, rfl, hmv.outer (Nat.le_refl _) hmv.top, hgv⟩)
      clear hmv hgv
      go_wp2
      go_ret
      exact HE.out

/-- Whether two relations of n elements are the same. -/
def sameR (n : Nat) (R T : Nat → Nat → Bool) : Bool := (List.range n).all fun a => (List.range n).all fun b => R a b == T a b
theorem sameR_iff {n : Nat} {R T : Nat → Nat → Bool} (h1 : Supp n R) (h2 : Supp n T) : sameR n R T = true ↔ R = T := by
  unfold sameR
  simp only [List.all_eq_true, List.mem_range, beq_iff_eq]
  constructor
  · intro h
    funext a b
    by_cases hab : a < n ∧ b < n
    · exact h a hab.1 b hab.2
    · cases hr : R a b
      · cases ht : T a b
        · rfl
        · exact absurd (h2 a b ht) hab
      · exact absurd (h1 a b hr) hab
  · rintro rfl a _ b _
    rfl

set_option maxHeartbeats 4000000 in
theorem matSame_r (lo hi p lo2 hi2 p2 n : Nat) (R T : Nat → Nat → Bool) (r : Bool) (w : World) (h : IsMat w lo hi p n R) (h2 : IsMat w lo2 hi2 p2 n T) (hr : sameR n R T = r) : Calls Tryd.prog 55 #[.pointer (some ⟨p, 0, none⟩), .pointer (some ⟨p2, 0, none⟩)] w fun e w' => e = .returned (.bool r) ∧ w.grownBy w' none := by
  have hn := h.small
  have hc0 := h.c0
  have hd0 := h2.c0
  have H := Lib.hid h
  have H2 := Lib.hid h2
  have HR := Lib.hid hr
  have hnn : ((n : Int) != (n : Int)) = false := by simp
  clear h h2 hr
  go_enter Tryd.func55, Tryd.ntmps55
  go_wp2
  go_quiet (fail)
  go_wp2
  go_loopw [5] (fun i wr => ∃ a : Nat, a ≤ n ∧ i = .int .i64 a ∧ Hid (∀ x, x < a → ∀ y, y < n → R x y = T x y) ∧ w.grownBy wr none) (fun i _ => n - (intOf i).toNat)
  case atStart => exact ⟨0, Nat.zero_le _, rfl, Lib.hid (fun x hx => by omega), grownBy_drewN _ _ _⟩
  case round =>
    obtain ⟨a, ha, rfl, HX, hga⟩ := hrel
    have hc0a := (H.out.calm hga).c0
    by_cases han : a < n
    · have HGA := Lib.hid hga
      clear hga
      go_wp2_with fail
      go_loopw [6] (fun i wr => ∃ b : Nat, b ≤ n ∧ i = .int .i64 b ∧ Hid (∀ y, y < b → R a y = T a y) ∧ w.grownBy wr none) (fun i _ => n - (intOf i).toNat)
      case atStart => exact ⟨0, Nat.zero_le _, rfl, Lib.hid (fun x hx => by omega), HGA.out⟩
      case round =>
        obtain ⟨b, hb, rfl, HY, hgb⟩ := hrel
        have hc0b := (H.out.calm hgb).c0
        by_cases hbn : b < n
        · obtain ⟨mb0, rb0, cap0, g1, g2, g3⟩ := (H.out.calm hgb).get han hbn
          obtain ⟨mb1, rb1, cap1, e1, e2, e3⟩ := (H2.out.calm hgb).get han hbn
          have HGB := Lib.hid hgb
          have a0 : (0 : Int) ≤ a := by omega
          have b0 : (0 : Int) ≤ b := by omega
          have a1 : (a : Int) < n := by omega
          have b1 : (b : Int) < n := by omega
          clear hgb
          by_cases heq : R a b = T a b
          · have HY2 : Hid (∀ y, y < b + 1 → R a y = T a y) := Lib.hid (fun y hy => by
              by_cases e : y = b
              · subst e; exact heq
              · exact HY.out y (by omega))
            rw [heq] at g3
            clear heq
            generalize T a b = v at *
            cases v
            all_goals
              go_wp2
              go_quiet (fail)
              go_wp2
              exact ⟨⟨b + 1, by omega, by go_num, HY2, grownBy_trans HGB.out (grownBy_drewN _ _ none)⟩, by simp [intOf]; omega⟩
          · have hrf : r = false := by
              rw [← HR.out]
              unfold sameR
              rw [List.all_eq_false]
              refine ⟨a, by simpa using han, ?_⟩
              rw [Bool.not_eq_true, List.all_eq_false]
              exact ⟨b, by simpa using hbn, by simpa using heq⟩
            subst hrf
            cases hu : R a b
            · cases hv : T a b
              · exact absurd (hu.trans hv.symm) heq
              · rw [hu] at g3
                rw [hv] at e3
                clear heq hu hv
                go_wp2
                go_quiet (fail)
                go_wp2
                go_ret
                exact ⟨rfl, grownBy_trans HGB.out (grownBy_drewN _ _ none)⟩
            · cases hv : T a b
              · rw [hu] at g3
                rw [hv] at e3
                clear heq hu hv
                go_wp2
                go_quiet (fail)
                go_wp2
                go_ret
                exact ⟨rfl, grownBy_trans HGB.out (grownBy_drewN _ _ none)⟩
              · exact absurd (hu.trans hv.symm) heq
        · obtain rfl : b = n := by omega
          have HX2 : Hid (∀ x, x < a + 1 → ∀ y, y < b → R x y = T x y) := Lib.hid (fun x hx => by
            by_cases e : x = a
            · subst e; exact HY.out
            · exact HX.out x (by omega))
          go_wp2
          exact ⟨⟨a + 1, by omega, by go_num, HX2, hgb⟩, by simp [intOf]; omega⟩
    · obtain rfl : a = n := by omega
      have hrt : r = true := by
        rw [← HR.out]
        unfold sameR
        simp only [List.all_eq_true, List.mem_range, beq_iff_eq]
        exact HX.out
      subst hrt
      go_wp2
      go_ret
      exact ⟨rfl, hga⟩

end Go.Proofs.YtemnbkenihldgaaDoor
/-! The contract of Pairs of package centoref2. -/
namespace Go.Proofs.YtemnbkenihldgaaDoor
open Go.RowKit

/-- Pairs so far, in a slice of their own. -/
def OwnP (w : World) (base : Nat) (v : Value) (q : List (Int × Int)) : Prop := ∃ p c, v = .slice p q.length c ∧ w.ownsRow base 74 2 (.slice p q.length c) q.length (pcells q)

theorem OwnP.calm {w w' : World} {base : Nat} {v : Value} {q : List (Int × Int)} (h : OwnP w base v q) (hg : w.grownBy w' none) : OwnP w' base v q := by
  obtain ⟨p, c, h1, h2⟩ := h
  exact ⟨p, c, h1, h2.kept hg (by cases (Value.slice p q.length c).ownBlock <;> simp)⟩

theorem onL_succ (S : Nat → Bool) (b : Nat) : onL S (b + 1) = onL S b ++ if S b then [b] else [] := by
  unfold onL
  rw [List.range_succ, List.filter_append, List.filter_cons]
  cases S b <;> rfl

/-- The pairs of the rows ahead of a, and of row a those ahead of b. -/
def pairsP (n : Nat) (R : Nat → Nat → Bool) (a b : Nat) : List (Int × Int) := pairsL n R a ++ (onL (R a) b).map fun y : Nat => ((a : Int), (y : Int))
theorem pairsP_zero (n : Nat) (R : Nat → Nat → Bool) (a : Nat) : pairsP n R a 0 = pairsL n R a := by simp [pairsP, onL]
theorem pairsP_end (n : Nat) (R : Nat → Nat → Bool) (a : Nat) : pairsP n R a n = pairsL n R (a + 1) := (pairsL_succ n R a).symm
theorem pairsP_yes {n : Nat} {R : Nat → Nat → Bool} {a b : Nat} (h : R a b = true) : pairsP n R a (b + 1) = pairsP n R a b ++ [((a : Int), (b : Int))] := by
  unfold pairsP
  rw [onL_succ, h]
  simp
theorem pairsP_no {n : Nat} {R : Nat → Nat → Bool} {a b : Nat} (h : R a b = false) : pairsP n R a (b + 1) = pairsP n R a b := by
  unfold pairsP
  rw [onL_succ, h]
  simp
theorem pairsP_len (n : Nat) (R : Nat → Nat → Bool) (a b : Nat) (hn : n ≤ 200) (ha : a ≤ 200) (hb : b ≤ 200) : (pairsP n R a b).length ≤ 40200 := by
  unfold pairsP
  rw [List.length_append, List.length_map]
  have h1 := pairsL_len n R a
  have h2 := onL_le (R a) b
  have h3 : a * n ≤ 200 * 200 := Nat.mul_le_mul ha hn
  omega

set_option maxHeartbeats 4000000 in
theorem matPairs_c (lo hi p n : Nat) (R : Nat → Nat → Bool) (w : World) (h : IsMat w lo hi p n R) : Calls Tryd.prog 58 #[.pointer (some ⟨p, 0, none⟩)] w (PairsPost (pairsL n R n) w) := by
  obtain ⟨i0, hi0, hz0, hz1, hz2⟩ := info_parts Tryd.info74
  have hn := h.small
  have H := Lib.hid h
  clear h
  go_enter Tryd.func58, Tryd.ntmps58
  go_wp2
  go_loopw [3, 4] (fun v i wr => ∃ a : Nat, a ≤ n ∧ i = .int .i64 a ∧ OwnP wr w.heap.size v (pairsL n R a) ∧ w.grownBy wr none) (fun _ i _ => n - (intOf i).toNat)
  case atStart => exact ⟨0, Nat.zero_le _, rfl, ⟨none, 0, rfl, World.ownsRow_nil _ _ _ _⟩, grownBy_refl _ _⟩
  case round =>
    obtain ⟨a, ha, rfl, ⟨pa, ca, rfl, hra⟩, hga⟩ := hrel
    have hc0a := (H.out.calm hga).c0
    by_cases han : a < n
    · have HGA := Lib.hid hga
      have HRA := Lib.hid hra
      have HPE := Lib.hid (pairsP_end n R a)
      have HPZ := Lib.hid (pairsP_zero n R a)
      clear hga hra
      go_wp2_with fail
      go_loopw [3, 5] (fun v i wr => ∃ b : Nat, b ≤ n ∧ i = .int .i64 b ∧ OwnP wr w.heap.size v (pairsP n R a b) ∧ w.grownBy wr none) (fun _ i _ => n - (intOf i).toNat)
      case atStart => exact ⟨0, Nat.zero_le _, rfl, ⟨pa, ca, by rw [HPZ.out], by rw [HPZ.out]; exact HRA.out⟩, HGA.out⟩
      case round =>
        obtain ⟨b, hb, rfl, ⟨pq, cq, rfl, hrow⟩, hgb⟩ := hrel
        have hc0b := (H.out.calm hgb).c0
        by_cases hbn : b < n
        · obtain ⟨mb0, rb0, cap0, g1, g2, g3⟩ := (H.out.calm hgb).get han hbn
          have HGB := Lib.hid hgb
          have HROW := Lib.hid hrow
          have hsz : w.heap.size ≤ wr.heap.size := hgb.size
          have hql := pairsP_len n R a b hn (by omega) (by omega)
          have a0 : (0 : Int) ≤ a := by omega
          have b0 : (0 : Int) ≤ b := by omega
          have a1 : (a : Int) < n := by omega
          have b1 : (b : Int) < n := by omega
          clear hgb hrow
          cases hab : R a b
          · rw [hab] at g3
            have HNO := Lib.hid (pairsP_no (n := n) hab)
            clear hab
            generalize pairsP n R a b = q at *
            go_wp2
            exact ⟨⟨b + 1, by omega, by go_num, ⟨pq, cq, by rw [HNO.out], by rw [HNO.out]; exact HROW.out⟩, HGB.out⟩, by simp [intOf]; omega⟩
          · rw [hab] at g3
            have HYES := Lib.hid (pairsP_yes (n := n) hab)
            clear hab
            generalize pairsP n R a b = q at *
            go_wp2_with (at_builtin; refine wpList_append_own _ rfl _ _ 23 rfl w.heap.size 74 i0 (.agg #[.int .i64 0, .int .i64 0]) 2 16 Tryd.underlying23 hi0 hz0 hz1 hz2 rfl (by decide) _ _ _ rfl (HROW.out.alloc _) ⟨wr.heap.size, 0, none⟩ 1 1 [.int .i64 a, .int .i64 b] rfl rfl (cell_two_new _ _ _ _) (by simp [Value.oneCell']) (by unfold maxLen; omega) (by omega) (by simp; omega) ?_; intro v' w2 hown' hgrow _; obtain ⟨g', cap', rfl⟩ := ownsRow_succ hown')
            have HE : Hid (OwnP w2 w.heap.size (.slice (some ⟨g', 0, none⟩) (q.length + 1) cap') (pairsP n R a (b + 1)) ∧ w.grownBy w2 none) := by
              refine Lib.hid ⟨⟨some ⟨g', 0, none⟩, cap', by rw [HYES.out]; simp, ?_⟩, ?_⟩
              · rw [HYES.out, pcells_snoc]
                simpa using hown'
              · have hga := grownBy_trans HGB.out (World.grownBy_alloc wr (.cells #[.int .i64 a, .int .i64 b] 74) none)
                have hgrow' : (wr.alloc (.cells #[.int .i64 a, .int .i64 b] 74)).grownBy w2 (Value.slice pq q.length cq).ownBlock := hgrow
                cases hob : (Value.slice pq q.length cq).ownBlock with
                | none => rw [hob] at hgrow'; exact grownBy_trans hga hgrow'
                | some r =>
                  rw [hob] at hgrow'
                  exact grownBy_new hga hgrow' (HROW.out.lt r hob).1
            clear hown' hgrow
            go_wp2
            exact ⟨⟨b + 1, by omega, by go_num, HE.out.1, HE.out.2⟩, by simp [intOf]; omega⟩
        · obtain rfl : b = n := by omega
          rw [HPE.out] at hrow ⊢
          go_wp2
          exact ⟨⟨a + 1, by omega, by go_num, ⟨pq, cq, rfl, hrow⟩, hgb⟩, by simp [intOf]; omega⟩
    · obtain rfl : a = n := by omega
      obtain ⟨pp, cc, hpe, hpairs⟩ := pairsAt_own hra
      simp only [Value.slice.injEq, true_and] at hpe
      obtain ⟨rfl, rfl⟩ := hpe
      have HE := Lib.hid (show PairsPost (pairsL a R a) w (.returned (.slice pa (pairsL a R a).length ca)) wr from ⟨pa, ca, rfl, hpairs, hga⟩)
      clear hra hga hpairs
      generalize (pairsL a R a).length = L at *
      go_wp2
      go_ret
      exact HE.out

end Go.Proofs.YtemnbkenihldgaaDoor
/-! The contract of Some of package centoref2. -/
namespace Go.Proofs.YtemnbkenihldgaaDoor
open Go.RowKit

set_option maxHeartbeats 2000000 in
set_option maxRecDepth 20000 in
theorem matSome_c (n : Nat) (p : Option Addr) (L c lo hi : Nat) (l : List (Int × Int)) (w : World) (hn : n ≤ 200) (hl : PairsAt w lo hi p L l) (hL : L ≤ 1000000) : Calls Tryd.prog 57 #[.int .i64 n, .slice p L c] w (MatPost n (ofL n l) w) := by
  have HL := Lib.hid hl
  have HLEN := Lib.hid hl.len
  clear hl
  go_enter Tryd.func57, Tryd.ntmps57
  go_wp2_with fail
  refine (matNew_c n _ hn).mono ?_
  rintro e w1 ⟨q, rfl, hr1, hg1⟩
  have HR1 := Lib.hid hr1
  have HG1 := Lib.hid hg1
  clear hr1 hg1
  go_wp2_with fail
  go_loopw [6] (fun i wr => ∃ k : Nat, k ≤ L ∧ i = .int .i64 k ∧ IsMat wr w.heap.size w1.heap.size q n (ofL n (l.take k)) ∧ w.grownBy wr none) (fun i _ => L - (intOf i).toNat)
  case atStart => exact ⟨0, Nat.zero_le _, rfl, HR1.out, HG1.out⟩
  case round =>
    obtain ⟨k, hk, rfl, hmat, hgr⟩ := hrel
    by_cases hkL : k < L
    · obtain ⟨b, off, rfl, q1, q2, q3, hcs⟩ := (HL.out.calm hgr).cell (by omega)
      obtain ⟨x1, x2⟩ := hcs k hkL
      have HTO := Lib.hid (ofL_take (n := n) (l := l) (k := k) (by rw [HLEN.out]; exact hkL))
      have hc0 := hmat.c0
      have HMAT := Lib.hid hmat
      have HGR := Lib.hid hgr
      clear hcs hgr hmat
      generalize l[k]?.getD (0, 0) = x at *
      obtain ⟨x, y⟩ := x
      simp only at x1 x2
      have k0 : (0 : Int) ≤ k := by omega
      have k1 : (k : Int) < L := by omega
      by_cases hx : 0 ≤ x ∧ x < n
      · obtain ⟨a0, a1⟩ := hx
        obtain ⟨u, rfl⟩ := Int.eq_ofNat_of_zero_le a0
        have hu : u < n := by omega
        by_cases hy : 0 ≤ y ∧ y < n
        · obtain ⟨b0, b1⟩ := hy
          obtain ⟨v, rfl⟩ := Int.eq_ofNat_of_zero_le b0
          have hv : v < n := by omega
          have hin : inI n (u : Int) (v : Int) := ⟨a0, a1, b0, b1⟩
          rw [addI_yes hin] at HTO
          simp only [Int.toNat_natCast] at HTO
          obtain ⟨pm, mb, rb, cap, rfl, hc1, hcm, hcr, hfr, hput⟩ := HMAT.out.put (T := addR (ofL n (l.take k)) u v) hu hv true (addR_put _ _ _) (addR_supp HMAT.out.supp hu hv)
          have HPUT := Lib.hid (hput (wr.drewN 1) rfl rfl rfl rfl)
          clear hin hput
          go_wp2_with fail
          refine (matIs_yes q n u _ hc0 hu).mono ?_
          rintro e w' ⟨rfl, h9⟩
          subst w'
          go_wp2_with fail
          refine (matIs_yes q n v _ hc0 hv).mono ?_
          rintro e w' ⟨rfl, h9⟩
          subst w'
          go_wp2
          refine wp_region_still_tail 17 (by kernel_rfl) (by kernel_rfl) ?_
          simp only [List.take_succ_cons, List.take_zero, List.drop_succ_cons, List.drop_zero]
          repeat still_step
          refine wpStill_nil ?_
          change wpList _ _ _ _ _ wr.drew
          go_wp2
          exact ⟨⟨k + 1, by omega, by go_num, by rw [HTO.out]; exact HPUT.out.1, Kept.new HGR.out HPUT.out.2 (Nat.le_refl _)⟩, by simp [intOf]; omega⟩
        · have hb' := Lib.hid (show y < 0 ∨ (n : Int) ≤ y by omega)
          have HNO : Hid (ofL n (l.take (k + 1)) = ofL n (l.take k)) := Lib.hid (HTO.out.trans (addI_no (by unfold inI; omega)))
          clear hy
          go_wp2_with fail
          refine (matIs_yes q n u _ hc0 hu).mono ?_
          rintro e w' ⟨rfl, h9⟩
          subst w'
          go_wp2_with fail
          refine (matIs_no q n _ _ hc0 hb'.out).mono ?_
          rintro e w' ⟨rfl, h9⟩
          subst w'
          go_wp2
          exact ⟨⟨k + 1, by omega, by go_num, by rw [HNO.out]; exact HMAT.out, HGR.out⟩, by simp [intOf]; omega⟩
      · have ha' := Lib.hid (show x < 0 ∨ (n : Int) ≤ x by omega)
        have HNO : Hid (ofL n (l.take (k + 1)) = ofL n (l.take k)) := Lib.hid (HTO.out.trans (addI_no (by unfold inI; omega)))
        clear hx
        go_wp2_with fail
        refine (matIs_no q n _ _ hc0 ha'.out).mono ?_
        rintro e w' ⟨rfl, h9⟩
        subst w'
        go_wp2
        exact ⟨⟨k + 1, by omega, by go_num, by rw [HNO.out]; exact HMAT.out, HGR.out⟩, by simp [intOf]; omega⟩
    · obtain rfl : k = L := by omega
      have hta : l.take k = l := List.take_of_length_le (by rw [HLEN.out]; exact Nat.le_refl _)
      rw [hta] at hmat
      have HFIN := Lib.hid (hmat.outer (Nat.le_refl _) hmat.top)
      have HGR := Lib.hid hgr
      clear hmat hgr hta
      go_wp2
      go_ret
      exact ⟨q, rfl, HFIN.out, HGR.out⟩

end Go.Proofs.YtemnbkenihldgaaDoor
