/- The document's relations in memory: a table of marks; the contracts of New, Is, Has of package centoref2. -/
import Derived.Deep.AppendLies
import Derived.Deep.RegionLaw
import Derived.Test.YtdolcdededmlhaaDoorRelN
namespace Go.Proofs.YtdolcdededmlhaaDoor
open Go.RowKit

/-- A row of marks in a block of its own. -/
def BoolRow (w : World) (b n : Nat) (S : Nat → Bool) : Prop := ∃ cur : Array Value, w.heap[b]? = some (.cells cur 4 (0, 0)) ∧ ∀ i, i < n → cur[i]? = some (.bool (S i))

theorem BoolRow.kept {w w' : World} {b n : Nat} {S : Nat → Bool} (h : BoolRow w b n S) (e : w'.heap[b]? = w.heap[b]?) : BoolRow w' b n S := by
  obtain ⟨cur, h1, h2⟩ := h
  exact ⟨cur, e.trans h1, h2⟩
theorem BoolRow.cell {w : World} {b n : Nat} {S : Nat → Bool} (h : BoolRow w b n S) {i : Nat} (hi : i < n) : w.cell? ⟨b, i, none⟩ = some (.bool (S i)) := by
  obtain ⟨cur, h1, h2⟩ := h
  simp only [World.cell?, h1]
  exact h2 i hi
theorem BoolRow.free {w : World} {b n : Nat} {S : Nat → Bool} (h : BoolRow w b n S) (i : Nat) : w.frozen? ⟨b, i, none⟩ = false := by
  obtain ⟨cur, h1, h2⟩ := h
  simp only [World.frozen?, h1]
  simp
theorem BoolRow.lt {w : World} {b n : Nat} {S : Nat → Bool} (h : BoolRow w b n S) : b < w.heap.size := by
  obtain ⟨cur, h1, h2⟩ := h
  exact (Array.getElem?_eq_some_iff.1 h1).1
theorem BoolRow.congr {w : World} {b n : Nat} {S T : Nat → Bool} (h : BoolRow w b n S) (e : ∀ i, i < n → S i = T i) : BoolRow w b n T := by
  obtain ⟨cur, h1, h2⟩ := h
  exact ⟨cur, h1, fun i hi => by rw [← e i hi]; exact h2 i hi⟩
theorem BoolRow.set {w : World} {b n : Nat} {S : Nat → Bool} (h : BoolRow w b n S) {i : Nat} (hi : i < n) (v : Bool) : BoolRow (w.setCell ⟨b, i, none⟩ (.bool v)) b n (fun j => if j = i then v else S j) := by
  obtain ⟨cur, h1, h2⟩ := h
  refine ⟨_, heap_setCell_same w b i cur _ _ h1, fun j hj => ?_⟩
  have hl : i < cur.size := (Array.getElem?_eq_some_iff.1 (h2 i hi)).1
  by_cases e : j = i
  · subst e
    simp [hl]
  · show _ = some (Value.bool (if j = i then v else S j))
    rw [if_neg e, ← h2 j hj, Array.getElem?_setIfInBounds_ne (fun e' => e e'.symm)]

/-- The first k rows of a table of n elements. -/
structure Tabl (w : World) (lo hi p n k : Nat) (pm : Option Addr) (cap mb : Nat) (rb : Nat → Nat) (R : Nat → Nat → Bool) : Prop where
  top : hi ≤ w.heap.size
  p1 : lo ≤ p
  p2 : p < hi
  st : w.heap[p]? = some (.cells #[.int .i64 n, .slice pm k cap] 36 (0, 0))
  tab : 0 < k → pm = some ⟨mb, 0, none⟩ ∧ lo ≤ mb ∧ mb < hi ∧ ∃ cur : Array Value, w.heap[mb]? = some (.cells cur 66 (0, 0)) ∧ ∀ a, a < k → cur[a]? = some (.slice (some ⟨rb a, 0, none⟩) n n)
  inb : ∀ a, a < k → lo ≤ rb a ∧ rb a < hi
  row : ∀ a, a < k → BoolRow w (rb a) n (R a)
  inj : ∀ a, a < k → ∀ c, c < k → a ≠ c → rb a ≠ rb c

def IsMat (w : World) (lo hi p n : Nat) (R : Nat → Nat → Bool) : Prop := n ≤ 200 ∧ Supp n R ∧ ∃ pm cap mb rb, Tabl w lo hi p n n pm cap mb rb R

theorem Tabl.kept {w w' : World} {lo hi p n k cap mb : Nat} {pm : Option Addr} {rb : Nat → Nat} {R : Nat → Nat → Bool} (h : Tabl w lo hi p n k pm cap mb rb R) (hs : w.heap.size ≤ w'.heap.size) (hb : ∀ i, lo ≤ i → i < hi → w'.heap[i]? = w.heap[i]?) : Tabl w' lo hi p n k pm cap mb rb R := by
  refine ⟨Nat.le_trans h.top hs, h.p1, h.p2, (hb p h.p1 h.p2).trans h.st, fun hk => ?_, h.inb, fun a ha => (h.row a ha).kept (hb _ (h.inb a ha).1 (h.inb a ha).2), h.inj⟩
  obtain ⟨e1, e2, e3, cur, e4, e5⟩ := h.tab hk
  exact ⟨e1, e2, e3, cur, (hb mb e2 e3).trans e4, e5⟩
theorem IsMat.kept {w w' : World} {lo hi p n : Nat} {R : Nat → Nat → Bool} (h : IsMat w lo hi p n R) (hs : w.heap.size ≤ w'.heap.size) (hb : ∀ i, lo ≤ i → i < hi → w'.heap[i]? = w.heap[i]?) : IsMat w' lo hi p n R := by
  obtain ⟨h1, h2, pm, cap, mb, rb, h3⟩ := h
  exact ⟨h1, h2, pm, cap, mb, rb, h3.kept hs hb⟩
theorem IsMat.top {w : World} {lo hi p n : Nat} {R : Nat → Nat → Bool} (h : IsMat w lo hi p n R) : hi ≤ w.heap.size := by
  obtain ⟨_, _, _, _, _, _, h3⟩ := h
  exact h3.top
theorem IsMat.lt {w : World} {lo hi p n : Nat} {R : Nat → Nat → Bool} (h : IsMat w lo hi p n R) : lo < hi := by
  obtain ⟨_, _, _, _, _, _, h3⟩ := h
  have := h3.p1; have := h3.p2; omega
theorem IsMat.small {w : World} {lo hi p n : Nat} {R : Nat → Nat → Bool} (h : IsMat w lo hi p n R) : n ≤ 200 := h.1
theorem IsMat.supp {w : World} {lo hi p n : Nat} {R : Nat → Nat → Bool} (h : IsMat w lo hi p n R) : Supp n R := h.2.1
theorem IsMat.calm {w w' : World} {lo hi p n : Nat} {R : Nat → Nat → Bool} (h : IsMat w lo hi p n R) (hg : w.grownBy w' none) : IsMat w' lo hi p n R :=
  h.kept hg.size fun i _ h2 => hg.block i (Nat.lt_of_lt_of_le h2 h.top) (by simp)
theorem IsMat.apart {w w' : World} {lo hi p n lo' hi' : Nat} {R : Nat → Nat → Bool} (h : IsMat w lo hi p n R) (hg : Kept lo' hi' w w') (hd : hi ≤ lo' ∨ hi' ≤ lo) : IsMat w' lo hi p n R :=
  h.kept hg.size fun i h1 h2 => hg.block i (Nat.lt_of_lt_of_le h2 h.top) (by omega)
theorem IsMat.outer {w : World} {lo hi p n : Nat} {R : Nat → Nat → Bool} (h : IsMat w lo hi p n R) {lo' : Nat} (h3 : lo' ≤ lo) (h1 : hi ≤ w.heap.size) : IsMat w lo' w.heap.size p n R := by
  obtain ⟨a1, a2, pm, cap, mb, rb, a3⟩ := h
  refine ⟨a1, a2, pm, cap, mb, rb, Nat.le_refl _, by have := a3.p1; omega, by have := a3.p2; omega, a3.st, fun hk => ?_, fun a ha => by have := a3.inb a ha; omega, a3.row, a3.inj⟩
  obtain ⟨e1, e2, e3, e4⟩ := a3.tab hk
  exact ⟨e1, by omega, by omega, e4⟩

theorem Tabl.c0 {w : World} {lo hi p n k cap mb : Nat} {pm : Option Addr} {rb : Nat → Nat} {R : Nat → Nat → Bool} (h : Tabl w lo hi p n k pm cap mb rb R) : w.cell? ⟨p, 0, none⟩ = some (.int .i64 n) := by simp [World.cell?, h.st]
theorem Tabl.c1 {w : World} {lo hi p n k cap mb : Nat} {pm : Option Addr} {rb : Nat → Nat} {R : Nat → Nat → Bool} (h : Tabl w lo hi p n k pm cap mb rb R) : w.cell? ⟨p, 1, none⟩ = some (.slice pm k cap) := by simp [World.cell?, h.st]
theorem Tabl.f1 {w : World} {lo hi p n k cap mb : Nat} {pm : Option Addr} {rb : Nat → Nat} {R : Nat → Nat → Bool} (h : Tabl w lo hi p n k pm cap mb rb R) : w.frozen? ⟨p, 1, none⟩ = false := by simp [World.frozen?, h.st]
theorem Tabl.cm {w : World} {lo hi p n k cap mb : Nat} {pm : Option Addr} {rb : Nat → Nat} {R : Nat → Nat → Bool} (h : Tabl w lo hi p n k pm cap mb rb R) {a : Nat} (ha : a < k) : pm = some ⟨mb, 0, none⟩ ∧ w.cell? ⟨mb, a, none⟩ = some (.slice (some ⟨rb a, 0, none⟩) n n) := by
  obtain ⟨e1, e2, e3, cur, e4, e5⟩ := h.tab (by omega)
  refine ⟨e1, ?_⟩
  simp only [World.cell?, e4]
  exact e5 a ha

/-- A mark is put. -/
theorem Tabl.put {w : World} {lo hi p n k cap mb : Nat} {pm : Option Addr} {rb : Nat → Nat} {R T : Nat → Nat → Bool} (h : Tabl w lo hi p n k pm cap mb rb R) {a b : Nat} (ha : a < k) (hb : b < n) (v : Bool) (hT : ∀ x y, y < n → T x y = if x = a ∧ y = b then v else R x y) :
    Tabl (w.setCell ⟨rb a, b, none⟩ (.bool v)) lo hi p n k pm cap mb rb T := by
  have hgs := grownBy_setCell w ⟨rb a, b, none⟩ (.bool v)
  have hr := h.row a ha
  obtain ⟨cur, hcur, _⟩ := id hr
  have hother : ∀ i o, w.heap[i]? = some o → i ≠ rb a → (w.setCell ⟨rb a, b, none⟩ (.bool v)).heap[i]? = some o := fun i o ho hne => (Below.heap_setCell _ _ _ _ hne).trans ho
  refine ⟨Nat.le_trans h.top hgs.size, h.p1, h.p2, hother _ _ h.st (fun e => by have := h.st; rw [e, hcur] at this; simp at this), fun hk => ?_, h.inb, fun x hx => ?_, h.inj⟩
  · obtain ⟨e1, e2, e3, cur2, e4, e5⟩ := h.tab hk
    exact ⟨e1, e2, e3, cur2, hother _ _ e4 (fun e => by rw [e, hcur] at e4; simp at e4), e5⟩
  · by_cases e : x = a
    · subst e
      refine (hr.set hb v).congr fun i hi => ?_
      rw [hT x i hi]
      simp
    · refine ((h.row x hx).kept (Below.heap_setCell _ _ _ _ (h.inj x hx a ha e))).congr fun i hi => ?_
      rw [hT x i hi, if_neg (by simp [e])]

theorem matIs_yes (p n i : Nat) (w : World) (hc : w.cell? ⟨p, 0, none⟩ = some (.int .i64 n)) (h1 : i < n) : Calls Tryd.prog 40 #[.pointer (some ⟨p, 0, none⟩), .int .i64 i] w fun e w' => e = .returned (.bool true) ∧ w' = w := by
  have a0 : (0 : Int) ≤ i := by omega
  have a1 : (i : Int) < n := by omega
  go_enter Tryd.func40, Tryd.ntmps40
  go_wp2
  go_ret
  exact ⟨rfl, rfl⟩
theorem matIs_no (p n : Nat) (i : Int) (w : World) (hc : w.cell? ⟨p, 0, none⟩ = some (.int .i64 n)) (h : i < 0 ∨ (n : Int) ≤ i) : Calls Tryd.prog 40 #[.pointer (some ⟨p, 0, none⟩), .int .i64 i] w fun e w' => e = .returned (.bool false) ∧ w' = w := by
  by_cases h0 : i < 0
  · clear h
    go_enter Tryd.func40, Tryd.ntmps40
    go_wp2
    go_ret
    exact ⟨rfl, rfl⟩
  · have h1 : 0 ≤ i := by omega
    have h2 : decide (i < (n : Int)) = false := by simp; omega
    clear h
    go_enter Tryd.func40, Tryd.ntmps40
    go_wp2
    go_ret
    exact ⟨rfl, rfl⟩

theorem Tryd.infoB4 : (Tryd.prog.info? 4).map (fun i => (i.zero, i.size, i.bytes)) = some (some (.bool false), 1, 1) := by kernel_rfl
theorem Tryd.infoB66 : (Tryd.prog.info? 66).map (fun i => (i.zero, i.size, i.bytes)) = some (some (.slice none 0 0), 1, 24) := by kernel_rfl

/-- The headers of the rows. -/
def heads (n : Nat) (rb : Nat → Nat) (k : Nat) : List Value := (List.range k).map fun a => .slice (some ⟨rb a, 0, none⟩) n n

/-- A table under way. -/
structure MatUp (w0 w : World) (p n k : Nat) (pm : Option Addr) (cap : Nat) (rb : Nat → Nat) : Prop where
  p1 : w0.heap.size ≤ p
  st : w.heap[p]? = some (.cells #[.int .i64 n, .slice pm k cap] 36 (0, 0))
  own : w.ownsRow w0.heap.size 66 1 (.slice pm k cap) k (heads n rb k)
  inb : ∀ a, a < k → w0.heap.size ≤ rb a
  row : ∀ a, a < k → BoolRow w (rb a) n (fun _ => false)
  inj : ∀ a, a < k → ∀ c, c < k → a ≠ c → rb a ≠ rb c
  grown : w0.grownBy w none

/-- What makes a table of its own. -/
def MatPost (n : Nat) (T : Nat → Nat → Bool) (w : World) (e : Ending) (w' : World) : Prop :=
  ∃ p, e = .returned (.pointer (some ⟨p, 0, none⟩)) ∧ IsMat w' w.heap.size w'.heap.size p n T ∧ w.grownBy w' none

theorem MatUp.end {w0 w : World} {p n cap : Nat} {pm : Option Addr} {rb : Nat → Nat} (h : MatUp w0 w p n n pm cap rb) (hn : n ≤ 200) : IsMat w w0.heap.size w.heap.size p n (fun _ _ => false) ∧ w0.grownBy w none := by
  have hp := (Array.getElem?_eq_some_iff.1 h.st).1
  rcases h.own.2 with ⟨e, h0⟩ | ⟨g, cap', cur, e, hb, hg, _, _, _, ht⟩
  · subst h0
    exact ⟨⟨by omega, supp_none _, pm, cap, 0, rb, Nat.le_refl _, h.p1, hp, h.st, fun hk => by omega, fun a ha => by omega, fun a ha => by omega, fun a ha => by omega⟩, h.grown⟩
  · simp only [Value.slice.injEq, true_and] at e
    obtain ⟨rfl, rfl⟩ := e
    refine ⟨⟨hn, supp_none _, some ⟨g, 0, none⟩, cap, g, rb, Nat.le_refl _, h.p1, hp, h.st, fun _ => ⟨rfl, hb, (Array.getElem?_eq_some_iff.1 hg).1, cur, hg, fun a ha => ?_⟩, fun a ha => ⟨h.inb a ha, (h.row a ha).lt⟩, h.row, h.inj⟩, h.grown⟩
    have e2 : (heads n rb n)[a]? = some (.slice (some ⟨rb a, 0, none⟩) n n) := by
      unfold heads
      rw [List.getElem?_map, List.getElem?_range ha]
      rfl
    rw [← ht, List.getElem?_take_of_lt (by omega), Array.getElem?_toList] at e2
    exact e2

theorem heads_succ (n : Nat) (rb : Nat → Nat) (k : Nat) : heads n rb (k + 1) = heads n rb k ++ [.slice (some ⟨rb k, 0, none⟩) n n] := by
  unfold heads; rw [List.range_succ, List.map_append]; rfl
theorem heads_congr {n : Nat} {rb rc : Nat → Nat} {k : Nat} (h : ∀ a, a < k → rb a = rc a) : heads n rb k = heads n rc k := by
  unfold heads
  apply List.map_congr_left
  intro a ha
  rw [h a (by simpa using ha)]

theorem boolRow_new (w : World) (n : Nat) : BoolRow (w.alloc (.cells (madeCells #[.bool false] n) 4)) w.heap.size n (fun _ => false) :=
  ⟨_, World.alloc_heap_new w _, fun _ hi => made_get _ _ _ hi⟩

/-- A row made and appended. -/
theorem MatUp.step {w0 w w1 : World} {p n k cap cap' g : Nat} {pm : Option Addr} {rb : Nat → Nat} (h : MatUp w0 w p n k pm cap rb)
    (hown : w1.ownsRow w0.heap.size 66 1 (.slice (some ⟨g, 0, none⟩) (k + 1) cap') (k + 1) (heads n rb k ++ [.slice (some ⟨w.heap.size, 0, none⟩) n n]))
    (hgrow : ((w.alloc (Obj.cells (madeCells #[.bool false] n) 4)).alloc (.cells #[.slice (some ⟨w.heap.size, 0, none⟩) n n] 66)).grownBy w1 (Value.slice pm k cap).ownBlock) :
    MatUp w0 (w1.setCell ⟨p, 1, none⟩ (.slice (some ⟨g, 0, none⟩) (k + 1) cap')) p n (k + 1) (some ⟨g, 0, none⟩) cap' (fun a => if a = k then w.heap.size else rb a) := by
  have hsz := h.grown.size
  have hA := grownBy_trans (World.grownBy_alloc w (Obj.cells (madeCells #[.bool false] n) 4) none) (World.grownBy_alloc _ (.cells #[.slice (some ⟨w.heap.size, 0, none⟩) n n] 66) none)
  -- every block of w that is no row of headers lies in w1 as it lay
  have keepA : ∀ (i : Nat) (cur : Array Value) (t : TypeId), ((w.alloc (Obj.cells (madeCells #[.bool false] n) 4)).alloc (.cells #[.slice (some ⟨w.heap.size, 0, none⟩) n n] 66)).heap[i]? = some (.cells cur t (0, 0)) → t ≠ 66 → w1.heap[i]? = some (.cells cur t (0, 0)) := by
    intro i cur t hi ht
    refine (hgrow.block i (Array.getElem?_eq_some_iff.1 hi).1 fun e => ?_).trans hi
    rcases h.own.2 with ⟨e2, _⟩ | ⟨g2, cap2, cur2, e2, _, hg2, _⟩
    · rw [e2] at e; simp [Value.ownBlock] at e
    · rw [e2] at e
      obtain rfl : i = g2 := by simpa [Value.ownBlock] using e
      have := (hA.block i (Array.getElem?_eq_some_iff.1 hg2).1 (by simp)).trans hg2
      rw [hi] at this
      simp at this
      exact ht this.2
  have keepW : ∀ (i : Nat) (cur : Array Value) (t : TypeId), w.heap[i]? = some (.cells cur t (0, 0)) → t ≠ 66 → w1.heap[i]? = some (.cells cur t (0, 0)) := fun i cur t hi ht =>
    keepA i cur t ((hA.block i (Array.getElem?_eq_some_iff.1 hi).1 (by simp)).trans hi) ht
  have hp1 := keepW p _ _ h.st (by decide)
  have hset : ∀ i o, w1.heap[i]? = some o → i ≠ p → (w1.setCell ⟨p, 1, none⟩ (.slice (some ⟨g, 0, none⟩) (k + 1) cap')).heap[i]? = some o := fun i o ho hne => (Below.heap_setCell _ _ _ _ hne).trans ho
  have hnewrow : BoolRow (w1.setCell ⟨p, 1, none⟩ (.slice (some ⟨g, 0, none⟩) (k + 1) cap')) w.heap.size n (fun _ => false) := by
    obtain ⟨cur, hc1, hc2⟩ := boolRow_new w n
    have h2 := ((World.grownBy_alloc _ (.cells #[.slice (some ⟨w.heap.size, 0, none⟩) n n] 66) none).block w.heap.size (by simp) (by simp)).trans hc1
    exact ⟨cur, hset _ _ (keepA _ _ _ h2 (by decide)) (fun e => by have := (Array.getElem?_eq_some_iff.1 h.st).1; omega), hc2⟩
  refine ⟨h.p1, ?_, ?_, ?_, ?_, ?_, ?_⟩
  · rw [heap_setCell_same _ _ _ _ _ _ hp1]
    rfl
  · have e : heads n (fun a => if a = k then w.heap.size else rb a) (k + 1) = heads n rb k ++ [.slice (some ⟨w.heap.size, 0, none⟩) n n] := by
      rw [heads_succ, if_pos rfl, heads_congr (rb := fun a => if a = k then w.heap.size else rb a) (rc := rb) (fun a ha => if_neg (by omega))]
    rw [e]
    refine hown.kept (grownBy_setCell w1 ⟨p, 1, none⟩ _) (.inr fun e => ?_)
    rcases hown.2 with ⟨e2, _⟩ | ⟨g2, cap2, cur2, e2, _, hg2, _⟩
    · cases e2
    · simp only [Value.slice.injEq, Option.some.injEq, Addr.mk.injEq, and_true, true_and] at e2
      obtain ⟨rfl, rfl⟩ := e2
      obtain rfl : g = p := by simpa [Value.ownBlock] using e
      rw [hp1] at hg2
      simp at hg2
  · intro a ha
    by_cases e : a = k
    · simp only [if_pos e]; exact hsz
    · simp only [if_neg e]; exact h.inb a (by omega)
  · intro a ha
    by_cases e : a = k
    · simp only [if_pos e]; exact hnewrow
    · simp only [if_neg e]
      obtain ⟨cur, hc1, hc2⟩ := h.row a (by omega)
      refine ⟨cur, hset _ _ (keepW _ _ _ hc1 (by decide)) (fun e => ?_), hc2⟩
      have := h.st
      rw [← e, hc1] at this
      simp at this
  · intro a ha c hc hne
    by_cases e : a = k
    · subst e
      simp only [if_pos]
      rw [if_neg (fun e => hne e.symm)]
      have := (h.row c (by omega)).lt
      omega
    · simp only [if_neg e]
      by_cases e2 : c = k
      · simp only [if_pos e2]
        have := (h.row a (by omega)).lt
        omega
      · simp only [if_neg e2]
        exact h.inj a (by omega) c (by omega) hne
  · have h1 : w0.grownBy w1 none := by
      have h2 := grownBy_trans h.grown hA
      cases hob : (Value.slice pm k cap).ownBlock with
      | none => rw [hob] at hgrow; exact grownBy_trans h2 hgrow
      | some r => rw [hob] at hgrow; exact grownBy_new h2 hgrow (h.own.lt r hob).1
    exact grownBy_new h1 (grownBy_setCell w1 ⟨p, 1, none⟩ _) h.p1

set_option maxHeartbeats 400000 in
theorem matNew_zero (w : World) : Calls Tryd.prog 30 #[.int .i64 0] w (MatPost 0 (fun _ _ => false) w) := by
  have HS : Hid (MatUp w (w.alloc (.cells #[.int .i64 ((0 : Nat) : Int), .slice none 0 0] 36)) w.heap.size 0 0 none 0 (fun _ => 0)) := Lib.hid ⟨Nat.le_refl _, World.alloc_heap_new w _, World.ownsRow_nil _ _ _ _, fun a ha => by omega, fun a ha => by omega, fun a ha => by omega, World.grownBy_alloc _ _ _⟩
  go_enter Tryd.func30, Tryd.ntmps30
  go_wp2
  go_loop [4] (fun i => i = .int .i64 0) (fun _ => 0)
  case atStart => rfl
  case round =>
    obtain rfl := hrel
    go_wp2
    go_ret
    exact ⟨_, rfl, (HS.out.end (by omega)).1, (HS.out.end (by omega)).2⟩

set_option maxHeartbeats 1000000 in
theorem matNew_pos (n : Nat) (w : World) (hn : n ≤ 200) (hpos : 0 < n) : Calls Tryd.prog 30 #[.int .i64 n] w (MatPost n (fun _ _ => false) w) := by
  have hmk := run_make_row' (P := Tryd.prog) 66 4 (.bool false) 1 Tryd.underlying66 Tryd.infoB4 rfl .i64 .i64 n (by omega) (by omega)
  obtain ⟨i0, hi0, hz0, hz1, hz2⟩ := info_parts Tryd.infoB66
  have h0 : (0 : Int) ≤ n := by omega
  have h1 : (n : Int) ≤ 200 := by omega
  have HS : Hid (MatUp w (w.alloc (.cells #[.int .i64 n, .slice none 0 0] 36)) w.heap.size n 0 none 0 (fun _ => 0)) := Lib.hid ⟨Nat.le_refl _, World.alloc_heap_new w _, World.ownsRow_nil _ _ _ _, fun a ha => by omega, fun a ha => by omega, fun a ha => by omega, World.grownBy_alloc _ _ _⟩
  go_enter Tryd.func30, Tryd.ntmps30
  go_wp2
  go_loopw [4] (fun i wr => ∃ (k : Nat) (pm : Option Addr) (cap : Nat) (rb : Nat → Nat), k ≤ n ∧ i = .int .i64 k ∧ MatUp w wr w.heap.size n k pm cap rb) (fun i _ => n - (intOf i).toNat)
  case atStart => exact ⟨0, none, 0, _, Nat.zero_le _, rfl, HS.out⟩
  case round =>
    obtain ⟨k, pm, cap, rb, hk, rfl, hup⟩ := hrel
    have hc0 : wr.cell? ⟨w.heap.size, 0, none⟩ = some (.int .i64 n) := by simp [World.cell?, hup.st]
    have hc1 : wr.cell? ⟨w.heap.size, 1, none⟩ = some (.slice pm k cap) := by simp [World.cell?, hup.st]
    have hf1 : wr.frozen? ⟨w.heap.size, 1, none⟩ = false := by simp [World.frozen?, hup.st]
    by_cases hkn : k < n
    · have HUP := Lib.hid hup
      have hlt : w.heap.size < wr.heap.size := (Array.getElem?_eq_some_iff.1 hup.st).1
      have hcn := cell_one_new (wr.alloc (.cells (madeCells #[.bool false] n) 4)) (.slice (some ⟨wr.heap.size, 0, none⟩) n n) 66
      rw [World.size_alloc] at hcn
      have HCN := Lib.hid hcn
      have HNE : Hid (some w.heap.size ≠ (Value.slice pm k cap).ownBlock) := Lib.hid (fun e => by
        rcases hup.own.2 with ⟨e2, _⟩ | ⟨g2, cap2, cur2, e2, _, hg2, _⟩
        · rw [e2] at e; simp [Value.ownBlock] at e
        · rw [e2] at e
          obtain rfl : w.heap.size = g2 := by simpa [Value.ownBlock] using e
          rw [hup.st] at hg2
          simp at hg2)
      have hgA := grownBy_trans (World.grownBy_alloc wr (.cells (madeCells #[.bool false] n) 4) none) (World.grownBy_alloc _ (.cells #[.slice (some ⟨wr.heap.size, 0, none⟩) n n] 66) none)
      have HC0 := Lib.hid ((World.cell?_of_block (a := ⟨w.heap.size, 0, none⟩) (hgA.block _ hlt (by simp))).trans hc0)
      have HC1 := Lib.hid ((World.cell?_of_block (a := ⟨w.heap.size, 1, none⟩) (hgA.block _ hlt (by simp))).trans hc1)
      have HF1 := Lib.hid ((World.frozen?_of_block (a := ⟨w.heap.size, 1, none⟩) (hgA.block _ hlt (by simp))).trans hf1)
      have HLT := Lib.hid (Nat.lt_of_lt_of_le hlt hgA.size)
      clear hup hcn hgA
      go_wp2
      go_region_law (first | ((refine step_append_lies _ (by rfl) _ _ _ (by rfl) w.heap.size 66 i0 (.slice none 0 0) 1 24 Tryd.underlying34 hi0 hz0 hz1 hz2 rfl (by decide) (.slice pm k cap) k (heads n rb k) (by rfl) (by exact (HUP.out.own.alloc _).alloc _) ⟨wr.heap.size + 1, 0, none⟩ 1 1 [.slice (some ⟨wr.heap.size, 0, none⟩) n n] (by rfl) rfl (by exact HCN.out) (by simp [Value.oneCell']) (by decide) (by unfold maxLen; omega) (by omega) (by simp; omega) (wr.heap.size + 1 + 1) (by simp) ?_; intro g cap' w1 hown hgrow hat hgl; have hk0 := World.grownBy.cell hgrow (a := ⟨w.heap.size, 0, none⟩) HC0.out HNE.out; have hk1 := World.grownBy.cell hgrow (a := ⟨w.heap.size, 1, none⟩) HC1.out HNE.out; have hkf := (World.frozen?_of_block (a := ⟨w.heap.size, 1, none⟩) (hgrow.block _ HLT.out HNE.out)).trans HF1.out)))
      all_goals go_wp2
      all_goals exact ⟨⟨k + 1, _, _, _, by omega, by go_num, HUP.out.step hown (grownBy_trans (grownBy_drewN _ 1 _) hgrow)⟩, by simp [intOf]; omega⟩
    · obtain rfl : k = n := by omega
      have HE := Lib.hid (hup.end hn)
      clear hup
      go_wp2
      go_ret
      exact ⟨_, rfl, HE.out.1, HE.out.2⟩

theorem matNew_c (n : Nat) (w : World) (hn : n ≤ 200) : Calls Tryd.prog 30 #[.int .i64 n] w (MatPost n (fun _ _ => false) w) := by
  by_cases h : n = 0
  · subst h; exact matNew_zero w
  · exact matNew_pos n w hn (by omega)

end Go.Proofs.YtdolcdededmlhaaDoor
