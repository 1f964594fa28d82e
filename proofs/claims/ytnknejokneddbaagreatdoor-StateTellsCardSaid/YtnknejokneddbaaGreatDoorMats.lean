/- The reference's relations: the contracts of New, Has, Of, Copy, Closure, Same, Pairs, Some. -/
import Derived.Deep.AppendLies
import Derived.Deep.RegionLaw
import Derived.StillTailTactics
import Derived.Test.YtnknejokneddbaaGreatDoorRelb
/-! The document's relations in memory: a table of marks; the contracts of New, Is, Has of package centoref2. -/
namespace Go.Proofs.YtnknejokneddbaaGreatDoor
open Go.RowKit

/-- A row of marks in a block of its own. -/
def BoolRow (w : World) (b n : Nat) (S : Nat → Bool) : Prop := ∃ cur : Array Value, w.heap[b]? = some (.cells cur 4 (0, 0)) ∧ ∀ i, i < n → cur[i]? = some (.bool (S i))

theorem BoolRow.kept {w w' : World} {b n : Nat} {S : Nat → Bool} (h : BoolRow w b n S) (e : w'.heap[b]? = w.heap[b]?) : BoolRow w' b n S := by
 obtain ⟨cur, h1, h2⟩ := h
 exact ⟨cur, e.trans h1, h2⟩
theorem BoolRow.cell {w : World} {b n : Nat} {S : Nat → Bool} (h : BoolRow w b n S) {i : Nat} (hi : i < n) : w.cell? ⟨b, i, none⟩ = some (.bool (S i)) := by
 obtain ⟨cur, h1, h2⟩ := h
 simp only [World.cell?, h1]
 exact h2 i hi
theorem BoolRow.free {w : World} {b n : Nat} {S : Nat → Bool} (h : BoolRow w b n S) (i : Nat) : w.frozen? ⟨b, i, none⟩ = false := by
 obtain ⟨cur, h1, h2⟩ := h
 simp only [World.frozen?, h1]
 simp
theorem BoolRow.lt {w : World} {b n : Nat} {S : Nat → Bool} (h : BoolRow w b n S) : b < w.heap.size := by
 obtain ⟨cur, h1, h2⟩ := h
 exact (Array.getElem?_eq_some_iff.1 h1).1
theorem BoolRow.congr {w : World} {b n : Nat} {S T : Nat → Bool} (h : BoolRow w b n S) (e : ∀ i, i < n → S i = T i) : BoolRow w b n T := by
 obtain ⟨cur, h1, h2⟩ := h
 exact ⟨cur, h1, fun i hi => by rw [← e i hi]; exact h2 i hi⟩
theorem BoolRow.set {w : World} {b n : Nat} {S : Nat → Bool} (h : BoolRow w b n S) {i : Nat} (hi : i < n) (v : Bool) : BoolRow (w.setCell ⟨b, i, none⟩ (.bool v)) b n (fun j => if j = i then v else S j) := by
 obtain ⟨cur, h1, h2⟩ := h
 refine ⟨_, heap_setCell_same w b i cur _ _ h1, fun j hj => ?_⟩
 have hl : i < cur.size := (Array.getElem?_eq_some_iff.1 (h2 i hi)).1
 by_cases e : j = i
 ·subst e
  simp [hl]
 ·show _ = some (Value.bool (if j = i then v else S j))
  rw [if_neg e, ← h2 j hj, Array.getElem?_setIfInBounds_ne (fun e' => e e'.symm)]

/-- The first k rows of a table of n elements. -/
structure Tabl (w : World) (lo hi p n k : Nat) (pm : Option Addr) (cap mb : Nat) (rb : Nat → Nat) (R : Nat → Nat → Bool) : Prop where
 top : hi ≤ w.heap.size
 p1 : lo ≤ p
 p2 : p < hi
 st : w.heap[p]? = some (.cells #[.int .i64 n, .slice pm k cap] 119 (0, 0))
 tab : 0 < k → pm = some ⟨mb, 0, none⟩ ∧ lo ≤ mb ∧ mb < hi ∧ ∃ cur : Array Value, w.heap[mb]? = some (.cells cur 116 (0, 0)) ∧ ∀ a, a < k → cur[a]? = some (.slice (some ⟨rb a, 0, none⟩) n n)
 inb : ∀ a, a < k → lo ≤ rb a ∧ rb a < hi
 row : ∀ a, a < k → BoolRow w (rb a) n (R a)
 inj : ∀ a, a < k → ∀ c, c < k → a ≠ c → rb a ≠ rb c

def IsMat (w : World) (lo hi p n : Nat) (R : Nat → Nat → Bool) : Prop := n ≤ 200 ∧ Supp n R ∧ ∃ pm cap mb rb, Tabl w lo hi p n n pm cap mb rb R

theorem Tabl.kept {w w' : World} {lo hi p n k cap mb : Nat} {pm : Option Addr} {rb : Nat → Nat} {R : Nat → Nat → Bool} (h : Tabl w lo hi p n k pm cap mb rb R) (hs : w.heap.size ≤ w'.heap.size) (hb : ∀ i, lo ≤ i → i < hi → w'.heap[i]? = w.heap[i]?) : Tabl w' lo hi p n k pm cap mb rb R := by
 refine ⟨Nat.le_trans h.top hs, h.p1, h.p2, (hb p h.p1 h.p2).trans h.st, fun hk => ?_, h.inb, fun a ha => (h.row a ha).kept (hb _ (h.inb a ha).1 (h.inb a ha).2), h.inj⟩
 obtain ⟨e1, e2, e3, cur, e4, e5⟩ := h.tab hk
 exact ⟨e1, e2, e3, cur, (hb mb e2 e3).trans e4, e5⟩
theorem IsMat.kept {w w' : World} {lo hi p n : Nat} {R : Nat → Nat → Bool} (h : IsMat w lo hi p n R) (hs : w.heap.size ≤ w'.heap.size) (hb : ∀ i, lo ≤ i → i < hi → w'.heap[i]? = w.heap[i]?) : IsMat w' lo hi p n R := by
 obtain ⟨h1, h2, pm, cap, mb, rb, h3⟩ := h
 exact ⟨h1, h2, pm, cap, mb, rb, h3.kept hs hb⟩
theorem IsMat.top {w : World} {lo hi p n : Nat} {R : Nat → Nat → Bool} (h : IsMat w lo hi p n R) : hi ≤ w.heap.size := by
 obtain ⟨_, _, _, _, _, _, h3⟩ := h
 exact h3.top
theorem IsMat.lt {w : World} {lo hi p n : Nat} {R : Nat → Nat → Bool} (h : IsMat w lo hi p n R) : lo < hi := by
 obtain ⟨_, _, _, _, _, _, h3⟩ := h
 have := h3.p1; have := h3.p2; omega
theorem IsMat.small {w : World} {lo hi p n : Nat} {R : Nat → Nat → Bool} (h : IsMat w lo hi p n R) : n ≤ 200 := h.1
theorem IsMat.calm {w w' : World} {lo hi p n : Nat} {R : Nat → Nat → Bool} (h : IsMat w lo hi p n R) (hg : w.grownBy w' none) : IsMat w' lo hi p n R :=
 h.kept hg.size fun i _ h2 => hg.block i (Nat.lt_of_lt_of_le h2 h.top) (by simp)
theorem IsMat.apart {w w' : World} {lo hi p n lo' hi' : Nat} {R : Nat → Nat → Bool} (h : IsMat w lo hi p n R) (hg : Kept lo' hi' w w') (hd : hi ≤ lo' ∨ hi' ≤ lo) : IsMat w' lo hi p n R :=
 h.kept hg.size fun i h1 h2 => hg.block i (Nat.lt_of_lt_of_le h2 h.top) (by omega)
theorem IsMat.outer {w : World} {lo hi p n : Nat} {R : Nat → Nat → Bool} (h : IsMat w lo hi p n R) {lo' : Nat} (h3 : lo' ≤ lo) (h1 : hi ≤ w.heap.size) : IsMat w lo' w.heap.size p n R := by
 obtain ⟨a1, a2, pm, cap, mb, rb, a3⟩ := h
 refine ⟨a1, a2, pm, cap, mb, rb, Nat.le_refl _, by have := a3.p1; omega, by have := a3.p2; omega, a3.st, fun hk => ?_, fun a ha => by have := a3.inb a ha; omega, a3.row, a3.inj⟩
 obtain ⟨e1, e2, e3, e4⟩ := a3.tab hk
 exact ⟨e1, by omega, by omega, e4⟩

theorem Tabl.c0 {w : World} {lo hi p n k cap mb : Nat} {pm : Option Addr} {rb : Nat → Nat} {R : Nat → Nat → Bool} (h : Tabl w lo hi p n k pm cap mb rb R) : w.cell? ⟨p, 0, none⟩ = some (.int .i64 n) := by simp [World.cell?, h.st]
theorem Tabl.c1 {w : World} {lo hi p n k cap mb : Nat} {pm : Option Addr} {rb : Nat → Nat} {R : Nat → Nat → Bool} (h : Tabl w lo hi p n k pm cap mb rb R) : w.cell? ⟨p, 1, none⟩ = some (.slice pm k cap) := by simp [World.cell?, h.st]
theorem Tabl.f1 {w : World} {lo hi p n k cap mb : Nat} {pm : Option Addr} {rb : Nat → Nat} {R : Nat → Nat → Bool} (h : Tabl w lo hi p n k pm cap mb rb R) : w.frozen? ⟨p, 1, none⟩ = false := by simp [World.frozen?, h.st]
theorem Tabl.cm {w : World} {lo hi p n k cap mb : Nat} {pm : Option Addr} {rb : Nat → Nat} {R : Nat → Nat → Bool} (h : Tabl w lo hi p n k pm cap mb rb R) {a : Nat} (ha : a < k) : pm = some ⟨mb, 0, none⟩ ∧ w.cell? ⟨mb, a, none⟩ = some (.slice (some ⟨rb a, 0, none⟩) n n) := by
 obtain ⟨e1, e2, e3, cur, e4, e5⟩ := h.tab (by omega)
 refine ⟨e1, ?_⟩
 simp only [World.cell?, e4]
 exact e5 a ha

/-- A mark is put. -/
theorem Tabl.put {w : World} {lo hi p n k cap mb : Nat} {pm : Option Addr} {rb : Nat → Nat} {R T : Nat → Nat → Bool} (h : Tabl w lo hi p n k pm cap mb rb R) {a b : Nat} (ha : a < k) (hb : b < n) (v : Bool) (hT : ∀ x y, y < n → T x y = if x = a ∧ y = b then v else R x y) :
  Tabl (w.setCell ⟨rb a, b, none⟩ (.bool v)) lo hi p n k pm cap mb rb T := by
 have hgs := grownBy_setCell w ⟨rb a, b, none⟩ (.bool v)
 have hr := h.row a ha
 obtain ⟨cur, hcur, _⟩ := id hr
 have hother : ∀ i o, w.heap[i]? = some o → i ≠ rb a → (w.setCell ⟨rb a, b, none⟩ (.bool v)).heap[i]? = some o := fun i o ho hne => (Below.heap_setCell _ _ _ _ hne).trans ho
 refine ⟨Nat.le_trans h.top hgs.size, h.p1, h.p2, hother _ _ h.st (fun e => by have := h.st; rw [e, hcur] at this; simp at this), fun hk => ?_, h.inb, fun x hx => ?_, h.inj⟩
 ·obtain ⟨e1, e2, e3, cur2, e4, e5⟩ := h.tab hk
  exact ⟨e1, e2, e3, cur2, hother _ _ e4 (fun e => by rw [e, hcur] at e4; simp at e4), e5⟩
 ·by_cases e : x = a
  ·subst e
   refine (hr.set hb v).congr fun i hi => ?_
   rw [hT x i hi]
   simp
  ·refine ((h.row x hx).kept (Below.heap_setCell _ _ _ _ (h.inj x hx a ha e))).congr fun i hi => ?_
   rw [hT x i hi, if_neg (by simp [e])]

/-- The headers of the rows. -/
def heads (n : Nat) (rb : Nat → Nat) (k : Nat) : List Value := (List.range k).map fun a => .slice (some ⟨rb a, 0, none⟩) n n

/-- A table under way. -/
structure MatUp (w0 w : World) (p n k : Nat) (pm : Option Addr) (cap : Nat) (rb : Nat → Nat) : Prop where
 p1 : w0.heap.size ≤ p
 st : w.heap[p]? = some (.cells #[.int .i64 n, .slice pm k cap] 119 (0, 0))
 own : w.ownsRow w0.heap.size 116 1 (.slice pm k cap) k (heads n rb k)
 inb : ∀ a, a < k → w0.heap.size ≤ rb a
 row : ∀ a, a < k → BoolRow w (rb a) n (fun _ => false)
 inj : ∀ a, a < k → ∀ c, c < k → a ≠ c → rb a ≠ rb c
 grown : w0.grownBy w none

theorem MatUp.end {w0 w : World} {p n cap : Nat} {pm : Option Addr} {rb : Nat → Nat} (h : MatUp w0 w p n n pm cap rb) (hn : n ≤ 200) : IsMat w w0.heap.size w.heap.size p n (fun _ _ => false) ∧ w0.grownBy w none := by
 have hp := (Array.getElem?_eq_some_iff.1 h.st).1
 rcases h.own.2 with ⟨e, h0⟩ | ⟨g, cap', cur, e, hb, hg, _, _, _, ht⟩
 ·subst h0
  exact ⟨⟨by omega, supp_none _, pm, cap, 0, rb, Nat.le_refl _, h.p1, hp, h.st, fun hk => by omega, fun a ha => by omega, fun a ha => by omega, fun a ha => by omega⟩, h.grown⟩
 ·simp only [Value.slice.injEq, true_and] at e
  obtain ⟨rfl, rfl⟩ := e
  refine ⟨⟨hn, supp_none _, some ⟨g, 0, none⟩, cap, g, rb, Nat.le_refl _, h.p1, hp, h.st, fun _ => ⟨rfl, hb, (Array.getElem?_eq_some_iff.1 hg).1, cur, hg, fun a ha => ?_⟩, fun a ha => ⟨h.inb a ha, (h.row a ha).lt⟩, h.row, h.inj⟩, h.grown⟩
  have e2 : (heads n rb n)[a]? = some (.slice (some ⟨rb a, 0, none⟩) n n) := by
   unfold heads
   rw [List.getElem?_map, List.getElem?_range ha]
   rfl
  rw [← ht, List.getElem?_take_of_lt (by omega), Array.getElem?_toList] at e2
  exact e2

end Go.Proofs.YtnknejokneddbaaGreatDoor
/-! The contracts of Has, Of, Copy, Closure of package centoref2. -/
namespace Go.Proofs.YtnknejokneddbaaGreatDoor
open Go.RowKit

/-- A mark put in a table. -/
theorem IsMat.put {w : World} {lo hi p n : Nat} {R T : Nat → Nat → Bool} (h : IsMat w lo hi p n R) {a b : Nat} (ha : a < n) (hb : b < n) (v : Bool) (hT : ∀ x y, T x y = if x = a ∧ y = b then v else R x y) (hsT : Supp n T) :
  ∃ pm mb rb cap, pm = some ⟨mb, 0, none⟩ ∧ w.cell? ⟨p, 1, none⟩ = some (.slice pm n cap) ∧ w.cell? ⟨mb, a, none⟩ = some (.slice (some ⟨rb, 0, none⟩) n n) ∧ w.cell? ⟨rb, b, none⟩ = some (.bool (R a b)) ∧ w.frozen? ⟨rb, b, none⟩ = false ∧
   ∀ w' : World, w'.heap = w.heap → w'.os = w.os → w'.tape = w.tape → w'.output = w.output → IsMat (w'.setCell ⟨rb, b, none⟩ (.bool v)) lo hi p n T ∧ Kept lo hi w (w'.setCell ⟨rb, b, none⟩ (.bool v)) := by
 obtain ⟨h1, h2, pm, cap, mb, rb, h3⟩ := h
 obtain ⟨e1, e2⟩ := h3.cm ha
 refine ⟨pm, mb, rb a, cap, e1, h3.c1, e2, (h3.row a ha).cell hb, (h3.row a ha).free b, fun w' hw ho ht hu => ?_⟩
 have h3' : Tabl w' lo hi p n n pm cap mb rb R := h3.kept (by rw [hw]; exact Nat.le_refl _) fun i _ _ => by rw [hw]
 refine ⟨⟨h1, hsT, pm, cap, mb, rb, h3'.put ha hb v fun x y _ => hT x y⟩, ?_⟩
 have hk := Kept.row (lo := lo) (hi := hi) (grownBy_setCell w' ⟨rb a, b, none⟩ (.bool v)) (h3.inb a ha).1 (h3.inb a ha).2
 exact ⟨hk.os.trans ho, hk.tape.trans ht, hk.output.trans hu, by have := hk.size; rw [hw] at this; exact this, fun i hi hn => (hk.block i (by rw [hw]; exact hi) hn).trans (by rw [hw])⟩

theorem IsMat.c0 {w : World} {lo hi p n : Nat} {R : Nat → Nat → Bool} (h : IsMat w lo hi p n R) : w.cell? ⟨p, 0, none⟩ = some (.int .i64 n) := by
 obtain ⟨h1, h2, pm, cap, mb, rb, h3⟩ := h
 exact h3.c0

end Go.Proofs.YtnknejokneddbaaGreatDoor
/-! The contracts of Closure, Same, Pairs, Only of package centoref2. -/
namespace Go.Proofs.YtnknejokneddbaaGreatDoor
open Go.RowKit

end Go.Proofs.YtnknejokneddbaaGreatDoor
/-! The contract of Pairs of package centoref2. -/
namespace Go.Proofs.YtnknejokneddbaaGreatDoor
open Go.RowKit

/-- Pairs so far, in a slice of their own. -/
def OwnP (w : World) (base : Nat) (v : Value) (q : List (Int × Int)) : Prop := ∃ p c, v = .slice p q.length c ∧ w.ownsRow base 88 2 (.slice p q.length c) q.length (pcells q)

theorem OwnP.calm {w w' : World} {base : Nat} {v : Value} {q : List (Int × Int)} (h : OwnP w base v q) (hg : w.grownBy w' none) : OwnP w' base v q := by
 obtain ⟨p, c, h1, h2⟩ := h
 exact ⟨p, c, h1, h2.kept hg (by cases (Value.slice p q.length c).ownBlock <;> simp)⟩

end Go.Proofs.YtnknejokneddbaaGreatDoor
/-! The contract of Some of package centoref2. -/
namespace Go.Proofs.YtnknejokneddbaaGreatDoor
open Go.RowKit

end Go.Proofs.YtnknejokneddbaaGreatDoor
