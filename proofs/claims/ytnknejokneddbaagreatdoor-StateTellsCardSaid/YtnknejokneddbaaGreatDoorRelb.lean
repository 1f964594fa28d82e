/- Package rel: Only; the callers' forms of its contracts; the relation of a list of pairs. -/
import Derived.Test.YtnknejokneddbaaGreatDoorRela
/-! The contract of Only of package rel. -/
namespace Go.Proofs.YtnknejokneddbaaGreatDoor
open Go.RowKit

/-- A slice of bools that reads as l, in a block from lo to hi. -/
structure BoolsAt (w : World) (lo hi : Nat) (p : Option Addr) (n : Nat) (l : List Bool) : Prop where
 len : l.length = n
 cell : 0 < n → ∃ b off, p = some ⟨b, off, none⟩ ∧ lo ≤ b ∧ b < hi ∧ hi ≤ w.heap.size ∧ ∀ k, k < n → w.cell? ⟨b, off + k, none⟩ = some (.bool (l[k]?.getD false))

theorem BoolsAt.calm {w w' : World} {lo hi : Nat} {p : Option Addr} {n : Nat} {l : List Bool} (h : BoolsAt w lo hi p n l) (hg : w.grownBy w' none) : BoolsAt w' lo hi p n l := by
 refine ⟨h.len, fun hn => ?_⟩
 obtain ⟨b, off, hp, h1, h2, h3, hc⟩ := h.cell hn
 have hb : w'.heap[b]? = w.heap[b]? := hg.block b (by omega) (by simp)
 exact ⟨b, off, hp, h1, h2, Nat.le_trans h3 hg.size, fun k hk => (World.cell?_of_block (a := ⟨b, off + k, none⟩) hb).trans (hc k hk)⟩

theorem BoolsAt.apart {w w' : World} {lo hi lo' hi' : Nat} {p : Option Addr} {n : Nat} {l : List Bool} (h : BoolsAt w lo hi p n l) (hg : Kept lo' hi' w w') (hd : hi ≤ lo' ∨ hi' ≤ lo) : BoolsAt w' lo hi p n l := by
 refine ⟨h.len, fun hn => ?_⟩
 obtain ⟨b, off, hp, h1, h2, h3, hc⟩ := h.cell hn
 have hb : w'.heap[b]? = w.heap[b]? := hg.block b (by omega) (by omega)
 exact ⟨b, off, hp, h1, h2, Nat.le_trans h3 hg.size, fun k hk => (World.cell?_of_block (a := ⟨b, off + k, none⟩) hb).trans (hc k hk)⟩

/-- A row of a relation under the join with another row, and the cut with a third one. -/
theorem Rows'.at {w : World} {lo hi p pb n k : Nat} {bs ws : Nat → Nat} {R : Nat → Nat → Bool} (h : Rows' w lo hi p pb n k bs ws R) {a : Nat} (ha : a < k) : IsSet w (bs a) (ws a) n (R a) := h.row a ha

theorem IsSet.lt {w : World} {b wb n : Nat} {S : Nat → Bool} (h : IsSet w b wb n S) : b < w.heap.size ∧ wb < w.heap.size := by
 obtain ⟨ws, hr, _⟩ := h
 exact ⟨hr.hb, hr.hw⟩

end Go.Proofs.YtnknejokneddbaaGreatDoor
/-! The contracts of package rel as the statements use them; what their own function known does. Condition: the table of the lowest places is in memory. -/
namespace Go.Proofs.YtnknejokneddbaaGreatDoor
open Go.RowKit

/-- What known makes. -/
def r3 : Nat → Nat → Bool := ofL 3 [(0, 1), (1, 2)]
def c3 : Nat → Nat → Bool := clo 3 r3
end Go.Proofs.YtnknejokneddbaaGreatDoor
/-! The relation of a list of pairs, in plain lists. -/
namespace Go.Proofs.YtnknejokneddbaaGreatDoor
open Go.RowKit

end Go.Proofs.YtnknejokneddbaaGreatDoor
