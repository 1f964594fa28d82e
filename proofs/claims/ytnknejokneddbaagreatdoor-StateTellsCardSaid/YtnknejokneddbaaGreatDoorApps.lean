/- Contracts and plain facts, put together: Apps. -/
import Derived.RangeFuncBox
import Derived.OrdersHeld
import Derived.Test.YtnknejokneddbaaGreatDoorBits
import Derived.Test.YtnknejokneddbaaGreatDoorObja
namespace Go.Proofs.YtnknejokneddbaaGreatDoor
open Go.RowKit

/-- A world that came of w by new memory and draws alone. -/
structure Later (w : World) where
 at_ : World
 ok : w.grownBy at_ none

theorem region_quiet_in {P : Program} {C : World → Prop} {id : Nat} {Q : Exit → Act → World → Prop} {a : Act} {w : World} {l : List Oper} (hm : P.follows .mixedOrders = true) (hB : Region.lexB .any l.toArray = true) (hC : C { w with drawn := w.drawn + 1 })
  (h : wpQuiet P l.toArray C (fun a' => ∀ w', C w' → Q .normal a' w') l a) : (Code.region id l.toArray true).wp P Q a w :=
 wp_region_quiet hm hB hC (by simpa using h)

/-- A callee's contract that leaves all that lay, in every later world. -/
theorem later_call {P : Program} {f : FuncId} {args : Array Value} {v : Value} {w0 : World} (h : ∀ w, w0.grownBy w none → Calls P f args w fun e w' => e = .returned v ∧ w.grownBy w' none) (z : Later w0) :
  Calls P f args z.at_ fun e w' => e = .returned v ∧ ∃ z' : Later w0, w' = z'.at_ := by
 refine (h z.at_ z.ok).mono ?_
 rintro e w' ⟨rfl, hg⟩
 exact ⟨rfl, ⟨w', grownBy_trans z.ok hg⟩, rfl⟩
theorem later_one (w : World) : Nonempty (Later w) := ⟨⟨w, grownBy_refl w none⟩⟩
theorem later_drew (w : World) : ∃ z : Later w, { w with drawn := w.drawn + 1 } = z.at_ := ⟨⟨_, grownBy_drewN w 1 none⟩, rfl⟩
theorem later_cell {w : World} {a : Addr} {v : Value} (h : w.cell? a = some v) (z : Later w) : z.at_.cell? a = some v :=
 World.grownBy.cell z.ok h (by simp)

end Go.Proofs.YtnknejokneddbaaGreatDoor

namespace Go.Proofs.YtnknejokneddbaaGreatDoor
open Go.RowKit Go.Shelf

theorem ownsRow_sl {w : World} {base : Nat} {e : TypeId} {size n : Nat} {v : Value} {xs : List Value} (h : w.ownsRow base e size v n xs) : ∃ p c, v = .slice p n c := by
 rcases h.2 with ⟨e1, e2⟩ | ⟨g, cap, cur, e1, _⟩
 ·exact ⟨none, 0, by rw [e1, e2]⟩
 ·exact ⟨_, _, e1⟩

/-- What turns a new row alone makes new memory alone. -/
theorem ownsRow_new {w wr w2 : World} {e : TypeId} {size n : Nat} {v : Value} {xs : List Value} (h : w.grownBy wr none) (ho : wr.ownsRow w.heap.size e size v n xs) (hg : wr.grownBy w2 v.ownBlock) : w.grownBy w2 none := by
 rcases ho.2 with ⟨rfl, _⟩ | ⟨g, cap, cur, rfl, h1, _⟩
 ·exact grownBy_trans h hg
 ·exact grownBy_new h hg h1

/-- append of a slice that may be nil, in a plain region. -/
theorem wpList_append_src {P : Program} {w : World} {ops : Array Oper} {rest : List Oper} {o : Oper} {a : Act} {Q : Exit → Act → World → Prop} (hgd : o.guard = none) (s x : Operand) (t : TypeId)
  (ho : o.op = .call { callee := .builtin .append, args := #[s, x], argTypes := #[t, t] })
  (base : Nat) (e : TypeId) (i : TypeInfo) (z : Value) (size bytes : Nat) (ht : P.underlying t = some (.slice e)) (hi : P.info? e = some i) (hz : i.zero = some z)
  (hsize : i.size = size) (hby : i.bytes = bytes) (hzs : z.cells.size = size) (hsz : 0 < size)
  (v : Value) (n : Nat) (xs : List Value) (hs : a.eval s = v) (hown : w.ownsRow base e size v n xs)
  (px : Option Addr) (m c : Nat) (news : List Value) (hx : a.eval x = .slice px m c) (hl : news.length = m * size)
  (hsrc : (px = none ∧ m = 0 ∧ c = 0) ∨ ∃ ad, px = some ad ∧ ∀ j u, news[j]? = some u → w.cell? (ad.add j) = some u) (h1 : ∀ u ∈ news, u.oneCell' = true)
  (h63 : n + m ≤ maxLen) (hbytes : (n + m) * bytes ≤ 140737488355328) (hbase : base ≤ w.heap.size)
  (h : ∀ p' c' w', w'.ownsRow base e size (.slice p' (n + m) c') (n + m) (xs ++ news) → w.grownBy w' v.ownBlock → wpList P ops Q rest (a.put o.dst (.slice p' (n + m) c')) w') : wpList P ops Q (o :: rest) a w := by
 rcases hsrc with ⟨rfl, rfl, rfl⟩ | ⟨ad, rfl, hnews⟩
 ·have hnl : news = [] := List.eq_nil_of_length_eq_zero (by omega)
  subst hnl
  obtain ⟨p', c', rfl⟩ := ownsRow_sl hown
  exact wpList_append_own_none hgd s x t ho base e i size ht hi (.slice p' n c') n xs hs hown hx (h p' c' w (by simpa using hown) (grownBy_refl _ _))
 ·refine wpList_append_own _ hgd s x t ho base e i z size bytes ht hi hz hsize hby hzs hsz v n xs hs hown ad m c news hx hl hnews h1 h63 hbytes hbase fun v' w' h2 h3 _ => ?_
  obtain ⟨p', c', rfl⟩ := ownsRow_sl h2
  exact h p' c' w' h2 h3
theorem src_strs {w : World} {lo hi n c : Nat} {p : Option Addr} {l : List ByteArray} (h : StrsAt w lo hi p n l) (hp : p = none → c = 0) : (p = none ∧ n = 0 ∧ c = 0) ∨ ∃ ad, p = some ad ∧ ∀ j u, (scells l)[j]? = some u → w.cell? (ad.add j) = some u := by
 cases p with
 | none =>
  refine .inl ⟨rfl, ?_, hp rfl⟩
  rcases Nat.eq_zero_or_pos n with e | e
  ·exact e
  ·obtain ⟨_, _, e2, _⟩ := h.cell e; cases e2
 | some ad => exact .inr ⟨ad, rfl, strs_news h⟩

/-- A walk's next operation by itself. -/
theorem held_next {P : Program} {Q : Exit → Act → World → Prop} {S : World → Prop} {ops : Array Oper} {fuel : Nat} {listed : Array Bool} {a : Act} {w : World} (i : Nat) (hr : Region.ready .any ops listed = [i]) {o : Oper} (ho : ops[i]? = some o)
  (h : ∀ K : Act → World → Prop, (∀ a' w', S w' → wpAnyH P .any ops Q S fuel (listed.setIfInBounds i true) a' w' → K a' w') → if Region.wanted o (yielded ops a.tmps) = true then Oper.wp P o a w K Q else K (a.put o.dst undef) w) : wpAnyH P .any ops Q S (fuel + 1) listed a w := by
 refine wpAnyH_all hr (by simp) fun j hj => ?_
 obtain rfl : j = i := by simpa using hj
 exact wpOp_step ho (fun K hK => h K fun a' w' h1 h2 => hK a' w' ⟨h1, h2⟩)
/-- Two that may come up. -/
theorem held_two {P : Program} {Q : Exit → Act → World → Prop} {S : World → Prop} {ops : Array Oper} {fuel : Nat} {listed : Array Bool} {a : Act} {w : World} (i k : Nat) (hr : Region.ready .any ops listed = [i, k]) {o o' : Oper} (ho : ops[i]? = some o) (ho' : ops[k]? = some o')
  (h : ∀ K : Act → World → Prop, (∀ a' w', S w' → wpAnyH P .any ops Q S fuel (listed.setIfInBounds i true) a' w' → K a' w') → if Region.wanted o (yielded ops a.tmps) = true then Oper.wp P o a w K Q else K (a.put o.dst undef) w)
  (h' : ∀ K : Act → World → Prop, (∀ a' w', S w' → wpAnyH P .any ops Q S fuel (listed.setIfInBounds k true) a' w' → K a' w') → if Region.wanted o' (yielded ops a.tmps) = true then Oper.wp P o' a w K Q else K (a.put o'.dst undef) w) : wpAnyH P .any ops Q S (fuel + 1) listed a w := by
 refine wpAnyH_all hr (by simp) fun j hj => ?_
 rcases (by simpa using hj : j = i ∨ j = k) with rfl | rfl
 ·exact wpOp_step ho (fun K hK => h K fun a' w' h1 h2 => hK a' w' ⟨h1, h2⟩)
 ·exact wpOp_step ho' (fun K hK => h' K fun a' w' h1 h2 => hK a' w' ⟨h1, h2⟩)

/-- A row of strings in memory of its own. -/
theorem strsAt_ownC {w : World} {base : Nat} {v : Value} {l : List ByteArray} (h : w.ownsRow base 9 1 v l.length (scells l)) :
  ∃ p c, v = .slice p l.length c ∧ StrsAt w base w.heap.size p l.length l ∧ (p = none → c = 0) ∧ l.length ≤ c := by
 rcases h.2 with ⟨rfl, h0⟩ | ⟨g, cap, cur, rfl, hb, hg, hle, _⟩
 ·rw [h0]; exact ⟨none, 0, rfl, ⟨h0, fun h => absurd h (by omega)⟩, fun _ => rfl, Nat.le_refl _⟩
 ·refine ⟨_, cap, rfl, ⟨rfl, fun hn => ⟨g, 0, rfl, hb, (Array.getElem?_eq_some_iff.1 hg).1, Nat.le_refl _, fun k hk => ?_⟩⟩, (fun h => by cases h), hle⟩
  have hc := h.cells (g := g) rfl k _ (scells_get hk)
  rw [add_off] at hc
  exact hc
theorem scells_snoc (l : List ByteArray) (x : ByteArray) : scells (l ++ [x]) = scells l ++ [.string x] := by unfold scells; simp

/-- Behind an append onto a row of one's own nothing has turned that lay before. -/
theorem grownBy_app {w wr w1 : World} {o : Obj} {size n : Nat} {e : TypeId} {v : Value} {xs : List Value} (hg : w.grownBy wr none) (hrow : wr.ownsRow w.heap.size e size v n xs) (hgrow : (wr.alloc o).grownBy w1 v.ownBlock) : w.grownBy w1 none := by
 have hb : Below w.heap.size w (wr.alloc o) := (grownBy_below hg).alloc hg.size o
 exact below_grownBy (hb.grown hgrow (by have := hg.size; simp; omega) (fun k hk => (hrow.lt k hk).1))

end Go.Proofs.YtnknejokneddbaaGreatDoor
