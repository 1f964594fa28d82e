/- Both sides of StateFiles: the way from one file to another, who is alive, files in a row of one. -/
import Derived.Test.YtnknejokneddbaaGreatDoorRefF
import Derived.Test.YtnknejokneddbaaGreatDoorMixA
namespace Go.Proofs.YtnknejokneddbaaGreatDoor
open Go.RowKit

theorem legK_len13 {a b : List Lne} {k : Nat} (hk : k ≤ a.length) : (legK a b k).length = k := by
 unfold legK
 rw [List.length_map, List.length_take]
 omega
theorem zsAt_own13 {w : World} {base : Nat} {v : Value} {l : List Int} (h : w.ownsRow base 3 1 v l.length (zcells l)) :
  ∃ p c, v = .slice p l.length c ∧ ZsAt w base w.heap.size p l.length l := by
 rcases h.2 with ⟨rfl, h0⟩ | ⟨g, cap, cur, rfl, hb, hg, _⟩
 ·rw [h0]; exact ⟨none, 0, rfl, h0, fun h => absurd h (by omega)⟩
 ·refine ⟨_, cap, rfl, rfl, fun hn => ⟨g, 0, rfl, hb, (Array.getElem?_eq_some_iff.1 hg).1, Nat.le_refl _, fun k hk => ?_⟩⟩
  have hz : (zcells l)[k]? = some (.int .i64 (l[k]?.getD 0)) := by
   unfold zcells
   rw [List.getElem?_map, List.getElem?_eq_getElem hk]
   rfl
  have hc := h.cells (g := g) rfl k _ hz
  rw [add_off] at hc
  exact hc
theorem zs_wide13 {w : World} {lo hi : Nat} {p : Option Addr} {n : Nat} {l : List Int} (h : ZsAt w lo hi p n l) : ZsAt w 0 w.heap.size p n l := ⟨h.len, fun hn => by
 obtain ⟨b, off, hp, k1, k2, k3, hc⟩ := h.cell hn
 exact ⟨b, off, hp, Nat.zero_le _, by omega, Nat.le_refl _, hc⟩⟩
/-- Is each line there? The way, if so. -/
def legR (ls ms : List Lne) : Bool := (List.range ls.length).all fun j => decide (0 ≤ atV ms (nID (ls[j]?.getD lne0)))
def legL (ls ms : List Lne) : List Int := if legR ls ms = true then legK ls ms ls.length else []
def LegP (ls ms : List Lne) (w : World) (e : Ending) (w' : World) : Prop := ∃ p c, e = .returned (.tuple #[.slice p (legL ls ms).length c, .bool (legR ls ms)]) ∧ ZsAt w' 0 w'.heap.size p (legL ls ms).length (legL ls ms) ∧ w.grownBy w' none
theorem leg_fin {ls ms : List Lne} {nl : Nat} {w : World} {e : Ending} {w' : World} (hn : ls.length = nl) (h : w.grownBy w' none ∧ ((∃ v, e = .returned (.tuple #[v, .bool true]) ∧ (∀ j, j < nl → 0 ≤ atV ms (nID (ls[j]?.getD lne0))) ∧ w'.ownsRow (w.heap.size + 2) 3 1 v nl (zcells (legK ls ms nl))) ∨
   (e = .returned (.tuple #[.slice none 0 0, .bool false]) ∧ ∃ j, j < nl ∧ atV ms (nID (ls[j]?.getD lne0)) < 0))) : LegP ls ms w e w' := by
 obtain ⟨hg, ⟨v, rfl, hall, hrow⟩ | ⟨rfl, j, hj, hlt⟩⟩ := h
 ·have hr : legR ls ms = true := by
   unfold legR
   rw [List.all_eq_true]
   intro j hj
   exact decide_eq_true (hall j (by rw [← hn]; exact List.mem_range.1 hj))
  have hl : legL ls ms = legK ls ms nl := by unfold legL; rw [if_pos hr, hn]
  have hk : (legK ls ms nl).length = nl := legK_len13 (by omega)
  have hrow' : w'.ownsRow (w.heap.size + 2) 3 1 v (legK ls ms nl).length (zcells (legK ls ms nl)) := by rw [hk]; exact hrow
  obtain ⟨p, c, rfl, hz⟩ := zsAt_own13 hrow'
  refine ⟨p, c, ?_, ?_, hg⟩
  ·rw [hl, hr]
  ·rw [hl]
   exact zs_wide13 hz
 ·have hr : legR ls ms = false := by
   cases e : legR ls ms
   ·rfl
   ·unfold legR at e
    rw [List.all_eq_true] at e
    have := of_decide_eq_true (e j (List.mem_range.2 (by omega)))
    omega
  have hl : legL ls ms = [] := by unfold legL; rw [hr]; rfl
  refine ⟨none, 0, ?_, ?_, hg⟩
  ·rw [hl, hr]; rfl
  ·rw [hl]; exact ⟨rfl, fun h => absurd h (by simp)⟩
def AliP (ls : List Lne) (w : World) (e : Ending) (w' : World) : Prop := ∃ p c, e = .returned (.slice p (aliveL ls).length c) ∧ ZsAt w' 0 w'.heap.size p (aliveL ls).length (aliveL ls) ∧ w.grownBy w' none
theorem ali_fin {ls : List Lne} {w : World} {e : Ending} {w' : World} (h : ∃ v, e = .returned v ∧ w'.ownsRow (w.heap.size + 1) 3 1 v (aliveL ls).length (zcells (aliveL ls)) ∧ w.grownBy w' none) : AliP ls w e w' := by
 obtain ⟨v, rfl, hrow, hg⟩ := h
 obtain ⟨p, c, rfl, hz⟩ := zsAt_own13 hrow
 exact ⟨p, c, rfl, zs_wide13 hz, hg⟩
theorem FlAt.wide13 {w : World} {lo hi : Nat} {pl : Option Addr} {nl cl : Nat} {pp : Option Addr} {np cp : Nat} {f : Fl} (h : FlAt w lo hi pl nl cl pp np cp f) : FlAt w 0 w.heap.size pl nl cl pp np cp f :=
 ⟨⟨h.lines.len, fun hn => by
  obtain ⟨b, off, e, h1, h2, h3, hc⟩ := h.lines.cell hn
  exact ⟨b, off, e, Nat.zero_le _, by omega, Nat.le_refl _, hc⟩⟩, ⟨h.pairs.len, fun hn => by
  obtain ⟨b, off, e, h1, h2, h3, hc⟩ := h.pairs.cell hn
  exact ⟨b, off, e, Nat.zero_le _, by omega, Nat.le_refl _, hc⟩⟩, h.ll, h.lp, h.zl, h.zp⟩
/-- A row of one file. -/
theorem fls_one {w : World} {lo hi b : Nat} {pl : Option Addr} {nl cl : Nat} {pp : Option Addr} {np cp : Nat} {f : Fl} (h : FlAt w lo hi pl nl cl pp np cp f) (hb : BoxV w b [.string (fPath f), .slice pl nl cl, .slice pp np cp] 35) : FlsAt w 0 w.heap.size (some ⟨b, 0, none⟩) 1 [f] :=
 ⟨rfl, fun _ => ⟨b, 0, rfl, Nat.zero_le _, hb.lt, Nat.le_refl _, fun i hi => by
  obtain rfl : i = 0 := by omega
  obtain ⟨c0, c1, c2⟩ := hb.three
  exact ⟨pl, nl, cl, pp, np, cp, c0, c1, c2, h.wide13⟩⟩⟩
/-- What StateFiles has at hand. -/
structure FilE (w W : World) (g : Nat) (p0 : Option Addr) (n0 c0 : Nat) (q0 : Option Addr) (m0 d0 : Nat) (F0 : Fl) (p1 : Option Addr) (n1 c1 : Nat) (q1 : Option Addr) (m1 d1 : Nat) (F1 : Fl) : Prop where
 a : FlAt W 0 w.heap.size p0 n0 c0 q0 m0 d0 F0
 b : FlAt W 0 w.heap.size p1 n1 c1 q1 m1 d1 F1
 ba : BoxV W g [.string (fPath F0), .slice p0 n0 c0, .slice q0 m0 d0] 35
 bb : BoxV W (g + 1) [.string (fPath F1), .slice p1 n1 c1, .slice q1 m1 d1] 35
 g : w.grownBy W none
section
variable {w W W' : World} {g : Nat} {p0 : Option Addr} {n0 c0 : Nat} {q0 : Option Addr} {m0 d0 : Nat} {F0 : Fl} {p1 : Option Addr} {n1 c1 : Nat} {q1 : Option Addr} {m1 d1 : Nat} {F1 : Fl}
theorem FilE.calm (h : FilE w W g p0 n0 c0 q0 m0 d0 F0 p1 n1 c1 q1 m1 d1 F1) (hg : W.grownBy W' none) : FilE w W' g p0 n0 c0 q0 m0 d0 F0 p1 n1 c1 q1 m1 d1 F1 := ⟨h.a.calm hg, h.b.calm hg, h.ba.calm hg, h.bb.calm hg, grownBy_trans h.g hg⟩
theorem FilE.cells (h : FilE w W g p0 n0 c0 q0 m0 d0 F0 p1 n1 c1 q1 m1 d1 F1) : (W.cell? ⟨g, 0, none⟩ = some (.string (fPath F0)) ∧ W.cell? ⟨g, 1, none⟩ = some (.slice p0 n0 c0) ∧ W.cell? ⟨g, 2, none⟩ = some (.slice q0 m0 d0)) ∧ (W.cell? ⟨g + 1, 0, none⟩ = some (.string (fPath F1)) ∧ W.cell? ⟨g + 1, 1, none⟩ = some (.slice p1 n1 c1) ∧ W.cell? ⟨g + 1, 2, none⟩ = some (.slice q1 m1 d1)) := ⟨h.ba.three, h.bb.three⟩
/-- Both rows of one, made in either order. -/
theorem FilE.rows (h : FilE w W g p0 n0 c0 q0 m0 d0 F0 p1 n1 c1 q1 m1 d1 F1) (X : World) (hX : X = (W.alloc (.cells #[.string (fPath F0), .slice p0 n0 c0, .slice q0 m0 d0] 35)).alloc (.cells #[.string (fPath F1), .slice p1 n1 c1, .slice q1 m1 d1] 35)) :
  FilE w X g p0 n0 c0 q0 m0 d0 F0 p1 n1 c1 q1 m1 d1 F1 ∧ FlsAt X 0 X.heap.size (some ⟨W.heap.size, 0, none⟩) 1 [F0] ∧ FlsAt X 0 X.heap.size (some ⟨W.heap.size + 1, 0, none⟩) 1 [F1] := by
 subst hX
 have hg := grownBy_trans (World.grownBy_alloc W (.cells #[.string (fPath F0), .slice p0 n0 c0, .slice q0 m0 d0] 35) none) (World.grownBy_alloc _ (.cells #[.string (fPath F1), .slice p1 n1 c1, .slice q1 m1 d1] 35) none)
 exact ⟨h.calm hg, fls_one (h.a.calm hg) ((BoxV.new W [.string (fPath F0), .slice p0 n0 c0, .slice q0 m0 d0] 35).calm (World.grownBy_alloc _ _ _)), fls_one (h.b.calm hg) (BoxV.second W _ _ _ _)⟩
theorem FilE.rows2 (h : FilE w W g p0 n0 c0 q0 m0 d0 F0 p1 n1 c1 q1 m1 d1 F1) (X : World) (hX : X = (W.alloc (.cells #[.string (fPath F1), .slice p1 n1 c1, .slice q1 m1 d1] 35)).alloc (.cells #[.string (fPath F0), .slice p0 n0 c0, .slice q0 m0 d0] 35)) :
  FilE w X g p0 n0 c0 q0 m0 d0 F0 p1 n1 c1 q1 m1 d1 F1 ∧ FlsAt X 0 X.heap.size (some ⟨W.heap.size + 1, 0, none⟩) 1 [F0] ∧ FlsAt X 0 X.heap.size (some ⟨W.heap.size, 0, none⟩) 1 [F1] := by
 subst hX
 have hg := grownBy_trans (World.grownBy_alloc W (.cells #[.string (fPath F1), .slice p1 n1 c1, .slice q1 m1 d1] 35) none) (World.grownBy_alloc _ (.cells #[.string (fPath F0), .slice p0 n0 c0, .slice q0 m0 d0] 35) none)
 exact ⟨h.calm hg, fls_one (h.a.calm hg) (BoxV.second W _ _ _ _), fls_one (h.b.calm hg) ((BoxV.new W [.string (fPath F1), .slice p1 n1 c1, .slice q1 m1 d1] 35).calm (World.grownBy_alloc _ _ _))⟩
end

end Go.Proofs.YtnknejokneddbaaGreatDoor
