/- Package obj: labels and pairs in memory, the contracts of all its functions. -/
import Derived.OrdersIn
import Derived.RegionIn
import Derived.Stop.RegionWithIn
import Derived.Laws.AppendOwnNone
import Derived.Test.YtnknejokneddbaaGreatDoorRelb
import Derived.Test.YtnknejokneddbaaGreatDoorMats
/-! Slices of strings in memory; the contract of checkLabels of package obj: whether there are too many labels, or one that is too long. -/
namespace Go.Proofs.YtnknejokneddbaaGreatDoor
open Go.RowKit

/-- A slice of strings that reads as l, in a block from lo to hi. -/
structure StrsAt (w : World) (lo hi : Nat) (p : Option Addr) (n : Nat) (l : List ByteArray) : Prop where
 len : l.length = n
 cell : 0 < n → ∃ b off, p = some ⟨b, off, none⟩ ∧ lo ≤ b ∧ b < hi ∧ hi ≤ w.heap.size ∧ ∀ k, k < n → w.cell? ⟨b, off + k, none⟩ = some (.string (l[k]?.getD .empty))

theorem StrsAt.calm {w w' : World} {lo hi : Nat} {p : Option Addr} {n : Nat} {l : List ByteArray} (h : StrsAt w lo hi p n l) (hg : w.grownBy w' none) : StrsAt w' lo hi p n l := by
 refine ⟨h.len, fun hn => ?_⟩
 obtain ⟨b, off, hp, h1, h2, h3, hc⟩ := h.cell hn
 have hb : w'.heap[b]? = w.heap[b]? := hg.block b (by omega) (by simp)
 exact ⟨b, off, hp, h1, h2, Nat.le_trans h3 hg.size, fun k hk => (World.cell?_of_block (a := ⟨b, off + k, none⟩) hb).trans (hc k hk)⟩

theorem StrsAt.apart {w w' : World} {lo hi lo' hi' : Nat} {p : Option Addr} {n : Nat} {l : List ByteArray} (h : StrsAt w lo hi p n l) (hg : Kept lo' hi' w w') (hd : hi ≤ lo' ∨ hi' ≤ lo) : StrsAt w' lo hi p n l := by
 refine ⟨h.len, fun hn => ?_⟩
 obtain ⟨b, off, hp, h1, h2, h3, hc⟩ := h.cell hn
 have hb : w'.heap[b]? = w.heap[b]? := hg.block b (by omega) (by omega)
 exact ⟨b, off, hp, h1, h2, Nat.le_trans h3 hg.size, fun k hk => (World.cell?_of_block (a := ⟨b, off + k, none⟩) hb).trans (hc k hk)⟩

theorem strsAt_nil (w : World) (lo hi : Nat) : StrsAt w lo hi none 0 [] := ⟨rfl, fun h => absurd h (by omega)⟩

end Go.Proofs.YtnknejokneddbaaGreatDoor
/-! The contract of the iterator neighbours of package obj, which hands over each pair with the one behind it. -/
namespace Go.Proofs.YtnknejokneddbaaGreatDoor
open Go.RowKit Go.Shelf
attribute [local go_sem] Oper.semAt_some

end Go.Proofs.YtnknejokneddbaaGreatDoor
/-! The contract of rises of package obj: whether pairs rise. -/
namespace Go.Proofs.YtnknejokneddbaaGreatDoor
open Go.RowKit Go.Shelf
attribute [local go_sem] Oper.semAt_some

end Go.Proofs.YtnknejokneddbaaGreatDoor
/-! The contracts of read, Check, Is, Rel of package obj. -/
namespace Go.Proofs.YtnknejokneddbaaGreatDoor
open Go.RowKit

/-- Labels and pairs in memory. -/
structure ObjAt (w : World) (lo hi : Nat) (p : Option Addr) (n : Nat) (q : Option Addr) (m : Nat) (L : List ByteArray) (P : List (Int × Int)) : Prop where
 ls : StrsAt w lo hi p n L
 ps : PairsAt w lo hi q m P
theorem ObjAt.calm {w w' : World} {lo hi : Nat} {p : Option Addr} {n : Nat} {q : Option Addr} {m : Nat} {L : List ByteArray} {P : List (Int × Int)} (h : ObjAt w lo hi p n q m L P) (hg : w.grownBy w' none) : ObjAt w' lo hi p n q m L P := ⟨h.ls.calm hg, h.ps.calm hg⟩

end Go.Proofs.YtnknejokneddbaaGreatDoor
/-! The contracts of fresh, Copy, Make, Same of package obj. -/
namespace Go.Proofs.YtnknejokneddbaaGreatDoor
open Go.RowKit

theorem Tryz.info9 : (Tryz.prog.info? 9).map (fun i => (i.zero, i.size, i.bytes)) = some (some (.string .empty), 1, 16) := by kernel_rfl

/-- The cells of strings. -/
def scells (l : List ByteArray) : List Value := l.map .string
theorem scells_get {l : List ByteArray} {k : Nat} (hk : k < l.length) : (scells l)[k]? = some (.string (l[k]?.getD .empty)) := by
 unfold scells
 rw [List.getElem?_map, List.getElem?_eq_getElem hk]
 rfl
theorem pcells_one' (l : List (Int × Int)) : ∀ u ∈ pcells l, u.oneCell' = true := by
 intro u hu
 unfold pcells at hu
 rw [List.mem_flatMap] at hu
 obtain ⟨x, _, hx⟩ := hu
 simp only [List.mem_cons, List.not_mem_nil, or_false] at hx
 rcases hx with rfl | rfl <;> rfl

theorem add_off (b off j : Nat) : (⟨b, off, none⟩ : Addr).add j = ⟨b, off + j, none⟩ := by unfold Addr.add; split <;> simp_all

theorem strsAt_own {w : World} {base : Nat} {v : Value} {l : List ByteArray} (h : w.ownsRow base 9 1 v l.length (scells l)) :
  ∃ p c, v = .slice p l.length c ∧ StrsAt w base w.heap.size p l.length l := by
 rcases h.2 with ⟨rfl, h0⟩ | ⟨g, cap, cur, rfl, hb, hg, _⟩
 ·rw [h0]; exact ⟨none, 0, rfl, h0, fun h => absurd h (by omega)⟩
 ·refine ⟨_, cap, rfl, rfl, fun hn => ⟨g, 0, rfl, hb, (Array.getElem?_eq_some_iff.1 hg).1, Nat.le_refl _, fun k hk => ?_⟩⟩
  have hc := h.cells (g := g) rfl k _ (scells_get hk)
  rw [add_off] at hc
  exact hc

theorem strs_news {w : World} {lo hi n : Nat} {ad : Addr} {l : List ByteArray} (h : StrsAt w lo hi (some ad) n l) : ∀ j u, (scells l)[j]? = some u → w.cell? (ad.add j) = some u := by
 intro j u hu
 have hj : j < l.length := by
  rcases Nat.lt_or_ge j l.length with h | h
  ·exact h
  ·rw [List.getElem?_eq_none (by unfold scells; simpa using h)] at hu; cases hu
 rw [scells_get hj] at hu
 cases hu
 have hl := h.len
 obtain ⟨b', off', e, _, _, _, hc⟩ := h.cell (by omega)
 cases e
 rw [add_off]
 exact hc j (by omega)

theorem pairs_news {w : World} {lo hi n : Nat} {ad : Addr} {l : List (Int × Int)} (h : PairsAt w lo hi (some ad) n l) : ∀ j u, (pcells l)[j]? = some u → w.cell? (ad.add j) = some u := by
 intro j u hu
 have hj : j < l.length * 2 := by
  rcases Nat.lt_or_ge j (l.length * 2) with h | h
  ·exact h
  ·rw [List.getElem?_eq_none (by rw [pcells_len]; exact h)] at hu; cases hu
 have hl := h.len
 obtain ⟨b', off', e, _, _, _, hc⟩ := h.cell (by omega)
 cases e
 rw [add_off]
 have hk := pcells_get l (j / 2) (by omega)
 have hk2 := hc (j / 2) (by omega)
 rcases Nat.mod_two_eq_zero_or_one j with e | e
 ·have ej : j = j / 2 * 2 := by omega
  rw [← ej] at hk
  rw [hk.1] at hu
  cases hu
  rw [← ej] at hk2
  exact hk2.1
 ·have ej : j = j / 2 * 2 + 1 := by omega
  have h2 := hk.2
  rw [← ej] at h2
  rw [h2] at hu
  cases hu
  have h3 := hk2.2
  rw [Nat.add_assoc, ← ej] at h3
  exact h3

end Go.Proofs.YtnknejokneddbaaGreatDoor
/-! The contracts of slices.Equal over strings and pairs, Same of package obj. -/
namespace Go.Proofs.YtnknejokneddbaaGreatDoor
open Go.RowKit

set_option maxHeartbeats 1000000 in
theorem eqP_r (p1 p2 : Option Addr) (n1 n2 c1 c2 lo1 hi1 lo2 hi2 : Nat) (l1 l2 : List (Int × Int)) (r : Bool) (w : World) (h1 : PairsAt w lo1 hi1 p1 n1 l1) (h2 : PairsAt w lo2 hi2 p2 n2 l2) (hs : n1 ≤ 1000000) (hr : decide (l1 = l2) = r) :
  Calls Tryz.prog 82 #[.slice p1 n1 c1, .slice p2 n2 c2] w fun e w' => e = .returned (.bool r) ∧ w.grownBy w' none := by
 by_cases hl : n1 = n2
 ·obtain rfl : n1 = n2 := hl
  have hb : ((n1 : Int) != (n1 : Int)) = false := by simp
  have H1 := Lib.hid h1
  have H2 := Lib.hid h2
  have HR := Lib.hid hr
  clear h1 h2 hr
  go_enter Tryz.func82, Tryz.ntmps82
  go_wp2
  go_loopw [13] (fun i wr => ∃ k : Nat, k ≤ n1 ∧ i = .int .i64 k ∧ Hid (l1.take k = l2.take k) ∧ w.grownBy wr none) (fun i _ => n1 - (intOf i).toNat)
  case atStart => exact ⟨0, Nat.zero_le _, rfl, Lib.hid rfl, grownBy_refl _ _⟩
  case round =>
   obtain ⟨k, hk, rfl, HT, hgr⟩ := hrel
   by_cases hkn : k < n1
   ·obtain ⟨b1, o1, rfl, q1, q2, q3, hc1⟩ := (H1.out.calm hgr).cell (by omega)
    obtain ⟨b2, o2, rfl, r1, r2, r3, hc2⟩ := (H2.out.calm hgr).cell (by omega)
    obtain ⟨x1, x2⟩ := hc1 k hkn
    obtain ⟨y1, y2⟩ := hc2 k hkn
    clear hc1 hc2
    have k0 : (0 : Int) ≤ k := by omega
    have k1 : (k : Int) < n1 := by omega
    have hN := pair_neq (l1[k]?.getD (0, 0)).1 (l1[k]?.getD (0, 0)).2 (l2[k]?.getD (0, 0)).1 (l2[k]?.getD (0, 0)).2
    by_cases heq : l1[k]?.getD (0, 0) = l2[k]?.getD (0, 0)
    ·have e1 : (!((l1[k]?.getD (0, 0)).1 == (l2[k]?.getD (0, 0)).1 && (l1[k]?.getD (0, 0)).2 == (l2[k]?.getD (0, 0)).2)) = false := by rw [heq]; simp
     rw [e1] at hN
     have HT2 := Lib.hid (take_eq_succ (by rw [H1.out.len]; exact hkn) (by rw [H2.out.len]; exact hkn) HT.out heq)
     clear heq e1
     generalize l1[k]?.getD (0, 0) = u at *
     generalize l2[k]?.getD (0, 0) = v at *
     go_wp2
     go_quiet (fail)
     go_wp2
     exact ⟨⟨k + 1, by omega, by go_num, HT2, grownBy_trans hgr (grownBy_drewN _ _ none)⟩, by simp [intOf]; omega⟩
    ·have e1 : (!((l1[k]?.getD (0, 0)).1 == (l2[k]?.getD (0, 0)).1 && (l1[k]?.getD (0, 0)).2 == (l2[k]?.getD (0, 0)).2)) = true := by
      rw [Bool.not_eq_true', Bool.and_eq_false_iff, beq_eq_false_iff_ne, beq_eq_false_iff_ne]
      by_cases e0 : (l1[k]?.getD (0, 0)).1 = (l2[k]?.getD (0, 0)).1
      ·exact .inr fun e2 => heq (Prod.ext e0 e2)
      ·exact .inl e0
     rw [e1] at hN
     have hrf : r = false := by
      rw [← HR.out, decide_eq_false_iff_not]
      intro e
      exact heq (by rw [e])
     subst hrf
     clear heq e1
     generalize l1[k]?.getD (0, 0) = u at *
     generalize l2[k]?.getD (0, 0) = v at *
     go_wp2
     go_quiet (fail)
     go_wp2
     go_ret
     exact ⟨rfl, grownBy_trans hgr (grownBy_drewN _ _ none)⟩
   ·obtain rfl : k = n1 := by omega
    have hrt : r = true := by
     have := HT.out
     rw [List.take_of_length_le (by rw [H1.out.len]; exact Nat.le_refl _), List.take_of_length_le (by rw [H2.out.len]; exact Nat.le_refl _)] at this
     rw [← HR.out]
     simpa using this
    subst hrt
    go_wp2
    go_ret
    exact ⟨rfl, hgr⟩
 ·have hb : ((n1 : Int) != (n2 : Int)) = true := by simp; omega
  have hrf : r = false := by
   rw [← hr, decide_eq_false_iff_not]
   intro e
   exact hl (by rw [← h1.len, ← h2.len, e])
  subst hrf
  clear h1 h2 hl hr
  go_enter Tryz.func82, Tryz.ntmps82
  go_wp2
  go_ret
  exact ⟨rfl, grownBy_refl _ _⟩

end Go.Proofs.YtnknejokneddbaaGreatDoor
/-! The contracts of Copy and Make of package obj. -/
namespace Go.Proofs.YtnknejokneddbaaGreatDoor
open Go.RowKit

/-- An object in rows of its own. -/
structure OwnObj (w : World) (base : Nat) (u v : Value) (L : List ByteArray) (P : List (Int × Int)) : Prop where
 ls : w.ownsRow base 9 1 u L.length (scells L)
 ps : w.ownsRow base 88 2 v P.length (pcells P)

theorem OwnObj.at {w : World} {base : Nat} {u v : Value} {L : List ByteArray} {P : List (Int × Int)} (h : OwnObj w base u v L P) : ∃ p c q d, u = .slice p L.length c ∧ v = .slice q P.length d ∧ ObjAt w base w.heap.size p L.length q P.length L P := by
 obtain ⟨p, c, rfl, hp⟩ := strsAt_own h.ls
 obtain ⟨q, d, rfl, hq⟩ := pairsAt_own h.ps
 exact ⟨p, c, q, d, rfl, rfl, hp, hq⟩

theorem ownsRow_calm {w w' : World} {base : Nat} {e : TypeId} {size n : Nat} {v : Value} {xs : List Value} (h : w.ownsRow base e size v n xs) (hg : w.grownBy w' none) : w'.ownsRow base e size v n xs := by
 refine ⟨h.1, ?_⟩
 rcases h.2 with ⟨rfl, h0⟩ | ⟨g, cap, cur, rfl, hb, hh, h1, h2, h3, h4⟩
 ·exact .inl ⟨rfl, h0⟩
 ·exact .inr ⟨g, cap, cur, rfl, hb, (hg.block g (Array.getElem?_eq_some_iff.1 hh).1 (by simp)).trans hh, h1, h2, h3, h4⟩
theorem OwnObj.set {w : World} {base : Nat} {u v : Value} {L : List ByteArray} {P : List (Int × Int)} (h : OwnObj w base u v L P) {p : Addr} (hp : p.block < base) (x : Value) : OwnObj (w.setCell p x) base u v L P := by
 have key : ∀ {e : TypeId} {size n : Nat} {v : Value} {xs : List Value}, w.ownsRow base e size v n xs → (w.setCell p x).ownsRow base e size v n xs := by
  intro e size n v xs h
  refine ⟨h.1, ?_⟩
  rcases h.2 with ⟨rfl, h0⟩ | ⟨g, cap, cur, rfl, hb, hh, h1, h2, h3, h4⟩
  ·exact .inl ⟨rfl, h0⟩
  ·exact .inr ⟨g, cap, cur, rfl, hb, (Below.heap_setCell _ _ _ _ (by omega)).trans hh, h1, h2, h3, h4⟩
 exact ⟨key h.ls, key h.ps⟩

end Go.Proofs.YtnknejokneddbaaGreatDoor
