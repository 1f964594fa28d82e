/- The reference's states: Closed, At. -/
import Derived.Test.YtnknejokneddbaaGreatDoorStaM
import Derived.Test.YtnknejokneddbaaGreatDoorRefPa
import Derived.Test.YtnknejokneddbaaGreatDoorApps
import Derived.Test.YtnknejokneddbaaGreatDoorArra
import Derived.Test.YtnknejokneddbaaGreatDoorSplR
/-! RefSa -/
namespace Go.Proofs.YtnknejokneddbaaGreatDoor
open Go.RowKit

/-- All that is needed is there. -/
def ClosedL (l : List Pt) : Prop := ∀ x ∈ l, ∀ d ∈ pDeps x, ∃ y ∈ l, pID y = d
theorem upto_list {α : Type} {l : List α} {d : α} {q : α → Prop} {n : Nat} (hn : l.length = n) (h : ∀ j, j < n → q (l[j]?.getD d)) : ∀ x ∈ l, q x := fun x hx => by
 obtain ⟨j, hj, e⟩ := mem_get (d := d) hx
 rw [← e]
 exact h j (by rw [← hn]; exact hj)

/-- The place of a line. -/
def atL (ls : List Lne) (x : Ln) : Option Nat := ls.findIdx? (fun y => decide (nID y = x))
def atV (ls : List Lne) (x : Ln) : Int := match atL ls x with | some k => (k : Int) | none => -1
end Go.Proofs.YtnknejokneddbaaGreatDoor
/-! RefSb -/
namespace Go.Proofs.YtnknejokneddbaaGreatDoor
open Go.RowKit

/-- The places of the first k lines that aren't dead. -/
def aliveK (ls : List Lne) : Nat → List Int
 | 0 => []
 | k + 1 => aliveK ls k ++ (if nDead (ls[k]?.getD lne0) = true then [] else [(k : Int)])
def aliveL (ls : List Lne) : List Int := aliveK ls ls.length
theorem aliveK_len (ls : List Lne) (k : Nat) : (aliveK ls k).length ≤ k := by
 induction k with
 | zero => exact Nat.le_refl _
 | succ k ih =>
  unfold aliveK
  rw [List.length_append]
  split
  ·simp; omega
  ·simp; omega
/-- The way, k lines of it. -/
def legK (a b : List Lne) (k : Nat) : List Int := (a.take k).map fun x => atV b (nID x)
theorem legK_succ {a b : List Lne} {k : Nat} (hk : k < a.length) : legK a b (k + 1) = legK a b k ++ [atV b (nID (a[k]?.getD lne0))] := by
 unfold legK
 rw [List.take_succ_eq_append_getElem hk, List.map_append, List.getElem?_eq_getElem hk]
 rfl

end Go.Proofs.YtnknejokneddbaaGreatDoor
/-! RefSc -/
namespace Go.Proofs.YtnknejokneddbaaGreatDoor
open Go.RowKit

theorem lne_neq (x y m n : Int) (s t : ByteArray) (d f : Bool) (w : World) : (binOp .neq 62 (.agg #[.int .u32 x, .int .i64 m, .string s, .bool d]) (.agg #[.int .u32 y, .int .i64 n, .string t, .bool f])).run Tryz.prog w = .ok (.bool (!((x == y && m == n) && (s.toList == t.toList) && (d == f)))) w := by
 rw [run_neq_struct, run_equalIn_agg _ _ _ _ _ (by kernel_rfl) Tryz.stoodInHeld62]
 have e : (Tryz.prog.fieldsOf 62).toList = [{ name := "ID", type := 60, offset := 0, embedded := false, tag := "", pkgPath := "", byteOffset := 0 }, { name := "Text", type := 9, offset := 2, embedded := false, tag := "", pkgPath := "", byteOffset := 16 }, { name := "Dead", type := 4, offset := 3, embedded := false, tag := "", pkgPath := "", byteOffset := 32 }] := by kernel_rfl
 have l1 := ln_in 9997 x y m n
 rw [e]
 simp [Op.eqFields, part, go_sem]
 by_cases h1 : x = y <;> by_cases h2 : m = n <;> cases h3 : (s.toList == t.toList) <;> cases d <;> cases f <;> simp_all

theorem BoxV.three {w : World} {g : Nat} {t : TypeId} {a b c : Value} (h : BoxV w g [a, b, c] t) : w.cell? ⟨g, 0, none⟩ = some a ∧ w.cell? ⟨g, 1, none⟩ = some b ∧ w.cell? ⟨g, 2, none⟩ = some c := ⟨h.cell (k := 0) rfl, h.cell (k := 1) rfl, h.cell (k := 2) rfl⟩
theorem fl_eq {x y : Fl} (h1 : fPath x = fPath y) (h2 : fLines x = fLines y) (h3 : fPairs x = fPairs y) : x = y := Prod.ext h1 (Prod.ext h2 h3)
theorem list_eqD {α : Type} {l m : List α} {d : α} {n : Nat} (h1 : l.length = n) (h2 : m.length = n) (h : ∀ j, j < n → l[j]?.getD d = m[j]?.getD d) : l = m := by
 apply List.ext_getElem (by omega)
 intro j hj hj'
 have := h j (by omega)
 rwa [List.getElem?_eq_getElem hj, List.getElem?_eq_getElem hj'] at this
end Go.Proofs.YtnknejokneddbaaGreatDoor
/-! RefSd -/
namespace Go.Proofs.YtnknejokneddbaaGreatDoor
open Go.RowKit

/-- The file of a path. -/
def findL (l : List Fl) (s : ByteArray) : Option Fl := l.find? fun f => decide (fPath f = s)
theorem findL_some {l : List Fl} {s : ByteArray} {k : Nat} (hk : k < l.length) (he : fPath (l[k]?.getD fl0) = s) (hb : ∀ j, j < k → fPath (l[j]?.getD fl0) ≠ s) : findL l s = some (l[k]?.getD fl0) := by
 unfold findL
 rw [List.find?_eq_some_iff_getElem]
 rw [List.getElem?_eq_getElem hk] at he ⊢
 refine ⟨by simpa using he, k, hk, rfl, fun j hj => ?_⟩
 have := hb j hj
 rw [List.getElem?_eq_getElem (by omega)] at this
 simpa using this
theorem findL_none {l : List Fl} {s : ByteArray} (hb : ∀ j, j < l.length → fPath (l[j]?.getD fl0) ≠ s) : findL l s = none := by
 unfold findL
 rw [List.find?_eq_none]
 intro x hx
 obtain ⟨j, hj, e⟩ := mem_get (d := fl0) hx
 have := hb j hj
 rw [e] at this
 simpa using this
theorem flAt_nil (w : World) (lo hi : Nat) : FlAt w lo hi none 0 0 none 0 0 fl0 := ⟨lnesAt_nil _ _ _, ⟨rfl, fun h => absurd h (by omega)⟩, Nat.le_refl _, Nat.le_refl _, fun _ => rfl, fun _ => rfl⟩
theorem set3_new {w0 w : World} (h : w0.grownBy w none) {b : Nat} (hb : w0.heap.size ≤ b) (v0 v1 v2 : Value) : w0.grownBy (((w.setCell ⟨b, 0, none⟩ v0).setCell ⟨b, 1, none⟩ v1).setCell ⟨b, 2, none⟩ v2) none :=
 grownBy_new (grownBy_new (grownBy_new h (grownBy_setCell _ _ _) hb) (grownBy_setCell _ _ _) hb) (grownBy_setCell _ _ _) hb
end Go.Proofs.YtnknejokneddbaaGreatDoor
/-! RefSe -/
namespace Go.Proofs.YtnknejokneddbaaGreatDoor
open Go.RowKit

/-- The tracked paths. -/
def notIn (ds : List ByteArray) (s : ByteArray) : Bool := !(ds.any fun d => decide (d = s))
theorem notIn_iff {ds : List ByteArray} {s : ByteArray} : notIn ds s = true ↔ s ∉ ds := by
 unfold notIn
 rw [Bool.not_eq_true', Bool.eq_false_iff, ne_eq, List.any_eq_true]
 exact ⟨fun h hs => h ⟨s, hs, by simp⟩, fun h ⟨d, hd, e⟩ => h (by rw [← of_decide_eq_true e]; exact hd)⟩
def trackL (l : List Pt) : List ByteArray := (allR ltS (l.flatMap pMakes)).filter (notIn (l.flatMap pDrops))
theorem TxtAcc.calm {w0 w w' : World} {s : Value} {l : List ByteArray} {n : Nat} (h : TxtAcc w0 w s l n) (hg : w.grownBy w' none) : TxtAcc w0 w' s l n := by
 obtain ⟨q, m, c, e, h1, h2, h3, h4, h5, h6⟩ := h
 have h1' := h1.calm hg
 exact ⟨q, m, c, e, ⟨h1'.len, fun hn => by
  obtain ⟨b, off, e, a1, a2, a3, hc⟩ := h1'.cell hn
  exact ⟨b, off, e, a1, Nat.lt_of_lt_of_le a2 a3, Nat.le_refl _, hc⟩⟩, h2, h3, h4, h5, grownBy_trans h6 hg⟩
theorem TxtAcc.nil (w : World) : TxtAcc w w (.slice none 0 0) [] 0 := ⟨none, 0, 0, rfl, ⟨rfl, fun h => absurd h (by omega)⟩, Nat.le_refl _, fun _ => rfl, fun _ => rfl, Nat.le_refl _, grownBy_refl _ _⟩
theorem flat_take {α β : Type} (f : α → List β) {l : List α} {k : Nat} (hk : k < l.length) (d : α) : (l.take (k + 1)).flatMap f = (l.take k).flatMap f ++ f (l[k]?.getD d) := by
 rw [List.take_succ_eq_append_getElem hk, List.flatMap_append, List.getElem?_eq_getElem hk]
 simp
theorem ownsRow_lowB {w : World} {base base' : Nat} {e : TypeId} {size n : Nat} {v : Value} {xs : List Value} (h : w.ownsRow base e size v n xs) (hb : base' ≤ base) : w.ownsRow base' e size v n xs := by
 refine ⟨h.1, ?_⟩
 rcases h.2 with h | ⟨g, cap, cur, h1, h2, h3⟩
 ·exact .inl h
 ·exact .inr ⟨g, cap, cur, h1, Nat.le_trans hb h2, h3⟩
end Go.Proofs.YtnknejokneddbaaGreatDoor
