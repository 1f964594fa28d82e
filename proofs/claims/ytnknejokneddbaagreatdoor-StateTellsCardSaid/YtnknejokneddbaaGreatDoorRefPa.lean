/- The reference's patches: paths, rows of numbers and texts, Needs, Paths, Lines, Same; a block known whole. -/
import Derived.Deep.CutBlock
import Derived.Deep.RegionHeld3
import Derived.Test.YtnknejokneddbaaGreatDoorStaM
import Derived.Test.YtnknejokneddbaaGreatDoorArra
/-! The reference's patches: IsPath, paths, In, Rising, Has, Put, Less. -/
namespace Go.Proofs.YtnknejokneddbaaGreatDoor
open Go.RowKit

theorem toList_eqP {x y : ByteArray} (h : x = y) : (x.toList == y.toList) = true := by subst h; simp
theorem toList_neP {x y : ByteArray} (h : x ≠ y) : (x.toList == y.toList) = false := by
 rw [beq_eq_false_iff_ne]
 intro e
 exact h (by rw [ByteArray.toList_eq, ByteArray.toList_eq] at e; cases x; cases y; exact congrArg ByteArray.mk (Array.toList_inj.1 e))
theorem okC_iff (c : UInt8) (X : Nat) (h : c.toNat = X) : okC c = true ↔ (97 ≤ X ∧ X ≤ 122) ∨ (48 ≤ X ∧ X ≤ 57) ∨ X = 46 ∨ X = 47 := by
 subst h
 simp [okC]
/-- The first k bytes are a path's. -/
def okU (s : ByteArray) (k : Nat) : Prop := ∀ i, i < k → ∀ c, (bl s)[i]? = some c → okC c = true
theorem okU_succ {s : ByteArray} {k : Nat} {c : UInt8} (h : okU s k) (hc : (bl s)[k]? = some c) (ho : okC c = true) : okU s (k + 1) := fun i hi d hd => by
 by_cases e : i < k
 ·exact h i e d hd
 ·obtain rfl : i = k := by omega
  rw [hc] at hd
  cases hd
  exact ho
theorem okU_end {s : ByteArray} (h : okU s s.size) (h1 : 1 ≤ s.size) (h2 : s.size ≤ 20) : IsPath s := ⟨fun c hc => by
 obtain ⟨i, hi, e⟩ := List.getElem_of_mem hc
 have hi2 := hi
 rw [bl_size] at hi2
 exact h i hi2 c (by rw [List.getElem?_eq_getElem hi, e]), h1, h2⟩
theorem okU_no {s : ByteArray} {k : Nat} {c : UInt8} (hc : (bl s)[k]? = some c) (ho : ¬ okC c = true) : ¬ IsPath s := fun h => ho (h.ch c (List.mem_of_getElem? hc))

theorem upto_succ {q : Nat → Prop} {k : Nat} (h : ∀ j, j < k → q j) (hk : q k) : ∀ j, j < k + 1 → q j := fun j hj => by
 by_cases e : j < k
 ·exact h j e
 ·obtain rfl : j = k := by omega
  exact hk
theorem no_false {r : Bool} {q : Prop} (h : r = true ↔ q) (hn : ¬ q) : r = false := by
 cases e : r
 ·rfl
 ·exact absurd (h.1 e) hn
theorem get_mem {α : Type} {l : List α} {d : α} {k : Nat} (h : k < l.length) : l[k]?.getD d ∈ l := by
 rw [List.getElem?_eq_getElem h]
 exact List.getElem_mem h
theorem mem_get {α : Type} {l : List α} {d x : α} (h : x ∈ l) : ∃ k, k < l.length ∧ l[k]?.getD d = x := by
 obtain ⟨k, hk, e⟩ := List.getElem_of_mem h
 exact ⟨k, hk, by rw [List.getElem?_eq_getElem hk, Option.getD_some, e]⟩

end Go.Proofs.YtnknejokneddbaaGreatDoor
/-! The reference's patches: Rising, paths. -/
namespace Go.Proofs.YtnknejokneddbaaGreatDoor
open Go.RowKit

end Go.Proofs.YtnknejokneddbaaGreatDoor
/-! The reference's patches: Put, PutText. -/
namespace Go.Proofs.YtnknejokneddbaaGreatDoor
open Go.RowKit

/-- The cells of numbers. -/
def ncells (k : IntKind) (l : List Nat) : List Value := l.map fun x => Value.int k ((x : Nat) : Int)
theorem ncells_get {k : IntKind} {l : List Nat} {i : Nat} (hi : i < l.length) : (ncells k l)[i]? = some (.int k ((l[i]?.getD 0 : Nat) : Int)) := by
 unfold ncells
 rw [List.getElem?_map, List.getElem?_eq_getElem hi]
 rfl
theorem ncells_app (k : IntKind) (a b : List Nat) : ncells k (a ++ b) = ncells k a ++ ncells k b := by simp [ncells]
theorem nsAt_own {k : IntKind} {e : TypeId} {w : World} {base : Nat} {v : Value} {n : Nat} {l : List Nat} (hn : l.length = n) (h : w.ownsRow base e 1 v n (ncells k l)) :
  ∃ p c, v = .slice p n c ∧ NsAt k w base w.heap.size p n l ∧ n ≤ c ∧ (p = none → c = 0) := by
 subst hn
 rcases h.2 with ⟨rfl, h0⟩ | ⟨g, cap, cur, rfl, hb, hg, hle, _⟩
 ·rw [h0]; exact ⟨none, 0, rfl, ⟨h0, fun h => absurd h (by omega)⟩, Nat.le_refl _, fun _ => rfl⟩
 ·refine ⟨_, cap, rfl, ⟨rfl, fun hn => ⟨g, 0, rfl, hb, (Array.getElem?_eq_some_iff.1 hg).1, Nat.le_refl _, fun i hi => ?_⟩⟩, hle, (fun h => by cases h)⟩
  have hc := h.cells (g := g) rfl i _ (ncells_get hi)
  rw [add_off] at hc
  exact hc
theorem strsAt_own3 {w : World} {base : Nat} {v : Value} {n : Nat} {l : List ByteArray} (hn : l.length = n) (h : w.ownsRow base 9 1 v n (scells l)) :
  ∃ p c, v = .slice p n c ∧ StrsAt w base w.heap.size p n l ∧ n ≤ c ∧ (p = none → c = 0) := by
 subst hn
 obtain ⟨p, c, e, h1, h2, h3⟩ := strsAt_ownC h
 exact ⟨p, c, e, h1, h3, h2⟩
theorem infoU32 : (Tryz.prog.info? 52).map (fun i => (i.zero, i.size, i.bytes)) = some (some (.int .u32 0), 1, 4) := by kernel_rfl
theorem NsAt.wide {k : IntKind} {w : World} {lo hi n : Nat} {p : Option Addr} {l : List Nat} (h : NsAt k w lo hi p n l) : NsAt k w 0 w.heap.size p n l := ⟨h.len, fun hn => by
 obtain ⟨b, off, e, h1, h2, h3, hc⟩ := h.cell hn
 exact ⟨b, off, e, Nat.zero_le _, by omega, Nat.le_refl _, hc⟩⟩
end Go.Proofs.YtnknejokneddbaaGreatDoor
/-! The reference's patches: PutText. -/
namespace Go.Proofs.YtnknejokneddbaaGreatDoor
open Go.RowKit

theorem scells_app (a b : List ByteArray) : scells (a ++ b) = scells a ++ scells b := by simp [scells]
end Go.Proofs.YtnknejokneddbaaGreatDoor
/-! The reference's patches: Lines, Paths. -/
namespace Go.Proofs.YtnknejokneddbaaGreatDoor
open Go.RowKit

/-- A block known whole. -/
def BoxV (w : World) (g : Nat) (vs : List Value) (t : TypeId) : Prop := w.heap[g]? = some (.cells vs.toArray t (0, 0))
section
variable {w w' : World} {g : Nat} {vs : List Value} {t : TypeId}
theorem BoxV.lt (h : BoxV w g vs t) : g < w.heap.size := (Array.getElem?_eq_some_iff.1 h).1
theorem BoxV.new (w : World) (vs : List Value) (t : TypeId) : BoxV (w.alloc (.cells vs.toArray t)) w.heap.size vs t := heap_alloc_new w _
theorem BoxV.calm (h : BoxV w g vs t) (hg : w.grownBy w' none) : BoxV w' g vs t := (hg.block g h.lt (by simp)).trans h
theorem BoxV.cell (h : BoxV w g vs t) {k : Nat} {v : Value} (hv : vs[k]? = some v) : w.cell? ⟨g, k, none⟩ = some v := by
 have h' : w.heap[g]? = _ := h
 simp only [World.cell?, h']
 simpa using hv
theorem BoxV.free (h : BoxV w g vs t) (k : Nat) : w.frozen? ⟨g, k, none⟩ = false := by
 have h' : w.heap[g]? = _ := h
 simp [World.frozen?, h']
theorem BoxV.set (h : BoxV w g vs t) (k : Nat) (x : Value) : BoxV (w.setCell ⟨g, k, none⟩ x) g (vs.set k x) t := by
 have h1 := heap_setCell_same w g k _ _ x h
 simpa [BoxV] using h1
end
theorem addsN_le {hs : List Hk} {m : Nat} (h : ∀ x ∈ hs, (hAdds x).length ≤ m) : ∀ k, k ≤ hs.length → addsN hs k ≤ k * m
 | 0, _ => by rw [addsN_zero]; omega
 | k + 1, hk => by
  have := addsN_le h k (by omega)
  have h2 := h hs[k] (List.getElem_mem _)
  rw [addsN_succ (show k < hs.length by omega), Nat.succ_mul]
  omega

/-- Texts that a call has put together so far: n at most. -/
def TxtAcc (w0 w : World) (s : Value) (l : List ByteArray) (n : Nat) : Prop := ∃ (q : Option Addr) (m c : Nat), s = .slice q m c ∧ StrsAt w 0 w.heap.size q m l ∧ m ≤ c ∧ (q = none → c = 0) ∧ (m = 0 → q = none) ∧ m ≤ n ∧ w0.grownBy w none
theorem take_snoc {α : Type} {l : List α} {k : Nat} (hk : k < l.length) (d : α) : l.take (k + 1) = l.take k ++ [l[k]?.getD d] := by
 rw [List.take_succ_eq_append_getElem hk, List.getElem?_eq_getElem hk]
 rfl
end Go.Proofs.YtnknejokneddbaaGreatDoor
/-! The reference's patches: Needs. -/
namespace Go.Proofs.YtnknejokneddbaaGreatDoor
open Go.RowKit

/-- Numbers that a call has put together so far. -/
def NumAcc (w0 w : World) (s : Value) (xs : List Nat) : Prop := ∃ (q : Option Addr) (m c : Nat), s = .slice q m c ∧ NsAt .u32 w 0 w.heap.size q m (allR ltN xs) ∧ m ≤ c ∧ (q = none → c = 0) ∧ (m = 0 → q = none) ∧ m ≤ xs.length ∧ w0.grownBy w none
theorem NumAcc.nil (w : World) : NumAcc w w (.slice none 0 0) [] := ⟨none, 0, 0, rfl, nsAt_nil _ _ _ _, Nat.le_refl _, fun _ => rfl, fun _ => rfl, Nat.le_refl _, grownBy_refl _ _⟩
theorem NumAcc.gr {w0 w : World} {s : Value} {xs : List Nat} (h : NumAcc w0 w s xs) : w0.grownBy w none := by
 obtain ⟨_, _, _, _, _, _, _, _, _, g⟩ := h
 exact g
theorem NumAcc.calm {w0 w w' : World} {s : Value} {xs : List Nat} (h : NumAcc w0 w s xs) (hg : w.grownBy w' none) : NumAcc w0 w' s xs := by
 obtain ⟨q, m, c, e, h1, h2, h3, h4, h5, h6⟩ := h
 exact ⟨q, m, c, e, (h1.calm hg).wide, h2, h3, h4, h5, grownBy_trans h6 hg⟩
def namesE (e : Ed) : List Nat := [e.1.1, e.2.1]
theorem names_E {l : List Ed} {k : Nat} (hk : k < l.length) : (l.take (k + 1)).flatMap namesE = (l.take k).flatMap namesE ++ [(l[k]?.getD ((0, 0), (0, 0))).1.1] ++ [(l[k]?.getD ((0, 0), (0, 0))).2.1] := by
 rw [take_snoc hk ((0, 0), (0, 0)), List.flatMap_append]
 simp [namesE]
theorem names_len (l : List Ed) (k : Nat) : ((l.take k).flatMap namesE).length ≤ 2 * k := by
 induction k with
 | zero => simp
 | succ k ih =>
  by_cases h : k < l.length
  ·rw [names_E h]
   simp only [List.length_append, List.length_singleton]
   omega
  ·rw [List.take_of_length_le (by omega), ← List.take_of_length_le (i := k) (l := l) (by omega)]
   omega
theorem names_H {l : List Hk} {k : Nat} (hk : k < l.length) : (l.take (k + 1)).flatMap namesH = (l.take k).flatMap namesH ++ (hEdges (l[k]?.getD hk0)).flatMap namesE ++ (hKills (l[k]?.getD hk0)).map (fun x => x.1) := by
 rw [take_snoc hk hk0, List.flatMap_append, List.append_assoc]
 congr 1
 rw [List.flatMap_cons, List.flatMap_nil, List.append_nil]
 rfl
theorem names_lenH {l : List Hk} {m : Nat} (h : ∀ x ∈ l, (hEdges x).length ≤ m ∧ (hKills x).length ≤ m) : ∀ k, k ≤ l.length → ((l.take k).flatMap namesH).length ≤ k * (3 * m)
 | 0, _ => by simp
 | k + 1, hk => by
  have h1 := names_lenH h k (by omega)
  have h2 := h _ (get_mem (d := hk0) (show k < l.length by omega))
  have h3 := names_len (hEdges (l[k]?.getD hk0)) (hEdges (l[k]?.getD hk0)).length
  rw [List.take_length] at h3
  rw [names_H (by omega), List.length_append, List.length_append, List.length_map, Nat.succ_mul]
  omega

structure NdEnv (wB w : World) (g : Nat) (vs : List Value) (b o xa xb : Nat) : Prop where
 gr : wB.grownBy w none
 box : BoxV w g vs 68
 x0 : w.cell? ⟨b, o, none⟩ = some (.int .u32 (xa : Int))
 x2 : w.cell? ⟨b, o + 2, none⟩ = some (.int .u32 (xb : Int))
theorem cell_calmQ {w w' : World} (hg : w.grownBy w' none) {a : Addr} {v : Value} (h : w.cell? a = some v) : w'.cell? a = some v := World.grownBy.cell hg h (by simp)
theorem NdEnv.calm {wB w w' : World} {g b o xa xb : Nat} {vs : List Value} (h : NdEnv wB w g vs b o xa xb) (hg : w.grownBy w' none) : NdEnv wB w' g vs b o xa xb := ⟨grownBy_trans h.gr hg, h.box.calm hg, cell_calmQ hg h.x0, cell_calmQ hg h.x2⟩
theorem NdEnv.three {wB w : World} {g b o xa xb : Nat} {vs : List Value} {v : Value} (h : NdEnv wB w g vs b o xa xb) (hv : vs[2]? = some v) : w.cell? ⟨g, 2, none⟩ = some v ∧ w.cell? ⟨b, o, none⟩ = some (.int .u32 (xa : Int)) ∧ w.cell? ⟨b, o + 2, none⟩ = some (.int .u32 (xb : Int)) := ⟨h.box.cell hv, h.x0, h.x2⟩

end Go.Proofs.YtnknejokneddbaaGreatDoor
/-! The reference's patches: Less, named. -/
namespace Go.Proofs.YtnknejokneddbaaGreatDoor
open Go.RowKit

end Go.Proofs.YtnknejokneddbaaGreatDoor
/-! The reference's patches: SameIDs, sameTexts, SameHunk, Same. -/
namespace Go.Proofs.YtnknejokneddbaaGreatDoor
open Go.RowKit

theorem eq_get {α : Type} {la lb : List α} {d : α} (hl : la.length = lb.length) (h : ∀ j, j < la.length → la[j]?.getD d = lb[j]?.getD d) : la = lb := by
 apply List.ext_getElem hl
 intro j h1 h2
 have := h j h1
 rwa [List.getElem?_eq_getElem h1, List.getElem?_eq_getElem h2] at this

end Go.Proofs.YtnknejokneddbaaGreatDoor
/-! Lines' numbers and edges compared; the reference's SameHunk, Same. -/
namespace Go.Proofs.YtnknejokneddbaaGreatDoor
open Go.RowKit

theorem ln_in (d : Nat) (x y m n : Int) (w : World) : (Op.equalIn (d + 1 + 1) 60 (.agg #[.int .u32 x, .int .i64 m]) (.agg #[.int .u32 y, .int .i64 n])).run Tryz.prog w = .ok (x == y && m == n) w := by
 rw [run_equalIn_agg _ _ _ _ _ (by kernel_rfl) Tryz.stoodInHeld60]
 have e : (Tryz.prog.fieldsOf 60).toList = [{ name := "Patch", type := 52, offset := 0, embedded := false, tag := "", pkgPath := "", byteOffset := 0 }, { name := "N", type := 3, offset := 1, embedded := false, tag := "", pkgPath := "", byteOffset := 8 }] := by kernel_rfl
 rw [e]
 simp [Op.eqFields, part, go_sem]
 cases h : (x == y) <;> cases h' : (m == n) <;> simp_all
theorem ln_eql (x y m n : Int) (w : World) : (binOp .eql 60 (.agg #[.int .u32 x, .int .i64 m]) (.agg #[.int .u32 y, .int .i64 n])).run Tryz.prog w = .ok (.bool (x == y && m == n)) w := by
 rw [run_eql_struct, ln_in 9998]
 rfl
theorem ln_neq (x y m n : Int) (w : World) : (binOp .neq 60 (.agg #[.int .u32 x, .int .i64 m]) (.agg #[.int .u32 y, .int .i64 n])).run Tryz.prog w = .ok (.bool (!(x == y && m == n))) w := by
 rw [run_neq_struct, ln_in 9998]
 rfl
theorem BoxV.second (w : World) (vs us : List Value) (t u : TypeId) : BoxV ((w.alloc (.cells vs.toArray t)).alloc (.cells us.toArray u)) (w.heap.size + 1) us u := by
 have h := BoxV.new (w.alloc (.cells vs.toArray t)) us u
 have e : (w.alloc (.cells vs.toArray t)).heap.size = w.heap.size + 1 := by simp
 rwa [e] at h
/-- The cells of a box of four. -/
theorem BoxV.four {w : World} {g : Nat} {a b c d : Value} {t : TypeId} (h : BoxV w g [a, b, c, d] t) : w.cell? ⟨g, 0, none⟩ = some a ∧ w.cell? ⟨g, 1, none⟩ = some b ∧ w.cell? ⟨g, 2, none⟩ = some c ∧ w.cell? ⟨g, 3, none⟩ = some d := ⟨h.cell rfl, h.cell rfl, h.cell rfl, h.cell rfl⟩
end Go.Proofs.YtnknejokneddbaaGreatDoor
/-! The reference's patches: Same. -/
namespace Go.Proofs.YtnknejokneddbaaGreatDoor
open Go.RowKit

/-- No patch is greater than these. -/
structure PBig (p : Pt) : Prop where
 hunks : (pHunks p).length ≤ 20
 deps : (pDeps p).length ≤ 1000
 makes : (pMakes p).length ≤ 1000
 drops : (pDrops p).length ≤ 1000
 ms : ∀ s ∈ pMakes p, s.size ≤ 1000000
 xs : ∀ s ∈ pDrops p, s.size ≤ 1000000
 hs : ∀ h ∈ pHunks p, (hAdds h).length ≤ 1000 ∧ (hEdges h).length ≤ 1000 ∧ (hKills h).length ≤ 1000 ∧ (hPath h).size ≤ 1000000 ∧ ∀ s ∈ hAdds h, s.size ≤ 1000000
theorem PFew.big {p : Pt} (h : PFew p) : PBig p where
 hunks := by have := h.hunks; omega
 deps := by have := h.deps; omega
 makes := by have := h.makes; omega
 drops := by have := h.drops; omega
 ms s hs := by have := h.ms s hs; omega
 xs s hs := by have := h.xs s hs; omega
 hs x hx := by
  obtain ⟨h1, h2, h3, h4, h5⟩ := h.hs x hx
  exact ⟨by omega, by omega, by omega, by omega, fun s hs => by have := h5 s hs; omega⟩
theorem BoxV.five {w : World} {g : Nat} {a b c d e : Value} {t : TypeId} (h : BoxV w g [a, b, c, d, e] t) : w.cell? ⟨g, 0, none⟩ = some a ∧ w.cell? ⟨g, 1, none⟩ = some b ∧ w.cell? ⟨g, 2, none⟩ = some c ∧ w.cell? ⟨g, 3, none⟩ = some d ∧ w.cell? ⟨g, 4, none⟩ = some e := ⟨h.cell rfl, h.cell rfl, h.cell rfl, h.cell rfl, h.cell rfl⟩
theorem bool_of (P : Prop) : ∃ r : Bool, r = true ↔ P := by
 by_cases h : P
 ·exact ⟨true, iff_of_true rfl h⟩
 ·exact ⟨false, iff_of_false Bool.false_ne_true h⟩

end Go.Proofs.YtnknejokneddbaaGreatDoor
