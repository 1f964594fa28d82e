/- Arguments that are patches. -/
import Derived.SliceStrings
import Derived.ChangeSlices
import Derived.Deep.Slices
import Derived.Test.YtnknejokneddbaaGreatDoorArgs
import Derived.Test.YtnknejokneddbaaGreatDoorStaM
/-! Arguments that are patches: how they lie in memory when the call begins; types as variables. -/
namespace Go.Proofs.YtnknejokneddbaaGreatDoor
open Go.ChangeShapes Go.WideShapes Go.ChangeAt Go.WideMaps Go.WideElems Go.RowKit Go.Deep

theorem num_of {a : Int} (h : (Lit.int .u32 a).wf = true) : ∃ n : Nat, a = n ∧ n < 4294967296 := by
 have h' := h
 simp [Lit.wf, IntKind.min, IntKind.max, IntKind.bits, IntKind.signed] at h'
 exact ⟨a.toNat, by omega, by omega⟩
theorem list_ofT {α : Type} (d : α) {n : Nat} {S : Nat → α → Prop} (h : ∀ i, i < n → ∃ x, S i x) : ∃ l : List α, l.length = n ∧ ∀ i, i < n → S i (l[i]?.getD d) := by
 induction n with
 | zero => exact ⟨[], rfl, fun i hi => by omega⟩
 | succ n ih =>
  obtain ⟨l, hl, hs⟩ := ih (fun i hi => h i (by omega))
  obtain ⟨x, hx⟩ := h n (by omega)
  refine ⟨l ++ [x], by simp [hl], fun i hi => ?_⟩
  by_cases e : i = n
  ·subst e
   rw [List.getElem?_append_right (by omega), hl, Nat.sub_self]
   exact hx
  ·rw [List.getElem?_append_left (by omega)]
   exact hs i (by omega)

section
variable {P : Program} {H : Type} {enc : TypeId × Value → H} {W : World} {fuel : Nat}

/-- Field i of a struct: its type, its place. -/
def FldAt (fs : Array Field) (i : Nat) (t : TypeId) (o : Nat) : Prop := (fs[i]?).map (fun f => (f.type, f.offset)) = some (t, o)
theorem FldAt.ex {fs : Array Field} {i : Nat} {t : TypeId} {o : Nat} (h : FldAt fs i t o) : ∃ f, fs[i]? = some f ∧ f.type = t ∧ f.offset = o := by
 obtain ⟨f, h1, h2⟩ := Option.map_eq_some_iff.1 h
 exact ⟨f, h1, (Prod.mk.inj h2).1, (Prod.mk.inj h2).2⟩

theorem strsT {t e : TypeId} (ht : P.underlying t = some (.slice e)) (he : P.underlying e = some .string) (hc : P.cellsOf e = 1) {v : Value} {x : DataW H × List MemPlace} (hf : DataW.trod enc P W 0 (fun _ => true) true fuel t [v] = some x) :
  ∃ p L c l, v = .slice p L c ∧ StrsAt W 0 W.heap.size p L l ∧ L ≤ c ∧ (p = none → c = 0) ∧ L ≤ maxLen := by
 rcases open_strings ht he hc hf with ⟨hcs, _⟩ | ⟨a, len, cap, ss, hcs, _, hl, hm, hsl, _, hcell, _⟩
 ·simp only [List.cons.injEq, and_true] at hcs
  subst hcs
  exact ⟨none, 0, 0, [], rfl, strsAt_nil _ _ _, Nat.le_refl _, fun _ => rfl, Nat.zero_le _⟩
 ·simp only [List.cons.injEq, and_true] at hcs
  subst hcs
  simp only [if_true] at hsl
  refine ⟨some a, len, cap, ss.take len, rfl, ⟨by rw [List.length_take]; omega, fun hn => ?_⟩, hl, (fun h => by cases h), Nat.le_trans hl hm⟩
  have hc0 := hcell 0 (by omega)
  rw [add_zero'] at hc0
  obtain ⟨b, off, rfl⟩ := cell_plain hc0
  refine ⟨b, off, rfl, Nat.zero_le _, cell_lt hc0, Nat.le_refl _, fun i hil => ?_⟩
  have hi := hcell i (by omega)
  rw [add_plain] at hi
  rw [hi, List.getD_eq_getElem?_getD, List.getElem?_take_of_lt hil]

theorem numsT {t e : TypeId} (ht : P.underlying t = some (.slice e)) (he : P.underlying e = some (.int .u32)) (hc : P.cellsOf e = 1) {v : Value} {x : DataW H × List MemPlace} (hf : DataW.trod enc P W 0 (fun _ => true) true fuel t [v] = some x) :
  ∃ p L c l, v = .slice p L c ∧ NsAt .u32 W 0 W.heap.size p L l ∧ (∀ x ∈ l, x < 4294967296) ∧ L ≤ c ∧ (p = none → c = 0) ∧ L ≤ maxLen := by
 rcases open_ints ht he hc hf with ⟨hcs, _⟩ | ⟨a, len, cap, zs, hcs, _, hl, hm, hsl, _, hcell, hwf⟩
 ·simp only [List.cons.injEq, and_true] at hcs
  subst hcs
  exact ⟨none, 0, 0, [], rfl, nsAt_nil _ _ _ _, (fun x hx => by cases hx), Nat.le_refl _, fun _ => rfl, Nat.zero_le _⟩
 ·simp only [List.cons.injEq, and_true] at hcs
  subst hcs
  simp only [if_true] at hsl
  refine ⟨some a, len, cap, (zs.take len).map Int.toNat, rfl, ⟨by rw [List.length_map, List.length_take]; omega, fun hn => ?_⟩, fun x hx => ?_, hl, (fun h => by cases h), Nat.le_trans hl hm⟩
  ·have hc0 := hcell 0 (by omega)
   rw [add_zero'] at hc0
   obtain ⟨b, off, rfl⟩ := cell_plain hc0
   refine ⟨b, off, rfl, Nat.zero_le _, cell_lt hc0, Nat.le_refl _, fun i hil => ?_⟩
   have hi := hcell i (by omega)
   rw [add_plain] at hi
   have hiz : i < zs.length := by omega
   obtain ⟨y, hy, _⟩ := num_of (hwf zs[i] (List.getElem_mem hiz))
   rw [hi, List.getD_eq_getElem?_getD, List.getElem?_map, List.getElem?_take_of_lt hil, List.getElem?_eq_getElem hiz]
   simp only [Option.map_some, Option.getD_some]
   rw [hy, Int.toNat_natCast]
  ·obtain ⟨z, hz, rfl⟩ := List.mem_map.1 hx
   obtain ⟨y, rfl, hy⟩ := num_of (hwf z (List.mem_of_mem_take hz))
   rw [Int.toNat_natCast]
   exact hy

/-- The types of a patch: numbers, ints, texts, and the slices of these; lines' numbers, edges, hunks, patches. -/
structure PTys (P : Program) (tU tI tS tSs tUs tL tLs tE tEs tH tHs tP : TypeId) (fL fE fH fP : Array Field) : Prop where
 uU : P.underlying tU = some (.int .u32)
 cU : P.cellsOf tU = 1
 uI : P.underlying tI = some (.int .i64)
 cI : P.cellsOf tI = 1
 uS : P.underlying tS = some .string
 cS : P.cellsOf tS = 1
 uSs : P.underlying tSs = some (.slice tS)
 cSs : P.cellsOf tSs = 1
 uUs : P.underlying tUs = some (.slice tU)
 cUs : P.cellsOf tUs = 1
 uL : P.underlying tL = some (.struct fL)
 cL : P.cellsOf tL = 2
 nL : fL.size = 2
 l0 : FldAt fL 0 tU 0
 l1 : FldAt fL 1 tI 1
 uLs : P.underlying tLs = some (.slice tL)
 cLs : P.cellsOf tLs = 1
 uE : P.underlying tE = some (.struct fE)
 cE : P.cellsOf tE = 4
 nE : fE.size = 2
 e0 : FldAt fE 0 tL 0
 e1 : FldAt fE 1 tL 2
 uEs : P.underlying tEs = some (.slice tE)
 cEs : P.cellsOf tEs = 1
 uH : P.underlying tH = some (.struct fH)
 cH : P.cellsOf tH = 4
 nH : fH.size = 4
 h0 : FldAt fH 0 tS 0
 h1 : FldAt fH 1 tSs 1
 h2 : FldAt fH 2 tEs 2
 h3 : FldAt fH 3 tLs 3
 uHs : P.underlying tHs = some (.slice tH)
 cHs : P.cellsOf tHs = 1
 uP : P.underlying tP = some (.struct fP)
 cP : P.cellsOf tP = 5
 nP : fP.size = 5
 p0 : FldAt fP 0 tU 0
 p1 : FldAt fP 1 tUs 1
 p2 : FldAt fP 2 tSs 2
 p3 : FldAt fP 3 tSs 3
 p4 : FldAt fP 4 tHs 4

variable {tU tI tS tSs tUs tL tLs tE tEs tH tHs tP : TypeId} {fL fE fH fP : Array Field}

theorem lnT2 (T : PTys P tU tI tS tSs tUs tL tLs tE tEs tH tHs tP fL fE fH fP) {cs : List Value} {x : DataW H × List MemPlace} (hf : DataW.trod enc P W 0 (fun _ => true) true fuel tL cs = some x) :
  ∃ (a : Nat) (b : Int), cs = [.int .u32 (a : Int), .int .i64 b] ∧ a < 4294967296 ∧ -9223372036854775808 ≤ b ∧ b ≤ 9223372036854775807 := by
 obtain ⟨ys, n', _, _, hlen, hyl, hfd⟩ := DataW.trod_struct T.uL hf
 rw [T.cL] at hlen
 rw [T.nL] at hyl
 obtain ⟨f, e, ht, ho⟩ := T.l0.ex
 obtain ⟨f', e', ht', ho'⟩ := T.l1.ex
 have g0 := hfd 0 f e
 have g1 := hfd 1 f' e'
 rw [ht, ho, T.cU] at g0
 rw [ht', ho', T.cI] at g1
 match cs, hlen, ys, hyl with
 | [v0, v1], _, [y0, y1], _ =>
  have k0 : DataW.trod enc P W 0 (fun _ => true) true n' tU [v0] = some y0 := g0
  have k1 : DataW.trod enc P W 0 (fun _ => true) true n' tI [v1] = some y1 := g1
  obtain ⟨a, e0, _, hw⟩ := DataW.trod_int T.uU k0
  obtain ⟨b, e1, _, hv⟩ := DataW.trod_int T.uI k1
  simp only [List.cons.injEq, and_true] at e0 e1
  obtain ⟨a', rfl, ha⟩ := num_of hw
  simp [Lit.wf, IntKind.min, IntKind.max, IntKind.bits, IntKind.signed] at hv
  exact ⟨a', b, by rw [e0, e1], ha, by omega, by omega⟩
theorem lnT (T : PTys P tU tI tS tSs tUs tL tLs tE tEs tH tHs tP fL fE fH fP) {cs : List Value} {x : DataW H × List MemPlace} (hf : DataW.trod enc P W 0 (fun _ => true) true fuel tL cs = some x) :
  ∃ (a : Nat) (b : Int), cs = [.int .u32 (a : Int), .int .i64 b] ∧ a < 4294967296 := by
 obtain ⟨a, b, e, ha, _⟩ := lnT2 T hf
 exact ⟨a, b, e, ha⟩

theorem edT (T : PTys P tU tI tS tSs tUs tL tLs tE tEs tH tHs tP fL fE fH fP) {cs : List Value} {x : DataW H × List MemPlace} (hf : DataW.trod enc P W 0 (fun _ => true) true fuel tE cs = some x) :
  ∃ (a : Nat) (b : Int) (c : Nat) (d : Int), cs = [.int .u32 (a : Int), .int .i64 b, .int .u32 (c : Int), .int .i64 d] ∧ a < 4294967296 ∧ c < 4294967296 := by
 obtain ⟨ys, n', _, _, hlen, hyl, hfd⟩ := DataW.trod_struct T.uE hf
 rw [T.cE] at hlen
 rw [T.nE] at hyl
 obtain ⟨f, e, ht, ho⟩ := T.e0.ex
 obtain ⟨f', e', ht', ho'⟩ := T.e1.ex
 have g0 := hfd 0 f e
 have g1 := hfd 1 f' e'
 rw [ht, ho, T.cL] at g0
 rw [ht', ho', T.cL] at g1
 match cs, hlen, ys, hyl with
 | [v0, v1, v2, v3], _, [y0, y1], _ =>
  have k0 : DataW.trod enc P W 0 (fun _ => true) true n' tL [v0, v1] = some y0 := g0
  have k1 : DataW.trod enc P W 0 (fun _ => true) true n' tL [v2, v3] = some y1 := g1
  obtain ⟨a, b, e0, ha⟩ := lnT T k0
  obtain ⟨c, d, e1, hc⟩ := lnT T k1
  simp only [List.cons.injEq, and_true] at e0 e1
  exact ⟨a, b, c, d, by rw [e0.1, e0.2, e1.1, e1.2], ha, hc⟩

theorem lnsT (T : PTys P tU tI tS tSs tUs tL tLs tE tEs tH tHs tP fL fE fH fP) {v : Value} {x : DataW H × List MemPlace} (hf : DataW.trod enc P W 0 (fun _ => true) true fuel tLs [v] = some x) :
  ∃ p L c l, v = .slice p L c ∧ LnsAt W 0 W.heap.size p L l ∧ (∀ x ∈ l, x.1 < 4294967296) ∧ L ≤ c ∧ (p = none → c = 0) ∧ L ≤ maxLen := by
 rcases open_slice T.uLs hf with ⟨hcs, _⟩ | ⟨a, len, cap, m, n, D, Pl, hcs, _, hl, hm, hmm, _, hi⟩
 ·simp only [List.cons.injEq, and_true] at hcs
  subst hcs
  exact ⟨none, 0, 0, [], rfl, lnsAt_nil _ _ _, (fun x hx => by cases hx), Nat.le_refl _, fun _ => rfl, Nat.zero_le _⟩
 ·simp only [List.cons.injEq, and_true] at hcs
  subst hcs
  simp only [if_true] at hmm
  have key : ∀ i, i < len → ∃ x : Ln, W.cell? (a.add (i * 2)) = some (.int .u32 ((x.1 : Nat) : Int)) ∧ W.cell? ((a.add (i * 2)).add 1) = some (.int .i64 x.2) ∧ x.1 < 4294967296 := by
   intro i hil
   obtain ⟨cs', hc, ht⟩ := hi i (by omega)
   rw [T.cL] at hc
   obtain ⟨_, hcl, hat⟩ := World.cells?_some hc
   obtain ⟨u, v, rfl, hu⟩ := lnT T ht
   have c0 := hat 0 (by omega)
   have c1 := hat 1 (by omega)
   rw [add_zero'] at c0
   exact ⟨(u, v), c0, c1, hu⟩
  obtain ⟨l, hll, hS⟩ := list_ofT ((0, 0) : Ln) key
  refine ⟨some a, len, cap, l, rfl, ⟨hll, fun hn => ?_⟩, fun x hx => ?_, hl, (fun h => by cases h), Nat.le_trans hl hm⟩
  ·obtain ⟨hc0, _⟩ := hS 0 hn
   rw [Nat.zero_mul, add_zero'] at hc0
   obtain ⟨b, off, rfl⟩ := cell_plain hc0
   refine ⟨b, off, rfl, Nat.zero_le _, cell_lt hc0, Nat.le_refl _, fun i hil => ?_⟩
   have hs := hS i hil
   simp only [add_plain] at hs
   exact ⟨hs.1, hs.2.1⟩
  ·obtain ⟨i, hi', rfl⟩ := List.getElem_of_mem hx
   have hs := (hS i (by omega)).2.2
   rwa [List.getElem?_eq_getElem hi'] at hs

theorem edsT (T : PTys P tU tI tS tSs tUs tL tLs tE tEs tH tHs tP fL fE fH fP) {v : Value} {x : DataW H × List MemPlace} (hf : DataW.trod enc P W 0 (fun _ => true) true fuel tEs [v] = some x) :
  ∃ p L c l, v = .slice p L c ∧ EdsAt W 0 W.heap.size p L l ∧ (∀ x ∈ l, x.1.1 < 4294967296 ∧ x.2.1 < 4294967296) ∧ L ≤ c ∧ (p = none → c = 0) ∧ L ≤ maxLen := by
 rcases open_slice T.uEs hf with ⟨hcs, _⟩ | ⟨a, len, cap, m, n, D, Pl, hcs, _, hl, hm, hmm, _, hi⟩
 ·simp only [List.cons.injEq, and_true] at hcs
  subst hcs
  exact ⟨none, 0, 0, [], rfl, edsAt_nil _ _ _, (fun x hx => by cases hx), Nat.le_refl _, fun _ => rfl, Nat.zero_le _⟩
 ·simp only [List.cons.injEq, and_true] at hcs
  subst hcs
  simp only [if_true] at hmm
  have key : ∀ i, i < len → ∃ x : Ed, (W.cell? (a.add (i * 4)) = some (.int .u32 ((x.1.1 : Nat) : Int)) ∧ W.cell? ((a.add (i * 4)).add 1) = some (.int .i64 x.1.2) ∧ W.cell? ((a.add (i * 4)).add 2) = some (.int .u32 ((x.2.1 : Nat) : Int)) ∧ W.cell? ((a.add (i * 4)).add 3) = some (.int .i64 x.2.2)) ∧
    x.1.1 < 4294967296 ∧ x.2.1 < 4294967296 := by
   intro i hil
   obtain ⟨cs', hc, ht⟩ := hi i (by omega)
   rw [T.cE] at hc
   obtain ⟨_, hcl, hat⟩ := World.cells?_some hc
   obtain ⟨u, v, u', v', rfl, hu⟩ := edT T ht
   have c0 := hat 0 (by omega)
   rw [add_zero'] at c0
   exact ⟨((u, v), (u', v')), ⟨c0, hat 1 (by omega), hat 2 (by omega), hat 3 (by omega)⟩, hu⟩
  obtain ⟨l, hll, hS⟩ := list_ofT (((0, 0), (0, 0)) : Ed) key
  refine ⟨some a, len, cap, l, rfl, ⟨hll, fun hn => ?_⟩, fun x hx => ?_, hl, (fun h => by cases h), Nat.le_trans hl hm⟩
  ·obtain ⟨⟨hc0, _⟩, _⟩ := hS 0 hn
   rw [Nat.zero_mul, add_zero'] at hc0
   obtain ⟨b, off, rfl⟩ := cell_plain hc0
   refine ⟨b, off, rfl, Nat.zero_le _, cell_lt hc0, Nat.le_refl _, fun i hil => ?_⟩
   have hs := (hS i hil).1
   simp only [add_plain] at hs
   exact hs
  ·obtain ⟨i, hi', rfl⟩ := List.getElem_of_mem hx
   have hs := (hS i (by omega)).2
   rwa [List.getElem?_eq_getElem hi'] at hs

/-- Numbers are numbers of 32 bits. -/
def numH (h : Hk) : Prop := (∀ e ∈ hEdges h, e.1.1 < 4294967296 ∧ e.2.1 < 4294967296) ∧ ∀ x ∈ hKills h, x.1 < 4294967296

theorem hkT (T : PTys P tU tI tS tSs tUs tL tLs tE tEs tH tHs tP fL fE fH fP) {cs : List Value} {x : DataW H × List MemPlace} (hf : DataW.trod enc P W 0 (fun _ => true) true fuel tH cs = some x) :
  ∃ s pa na ca pe ne ce pk nk ck h, cs = [.string s, .slice pa na ca, .slice pe ne ce, .slice pk nk ck] ∧ hPath h = s ∧ HkAt W 0 W.heap.size pa na ca pe ne ce pk nk ck h ∧ numH h := by
 obtain ⟨ys, n', _, _, hlen, hyl, hfd⟩ := DataW.trod_struct T.uH hf
 rw [T.cH] at hlen
 rw [T.nH] at hyl
 obtain ⟨f0, e0, t0, o0⟩ := T.h0.ex
 obtain ⟨f1, e1, t1, o1⟩ := T.h1.ex
 obtain ⟨f2, e2, t2, o2⟩ := T.h2.ex
 obtain ⟨f3, e3, t3, o3⟩ := T.h3.ex
 have g0 := hfd 0 f0 e0
 have g1 := hfd 1 f1 e1
 have g2 := hfd 2 f2 e2
 have g3 := hfd 3 f3 e3
 rw [t0, o0, T.cS] at g0
 rw [t1, o1, T.cSs] at g1
 rw [t2, o2, T.cEs] at g2
 rw [t3, o3, T.cLs] at g3
 match cs, hlen, ys, hyl with
 | [v0, v1, v2, v3], _, [y0, y1, y2, y3], _ =>
  have k0 : DataW.trod enc P W 0 (fun _ => true) true n' tS [v0] = some y0 := g0
  have k1 : DataW.trod enc P W 0 (fun _ => true) true n' tSs [v1] = some y1 := g1
  have k2 : DataW.trod enc P W 0 (fun _ => true) true n' tEs [v2] = some y2 := g2
  have k3 : DataW.trod enc P W 0 (fun _ => true) true n' tLs [v3] = some y3 := g3
  obtain ⟨s, hs, _⟩ := DataW.trod_string T.uS k0
  simp only [List.cons.injEq, and_true] at hs
  obtain ⟨pa, na, ca, la, rfl, ha, ha2, ha3, _⟩ := strsT T.uSs T.uS T.cS k1
  obtain ⟨pe, ne, ce, le, rfl, he, he1, he2, he3, _⟩ := edsT T k2
  obtain ⟨pk, nk, ck, lk, rfl, hk, hk1, hk2, hk3, _⟩ := lnsT T k3
  exact ⟨s, pa, na, ca, pe, ne, ce, pk, nk, ck, (s, la, le, lk), by rw [hs], rfl, ⟨ha, he, hk, ha2, he2, hk2, ha3, he3, hk3⟩, he1, hk1⟩

theorem hksT (T : PTys P tU tI tS tSs tUs tL tLs tE tEs tH tHs tP fL fE fH fP) {v : Value} {x : DataW H × List MemPlace} (hf : DataW.trod enc P W 0 (fun _ => true) true fuel tHs [v] = some x) :
  ∃ p L c l, v = .slice p L c ∧ HksAt W 0 W.heap.size p L l ∧ (∀ h ∈ l, numH h) ∧ L ≤ c ∧ (p = none → c = 0) ∧ L ≤ maxLen := by
 rcases open_slice T.uHs hf with ⟨hcs, _⟩ | ⟨a, len, cap, m, n, D, Pl, hcs, _, hl, hm, hmm, _, hi⟩
 ·simp only [List.cons.injEq, and_true] at hcs
  subst hcs
  exact ⟨none, 0, 0, [], rfl, hksAt_nil _ _ _, (fun x hx => by cases hx), Nat.le_refl _, fun _ => rfl, Nat.zero_le _⟩
 ·simp only [List.cons.injEq, and_true] at hcs
  subst hcs
  simp only [if_true] at hmm
  have key : ∀ i, i < len → ∃ h : Hk, (∃ pa na ca pe ne ce pk nk ck, W.cell? (a.add (i * 4)) = some (.string (hPath h)) ∧ W.cell? ((a.add (i * 4)).add 1) = some (.slice pa na ca) ∧ W.cell? ((a.add (i * 4)).add 2) = some (.slice pe ne ce) ∧ W.cell? ((a.add (i * 4)).add 3) = some (.slice pk nk ck) ∧
    HkAt W 0 W.heap.size pa na ca pe ne ce pk nk ck h) ∧ numH h := by
   intro i hil
   obtain ⟨cs', hc, ht⟩ := hi i (by omega)
   rw [T.cH] at hc
   obtain ⟨_, hcl, hat⟩ := World.cells?_some hc
   obtain ⟨s, pa, na, ca, pe, ne, ce, pk, nk, ck, h, rfl, rfl, hh, hn⟩ := hkT T ht
   have c0 := hat 0 (by omega)
   rw [add_zero'] at c0
   exact ⟨h, ⟨pa, na, ca, pe, ne, ce, pk, nk, ck, c0, hat 1 (by omega), hat 2 (by omega), hat 3 (by omega), hh⟩, hn⟩
  obtain ⟨l, hll, hS⟩ := list_ofT hk0 key
  refine ⟨some a, len, cap, l, rfl, ⟨hll, fun hn => ?_⟩, fun x hx => ?_, hl, (fun h => by cases h), Nat.le_trans hl hm⟩
  ·obtain ⟨⟨_, _, _, _, _, _, _, _, _, hc0, _⟩, _⟩ := hS 0 hn
   rw [Nat.zero_mul, add_zero'] at hc0
   obtain ⟨b, off, rfl⟩ := cell_plain hc0
   refine ⟨b, off, rfl, Nat.zero_le _, cell_lt hc0, Nat.le_refl _, fun i hil => ?_⟩
   have hs := (hS i hil).1
   simp only [add_plain] at hs
   exact hs
  ·obtain ⟨i, hi', rfl⟩ := List.getElem_of_mem hx
   have hs := (hS i (by omega)).2
   rwa [List.getElem?_eq_getElem hi'] at hs

/-- A patch that came in. -/
structure PArg (w : World) (id : Nat) (pd : Option Addr) (nd cd : Nat) (pm : Option Addr) (nm cm : Nat) (px : Option Addr) (nx cx : Nat) (ph : Option Addr) (nh ch : Nat) (p : Pt) : Prop where
 at' : PtAt w 0 w.heap.size id pd nd cd pm nm cm px nx cx ph nh ch p
 idN : id < 4294967296
 depN : ∀ d ∈ pDeps p, d < 4294967296
 hkN : ∀ h ∈ pHunks p, numH h
 md : nd ≤ maxLen
 mm : nm ≤ maxLen
 mx : nx ≤ maxLen
 mh : nh ≤ maxLen

theorem ptT (T : PTys P tU tI tS tSs tUs tL tLs tE tEs tH tHs tP fL fE fH fP) {cs : List Value} {x : DataW H × List MemPlace} (hf : DataW.trod enc P W 0 (fun _ => true) true fuel tP cs = some x) :
  ∃ (id : Nat) (pd : Option Addr) (nd cd : Nat) (pm : Option Addr) (nm cm : Nat) (px : Option Addr) (nx cx : Nat) (ph : Option Addr) (nh ch : Nat) (p : Pt),
   cs = [.int .u32 (id : Int), .slice pd nd cd, .slice pm nm cm, .slice px nx cx, .slice ph nh ch] ∧ PArg W id pd nd cd pm nm cm px nx cx ph nh ch p := by
 obtain ⟨ys, n', _, _, hlen, hyl, hfd⟩ := DataW.trod_struct T.uP hf
 rw [T.cP] at hlen
 rw [T.nP] at hyl
 obtain ⟨f0, e0, t0, o0⟩ := T.p0.ex
 obtain ⟨f1, e1, t1, o1⟩ := T.p1.ex
 obtain ⟨f2, e2, t2, o2⟩ := T.p2.ex
 obtain ⟨f3, e3, t3, o3⟩ := T.p3.ex
 obtain ⟨f4, e4, t4, o4⟩ := T.p4.ex
 have g0 := hfd 0 f0 e0
 have g1 := hfd 1 f1 e1
 have g2 := hfd 2 f2 e2
 have g3 := hfd 3 f3 e3
 have g4 := hfd 4 f4 e4
 rw [t0, o0, T.cU] at g0
 rw [t1, o1, T.cUs] at g1
 rw [t2, o2, T.cSs] at g2
 rw [t3, o3, T.cSs] at g3
 rw [t4, o4, T.cHs] at g4
 match cs, hlen, ys, hyl with
 | [v0, v1, v2, v3, v4], _, [y0, y1, y2, y3, y4], _ =>
  have k0 : DataW.trod enc P W 0 (fun _ => true) true n' tU [v0] = some y0 := g0
  have k1 : DataW.trod enc P W 0 (fun _ => true) true n' tUs [v1] = some y1 := g1
  have k2 : DataW.trod enc P W 0 (fun _ => true) true n' tSs [v2] = some y2 := g2
  have k3 : DataW.trod enc P W 0 (fun _ => true) true n' tSs [v3] = some y3 := g3
  have k4 : DataW.trod enc P W 0 (fun _ => true) true n' tHs [v4] = some y4 := g4
  obtain ⟨a, ha, _, hw⟩ := DataW.trod_int T.uU k0
  simp only [List.cons.injEq, and_true] at ha
  obtain ⟨id, rfl, hid⟩ := num_of hw
  obtain ⟨pd, nd, cd, ld, rfl, hd, hd1, hd2, hd3, hd4⟩ := numsT T.uUs T.uU T.cU k1
  obtain ⟨pm, nm, cm, lm, rfl, hm, hm2, hm3, hm4⟩ := strsT T.uSs T.uS T.cS k2
  obtain ⟨px, nx, cx, lx, rfl, hx, hx2, hx3, hx4⟩ := strsT T.uSs T.uS T.cS k3
  obtain ⟨ph, nh, ch, lh, rfl, hh, hh1, hh2, hh3, hh4⟩ := hksT T k4
  exact ⟨id, pd, nd, cd, pm, nm, cm, px, nx, cx, ph, nh, ch, (id, ld, lm, lx, lh), by rw [ha], ⟨⟨rfl, hd, hm, hx, hh, hd2, hm2, hx2, hh2, hd3, hm3, hx3, hh3⟩, hid, hd1, hh1, hd4, hm4, hx4, hh4⟩⟩
end

end Go.Proofs.YtnknejokneddbaaGreatDoor
/-! Arguments that are patches: the types by name. -/
namespace Go.Proofs.YtnknejokneddbaaGreatDoor
open Go.ChangeShapes Go.WideShapes Go.ChangeAt Go.WideMaps Go.WideElems Go.RowKit Go.Deep

theorem patTys : PTys Tryz.prog 52 3 9 48 53 60 66 70 65 68 54 56 (Tryz.prog.fieldsOf 60) (Tryz.prog.fieldsOf 70) (Tryz.prog.fieldsOf 68) (Tryz.prog.fieldsOf 56) where
 uU := Tryz.underlying52
 cU := by kernel_rfl
 uI := Tryz.underlying3
 cI := by kernel_rfl
 uS := Tryz.underlying9
 cS := by kernel_rfl
 uSs := Tryz.underlying48
 cSs := by kernel_rfl
 uUs := Tryz.underlying53
 cUs := by kernel_rfl
 uL := by kernel_rfl
 cL := by kernel_rfl
 nL := by kernel_rfl
 l0 := by unfold FldAt; kernel_rfl
 l1 := by unfold FldAt; kernel_rfl
 uLs := Tryz.underlying66
 cLs := by kernel_rfl
 uE := by kernel_rfl
 cE := by kernel_rfl
 nE := by kernel_rfl
 e0 := by unfold FldAt; kernel_rfl
 e1 := by unfold FldAt; kernel_rfl
 uEs := Tryz.underlying65
 cEs := by kernel_rfl
 uH := by kernel_rfl
 cH := by kernel_rfl
 nH := by kernel_rfl
 h0 := by unfold FldAt; kernel_rfl
 h1 := by unfold FldAt; kernel_rfl
 h2 := by unfold FldAt; kernel_rfl
 h3 := by unfold FldAt; kernel_rfl
 uHs := Tryz.underlying54
 cHs := by kernel_rfl
 uP := by kernel_rfl
 cP := by kernel_rfl
 nP := by kernel_rfl
 p0 := by unfold FldAt; kernel_rfl
 p1 := by unfold FldAt; kernel_rfl
 p2 := by unfold FldAt; kernel_rfl
 p3 := by unfold FldAt; kernel_rfl
 p4 := by unfold FldAt; kernel_rfl

end Go.Proofs.YtnknejokneddbaaGreatDoor
