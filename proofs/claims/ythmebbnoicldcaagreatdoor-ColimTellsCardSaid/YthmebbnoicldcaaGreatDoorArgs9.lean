/- Arguments that are diagrams, slices of slices of ints: how they lie in memory when the call begins. -/
import Derived.Test.YthmebbnoicldcaaGreatDoorArgs4
import Derived.Test.YthmebbnoicldcaaGreatDoorColM
namespace Go.Proofs.YthmebbnoicldcaaGreatDoor
open Go.ChangeShapes Go.WideShapes Go.ChangeAt Go.WideMaps Go.WideElems Go.RowKit Go.Deep

theorem cZs : Tryz.prog.cellsOf 40 = 1 := by kernel_rfl
theorem cArr : Tryz.prog.cellsOf 49 = 3 := by kernel_rfl
theorem cNodes : Tryz.prog.cellsOf 22 = 1 := by kernel_rfl
theorem cArrs : Tryz.prog.cellsOf 23 = 1 := by kernel_rfl
theorem cDia : Tryz.prog.cellsOf 25 = 2 := by kernel_rfl

/-- A diagram that came in. -/
structure DArg (w : World) (p : Option Addr) (n c : Nat) (q : Option Addr) (m d : Nat) (Ns : List Nd) (As : List Ar) : Prop where
  nod : NodesAt w 0 w.heap.size p n Ns
  arr : ArrsAt w 0 w.heap.size q m As
  len : n ≤ maxLen
  len2 : m ≤ maxLen
/-- Legs that came in. -/
structure LArg (w : World) (p : Option Addr) (n c : Nat) (Hs : List (List Int)) : Prop where
  at' : LegsAt w 0 w.heap.size p n Hs
  len : n ≤ maxLen

theorem zsTrod {H : Type} {enc : TypeId × Value → H} {W : World} {fuel : Nat} {v : Value} {x : DataW H × List MemPlace} (hf : DataW.trod enc Tryz.prog W 0 (fun _ => true) true fuel 40 [v] = some x) : ∃ p L c l, v = .slice p L c ∧ ZsAt W 0 W.heap.size p L l := by
  rcases open_ints Tryz.underlying40 Tryz.underlying3 cInt hf with ⟨hcs, _⟩ | ⟨a, len, cap, zs, hcs, _, hl, hm, hsl, _, hcell, _⟩
  · simp only [List.cons.injEq, and_true] at hcs
    subst hcs
    exact ⟨none, 0, 0, [], rfl, zsAt_nil _ _ _⟩
  · simp only [List.cons.injEq, and_true] at hcs
    subst hcs
    simp only [if_true] at hsl
    refine ⟨some a, len, cap, zs.take len, rfl, ⟨by rw [List.length_take]; omega, fun hn => ?_⟩⟩
    have hc0 := hcell 0 (by omega)
    rw [add_zero'] at hc0
    obtain ⟨b, off, rfl⟩ := cell_plain hc0
    refine ⟨b, off, rfl, Nat.zero_le _, cell_lt hc0, Nat.le_refl _, fun i hil => ?_⟩
    have hi := hcell i (by omega)
    rw [add_plain] at hi
    rw [hi, List.getD_eq_getElem?_getD, List.getElem?_take_of_lt hil]

/-- A list out of what each place has. -/
theorem list_of {α : Type} (d : α) {n : Nat} {S : Nat → α → Prop} (h : ∀ i, i < n → ∃ x, S i x) : ∃ l : List α, l.length = n ∧ ∀ i, i < n → S i (l[i]?.getD d) := by
  induction n with
  | zero => exact ⟨[], rfl, fun i hi => by omega⟩
  | succ n ih =>
    obtain ⟨l, hl, hs⟩ := ih (fun i hi => h i (by omega))
    obtain ⟨x, hx⟩ := h n (by omega)
    refine ⟨l ++ [x], by simp [hl], fun i hi => ?_⟩
    by_cases e : i = n
    · subst e
      rw [List.getElem?_append_right (by omega), hl, Nat.sub_self]
      exact hx
    · rw [List.getElem?_append_left (by omega)]
      exact hs i (by omega)

set_option maxRecDepth 20000 in
theorem nodesTrod {H : Type} {enc : TypeId × Value → H} {W : World} {fuel : Nat} {v : Value} {x : DataW H × List MemPlace} (hf : DataW.trod enc Tryz.prog W 0 (fun _ => true) true fuel 22 [v] = some x) : ∃ p L c l, v = .slice p L c ∧ NodesAt W 0 W.heap.size p L l ∧ L ≤ maxLen := by
  rcases open_slice Tryz.underlying22 hf with ⟨hcs, _⟩ | ⟨a, len, cap, m, n, D, Pl, hcs, _, hl, hm, hmm, _, hi⟩
  · simp only [List.cons.injEq, and_true] at hcs
    subst hcs
    exact ⟨none, 0, 0, [], rfl, nodesAt_nil _ _ _, Nat.zero_le _⟩
  · simp only [List.cons.injEq, and_true] at hcs
    subst hcs
    simp only [if_true] at hmm
    have key : ∀ i, i < len → ∃ x : Nd, ∃ pl nl cl pq nq cq, W.cell? (a.add (i * 2)) = some (.slice pl nl cl) ∧ W.cell? ((a.add (i * 2)).add 1) = some (.slice pq nq cq) ∧ ObjAt W 0 W.heap.size pl nl pq nq x.1 x.2 ∧ nl ≤ maxLen ∧ (pl = none → cl = 0) ∧ (pq = none → cq = 0) := by
      intro i hil
      obtain ⟨cs', hc, ht⟩ := hi i (by omega)
      rw [cObj] at hc
      obtain ⟨_, hcl, hat⟩ := World.cells?_some hc
      obtain ⟨ys, n', _, _, hlen, hyl, hfd⟩ := DataW.trod_struct Tryz.underlying29 ht
      rw [cObj] at hlen
      match cs', hlen with
      | [v0, v1], _ =>
        have hys : ys.length = 2 := hyl
        match ys, hys with
        | [y0, y1], _ =>
          have f0 : DataW.trod enc Tryz.prog W 0 (fun _ => true) true n' 26 (List.take (Tryz.prog.cellsOf 26) (List.drop 0 [v0, v1])) = some y0 := hfd 0 _ rfl
          have f1 : DataW.trod enc Tryz.prog W 0 (fun _ => true) true n' 27 (List.take (Tryz.prog.cellsOf 27) (List.drop 1 [v0, v1])) = some y1 := hfd 1 _ rfl
          rw [cStrs] at f0
          rw [cPairs] at f1
          obtain ⟨p, n, c, L, rfl, hp⟩ := strsTrod (v := v0) f0
          obtain ⟨q, m, dd, P, rfl, hq, hq0⟩ := pairsTrod (v := v1) f1
          have c0 := hat 0 (by omega)
          have c1 := hat 1 (by omega)
          rw [add_zero'] at c0
          exact ⟨(L, P), p, n, c, q, m, dd, c0, c1, ⟨hp.at', hq⟩, hp.len, hp.none', hq0⟩
    obtain ⟨l, hll, hS⟩ := list_of (([], []) : Nd) key
    refine ⟨some a, len, cap, l, rfl, ⟨hll, fun hn => ?_⟩, Nat.le_trans hl hm⟩
    obtain ⟨_, _, _, _, _, _, hc0, _⟩ := hS 0 hn
    rw [Nat.zero_mul, add_zero'] at hc0
    obtain ⟨b, off, rfl⟩ := cell_plain hc0
    refine ⟨b, off, rfl, Nat.zero_le _, cell_lt hc0, Nat.le_refl _, fun i hil => ?_⟩
    have hs := hS i hil
    simpa only [add_plain, ndA] using hs

set_option maxRecDepth 20000 in
theorem arrsTrod {H : Type} {enc : TypeId × Value → H} {W : World} {fuel : Nat} {v : Value} {x : DataW H × List MemPlace} (hf : DataW.trod enc Tryz.prog W 0 (fun _ => true) true fuel 23 [v] = some x) : ∃ p L c l, v = .slice p L c ∧ ArrsAt W 0 W.heap.size p L l ∧ L ≤ maxLen := by
  rcases open_slice Tryz.underlying23 hf with ⟨hcs, _⟩ | ⟨a, len, cap, m, n, D, Pl, hcs, _, hl, hm, hmm, _, hi⟩
  · simp only [List.cons.injEq, and_true] at hcs
    subst hcs
    exact ⟨none, 0, 0, [], rfl, arrsAt_nil _ _ _, Nat.zero_le _⟩
  · simp only [List.cons.injEq, and_true] at hcs
    subst hcs
    simp only [if_true] at hmm
    have key : ∀ i, i < len → ∃ x : Ar, ∃ pm nm cm, W.cell? (a.add (i * 3)) = some (.int .i64 x.1) ∧ W.cell? ((a.add (i * 3)).add 1) = some (.int .i64 x.2.1) ∧ W.cell? ((a.add (i * 3)).add 2) = some (.slice pm nm cm) ∧ ZsAt W 0 W.heap.size pm nm x.2.2 := by
      intro i hil
      obtain ⟨cs', hc, ht⟩ := hi i (by omega)
      rw [cArr] at hc
      obtain ⟨_, hcl, hat⟩ := World.cells?_some hc
      obtain ⟨ys, n', _, _, hlen, hyl, hfd⟩ := DataW.trod_struct Tryz.underlying49 ht
      rw [cArr] at hlen
      match cs', hlen with
      | [v0, v1, v2], _ =>
        have hys : ys.length = 3 := hyl
        match ys, hys with
        | [y0, y1, y2], _ =>
          have f0 : DataW.trod enc Tryz.prog W 0 (fun _ => true) true n' 3 (List.take (Tryz.prog.cellsOf 3) (List.drop 0 [v0, v1, v2])) = some y0 := hfd 0 _ rfl
          have f1 : DataW.trod enc Tryz.prog W 0 (fun _ => true) true n' 3 (List.take (Tryz.prog.cellsOf 3) (List.drop 1 [v0, v1, v2])) = some y1 := hfd 1 _ rfl
          have f2 : DataW.trod enc Tryz.prog W 0 (fun _ => true) true n' 40 (List.take (Tryz.prog.cellsOf 40) (List.drop 2 [v0, v1, v2])) = some y2 := hfd 2 _ rfl
          rw [cInt] at f0 f1
          rw [cZs] at f2
          have g0 : DataW.trod enc Tryz.prog W 0 (fun _ => true) true n' 3 [v0] = some y0 := f0
          have g1 : DataW.trod enc Tryz.prog W 0 (fun _ => true) true n' 3 [v1] = some y1 := f1
          obtain ⟨x0, e0, _⟩ := DataW.trod_int Tryz.underlying3 g0
          obtain ⟨x1, e1, _⟩ := DataW.trod_int Tryz.underlying3 g1
          simp only [List.cons.injEq, and_true] at e0 e1
          obtain ⟨p, n, c, l, rfl, hz⟩ := zsTrod (v := v2) f2
          have c0 := hat 0 (by omega)
          have c1 := hat 1 (by omega)
          have c2 := hat 2 (by omega)
          rw [add_zero'] at c0
          rw [e0] at c0
          rw [e1] at c1
          exact ⟨(x0, x1, l), p, n, c, c0, c1, c2, hz⟩
    obtain ⟨l, hll, hS⟩ := list_of ((0, 0, []) : Ar) key
    refine ⟨some a, len, cap, l, rfl, ⟨hll, fun hn => ?_⟩, Nat.le_trans hl hm⟩
    obtain ⟨_, _, _, hc0, _⟩ := hS 0 hn
    rw [Nat.zero_mul, add_zero'] at hc0
    obtain ⟨b, off, rfl⟩ := cell_plain hc0
    refine ⟨b, off, rfl, Nat.zero_le _, cell_lt hc0, Nat.le_refl _, fun i hil => ?_⟩
    have hs := hS i hil
    simpa only [add_plain, arA] using hs

set_option maxRecDepth 20000 in
theorem legsTrod {H : Type} {enc : TypeId × Value → H} {W : World} {fuel : Nat} {v : Value} {x : DataW H × List MemPlace} (hf : DataW.trod enc Tryz.prog W 0 (fun _ => true) true fuel 30 [v] = some x) : ∃ p L c l, v = .slice p L c ∧ LArg W p L c l := by
  rcases open_slice Tryz.underlying30 hf with ⟨hcs, _⟩ | ⟨a, len, cap, m, n, D, Pl, hcs, _, hl, hm, hmm, _, hi⟩
  · simp only [List.cons.injEq, and_true] at hcs
    subst hcs
    exact ⟨none, 0, 0, [], rfl, legsAt_nil _ _ _, Nat.zero_le _⟩
  · simp only [List.cons.injEq, and_true] at hcs
    subst hcs
    simp only [if_true] at hmm
    have key : ∀ i, i < len → ∃ x : List Int, ∃ pm nm cm, W.cell? (a.add i) = some (.slice pm nm cm) ∧ ZsAt W 0 W.heap.size pm nm x := by
      intro i hil
      obtain ⟨cs', hc, ht⟩ := hi i (by omega)
      rw [cZs, Nat.mul_one] at hc
      obtain ⟨_, hcl, hat⟩ := World.cells?_some hc
      match cs', hcl with
      | [v0], _ =>
        obtain ⟨p, n, c, l, rfl, hz⟩ := zsTrod (v := v0) ht
        have c0 := hat 0 (by omega)
        rw [add_zero'] at c0
        exact ⟨l, p, n, c, c0, hz⟩
    obtain ⟨l, hll, hS⟩ := list_of ([] : List Int) key
    refine ⟨some a, len, cap, l, rfl, ⟨hll, fun hn => ?_⟩, Nat.le_trans hl hm⟩
    obtain ⟨_, _, _, hc0, _⟩ := hS 0 hn
    rw [add_zero'] at hc0
    obtain ⟨b, off, rfl⟩ := cell_plain hc0
    refine ⟨b, off, rfl, Nat.zero_le _, cell_lt hc0, Nat.le_refl _, fun i hil => ?_⟩
    have hs := hS i hil
    simpa only [add_plain, lgA] using hs

set_option maxRecDepth 20000 in
theorem legsAt_of {H : Type} {enc : TypeId × Value → H} {W : World} {base : Nat} {v : Value} {d : DataW H} {ps : List MemPlace} (hok : Value.okWide Tryz.prog W .any base 30 v)
    (h : DataW.Trod enc Tryz.prog W 0 (fun _ => true) true 30 v d ps) : ∃ p L c l, v = .slice p L c ∧ LArg W p L c l := by
  obtain ⟨a0, len, cap, rfl⟩ := okWide_slice Tryz.underlying30 hok
  obtain ⟨fuel, hf⟩ := h
  exact legsTrod hf

set_option maxRecDepth 20000 in
theorem diaAt_of {H : Type} {enc : TypeId × Value → H} {W : World} {base : Nat} {v : Value} {d : DataW H} {ps : List MemPlace} (hok : Value.okWide Tryz.prog W .any base 25 v)
    (h : DataW.Trod enc Tryz.prog W 0 (fun _ => true) true 25 v d ps) : ∃ p n c q m dd Ns As, v = .agg #[.slice p n c, .slice q m dd] ∧ DArg W p n c q m dd Ns As := by
  obtain ⟨cs, rfl, hsz⟩ := okWide_struct Tryz.underlying25 hok
  obtain ⟨fuel, hf⟩ := h
  obtain ⟨ys, n', _, _, hlen, hyl, hfd⟩ := DataW.trod_struct Tryz.underlying25 hf
  rw [cDia] at hlen hsz
  obtain ⟨cl⟩ := cs
  match cl, hsz with
  | [v0, v1], _ =>
    have hys : ys.length = 2 := hyl
    match ys, hys with
    | [y0, y1], _ =>
      have f0 : DataW.trod enc Tryz.prog W 0 (fun _ => true) true n' 22 (List.take (Tryz.prog.cellsOf 22) (List.drop 0 [v0, v1])) = some y0 := hfd 0 _ rfl
      have f1 : DataW.trod enc Tryz.prog W 0 (fun _ => true) true n' 23 (List.take (Tryz.prog.cellsOf 23) (List.drop 1 [v0, v1])) = some y1 := hfd 1 _ rfl
      rw [cNodes] at f0
      rw [cArrs] at f1
      obtain ⟨p, n, c, Ns, rfl, hp, hl⟩ := nodesTrod (v := v0) f0
      obtain ⟨q, m, dd, As, rfl, hq, hl2⟩ := arrsTrod (v := v1) f1
      exact ⟨p, n, c, q, m, dd, Ns, As, rfl, ⟨hp, hq, hl, hl2⟩⟩

end Go.Proofs.YthmebbnoicldcaaGreatDoor
