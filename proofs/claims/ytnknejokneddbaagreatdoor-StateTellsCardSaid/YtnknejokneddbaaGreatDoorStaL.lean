/- Package state: a range over a function whose iterator turns a block of its own between two rounds. -/
import Derived.Test.YtnknejokneddbaaGreatDoorStaV
namespace Go.Proofs.YtnknejokneddbaaGreatDoor
set_option maxHeartbeats 8000000
set_option maxRecDepth 100000
open Go.RowKit Go.Shelf
attribute [local go_sem] Oper.semAt_some
def OwnT {β : Type} (B : Nat) (t : TypeId) (I : β -> World -> Prop) : Prop :=
 ∀ s A C row, I s A -> A.grownBy C row -> (∀ r, row = some r -> B <= r /\ ∃ o : Obj, A.heap[r]? = some o /\ (o.isCells = false ∨ ∃ cur, o = .cells cur t (0, 0))) -> I s C
theorem OwnT.from {β : Type} {B : Nat} {t : TypeId} {I : β -> World -> Prop} (h : OwnT B t I) : OwnFrom B I := fun s A C row hs hg hr => h s A C row hs hg fun r e => by
 obtain ⟨h1, o, h2, h3⟩ := hr r e
 exact ⟨h1, o, h2, .inl h3⟩
theorem rangeTurn {F : Fence} {n : Nat} {P : Program} {α : Type} {g : Operand} {ps : Array Tmp} {assign body : Code} {Q : Exit -> Act -> World -> Prop} {a : Act} {w : World} (t : TypeId) (N : Nat)
  (hro : F.round = none) (h1 : 1 <= n) {gf : Nat} {lb : Array Value} (hg : a.eval g = .func (.func gf) #[] lb) (hFg : F.fn gf) (eg : ∀ args w, (callFunc gf args).run P w = .ok (.enter gf args) w)
  {encs : α -> Array Value} (hps : ∀ x, (encs x).size = ps.size) (I : List α -> World -> Prop) (hI : OwnT w.heap.size t I) (h0 : I [] w) (S : List α -> Prop)
  (Kp : World -> World -> Prop) (hKt : ∀ {A B C : World}, Kp A B -> Kp B C -> Kp A C) (hKb : ∀ (W : World) (o o' : Obj), W.heap[w.heap.size + 1]? = some o -> o.isCells = false -> Kp W (W.putObj (w.heap.size + 1) o'))
  (hit : ∀ (l : Nat) (R : World -> Prop) (W : World), (∀ A B row, R A -> A.grownBy B row -> (∀ r, row = some r -> W.heap.size <= r) -> R B) -> w.heap.size <= W.heap.size -> Below w.heap.size w W -> I [] W -> R W ->
   (∀ pre x W1, I pre W1 -> R W1 -> pre.length < N -> YieldAt F (n - 1 - 1) P l (encs x) W1 fun e W' => e = .returned (.bool true) /\ I (pre ++ [x]) W' /\ R W' /\ Kp W1 W') ->
   CallsIn F (n - 1) P gf (#[.func (.yield l) #[] #[]] ++ lb) W fun e W' => (∃ v, e = .returned v) /\ ∃ xs, S xs /\ I xs W' /\ R W')
  (Ax : α -> Act -> World -> Prop) (hAx : ∀ x a', OwnFrom w.heap.size (fun (_ : Unit) W => Ax x a' W))
  (hassign : ∀ (l : Nat) (pre : List α) (x : α) (W : World) (K : Act -> World -> Prop), I pre W -> (∀ a' W', KeepsFrom w.heap.size W W' -> Kp W W' -> I pre W' -> Ax x a' W' -> K a' W') ->
   assign.wpIn (F.inRound l) (n - 1 - 1) P (Exit.then K (fun _ _ _ => False)) { tmps := (ps.zip (encs x)).foldl (fun t (p, v) => t.setIfInBounds p v) a.tmps, defers := [] } W)
  (hbody : ∀ (l : Nat) (pre : List α) (x : α) (a' : Act) (W : World), w.heap.size <= l -> (∃ r, W.heap[l]? = some (.loop r)) -> I pre W -> Ax x a' W -> pre.length < N -> body.wpIn (F.inRound l) (n - 1 - 1) P (fun e _ W' => e = .normal /\ KeepsFrom w.heap.size W W' /\ I (pre ++ [x]) W' /\ Kp W W') a' W)
  (hdone : ∀ (D : Nat) (xs : List α) (W : World), w.heap.size <= D -> S xs -> I xs W -> W.heap[D]? = some (.deferred (some [])) -> Q .normal { a with defers := { target := .collected D, args := #[] } :: a.defers } W) :
  (Code.rangeFunc g ps assign body).wpIn F n P Q a w := by
 refine wpIn_rangeFunc fun fn hfn => ?_
 rw [hro]
 have hI' := hI.from
 -- the record of the loop, ready, and as it lies
 let L0 : Loop := { state := .ready, pending := none, fn, tmps := a.tmps, params := ps, assign, body, defers := w.heap.size }
 let Rd : World -> Prop := fun W => W.heap[w.heap.size]? = some (.deferred (some [])) /\ W.heap[w.heap.size + 1]? = some (.loop L0)
 have hst : Rd ((w.alloc (.deferred (some []))).alloc (.loop L0)) := by
  refine ⟨(heap_alloc_old _ _ (by simp)).trans (Vc w _), ?_⟩
  have := Vc (w.alloc (.deferred (some []))) (.loop L0)
  rwa [Yw] at this
 have hsz : ((w.alloc (.deferred (some []))).alloc (.loop L0)).heap.size = w.heap.size + 2 := by simp
 have hR : ∀ A B row, Rd A -> A.grownBy B row -> (∀ r, row = some r -> ((w.alloc (.deferred (some []))).alloc (.loop L0)).heap.size <= r) -> Rd B := fun A B row h hg hr =>
  ⟨(hg.block _ (Zp.1 h.1).1 (fun e => by have := hr _ e.symm; omega)).trans h.1, (hg.block _ (Zp.1 h.2).1 (fun e => by have := hr _ e.symm; omega)).trans h.2⟩
 have hI1 : I [] ((w.alloc (.deferred (some []))).alloc (.loop L0)) := hI'.alloc _ (hI'.alloc _ h0)
 have hB1 : Below w.heap.size w ((w.alloc (.deferred (some []))).alloc (.loop L0)) := ((Below.refl _ w).alloc (Zc _) _).alloc (by simp) _
 refine ⟨w.heap.size + 1, [{ target := .collected w.heap.size, args := #[] }], (w.alloc (.deferred (some []))).alloc (.loop L0), { target := .fn (.func gf) lb, args := #[.func (.yield (w.heap.size + 1)) #[] #[]] }, (w.alloc (.deferred (some []))).alloc (.loop L0), gf,
  #[.func (.yield (w.heap.size + 1)) #[] #[]] ++ lb, (w.alloc (.deferred (some []))).alloc (.loop L0), run_enterLoop_outer _ _ _ _ _, ?_, ?_, ?_, fun _ => h1, ?_⟩
 ·simp only [resolve, hg]
  simp [go_sem, L0]
 ·intro f' hf'
  simp [Target.leads] at hf'
  subst hf'
  exact hFg
 ·simp [invoke, go_sem, eg]
 ·refine (hit (w.heap.size + 1) Rd _ hR (by omega) hB1 hI1 hst ?_).mono ?_
  ·intro pre x W hi hr hpn
   refine ⟨fn, _, assign, body, run_yield (r := L0) hr.2 (hps x), roundIn_of_wpIn hfn (hassign _ pre x W _ hi ?_)⟩
   intro a' Wa hkf hka hia hax
   have hd0 := hkf.same _ _ (Zc _) hr.1 rfl
   have hl0 := hkf.same _ _ (by omega) hr.2 rfl
   refine ⟨_, run_beginRound hl0 rfl, ?_⟩
   have hlt := (Zp.1 hl0).1
   have hb : (Wa.putObj (w.heap.size + 1) (.loop { L0 with state := .busy })).heap[w.heap.size + 1]? = some (.loop { L0 with state := .busy }) := World.putObj_heap_same hlt
   have hd : (Wa.putObj (w.heap.size + 1) (.loop { L0 with state := .busy })).heap[w.heap.size]? = some (.deferred (some [])) := (World.putObj_heap_other (by omega)).trans hd0
   have hk1 := hKb Wa _ (.loop { L0 with state := .busy }) hl0 rfl
   refine wpIn_mono (hbody (w.heap.size + 1) pre x a' _ (by omega) ⟨_, hb⟩ (hI'.putObj _ hia (by omega) hl0 rfl) ((hAx x a').putObj (s := ()) _ hax (by omega) hl0 rfl) hpn) ?_
   rintro e a3 W3 ⟨rfl, hk, hi3, hkp⟩
   have hb3 := hk.same _ _ (by omega) hb rfl
   have hd3 := hk.same _ _ (Zc _) hd rfl
   exact ⟨_, _, run_endRound none hb3, rfl, hI'.putObj _ hi3 (by omega) hb3 rfl, ⟨(World.putObj_heap_other (by omega)).trans hd3, World.putObj_heap_same (Zp.1 hb3).1⟩, hKt hka (hKt hk1 (hKt hkp (hKb W3 _ _ hb3 rfl)))⟩
  ·rintro e W2 ⟨⟨v, rfl⟩, xs, hS, hi, hr⟩
   exact ⟨none, _, run_endLoop hr.2 (by simp [L0]), hdone _ xs _ (Zc _) hS (hI'.putObj _ hi (by omega) hr.2 rfl) ((World.putObj_heap_other (by omega)).trans hr.1)⟩
abbrev YP := Ln × Hk × Sl3 × Sl3 × Sl3
def encY (y : YP) : Array Value := #[.agg #[.int .u32 ((y.1.1 : Nat) : Int), .int .i64 y.1.2], .agg #[.string (hPath y.2.1), .slice y.2.2.1.1 y.2.2.1.2.1 y.2.2.1.2.2, .slice y.2.2.2.1.1 y.2.2.2.1.2.1 y.2.2.2.1.2.2, .slice y.2.2.2.2.1 y.2.2.2.2.2.1 y.2.2.2.2.2.2]]
def YAt (w : World) (lo hi : Nat) (y : YP) : Prop := HkAt w lo hi y.2.2.1.1 y.2.2.1.2.1 y.2.2.1.2.2 y.2.2.2.1.1 y.2.2.2.1.2.1 y.2.2.2.1.2.2 y.2.2.2.2.1 y.2.2.2.2.2.1 y.2.2.2.2.2.2 y.2.1
structure YOk (w : World) (lo hi : Nat) (l : List Pt) (path : ByteArray) (y : YP) : Prop where
 at_ : YAt w lo hi y
 of : ∃ x ∈ l, (y.1, y.2.1) ∈ hksOf path x
abbrev YS (w : World) (lo hi : Nat) (l : List Pt) (path : ByteArray) := { y : YP // YOk w lo hi l path y }
def keyL {w : World} {lo hi : Nat} {l : List Pt} {path : ByteArray} (ys : List (YS w lo hi l path)) : List (Ln × Hk) := ys.map fun y => (y.1.1, y.1.2.1)
theorem keyL_snoc {w : World} {lo hi : Nat} {l : List Pt} {path : ByteArray} (ys : List (YS w lo hi l path)) (y : YS w lo hi l path) : keyL (ys ++ [y]) = keyL ys ++ [(y.1.1, y.1.2.1)] := by simp [keyL]
def AllY (l : List Pt) (path : ByteArray) (ks : List (Ln × Hk)) : Prop := ∃ l' : List Pt, l'.Perm l /\ wkP l' /\ ks = hksL path l'
def tH (t : TypeId) : Bool := t == 56 || t == 60 || t == 68 || t == 139
structure KeepH (n₀ m₀ Bp : Nat) (W W' : World) : Prop where
 bl : Below n₀ W W'
 ty : ∀ (g : Nat) (cur : Array Value) (t : TypeId), m₀ <= g -> tH t = true -> W.heap[g]? = some (.cells cur t (0, 0)) -> W'.heap[g]? = some (.cells cur t (0, 0))
 pa : ∀ o, W.heap[Bp]? = some o -> W'.heap[Bp]? = some o
 ob : KeepsFrom (m₀ + 2) W W'
theorem KeepH.trans {n₀ m₀ Bp : Nat} {A B C : World} (h : KeepH n₀ m₀ Bp A B) (k : KeepH n₀ m₀ Bp B C) : KeepH n₀ m₀ Bp A C :=
 ⟨h.bl.trans k.bl, fun g cur t hm ht hg => k.ty g cur t hm ht (h.ty g cur t hm ht hg), fun o ho => k.pa o (h.pa o ho), h.ob.trans k.ob⟩
theorem KeepH.calm {n₀ m₀ Bp : Nat} {A B : World} (h : A.grownBy B none) (hn : n₀ <= A.heap.size) : KeepH n₀ m₀ Bp A B :=
 ⟨(Xo h).mono hn, fun g _ _ _ _ hg => (h.block g (Zp.1 hg).1 (by simp)).trans hg, fun _ ho => (h.block _ (Zp.1 ho).1 (by simp)).trans ho, keepsFrom_calm h⟩
theorem keepH_b {w : World} {n₀ Bp : Nat} (hn : n₀ <= w.heap.size) (W : World) (o o' : Obj) (hp : Bp < w.heap.size) (hw : W.heap[w.heap.size + 1]? = some o) (hc : o.isCells = false) : KeepH n₀ w.heap.size Bp W (W.putObj (w.heap.size + 1) o') := by
 have hg := grownBy_putObj' W (w.heap.size + 1) o'
 have hne : ∀ {g : Nat} {x : Obj}, W.heap[g]? = some x -> g ≠ w.heap.size + 1 -> (W.putObj (w.heap.size + 1) o').heap[g]? = some x := fun hx hn => (World.putObj_heap_other hn).trans hx
 refine ⟨⟨hg.os, hg.tape, hg.output, hg.size, fun k hk => World.putObj_heap_other (by omega)⟩, fun g cur t _ _ hx => hne hx fun e => ?_, fun x hx => hne hx (by omega), ⟨hg.size, fun k x hk hx _ => hne hx (by omega)⟩⟩
 subst e
 rw [hx] at hw
 cases hw
 cases hc
def HkBox (y : YP) (B : Nat) (W : World) : Prop := W.heap[B]? = some (.cells #[.string (hPath y.2.1), .slice y.2.2.1.1 y.2.2.1.2.1 y.2.2.1.2.2, .slice y.2.2.2.1.1 y.2.2.2.1.2.1 y.2.2.2.1.2.2, .slice y.2.2.2.2.1 y.2.2.2.2.2.1 y.2.2.2.2.2.2] 68 (0, 0))
theorem HkBox.cells {y : YP} {B : Nat} {W : World} (h : HkBox y B W) : W.cell? ⟨B, 0, none⟩ = some (.string (hPath y.2.1)) /\ W.cell? ⟨B, 1, none⟩ = some (.slice y.2.2.1.1 y.2.2.1.2.1 y.2.2.1.2.2) /\ W.cell? ⟨B, 2, none⟩ = some (.slice y.2.2.2.1.1 y.2.2.2.1.2.1 y.2.2.2.1.2.2) /\ W.cell? ⟨B, 3, none⟩ = some (.slice y.2.2.2.2.1 y.2.2.2.2.2.1 y.2.2.2.2.2.2) := by
 unfold HkBox at h
 refine ⟨?_, ?_, ?_, ?_⟩ <;> simp [World.cell?, h]
def LnBox (a : Nat) (b : Int) (B : Nat) (W : World) : Prop := W.heap[B]? = some (.cells #[.int .u32 ((a : Nat) : Int), .int .i64 b] 60 (0, 0))
theorem LnBox.cells {a : Nat} {b : Int} {B : Nat} {W : World} (h : LnBox a b B W) : W.cell? ⟨B, 0, none⟩ = some (.int .u32 ((a : Nat) : Int)) /\ W.cell? ⟨B, 1, none⟩ = some (.int .i64 b) /\ W.frozen? ⟨B, 0, none⟩ = false /\ W.frozen? ⟨B, 1, none⟩ = false := by
 unfold LnBox at h
 refine ⟨?_, ?_, ?_, ?_⟩ <;> simp [World.cell?, World.frozen?, h]
theorem keepsFrom_mono {B B' : Nat} {W W' : World} (h : KeepsFrom B W W') (hb : B <= B') : KeepsFrom B' W W' := ⟨h.size, fun k o hk => h.same k o (Zn hb hk)⟩
theorem LnBox.set {a : Nat} {b : Int} {B : Nat} {W : World} (h : LnBox a b B W) (c : Int) : LnBox a c B (W.setCell ⟨B, 1, none⟩ (.int .i64 c)) := BoxV.set (vs := [.int .u32 ((a : Nat) : Int), .int .i64 b]) h 1 (.int .i64 c)
theorem setN (W : World) (B o : Nat) (v : Value) : W.grownBy (W.setCell ⟨B, o, none⟩ v) (some B) := ⟨rfl, rfl, rfl, by simp, fun k _ hk => Below.heap_setCell _ _ _ _ (fun e => hk (by rw [e]))⟩
theorem hks_ex {w : World} {lo hi n : Nat} {p : Option Addr} {l : List Hk} (h : HksAt w lo hi p n l) {i : Nat} (hi' : i < n) : ∃ (b off : Nat) (s : Sl3 × Sl3 × Sl3), p = some ⟨b, off, none⟩ /\ lo <= b /\ b < hi /\ hi <= w.heap.size /\
  w.cell? ⟨b, off + i * 4, none⟩ = some (.string (hPath (l[i]?.getD hk0))) /\ w.cell? ⟨b, off + i * 4 + 1, none⟩ = some (.slice s.1.1 s.1.2.1 s.1.2.2) /\ w.cell? ⟨b, off + i * 4 + 2, none⟩ = some (.slice s.2.1.1 s.2.1.2.1 s.2.1.2.2) /\ w.cell? ⟨b, off + i * 4 + 3, none⟩ = some (.slice s.2.2.1 s.2.2.2.1 s.2.2.2.2) /\
  HkAt w lo hi s.1.1 s.1.2.1 s.1.2.2 s.2.1.1 s.2.1.2.1 s.2.1.2.2 s.2.2.1 s.2.2.2.1 s.2.2.2.2 (l[i]?.getD hk0) := by
 obtain ⟨b, off, e, h1, h2, h3, hc⟩ := h.cell (by omega)
 obtain ⟨pa, na, ca, pe, ne, ce, pk, nk, ck, c0, c1, c2, c3, c4⟩ := hc i hi'
 exact ⟨b, off, ((pa, na, ca), (pe, ne, ce), (pk, nk, ck)), e, h1, h2, h3, c0, c1, c2, c3, c4⟩
theorem hunks_in (n : Nat) (a : Option Addr) (len cap : Nat) (path : ByteArray) (w : World) :
  CallsIn Fence.wide n Tryz.prog 60 #[.slice a len cap, .string path] w fun e w' => e = .returned (.func (.func 96) #[] #[.pointer (some ⟨w.heap.size, 0, none⟩), .pointer (some ⟨w.heap.size + 1, 0, none⟩)]) /\ w' = (w.alloc (.cells #[.slice a len cap] 22)).alloc (.cells #[.string path] 9) := by
 refine callsIn_of_wp Tryz.func60 rfl trivial ?_ rfl
 simp only [Tryz.ntmps60, Xg, Zt, Xh, Nat.reduceAdd, Nat.reduceSub, Xl, Xk, Xn, Xm, Ys, Xd]
 gi_wp2
 go_ret
 exact ⟨rfl, rfl⟩
abbrev ptL {xs : List HP} (pre : List { x : HP // x ∈ xs }) : List Pt := pre.map fun x => x.1.1
structure HkI {w₀ : World} {lo hi : Nat} {l : List Pt} {path : ByteArray} (n₀ B3 Bp : Nat) (yl : Nat) (I : List (YS w₀ lo hi l path) -> World -> Prop) (R : World -> Prop) (ys : List (YS w₀ lo hi l path)) (W' : World) : Prop where
 i : I ys W'
 r : R W'
 b3 : Boxed W' B3 139 (.func (.yield yl) #[] #[])
 bp : Boxed W' Bp 9 (.string path)
 bl : Below n₀ w₀ W'
 sz : B3 + 2 <= W'.heap.size
theorem HkI.kept {w₀ : World} {lo hi : Nat} {l : List Pt} {path : ByteArray} {n₀ B3 Bp m₀ yl : Nat} {I : List (YS w₀ lo hi l path) -> World -> Prop} {R : World -> Prop} {ys : List (YS w₀ lo hi l path)} {W A C : World} {row : Option Nat}
  (hI : ∀ s A C row, I s A -> A.grownBy C row -> (∀ r, row = some r -> m₀ <= r /\ ∃ o : Obj, A.heap[r]? = some o /\ (o.isCells = false ∨ ∃ cur, o = .cells cur 60 (0, 0))) -> I s C)
  (hR : ∀ A C row, R A -> A.grownBy C row -> (∀ r, row = some r -> W.heap.size <= r) -> R C) (hm : m₀ <= W.heap.size) (hn : n₀ <= W.heap.size) (hn' : n₀ <= w₀.heap.size)
  (h : HkI n₀ B3 Bp yl I R ys A) (hg : A.grownBy C row) (hr : ∀ r, row = some r -> W.heap.size <= r /\ ∃ o : Obj, A.heap[r]? = some o /\ (o.isCells = false ∨ ∃ cur, o = .cells cur 60 (0, 0))) : HkI n₀ B3 Bp yl I R ys C := by
 have hb : ∀ {B : Nat} {t : TypeId} {v : Value}, t ≠ 60 -> Boxed A B t v -> some B ≠ row := fun ht hB e => by
  obtain ⟨_, o, ho, hc⟩ := hr _ e.symm
  rw [show A.heap[_]? = _ from hB] at ho
  cases ho
  rcases hc with hc | ⟨cur, hc⟩
  ·cases hc
  ·cases hc; exact ht rfl
 exact ⟨hI _ _ _ _ h.i hg fun r e => ⟨Zn hm (hr r e).1, (hr r e).2⟩, hR _ _ _ h.r hg fun r e => (hr r e).1, h.b3.kept hg (hb (by decide) h.b3), h.bp.kept hg (hb (by decide) h.bp),
  h.bl.trans ⟨hg.os, hg.tape, hg.output, hg.size, fun k hk => hg.block k (by have := h.bl.size; omega) fun e => by have := (hr _ e.symm).1; omega⟩, Zn h.sz hg.size⟩
theorem hksK_has {path : ByteArray} {x : Pt} {i : Nat} (hp : hPath ((pHunks x)[i]?.getD hk0) = path) : ∀ {k : Nat}, i < k -> ((pID x, ((addsN (pHunks x) i : Nat) : Int)), (pHunks x)[i]?.getD hk0) ∈ hksK path x k
 | 0, h => by omega
 | k + 1, h => by
  unfold hksK
  by_cases e : i = k
  ·subst e
   rw [if_pos hp]
   exact Va.2 (.inr (Yu.2 rfl))
  ·exact Va.2 (.inl (hksK_has hp (by omega)))
theorem hksL_snoc (path : ByteArray) (l : List Pt) (x : Pt) : hksL path (l ++ [x]) = hksL path l ++ hksOf path x := by simp [hksL]
theorem hksK_len (path : ByteArray) (x : Pt) : ∀ k, (hksK path x k).length <= k
 | 0 => Zc _
 | k + 1 => by
  have := hksK_len path x k
  unfold hksK
  rw [Zq]
  split
  ·simp; omega
  ·simp; omega
theorem hksL_len (path : ByteArray) {m : Nat} : ∀ {l : List Pt}, (∀ x ∈ l, (pHunks x).length <= m) -> (hksL path l).length <= l.length * m
 | [], _ => by simp [hksL]
 | x :: l, h => by
  have ih := hksL_len path (l := l) (m := m) (fun y hy => h y (List.mem_cons_of_mem _ hy))
  have h1 := hksK_len path x (pHunks x).length
  have h2 := h x (List.mem_cons_self ..)
  show (hksOf path x ++ hksL path l).length <= _
  rw [Zq, Zt, Nat.succ_mul]
  unfold hksOf
  omega
theorem round_deep {l' m m' : Nat} {P : Program} {l : Nat} {f : FuncId} {tmps : Array Value} {assign body : Code} {w : World} {R : Ending -> World -> Prop}
  (h : RoundIn Fence.wide m P l f tmps assign body w R) : RoundIn (Fence.wide.inRound l') m' P l f tmps assign body w R := ⟨h.1, fun c cs _ => h.2 c cs (fun d e => by cases e)⟩
theorem hunks1_in (n : Nat) (hn : 9 <= n) (yl Bl Bp n₀ m₀ lo hi : Nat) (p : Option Addr) (len cap : Nat) (xs : List HP) (path : ByteArray) (w₀ W : World)
  (I : List (YS w₀ lo hi (xs.map Prod.fst) path) -> World -> Prop) (R : World -> Prop)
  (hI : ∀ s A C row, I s A -> A.grownBy C row -> (∀ r, row = some r -> m₀ <= r /\ ∃ o : Obj, A.heap[r]? = some o /\ (o.isCells = false ∨ ∃ cur, o = .cells cur 60 (0, 0))) -> I s C)
  (hR : ∀ A C row, R A -> A.grownBy C row -> (∀ r, row = some r -> W.heap.size <= r) -> R C) (hm : m₀ <= W.heap.size)
  (hY : ∀ pre y W1, I pre W1 -> R W1 -> pre.length < 200 -> YieldAt Fence.wide (n - 1) Tryz.prog yl (encY y.1) W1 fun e W' => e = .returned (.bool true) /\ I (pre ++ [y]) W' /\ R W' /\ KeepH n₀ m₀ Bp W1 W')
  (hps : PsIn w₀ lo hi p len xs) (hhi : hi <= n₀) (hn₀ : n₀ <= w₀.heap.size) (hB : Below n₀ w₀ W) (hBl : W.cell? ⟨Bl, 0, none⟩ = some (.slice p len cap)) (hBp : Boxed W Bp 9 (.string path)) (h0 : I [] W) (hR0 : R W) :
  CallsIn Fence.wide n Tryz.prog 96 #[.func (.yield yl) #[] #[], .pointer (some ⟨Bl, 0, none⟩), .pointer (some ⟨Bp, 0, none⟩)] W fun e W' => (∃ v, e = .returned v) /\ ∃ ys, AllY (xs.map Prod.fst) path (keyL ys) /\ I ys W' /\ R W' := by
 have h1 : 1 <= n := by omega
 have hro : Fence.wide.round = none := rfl
 have HY := Za hY
 have HI := Za hI
 have HR := Za hR
 have H := Za hps
 have hsm := hps.small
 have HXL := Za hps.at_.len
 have hnW : n₀ <= W.heap.size := Zn hn₀ hB.size
 have HKP := Za (fun ys A C row (h : HkI n₀ W.heap.size Bp yl I R ys A) hg hr => HkI.kept (W := W) (C := C) (row := row) hI hR hm hnW hn₀ h hg hr)
 have hg2 := Zb (Zd W (.cells #[.func (.yield yl) #[] #[]] 139) none) (Zd _ (.cells #[.slice p len cap] 22) none)
 have H0 : Hid (HkI n₀ W.heap.size Bp yl I R [] ((W.alloc (.cells #[.func (.yield yl) #[] #[]] 139)).alloc (.cells #[.slice p len cap] 22))) := Za
  ⟨hI _ _ _ _ h0 hg2 (fun r e => by cases e), hR _ _ _ hR0 hg2 (fun r e => by cases e), (Boxed.new W _ _).alloc _, hBp.kept hg2 (by simp), hB.trans ((Xo hg2).mono hnW), by simp⟩
 have hnp := hps.at_.below hB hhi
 have HAT := Za (hnp.calm hg2)
 have hBl1 := Zh (Zd W (.cells #[.func (.yield yl) #[] #[]] 139) none) hBl
 clear hY hI hR hps h0 hR0 hnp
 refine callsIn_of_wp_marks Tryz.func96 rfl trivial ?_ hro
 simp only [Tryz.ntmps96, Xg, Zt, Xh, Nat.reduceAdd, Nat.reduceSub, Xl, Xk, Xn, Xm, Ys, Xd]
 gi_wp2_with (refine ⟨trivial, ?_⟩; gi_at_call 42; refine (rising_in (n - 1) _ _ _ _).mono ?_; rintro e w9 ⟨rfl, rfl⟩)
 have b2 := Boxed.new (W.alloc (.cells #[.func (.yield yl) #[] #[]] 139)) 22 (.slice p len cap)
 rw [Yw] at b2
 refine wpIn_rangeFunc_ownH hro h1 (gf := 75) (lb := #[.pointer (some ⟨W.heap.size + 1, 0, none⟩)]) rfl trivial (enters_of Tryz.func75 (by kernel_rfl) rfl)
  (rising_stopsF (n - 1) (by omega) (W.heap.size + 1) W.heap.size lo hi p len cap xs (by omega) _ (by simp) b2.cell HAT.out (by simp; omega) (by simp; omega)) keepF_t (fun A l o o' h => keepF_b (w := W) A l o o' (by simp at h; omega)) (Below.refl _ _) (fun _ => by rfl)
  (fun pre W' => ∃ ys, keyL ys = hksL path (ptL pre) /\ HkI n₀ W.heap.size Bp yl I R ys W')
  (fun _ _ _ => False)
  (fun s A C row hs hg hr => by
   obtain ⟨ys, h1, h2⟩ := hs
   exact ⟨ys, h1, HKP.out ys A C row h2 hg fun r e => ⟨by have := (hr r e).1; simp at this; omega, by obtain ⟨_, o, ho, hc⟩ := hr r e; exact ⟨o, ho, .inl hc⟩⟩⟩)
  (fun _ _ _ _ _ hs _ _ => hs)
  ⟨[], rfl, H0.out⟩
  (fun x a' W' => ∃ B, PatBox x.1 B W' /\ W.heap.size + 1 < B /\ a' = { tmps := #[.func (.yield yl) #[] #[], .pointer (some ⟨Bl, 0, none⟩), .pointer (some ⟨Bp, 0, none⟩), .pointer (some ⟨W.heap.size, 0, none⟩), .pointer (some ⟨B, 0, none⟩), undef, undef, undef, .slice p len cap, .func (.func 75) #[] #[.pointer (some ⟨W.heap.size + 1, 0, none⟩)], (patV x.1)[0]!, undef, undef, undef, undef, undef, undef, undef, undef, undef, undef, undef, undef, undef, undef, undef, undef, undef, undef, undef, undef, undef, undef, undef, undef, undef, undef, undef, undef, undef], defers := [] })
  ?hAx ?assign ?body ?done ?stop
 case hAx =>
  rintro x a' _ A B row ⟨b, hb, h2, h3⟩ hg hrow
  refine ⟨b, (hg.block b (Zp.1 hb).1 fun e => ?_).trans hb, h2, h3⟩
  obtain ⟨_, o, ho, hoc⟩ := hrow b e.symm
  rw [show A.heap[b]? = _ from hb] at ho
  cases ho
  cases hoc
 case assign =>
  intro l pre x W' K hI hK
  have HK := Za hK
  clear hK
  unfold patV
  gi_wp2
  obtain ⟨ys, hk, hh⟩ := hI
  have hlt := hh.b3.lt
  have hga := Zd W' (.cells (encP x.1).toArray 56) none
  have hsz : W.heap.size + 1 < W'.heap.size := hh.sz
  exact HK.out _ _ ((KeepsOthers.alloc W' _).from _) (keepF_of (KeepT.calm hga)) ⟨ys, hk, HKP.out ys _ _ none hh hga (fun r e => by cases e)⟩ ⟨W'.heap.size, Vh W' _, hsz, rfl⟩
 case body =>
  rintro l pre x a' W' hl hlr ⟨ys, hk, hh⟩ ⟨b, hb, hb2, rfl⟩ hlt
  obtain ⟨c0, c1, c2, c3, c4⟩ := hb.cells
  have hpt := H.out.of x.1 x.2
  have hfew := H.out.few x.1 x.2
  have HPT := Za hpt
  have hnh : x.1.2.2.2.2.2.1 <= 8 := by have := hpt.hunks.len; have := hfew.hunks; omega
  have HNL := Za hpt.hunks.len
  have HFW := Za hfew.hs
  have hga := Zd W' (.cells #[.int .u32 ((pID x.1.1 : Nat) : Int), .int .i64 0] 60) none
  have HH1 := Za (HKP.out ys _ _ none hh hga (fun r e => by cases e))
  have HLB : Hid (LnBox (pID x.1.1) ((0 : Nat) : Int) W'.heap.size (W'.alloc (.cells #[.int .u32 ((pID x.1.1 : Nat) : Int), .int .i64 0] 60))) := Za (Vc W' _)
  have HKF : Hid (KeepF W.heap.size W' (W'.alloc (.cells #[.int .u32 ((pID x.1.1 : Nat) : Int), .int .i64 0] 60))) := Za (keepF_of (KeepT.calm hga))
  have HKO : Hid (KeepsFrom (W.heap.size + 2) W' (W'.alloc (.cells #[.int .u32 ((pID x.1.1 : Nat) : Int), .int .i64 0] 60))) := Za ((KeepsOthers.alloc W' _).from _)
  have c4' := Zh hga c4
  have hWs : W.heap.size + 2 <= W'.heap.size := hh.sz
  have HK0 := Za hk
  have HZ0 : Hid (addsN (pHunks x.1.1) 0 = 0) := Za rfl
  clear hpt hfew hga hb hh hk
  gi_wp2
  generalize W'.alloc _ = W1 at *
  generalize hg5 : W'.heap.size = g5 at *
  have HG5 : Hid (W'.heap.size = g5) := Za hg5
  clear hg5
  gi_loopw [17] (fun i wr => ∃ (k : Nat) (zs : List (YS w₀ lo hi (xs.map Prod.fst) path)), k <= x.1.2.2.2.2.2.1 /\ i = .int .i64 k /\ Hid (keyL zs = hksL path (ptL pre) ++ hksK path x.1.1 k /\ HkI n₀ W.heap.size Bp yl I R zs wr /\ LnBox (pID x.1.1) ((addsN (pHunks x.1.1) k : Nat) : Int) g5 wr /\ KeepsFrom (W.heap.size + 2) W' wr /\ KeepF W.heap.size W' wr)) (fun i _ => x.1.2.2.2.2.2.1 - (intOf i).toNat)
  case atStart => exact ⟨0, ys, Ze _, rfl, Za ⟨by rw [HK0.out]; simp [hksK], HH1.out, HLB.out, HKO.out, HKF.out⟩⟩
  case round =>
   obtain ⟨k, zs, hk, rfl, HQ⟩ := hrel
   by_cases hkm : k < x.1.2.2.2.2.2.1
   ·obtain ⟨b', off', s, e0, e1, e2, e3, d0, d1, d2, d3, hat⟩ := hks_ex HPT.out.hunks hkm
    have hbk : b' < n₀ := by omega
    have hbl := HQ.out.2.1.bl
    replace d0 := (hbl.cell (p := ⟨b', off' + k * 4, none⟩) hbk).trans d0
    replace d1 := (hbl.cell (p := ⟨b', off' + k * 4 + 1, none⟩) hbk).trans d1
    replace d2 := (hbl.cell (p := ⟨b', off' + k * 4 + 2, none⟩) hbk).trans d2
    replace d3 := (hbl.cell (p := ⟨b', off' + k * 4 + 3, none⟩) hbk).trans d3
    have hkl : k < (pHunks x.1.1).length := by have := HNL.out; omega
    have hna : (hAdds ((pHunks x.1.1)[k]?.getD hk0)).length = s.1.2.1 := hat.adds.len
    have hna2 : s.1.2.1 <= 50 := by
     have := (HFW.out _ (Zr (d := hk0) hkl)).1
     omega
    have HAS : Hid (addsN (pHunks x.1.1) (k + 1) = addsN (pHunks x.1.1) k + s.1.2.1) := Za (by
     rw [addsN_succ hkl, <- hna, Zm hkl]
     rfl)
    have hak : addsN (pHunks x.1.1) k <= 400 := by
     have := addsN_le (hs := pHunks x.1.1) (m := 50) (fun h hh => (HFW.out h hh).1) k (by omega)
     omega
    have HMEM : Hid (hPath ((pHunks x.1.1)[k]?.getD hk0) = path -> ∃ z ∈ xs.map Prod.fst, (((pID x.1.1, ((addsN (pHunks x.1.1) k : Nat) : Int)), (pHunks x.1.1)[k]?.getD hk0) : Ln × Hk) ∈ hksOf path z) :=
     Za fun hp => ⟨x.1.1, Yi.2 ⟨x.1, x.2, rfl⟩, hksK_has hp hkl⟩
    have HKY : Hid (∀ (q : Bool), decide (hPath ((pHunks x.1.1)[k]?.getD hk0) = path) = q -> hksK path x.1.1 (k + 1) = hksK path x.1.1 k ++ (if q = true then [((pID x.1.1, ((addsN (pHunks x.1.1) k : Nat) : Int)), (pHunks x.1.1)[k]?.getD hk0)] else [])) := Za (by
     intro q hq
     show _ ++ _ = _
     subst hq
     by_cases hp : hPath ((pHunks x.1.1)[k]?.getD hk0) = path
     ·rw [if_pos hp, Zg hp, if_pos rfl]
     ·rw [if_neg hp, Zl hp, if_neg (by decide)])
    have HAT2 := Za hat
    have hwn : IntKind.i64.wrap (((addsN (pHunks x.1.1) k : Nat) : Int) + (s.1.2.1 : Int)) = ((addsN (pHunks x.1.1) (k + 1) : Nat) : Int) := by
     rw [HAS.out, Zf _ (by omega)]
     omega
    rw [e0]
    clear e0 hat hna hbl
    generalize hkk : (pHunks x.1.1)[k]?.getD hk0 = h at *
    clear hkk
    generalize hq1 : addsN (pHunks x.1.1) (k + 1) = an1 at *
    have HAN := Za hq1
    clear hq1
    generalize addsN (pHunks x.1.1) k = an at *
    -- the hunk's box
    have hga := Zd wr (.cells #[.string (hPath h), .slice s.1.1 s.1.2.1 s.1.2.2, .slice s.2.1.1 s.2.1.2.1 s.2.1.2.2, .slice s.2.2.1 s.2.2.2.1 s.2.2.2.2] 68) none
    have HI1 := Za (HKP.out zs _ _ none HQ.out.2.1 hga (fun r e => by cases e))
    have hhb : HkBox ((pID x.1.1, (an : Int)), h, s) wr.heap.size (wr.alloc (.cells #[.string (hPath h), .slice s.1.1 s.1.2.1 s.1.2.2, .slice s.2.1.1 s.2.1.2.1 s.2.1.2.2, .slice s.2.2.1 s.2.2.2.1 s.2.2.2.2] 68)) := Vc wr _
    have hln : LnBox (pID x.1.1) (an : Int) g5 (wr.alloc (.cells #[.string (hPath h), .slice s.1.1 s.1.2.1 s.1.2.2, .slice s.2.1.1 s.2.1.2.1 s.2.1.2.2, .slice s.2.2.1 s.2.2.2.1 s.2.2.2.2] 68)) := (hga.block _ (Zp.1 HQ.out.2.2.1).1 (by simp)).trans HQ.out.2.2.1
    have HKO1 := Za (HQ.out.2.2.2.1.trans (keepsFrom_calm (B := W.heap.size + 2) hga))
    have HKF1 := Za (keepF_t HQ.out.2.2.2.2 (keepF_of (KeepT.calm hga)))
    have HKL := Za HQ.out.1
    have HZL : Hid (zs.length < 200) := Za (by
     have e1 : zs.length = (keyL zs).length := by simp [keyL]
     have e2 := hksL_len path (m := 8) (l := ptL pre) (fun z hz => by
      obtain ⟨u, _, rfl⟩ := Yi.1 hz
      exact (H.out.few u.1 u.2).hunks)
     have e3 := hksK_len path x.1.1 k
     have e4 : (ptL pre).length = pre.length := Yn _
     have e5 := HXL.out
     rw [e1, HKL.out, Zq]
     omega)
    obtain ⟨f0, f1, f2, f3⟩ := hhb.cells
    obtain ⟨l0, l1, l2, l3⟩ := hln.cells
    have q3 := HI1.out.b3.cell
    have qp := HI1.out.bp.cell
    have HHB := Za hhb
    have HLN := Za hln
    have hgw : wr.heap.size < (wr.alloc (.cells #[.string (hPath h), .slice s.1.1 s.1.2.1 s.1.2.2, .slice s.2.1.1 s.2.1.2.1 s.2.1.2.2, .slice s.2.2.1 s.2.2.2.1 s.2.2.2.2] 68)).heap.size := by simp
    have hws : W.heap.size + 2 <= wr.heap.size := HQ.out.2.1.sz
    clear hga hhb hln HQ
    by_cases hp : hPath h = path
    ·have t1 := Xz hp
     have hy := HMEM.out hp
     have HKX := Za (HKY.out true (Zg hp))
     obtain ⟨fn, tmps, assign, bodyc, hyy, hR3⟩ := HY.out zs ⟨((pID x.1.1, (an : Int)), h, s), ⟨HAT2.out, hy⟩⟩ _ HI1.out.i HI1.out.r HZL.out
     unfold encY at hyy
     clear hp
     gi_wp2_with fail
     refine ⟨fun _ => by omega, round_deep (hR3.mono ?_)⟩
     rintro e W3 ⟨rfl, hi3, hr3, hk3⟩
     have hb3 := hk3.ty _ _ _ (by omega) (by decide) HI1.out.b3
     have hp3 := hk3.pa _ HI1.out.bp
     have hh3 : HkBox ((pID x.1.1, (an : Int)), h, s) wr.heap.size W3 := hk3.ty _ _ _ (by omega) (by decide) HHB.out
     have hl3 : LnBox (pID x.1.1) (an : Int) g5 W3 := hk3.ty _ _ _ (by have := HG5.out; omega) (by decide) HLN.out
     have HI3 : Hid (HkI n₀ W.heap.size Bp yl I R (zs ++ [⟨((pID x.1.1, (an : Int)), h, s), ⟨HAT2.out, hy⟩⟩]) W3) := Za ⟨hi3, hr3, hb3, hp3, HI1.out.bl.trans hk3.bl, Zn HI1.out.sz hk3.bl.size⟩
     have HKF3 := Za (keepF_t HKF1.out (fun g cur hg hc => hk3.ty g cur _ (by omega) (by decide) hc))
     have HKL3 : Hid (keyL (zs ++ [⟨((pID x.1.1, (an : Int)), h, s), ⟨HAT2.out, hy⟩⟩]) = hksL path (ptL pre) ++ hksK path x.1.1 (k + 1)) := Za (by
      rw [keyL_snoc, HKX.out, HKL.out, Xa]
      rfl)
     obtain ⟨f0, f1, f2, f3⟩ := hh3.cells
     obtain ⟨l0, l1, l2, l3⟩ := hl3.cells
     have HL3 := Za hl3
     clear hi3 hr3 hb3 hp3 hh3 hl3
     gi_wp2
     exact ⟨⟨k + 1, _, by omega, by go_num, Za ⟨HKL3.out, HKP.out _ _ _ (some g5) HI3.out (setN _ _ _ _) (fun r e => by cases e; exact ⟨by have := HG5.out; omega, _, HL3.out, .inr ⟨_, rfl⟩⟩), by rw [HAN.out]; exact HL3.out.set _, (HKO1.out.trans (keepsFrom_mono hk3.ob (by omega))).trans ((KeepsOthers.setCell _ _ _).from _), keepF_t HKF3.out (keepF_of (KeepT.turn (setN _ _ _ _) HL3.out (by decide)))⟩⟩, by simp [intOf]; omega⟩
    ·have t1 := Xt hp
     have HKX := Za (HKY.out false (Zl hp))
     gi_wp2
     refine ⟨fun _ h => (by cases h), ?_⟩
     gi_wp2
     exact ⟨⟨k + 1, zs, by omega, by go_num, Za ⟨by rw [HKX.out, HKL.out]; simp, HKP.out zs _ _ (some g5) HI1.out (setN _ _ _ _) (fun r e => by cases e; exact ⟨by have := HG5.out; omega, _, HLN.out, .inr ⟨_, rfl⟩⟩), by rw [HAN.out]; exact HLN.out.set _, HKO1.out.trans ((KeepsOthers.setCell _ _ _).from _), keepF_t HKF1.out (keepF_of (KeepT.turn (setN _ _ _ _) HLN.out (by decide)))⟩⟩, by simp [intOf]; omega⟩
   ·obtain rfl : k = x.1.2.2.2.2.2.1 := by omega
    have HE : Hid (keyL zs = hksL path (ptL (pre ++ [x]))) := Za (by
     rw [HQ.out.1, show ptL (pre ++ [x]) = ptL pre ++ [x.1.1] by simp [ptL], hksL_snoc]
     unfold hksOf
     rw [HNL.out])
    gi_wp2
    exact ⟨by simpa using HQ.out.2.2.2.1, HQ.out.2.2.2.2, zs, HE.out, HQ.out.2.1⟩
 case done =>
  rintro D zs W' hD hs ⟨ys, hk, hh⟩ hK
  have HAL : Hid (AllY (xs.map Prod.fst) path (keyL ys)) := Za ⟨ptL zs, by
   have := hs.1.map Prod.fst
   rwa [List.map_map] at this, by
   have := (srt_ids hs).1
   unfold wkP
   rw [Vi] at this ⊢
   exact this, hk⟩
  have HH := Za hh
  have hDs : W.heap.size <= D := by simp at hD; omega
  clear hs hk hh
  gi_wp2
  refine ⟨by simp, .inl ⟨_, _, rfl, run_takeDeferred hK, ?_⟩⟩
  exact ⟨_, results_none rfl _ _ _, ⟨_, rfl⟩, ys, HAL.out, HI.out _ _ _ (some D) HH.out.i (grownBy_putObj' _ D _) (fun r e => by cases e; exact ⟨by omega, _, hK, .inl rfl⟩), HR.out _ _ (some D) HH.out.r (grownBy_putObj' _ D _) (fun r e => by cases e; exact hDs)⟩
 case stop =>
  rintro D c pre W _ _ h _
  exact h.elim
structure YFew (y : YP) : Prop where
 lo : 0 <= y.1.2
 hi : y.1.2 <= 400
 adds : (hAdds y.2.1).length <= 50
 edges : (hEdges y.2.1).length <= 90
 kills : (hKills y.2.1).length <= 50
theorem YOk.few {w : World} {lo hi : Nat} {xs : List HP} {path : ByteArray} {y : YP} (h : YOk w lo hi (xs.map Prod.fst) path y) (hf : ∀ x ∈ xs, PFew x.1) : YFew y := by
 obtain ⟨x, hx, hy⟩ := h.of
 obtain ⟨z, hz, rfl⟩ := Yi.1 hx
 obtain ⟨i, hi, e, _⟩ := hksK_mem hy
 have e1 : y.1 = (pID z.1, ((addsN (pHunks z.1) i : Nat) : Int)) := congrArg Prod.fst e
 have e2 : y.2.1 = (pHunks z.1)[i]?.getD hk0 := congrArg Prod.snd e
 have hm := Zr (d := hk0) hi
 rw [<- e2] at hm
 have hh := (hf z hz).hs _ hm
 have hak := addsN_le (hs := pHunks z.1) (m := 50) (fun h hh => ((hf z hz).hs h hh).1) i (by omega)
 have h8 := (hf z hz).hunks
 refine ⟨by rw [e1]; show (0 : Int) <= ((addsN (pHunks z.1) i : Nat) : Int); omega, by rw [e1]; show ((addsN (pHunks z.1) i : Nat) : Int) <= 400; omega, hh.1, hh.2.1, hh.2.2.1⟩
def lnY {w : World} {lo hi : Nat} {l : List Pt} {path : ByteArray} (ys : List (YS w lo hi l path)) : List Lne := (keyL ys).flatMap addsOf
theorem lnY_snoc {w : World} {lo hi : Nat} {l : List Pt} {path : ByteArray} (ys : List (YS w lo hi l path)) (y : YS w lo hi l path) : lnY (ys ++ [y]) = lnY ys ++ addsOf (y.1.1, y.1.2.1) := by simp [lnY, keyL_snoc]
theorem addsK_len (y : Ln × Hk) (k : Nat) : (addsK y k).length = k := by simp [addsK]
theorem lnY_len {w : World} {lo hi : Nat} {l : List Pt} {path : ByteArray} (hf : ∀ y : YS w lo hi l path, (hAdds y.1.2.1).length <= 50) : ∀ ys : List (YS w lo hi l path), (lnY ys).length <= ys.length * 50
 | [] => by simp [lnY, keyL]
 | y :: ys => by
  have ih := lnY_len hf ys
  have h1 := hf y
  have e : lnY (y :: ys) = addsOf (y.1.1, y.1.2.1) ++ lnY ys := rfl
  rw [e, Zq, addsOf_len, Zt, Nat.succ_mul]
  show (hAdds y.1.2.1).length + _ <= _
  omega
structure LnI (w : World) (Bp : Nat) (path : ByteArray) (L : List Lne) (W : World) : Prop where
 row : ∃ v, Boxed W w.heap.size 32 v /\ W.ownsRow w.heap.size 62 4 v L.length (lncells L)
 bp : Boxed W Bp 9 (.string path)
 bl : Below w.heap.size w W
 sz : Bp + 1 <= W.heap.size
theorem LnI.kept {w A C : World} {Bp : Nat} {path : ByteArray} {L : List Lne} {row : Option Nat} (h : LnI w Bp path L A) (hg : A.grownBy C row) (hr : ∀ r, row = some r -> w.heap.size <= r /\ ∃ o : Obj, A.heap[r]? = some o /\ (o.isCells = false ∨ ∃ cur, o = .cells cur 60 (0, 0))) : LnI w Bp path L C := by
 have hb : ∀ {B : Nat} {t : TypeId} {cur : Array Value}, t ≠ 60 -> A.heap[B]? = some (.cells cur t (0, 0)) -> some B ≠ row := fun ht hB e => by
  obtain ⟨_, o, ho, hc⟩ := hr _ e.symm
  rw [hB] at ho
  cases ho
  rcases hc with hc | ⟨cur, hc⟩
  ·cases hc
  ·cases hc; exact ht rfl
 obtain ⟨v, h1, h2⟩ := h.row
 refine ⟨⟨v, h1.kept hg (hb (by decide) h1), h2.1, ?_⟩, h.bp.kept hg (hb (by decide) h.bp), h.bl.trans ⟨hg.os, hg.tape, hg.output, hg.size, fun k hk => hg.block k (Yt hk h.bl.size) fun e => ?_⟩, Zn h.sz hg.size⟩
 ·rcases h2.2 with e | ⟨g, cap, cur, e, x1, x2, x3⟩
  ·exact .inl e
  ·exact .inr ⟨g, cap, cur, e, x1, (hg.block g (Zp.1 x2).1 (hb (by decide) x2)).trans x2, x3⟩
 ·have := (hr _ e.symm).1
  omega
theorem lines_st (n : Nat) (hn : 12 <= n) (lo hi : Nat) (p : Option Addr) (len cap : Nat) (xs : List HP) (path : ByteArray) (w : World) (h : PsIn w lo hi p len xs) :
  CallsIn Fence.wide n Tryz.prog 35 #[.slice p len cap, .string path] w fun e w' => ∃ v ks, e = .returned v /\ AllY (xs.map Prod.fst) path ks /\ w'.ownsRow w.heap.size 62 4 v (ks.flatMap addsOf).length (lncells (ks.flatMap addsOf)) /\ w.grownBy w' none := by
 have h1 : 1 <= n := by omega
 have hro : Fence.wide.round = none := rfl
 obtain ⟨i0, hi', hz0, hz1, hz2⟩ := Yz infoLne
 have H := Za h
 have htop := h.top
 clear h
 refine callsIn_of_wp_marks Tryz.func35 rfl trivial ?_ hro
 simp only [Tryz.ntmps35, Xg, Zt, Xh, Nat.reduceAdd, Nat.reduceSub, Xl, Xk, Xn, Xm, Ys, Xd]
 gi_wp2_with (refine ⟨trivial, ?_⟩; gi_at_call 60; refine (hunks_in (n - 1) _ _ _ _ _).mono ?_; rintro e w9 ⟨rfl, rfl⟩)
 have b0 := Boxed.new w 32 (.slice none 0 0)
 have b1 := Boxed.new (w.alloc (.cells #[.slice none 0 0] 32)) 22 (.slice p len cap)
 have b2 := Boxed.new ((w.alloc (.cells #[.slice none 0 0] 32)).alloc (.cells #[.slice p len cap] 22)) 9 (.string path)
 rw [Yw] at b1
 rw [Yw, Yw] at b2
 have hB0 : Below w.heap.size w (((w.alloc (.cells #[.slice none 0 0] 32)).alloc (.cells #[.slice p len cap] 22)).alloc (.cells #[.string path] 9)) :=
  (((Below.refl _ w).alloc (Zc _) _).alloc (by simp) _).alloc (by simp; omega) _
 have HS0 : Hid ((((w.alloc (.cells #[.slice none 0 0] 32)).alloc (.cells #[.slice p len cap] 22)).alloc (.cells #[.string path] 9)).heap.size = w.heap.size + 3) := Za (by simp)
 have B0 := Za ((b0.alloc (.cells #[.slice p len cap] 22)).alloc (.cells #[.string path] 9))
 have B1 := Za (b1.alloc (.cells #[.string path] 9))
 have B2 := Za b2
 have HB0 := Za hB0
 have hsz1 : (w.alloc (.cells #[.slice none 0 0] 32)).heap.size = w.heap.size + 1 := by simp
 try rw [hsz1]
 clear b0 b1 b2 hB0 hsz1
 generalize ((w.alloc (.cells #[.slice none 0 0] 32)).alloc (.cells #[.slice p len cap] 22)).alloc (.cells #[.string path] 9) = W0 at *
 have hs0 := HS0.out
 refine rangeTurn (α := YS w lo hi (xs.map Prod.fst) path) (encs := fun y => encY y.1) 60 200 hro h1 (gf := 96) (lb := #[.pointer (some ⟨w.heap.size + 1, 0, none⟩), .pointer (some ⟨w.heap.size + 1 + 1, 0, none⟩)]) rfl trivial (enters_of Tryz.func96 (by kernel_rfl) rfl) (fun _ => rfl)
  (fun pre W => LnI w (w.heap.size + 1 + 1) path (lnY pre) W)
  (fun s A C row hs hg hr => hs.kept hg fun r e => ⟨by have := (hr r e).1; omega, (hr r e).2⟩)
  ⟨⟨_, B0.out, Yp _ _ _ _⟩, B2.out, HB0.out, by omega⟩
  (fun ys => AllY (xs.map Prod.fst) path (keyL ys))
  (KeepH w.heap.size W0.heap.size (w.heap.size + 1 + 1)) KeepH.trans (fun W o o' hw hc => keepH_b (by omega) W o o' (by omega) hw hc)
  (fun l R W hR hsz hBW hI0 hR0 hYY => (hunks1_in (n - 1) (by omega) l (w.heap.size + 1) (w.heap.size + 1 + 1) w.heap.size W0.heap.size lo hi p len cap xs path w W _ R
   (fun s A C row hs hg hr => hs.kept hg fun r e => ⟨by have := (hr r e).1; omega, (hr r e).2⟩) hR hsz hYY H.out htop (Zc _) (HB0.out.trans (hBW.mono (by omega))) ((hBW.cell (p := ⟨w.heap.size + 1, 0, none⟩) (by show w.heap.size + 1 < _; omega)).trans B1.out.cell) ((hBW.block _ (by omega)).trans B2.out) hI0 hR0))
  (fun y a' W => ∃ B6 B7, LnBox y.1.1.1 y.1.1.2 B6 W /\ HkBox y.1 B7 W /\ W0.heap.size <= B6 /\ W0.heap.size <= B7 /\ a' = { tmps := #[.slice p len cap, .string path, undef, undef, .slice none 0 0, .pointer (some ⟨w.heap.size, 0, none⟩), .pointer (some ⟨B6, 0, none⟩), .pointer (some ⟨B7, 0, none⟩), undef, undef, .slice p len cap, .string path, .func (.func 96) #[] #[.pointer (some ⟨w.heap.size + 1, 0, none⟩), .pointer (some ⟨w.heap.size + 1 + 1, 0, none⟩)], (encY y.1)[0]!, (encY y.1)[1]!, undef, undef, undef, undef, undef, undef, undef, undef, undef, undef, undef, undef, undef, undef, undef, undef, undef, undef, undef, undef, undef, undef], defers := [] })
  ?hAx ?assign ?body ?done
 case hAx =>
  rintro x a' _ A B row ⟨b6, b7, hb, hc, h2, h3, h4⟩ hg hrow
  have key : ∀ {b : Nat} {cur : Array Value} {t : TypeId}, A.heap[b]? = some (.cells cur t (0, 0)) -> B.heap[b]? = some (.cells cur t (0, 0)) := fun {b} {_} {_} hx => (hg.block b (Zp.1 hx).1 fun e => by
   obtain ⟨_, o, ho, hoc⟩ := hrow b e.symm
   rw [hx] at ho
   cases ho
   cases hoc).trans hx
  exact ⟨b6, b7, key hb, key hc, h2, h3, h4⟩
 case assign =>
  intro l pre y W K hI hK
  have HK := Za hK
  clear hK
  have hgs := hI.bl.size
  have hgw : W0.heap.size <= W.heap.size := by have := hI.sz; omega
  unfold encY
  gi_wp2
  have hg2 := Zb (Zd W (.cells #[.int .u32 ((y.1.1.1 : Nat) : Int), .int .i64 y.1.1.2] 60) none) (Zd _ (.cells #[.string (hPath y.1.2.1), .slice y.1.2.2.1.1 y.1.2.2.1.2.1 y.1.2.2.1.2.2, .slice y.1.2.2.2.1.1 y.1.2.2.2.1.2.1 y.1.2.2.2.1.2.2, .slice y.1.2.2.2.2.1 y.1.2.2.2.2.2.1 y.1.2.2.2.2.2.2] 68) none)
  have hx := Vc (W.alloc (.cells #[.int .u32 ((y.1.1.1 : Nat) : Int), .int .i64 y.1.1.2] 60)) (.cells #[.string (hPath y.1.2.1), .slice y.1.2.2.1.1 y.1.2.2.1.2.1 y.1.2.2.1.2.2, .slice y.1.2.2.2.1.1 y.1.2.2.2.1.2.1 y.1.2.2.2.1.2.2, .slice y.1.2.2.2.2.1 y.1.2.2.2.2.2.1 y.1.2.2.2.2.2.2] 68)
  rw [Yw] at hx
  refine HK.out _ _ (keepsFrom_calm hg2) (KeepH.calm hg2 hgs) (hI.kept hg2 (fun r e => by cases e)) ⟨W.heap.size, W.heap.size + 1, (heap_alloc_old _ _ (by simp)).trans (Vc W _), hx, hgw, by omega, rfl⟩
 case body =>
  rintro l pre y a' W hl hlr hI ⟨B6, B7, hb6, hb7, hg6, hg7, rfl⟩ hpn
  have hf := y.2.few H.out.few
  have hyl := hf.lo
  have hyh := hf.hi
  have hya := hf.adds
  have HAT := Za y.2.at_.adds
  have hnl := y.2.at_.adds.len
  have hna : y.1.2.2.1.2.1 <= 50 := by omega
  obtain ⟨f0, f1, f2, f3⟩ := hb7.cells
  have HLL : Hid (hPath y.1.2.1 = hPath y.1.2.1) := Za rfl
  have HSN : Hid (lnY (pre ++ [y]) = lnY pre ++ addsK (y.1.1, y.1.2.1) y.1.2.2.1.2.1) := Za (by rw [lnY_snoc]; unfold addsOf; rw [<- hnl])
  have H6 := Za hb6
  have H7 := Za hb7
  have HI := Za hI
  clear hf hnl hb6 hb7 hI
  gi_wp2
  gi_loopw [8, 9, 18] (fun x8 x9 i wr => ∃ k : Nat, k <= y.1.2.2.1.2.1 /\ i = .int .i64 k /\ Hid (LnI w (w.heap.size + 1 + 1) path (lnY pre ++ addsK (y.1.1, y.1.2.1) k) wr /\ KeepH w.heap.size W0.heap.size (w.heap.size + 1 + 1) W wr /\ KeepsFrom W0.heap.size W wr)) (fun _ _ i _ => y.1.2.2.1.2.1 - (intOf i).toNat)
  case atStart => exact ⟨0, Ze _, rfl, Za ⟨by simpa [addsK] using HI.out, KeepH.calm (Zi _ _) HI.out.bl.size, KeepsFrom.refl _ _⟩⟩
  case round =>
   obtain ⟨k, hk, rfl, HQ⟩ := hrel
   by_cases hkm : k < y.1.2.2.1.2.1
   ·obtain ⟨v, hv, hrow⟩ := HQ.out.1.row
    obtain ⟨b', off', e0, e1, e2, e3, e4⟩ := HAT.out.cell (by omega)
    have d0 := (HQ.out.1.bl.cell (p := ⟨b', off' + k, none⟩) (by show b' < _; omega)).trans (e4 k hkm)
    have h6 : LnBox y.1.1.1 y.1.1.2 B6 wr := HQ.out.2.1.ty _ _ _ hg6 (by decide) H6.out
    obtain ⟨l0, l1, _, _⟩ := h6.cells
    have hcv := hv.cell
    have hbs := HQ.out.1.bl.size
    have hwn : IntKind.i64.wrap (y.1.1.2 + (k : Int)) = y.1.1.2 + (k : Int) := Zf _ (by omega)
    have hL : (lnY pre ++ addsK (y.1.1, y.1.2.1) k).length <= 20000 := by
     rw [Zq, addsK_len]
     have := lnY_len (fun y => (y.2.few H.out.few).adds) pre
     omega
    have HAK : Hid (addsK (y.1.1, y.1.2.1) (k + 1) = addsK (y.1.1, y.1.2.1) k ++ [((y.1.1.1, y.1.1.2 + (k : Int)), (hAdds y.1.2.1)[k]?.getD .empty, false)]) := Za (addsK_succ _ _)
    rw [e0]
    clear e0 e4 h6
    have HL2 : Hid (∀ x : Lne, lncells ((lnY pre ++ addsK (y.1.1, y.1.2.1) k) ++ [x]) = lncells (lnY pre ++ addsK (y.1.1, y.1.2.1) k) ++ lnc x) := Za fun x => by rw [lncells_app]; simp [lncells]
    have HAP : Hid (lnY pre ++ addsK (y.1.1, y.1.2.1) (k + 1) = (lnY pre ++ addsK (y.1.1, y.1.2.1) k) ++ [((y.1.1.1, y.1.1.2 + (k : Int)), (hAdds y.1.2.1)[k]?.getD .empty, false)]) := Za (by rw [HAK.out, Xa])
    generalize hq : lnY pre ++ addsK (y.1.1, y.1.2.1) k = L at *
    clear hq HAK
    generalize (hAdds y.1.2.1)[k]?.getD .empty = tx at *
    gi_wp2_with (gi_at_builtin; refine wpListIn_append_own _ rfl _ _ 32 rfl w.heap.size 62 i0 (.agg #[.int .u32 0, .int .i64 0, .string .empty, .bool false]) 4 40 Tryz.underlying32 hi' hz0 hz1 hz2 rfl (by decide) _ _ _ rfl (hrow.alloc _) ⟨wr.heap.size, 0, none⟩ 1 1 (lnc ((y.1.1.1, y.1.1.2 + (k : Int)), tx, false)) rfl rfl (cell_new_row wr (lnc ((y.1.1.1, y.1.1.2 + (k : Int)), tx, false)) 62) (by simp [lnc, Value.oneCell']) (by unfold maxLen; omega) (by omega) (by simp; omega) ?_; intro v' w1 hown' hgrow _; obtain ⟨g', cap', rfl⟩ := ownsRow_succ hown'; obtain ⟨hv1, hv2, hr2, hk2, hb2⟩ := hv.appended (by decide) hrow hbs (by omega) hown' hgrow; have HKT := Za (fun t (h1 : t ≠ 32) (h2 : t ≠ 62) => KeepT.appended (t := t) (v' := .slice (some ⟨g', 0, none⟩) (L.length + 1) cap') hv hrow hgrow h1 h2); have hc1 := hv1.cell; have hf1 := hv1.frozen)
    have hbp2 := HKT.out 9 (by decide) (by decide) _ _ HQ.out.1.bp
    exact ⟨⟨k + 1, by omega, by go_num, Za ⟨⟨⟨_, hv2, by rw [HAP.out, HL2.out, Zq]; exact hr2⟩, hbp2, HQ.out.1.bl.trans hb2, Zn HQ.out.1.sz hk2.size⟩, HQ.out.2.1.trans ⟨hb2, fun g cur t _ ht hg => HKT.out t (by rintro rfl; exact absurd ht (by decide)) (by rintro rfl; exact absurd ht (by decide)) g cur hg, fun o ho => by rw [show wr.heap[_]? = _ from HQ.out.1.bp] at ho; cases ho; exact hbp2, hk2.from _⟩, HQ.out.2.2.trans (hk2.from _)⟩⟩, by simp [intOf]; omega⟩
   ·obtain rfl : k = y.1.2.2.1.2.1 := by omega
    gi_wp2
    exact ⟨by have h9 := HQ.out.2.2; rwa [hs0] at h9, by rw [HSN.out]; exact HQ.out.1, by have h9 := HQ.out.2.1; rwa [hs0] at h9⟩
 case done =>
  rintro D ys W hD hs hI hK
  obtain ⟨v, hv, hrow⟩ := hI.row
  have hc := hv.cell
  have hbl := hI.bl
  gi_wp2
  refine ⟨by simp, .inl ⟨_, _, rfl, run_takeDeferred hK, ?_⟩⟩
  exact ⟨_, results_tmp rfl _ _ _, _, _, rfl, hs, ownsRow_putObj hrow _ hK rfl, Xp (hbl.trans (belowK_b (w := w) (Zc _) W D _ _ (by omega) hK rfl rfl))⟩
end Go.Proofs.YtnknejokneddbaaGreatDoor
