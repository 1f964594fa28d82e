/- Package state: places, a map from lines' numbers to where they are. -/
import Derived.DeepKeys4
import Derived.Maps.Own
import Derived.Test.YtnknejokneddbaaGreatDoorStaL
namespace Go.Proofs.YtnknejokneddbaaGreatDoor
set_option maxRecDepth 100000
set_option maxHeartbeats 4000000
open Go.RowKit Go.Maps
theorem laidOut13 : laidOutB Tryz.prog = true := by kernel_rfl
theorem rowLnB : Nat.blt 60 Tryz.prog.types.size = true := by kernel_rfl
theorem blt_lt {P : Program} {t : Nat} (h : Nat.blt t P.types.size = true) : t < P.types.size := Nat.blt_eq ▸ h
theorem rowLn : (60 : TypeId) < Tryz.prog.types.size := blt_lt rowLnB
theorem law_of {P : Program} {k : TypeId} {fs : Array Field} (hl : laidOutB P = true) (hrow : k < P.types.size) (hk : P.keyTypeAt 2 k = true) (hu : P.underlying k = some (.struct fs)) : Keyed P k := Keyed.of_law (deep_law_laid hl (m := 2) (by omega) hrow hk (by rw [hu]))
theorem keyLn2 : Tryz.prog.keyTypeAt 2 60 = true := by kernel_rfl
theorem lawLn : Keyed Tryz.prog 60 := law_of laidOut13 rowLn keyLn2 Tryz.underlying60
def lnV (x : Ln) : Value := .agg #[.int .u32 ((x.1 : Nat) : Int), .int .i64 x.2]
structure OkK (x : Ln) : Prop where
 p : x.1 < 4294967296
 lo : -9223372036854775808 <= x.2
 hi : x.2 <= 9223372036854775807
theorem lnV_inj {x y : Ln} (h : lnV x = lnV y) : x = y := by
 unfold lnV at h
 simp only [Value.agg.injEq, Array.mk.injEq, List.cons.injEq, Value.int.injEq, true_and, and_true] at h
 exact Prod.ext (by have := h.1; omega) h.2
theorem keyTy : Tryz.prog.keyType 60 = true := by kernel_rfl
theorem cellsLn : Tryz.prog.cellsOf 60 = 2 := by kernel_rfl
theorem cellsU : Tryz.prog.cellsOf 52 = 1 := by kernel_rfl
theorem cellsI : Tryz.prog.cellsOf 3 = 1 := by kernel_rfl
theorem key_of {x : Ln} (h : OkK x) : ∃ l, keyOf Tryz.prog 60 (lnV x) = some l := by
 have hw1 : (Lit.int .u32 ((x.1 : Nat) : Int)).wf = true := by
  have := h.p
  simp [Lit.wf, IntKind.min, IntKind.max, IntKind.bits, IntKind.signed]
  omega
 have hw2 : (Lit.int .i64 x.2).wf = true := by
  have := h.lo
  have := h.hi
  simp [Lit.wf, IntKind.min, IntKind.max, IntKind.bits, IntKind.signed]
  omega
 have hsz : ∃ m, Tryz.prog.types.size = m + 1 := by
  have hr := rowLn
  generalize Tryz.prog.types.size = z at *
  cases z with
  | zero => exact absurd hr (Zy _)
  | succ m => exact ⟨m, rfl⟩
 obtain ⟨m, hm⟩ := hsz
 have hl : Tryz.prog.keyLits (Tryz.prog.types.size + 1) 60 [.int .u32 ((x.1 : Nat) : Int), .int .i64 x.2] = some [.int .u32 ((x.1 : Nat) : Int), .int .i64 x.2] := by
  rw [hm]
  simp [Program.keyLits, Tryz.underlying60, Tryz.underlying52, Tryz.underlying3, cellsLn, cellsU, cellsI, hw1, hw2]
 refine ⟨.string (keyBytes [.int .u32 ((x.1 : Nat) : Int), .int .i64 x.2]), ?_⟩
 unfold keyOf lnV
 rw [Tryz.underlying60]
 simp only [keyTy, Bool.true_and]
 have hf : (Value.agg #[.int .u32 ((x.1 : Nat) : Int), .int .i64 x.2]).formed Tryz.prog 60 = true := by simp [Value.formed, Tryz.underlying60, cellsLn]
 rw [if_pos hf]
 simp only [Value.cells, hl, Option.map_some]
structure PlM (W : World) (b : Nat) (ls : List Lne) : Prop where
 ex : ∃ es clock, W.heap[b]? = some (.map es clock) /\ (∀ e ∈ es.toList, ∃ x i, OkK x /\ e.key = lnV x /\ e.val = .int .i64 ((i : Nat) : Int) /\ atL ls x = some i) /\ ∀ x i, atL ls x = some i -> ∃ e ∈ es.toList, e.key = lnV x
theorem PlM.lt {W : World} {b : Nat} {ls : List Lne} (h : PlM W b ls) : b < W.heap.size := by
 obtain ⟨es, c, hb, _⟩ := h.ex
 exact (Zp.1 hb).1
theorem PlM.keep {W W' : World} {b : Nat} {ls : List Lne} (h : PlM W b ls) (hb : ∀ o, W.heap[b]? = some o -> o.isCells = false -> W'.heap[b]? = some o) : PlM W' b ls := by
 obtain ⟨es, c, h1, h2, h3⟩ := h.ex
 exact ⟨es, c, hb _ h1 rfl, h2, h3⟩
theorem plM_new (W : World) : PlM (W.alloc (.map #[] 0)) W.heap.size [] := ⟨#[], 0, Vc W _, (fun e he => by simp at he), (fun x i h => by simp [atL] at h)⟩
theorem PlM.look {W : World} {b : Nat} {ls : List Lne} (h : PlM W b ls) {x : Ln} (hx : OkK x) (k : Option Nat) (hk : atL ls x = k) :
  (Instr.lookup 90 (.map (some b)) (.agg #[.int .u32 ((x.1 : Nat) : Int), .int .i64 x.2]) true).run Tryz.prog W = .ok (.tuple #[.int .i64 (((k.getD 0 : Nat)) : Int), .bool k.isSome]) W := by
 subst hk
 obtain ⟨es, c, hb, h1, h2⟩ := h.ex
 obtain ⟨l, hl⟩ := key_of hx
 have hch := lawLn.check W es.isEmpty hl
 have hfind := lawLn.find W hl es.toList (fun e he => by
  obtain ⟨y, i, hy, e1, _⟩ := h1 e he
  obtain ⟨l', hl'⟩ := key_of hy
  exact ⟨l', by rw [e1]; exact hl'⟩)
 unfold lnV at hch hfind
 rcases hfind with ⟨hr, hn⟩ | ⟨j, e, hr, hj, he⟩
 ·have hnone : atL ls x = none := by
   cases ha : atL ls x with
   | none => rfl
   | some i =>
    obtain ⟨e, he, ek⟩ := h2 x i ha
    exact absurd ek (hn e he)
  rw [hnone]
  simp [Instr.lookup, run_underlying Tryz.underlying90, MapKept.run_getObj_map hb, hch, hr, Result.andThen]
 ·have hmem : e ∈ es.toList := List.mem_of_getElem? hj
  obtain ⟨y, i, hy, e1, e2, e3⟩ := h1 e hmem
  have exy : y = x := lnV_inj (by rw [<- e1]; exact he)
  subst exy
  rw [e3]
  rw [e2] at hr
  simp [Instr.lookup, run_underlying Tryz.underlying90, MapKept.run_getObj_map hb, hch, hr, Result.andThen]
theorem PlM.put {W : World} {b : Nat} {ls : List Lne} (h : PlM W b ls) {y : Lne} (hx : OkK (nID y)) (hk : atL ls (nID y) = none) :
  ∃ W', (Instr.mapUpdate 90 (.map (some b)) (.agg #[.int .u32 (((nID y).1 : Nat) : Int), .int .i64 (nID y).2]) (.int .i64 ((ls.length : Nat) : Int))).run Tryz.prog W = .ok () W' /\ PlM W' b (ls ++ [y]) /\ W.grownBy W' (some b) := by
 obtain ⟨es, c, hb, h1, h2⟩ := h.ex
 obtain ⟨l, hl⟩ := key_of hx
 have hch := lawLn.check W false hl
 have hfind := lawLn.find W hl es.toList (fun e he => by
  obtain ⟨y, i, hy, e1, _⟩ := h1 e he
  obtain ⟨l', hl'⟩ := key_of hy
  exact ⟨l', by rw [e1]; exact hl'⟩)
 have hsnoc : ∀ z, atL (ls ++ [y]) z = (match atL ls z with | some i => some i | none => if nID y = z then some ls.length else none) := fun z => by
  unfold atL
  rw [List.findIdx?_append]
  cases ha : List.findIdx? (fun y => decide (nID y = z)) ls with
  | some i => simp
  | none =>
   by_cases e : nID y = z
   ·simp [e]
   ·simp [e]
 rcases hfind with ⟨hr, hn⟩ | ⟨j, e, hr, hj, he⟩
 ·unfold lnV at hch hr
  refine ⟨_, by simp [Instr.mapUpdate, run_underlying Tryz.underlying90, MapKept.run_getObj_map hb, hch, hr, MapKept.run_setObj_map _ hb, Result.andThen]; rfl, ⟨_, _, (by exact World.putObj_heap_same (Zp.1 hb).1), fun e he => ?_, fun z i hz => ?_⟩, grownBy_putObj' W b _⟩
  ·rw [Array.toList_push, Va, Yu] at he
   rcases he with he | rfl
   ·obtain ⟨z, i, hz, e1, e2, e3⟩ := h1 e he
    exact ⟨z, i, hz, e1, e2, by rw [hsnoc, e3]⟩
   ·exact ⟨nID y, ls.length, hx, rfl, rfl, by rw [hsnoc, hk]; simp⟩
  ·rw [hsnoc] at hz
   cases ha : atL ls z with
   | some i' =>
    obtain ⟨e, he, ek⟩ := h2 z i' ha
    exact ⟨e, by rw [Array.toList_push]; exact Va.2 (.inl he), ek⟩
   | none =>
    rw [ha] at hz
    by_cases e : nID y = z
    ·exact ⟨_, by rw [Array.toList_push]; exact Va.2 (.inr (Yu.2 rfl)), by rw [<- e]; rfl⟩
    ·simp [e] at hz
 ·obtain ⟨z, i, hz, e1, e2, e3⟩ := h1 e (List.mem_of_getElem? hj)
  have : z = nID y := lnV_inj (by rw [<- e1]; exact he)
  rw [this, hk] at e3
  cases e3
theorem PlM.calm {W W' : World} {b : Nat} {ls : List Lne} (h : PlM W b ls) (hg : W.grownBy W' none) : PlM W' b ls := h.keep fun o ho _ => (hg.block _ (Zp.1 ho).1 (by simp)).trans ho
theorem PlM.same {W : World} {b : Nat} {ls : List Lne} (h : PlM W b ls) {y : Lne} {i : Nat} (hk : atL ls (nID y) = some i) : PlM W b (ls ++ [y]) := by
 obtain ⟨es, c, hb, h1, h2⟩ := h.ex
 have hsnoc : ∀ z j, atL ls z = some j -> atL (ls ++ [y]) z = some j := fun z j hz => by
  unfold atL at *
  rw [List.findIdx?_append, hz]
  rfl
 refine ⟨es, c, hb, fun e he => ?_, fun z j hz => ?_⟩
 ·obtain ⟨z, j, hz, e1, e2, e3⟩ := h1 e he
  exact ⟨z, j, hz, e1, e2, hsnoc z j e3⟩
 ·cases ha : atL ls z with
  | some j' => exact h2 z j' ha
  | none =>
   exfalso
   have hne : nID y ≠ z := fun e => by rw [e, ha] at hk; cases hk
   unfold atL at hz ha
   rw [List.findIdx?_append, ha] at hz
   simp [hne] at hz
theorem plcM_c (p : Option Addr) (n c lo hi : Nat) (ls : List Lne) (w : World) (h : LnesAt w lo hi p n ls) (hn : n <= 100000) (hk : ∀ x ∈ ls, OkK (nID x)) :
  Calls Tryz.prog 49 #[.slice p n c] w fun e w' => ∃ b, e = .returned (.map (some b)) /\ w.heap.size <= b /\ PlM w' b ls /\ w.grownBy w' none := by
 have H := Za h
 have HL := Za h.len
 have HK := Za hk
 have hmm := @run_makeMap Tryz.prog
 have HP0 := Za (plM_new w)
 have HG0 := Za (Zd w (.map #[] 0) none)
 clear h hk
 go_enter Tryz.func49, Tryz.ntmps49
 go_upto_region 2 with fail
 generalize w.alloc (.map #[] 0) = w1 at *
 generalize hb0 : w.heap.size = b0 at *
 have HB0 : Hid (w.heap.size <= b0) := Za (Nat.le_of_eq hb0)
 clear hb0 hmm
 go_wp2
 go_loopw [4, 5, 6, 7, 11] (fun x4 x5 x6 x7 i wr => ∃ k : Nat, k <= n /\ i = .int .i64 k /\ Hid (PlM wr b0 (ls.take k) /\ w.grownBy wr none)) (fun _ _ _ _ i _ => n - (intOf i).toNat)
 case atStart => exact ⟨0, Ze _, rfl, Za ⟨by simpa using HP0.out, HG0.out⟩⟩
 case round =>
  obtain ⟨k, hk, rfl, HQ⟩ := hrel
  by_cases hkn : k < n
  ·have k0 : (0 : Int) <= k := by omega
   have k1 : (k : Int) < n := by omega
   obtain ⟨b, o, rfl, _, _, _, hc⟩ := (H.out.calm HQ.out.2).cell (by omega)
   obtain ⟨c0, c1, c2, c3⟩ := hc k hkn
   have hkl : k < ls.length := by rw [HL.out]; exact hkn
   have HTK : Hid (ls.take (k + 1) = ls.take k ++ [ls[k]?.getD lne0]) := Za (by rw [Xi hkl, Zm hkl]; rfl)
   have HTL : Hid ((ls.take k).length = k) := Za (by rw [Yo]; omega)
   have HOK := Za (HK.out _ (Zr (d := lne0) hkl))
   clear hc
   generalize ls[k]?.getD lne0 = y at *
   have hga := Zd wr (.cells #[.int .u32 (((nID y).1 : Nat) : Int), .int .i64 (nID y).2, .string (nTxt y), .bool (nDead y)] 62) none
   have hp1 := HQ.out.1.calm hga
   have hg1 := Zb HQ.out.2 hga
   have hlook := hp1.look HOK.out (atL (ls.take k) (nID y)) rfl
   have bx := Vc wr (.cells #[.int .u32 (((nID y).1 : Nat) : Int), .int .i64 (nID y).2, .string (nTxt y), .bool (nDead y)] 62)
   have HBX : Hid (BoxV (wr.alloc (.cells #[.int .u32 (((nID y).1 : Nat) : Int), .int .i64 (nID y).2, .string (nTxt y), .bool (nDead y)] 62)) wr.heap.size [.int .u32 (((nID y).1 : Nat) : Int), .int .i64 (nID y).2, .string (nTxt y), .bool (nDead y)] 62) := Za bx
   obtain ⟨e0, e1, e2, e3⟩ := HBX.out.four
   have HG1 := Za hg1
   have HP1 := Za hp1
   clear bx hg1 hp1 hga
   cases hat : atL (ls.take k) (nID y) with
   | some i =>
    rw [hat] at hlook
    simp only [Option.getD_some, Option.isSome_some] at hlook
    have HSM := Za (HP1.out.same hat)
    clear hat
    go_wp2
    exact ⟨⟨k + 1, by omega, by go_num, Za ⟨by rw [HTK.out]; exact HSM.out, HG1.out⟩⟩, by simp [intOf]; omega⟩
   | none =>
    rw [hat] at hlook
    simp only [Option.getD_none, Option.isSome_none] at hlook
    obtain ⟨w3, hrun, hp3, hg3⟩ := HP1.out.put HOK.out hat
    rw [HTL.out] at hrun
    have HP3 := Za hp3
    have HG3 := Za (Yx HG1.out hg3 HB0.out)
    clear hat hp3 hg3
    go_wp2
    exact ⟨⟨k + 1, by omega, by go_num, Za ⟨by rw [HTK.out]; exact HP3.out, HG3.out⟩⟩, by simp [intOf]; omega⟩
  ·obtain rfl : k = n := by omega
   have k1 : ¬ ((k : Int) < k) := by omega
   have HE : Hid (ls.take k = ls) := Za (Yl (by rw [HL.out]; exact Zc _))
   go_wp2
   go_ret
   exact ⟨_, rfl, HB0.out, by rw [<- HE.out]; exact HQ.out.1, HQ.out.2⟩
open Go.RowKit
def relE (ls : List Lne) (es : List Ed) (a b : Nat) : Bool := es.any fun e => decide (atL ls e.1 = some a) && decide (atL ls e.2 = some b)
def killK (ks : List Ln) (x : Ln) : Bool := ks.any fun k => decide (k = x)
def markK (ls : List Lne) (ks : List Ln) : List Lne := ls.map fun x => (nID x, nTxt x, nDead x || killK ks (nID x))
theorem relS_eq (ls : List Lne) (ys : List (Ln × Hk)) : relS ls ys = relE ls (ys.flatMap fun y => hEdges y.2) := by
 funext a b
 unfold relS relE
 rw [List.any_flatMap]
theorem deadL_eq (ys : List (Ln × Hk)) : deadL ys = killK (ys.flatMap fun y => hKills y.2) := by
 funext x
 unfold deadL killK
 rw [List.any_flatMap]
theorem markL_eq (ls : List Lne) (ys : List (Ln × Hk)) : markL ls ys = markK ls (ys.flatMap fun y => hKills y.2) := by
 unfold markL markK
 rw [deadL_eq]
theorem markK_len (ls : List Lne) (ks : List Ln) : (markK ls ks).length = ls.length := Yn _
theorem atL_lt {ls : List Lne} {x : Ln} {i : Nat} (h : atL ls x = some i) : i < ls.length := by
 unfold atL at h
 exact (List.findIdx?_eq_some_iff_getElem.1 h).1
theorem atL_id {ls : List Lne} {x : Ln} {i : Nat} (h : atL ls x = some i) : nID (ls[i]?.getD lne0) = x := by
 unfold atL at h
 obtain ⟨h1, h2, _⟩ := List.findIdx?_eq_some_iff_getElem.1 h
 rw [Zm h1]
 simpa using h2
theorem relE_yes {ls : List Lne} {es : List Ed} {e : Ed} {i j : Nat} (h1 : atL ls e.1 = some i) (h2 : atL ls e.2 = some j) : addI ls.length (relE ls es) ((i : Int), (j : Int)) = relE ls (es ++ [e]) := by
 have hi := atL_lt h1
 have hj := atL_lt h2
 rw [addI_yes (by unfold inI; omega)]
 funext a b
 unfold relE addR
 rw [List.any_append, List.any_cons, List.any_nil, Bool.or_false, h1, h2]
 simp only [Int.toNat_natCast, Option.some.injEq]
 congr 1
 rw [Bool.eq_iff_iff]
 simp only [Yv, Yb]
 constructor <;> rintro ⟨rfl, rfl⟩ <;> exact ⟨rfl, rfl⟩
theorem relE_no {ls : List Lne} {es : List Ed} {e : Ed} (h : atL ls e.1 = none ∨ atL ls e.2 = none) : relE ls (es ++ [e]) = relE ls es := by
 funext a b
 unfold relE
 rw [List.any_append, List.any_cons, List.any_nil, Bool.or_false]
 rcases h with h | h <;> simp [h]
theorem markK_no {ls : List Lne} {ks : List Ln} {k : Ln} (h : atL ls k = none) : markK ls (ks ++ [k]) = markK ls ks := by
 unfold markK
 refine List.map_congr_left fun x hx => ?_
 have hne : k ≠ nID x := fun e => by
  unfold atL at h
  rw [List.findIdx?_eq_none_iff] at h
  have := h x hx
  simp [e] at this
 unfold killK
 rw [List.any_append, List.any_cons, List.any_nil]
 simp [hne]
theorem markK_at (ls : List Lne) (ks : List Ln) {j : Nat} (h : j < (markK ls ks).length) (hj : j < ls.length) : (markK ls ks)[j] = (nID ls[j], nTxt ls[j], nDead ls[j] || ks.any fun k => decide (k = nID ls[j])) := List.getElem_map (fun x => ((nID x, nTxt x, nDead x || killK ks (nID x)) : Lne))
theorem markK_yes {ls : List Lne} (hs : stL ls) {ks : List Ln} {k : Ln} {i : Nat} (h : atL ls k = some i) : markK ls (ks ++ [k]) = (markK ls ks).set i (nID (ls[i]?.getD lne0), nTxt (ls[i]?.getD lne0), true) := by
 have hi := atL_lt h
 have hid := atL_id h
 apply List.ext_getElem
 ·rw [List.length_set, markK_len, markK_len]
 ·intro j h1 h2
  have h3 : j < ls.length := by rw [markK_len] at h1; exact h1
  have h4 : j < (markK ls ks).length := by rw [markK_len]; exact h3
  rw [List.getElem_set, markK_at ls _ h1 h3, markK_at ls _ h4 h3]
  by_cases e : i = j
  ·subst e
   rw [if_pos rfl]
   rw [Zm hi] at hid ⊢
   have hid' : nID ls[i] = k := hid
   rw [List.any_append, List.any_cons]
   simp [hid']
  ·rw [if_neg e]
   have hne : k ≠ nID ls[j] := fun e2 => by
    rw [Zm hi] at hid
    have hid' : nID ls[i] = k := hid
    have hp := Vl.1 hs
    rcases Nat.lt_or_gt_of_ne e with h5 | h5
    ·have := hp i j hi h3 h5
     rw [hid', e2, linLn.irr] at this
     cases this
    ·have := hp j i h3 hi h5
     rw [hid', e2, linLn.irr] at this
     cases this
   rw [List.any_append, List.any_cons]
   simp [hne]
theorem lnc_len (x : Lne) : (lnc x).length = 4 := rfl
theorem lncells_set : ∀ {l : List Lne} {i : Nat} (y : Lne), i < l.length -> nID y = nID (l[i]?.getD lne0) -> nTxt y = nTxt (l[i]?.getD lne0) -> lncells (l.set i y) = (lncells l).set (i * 4 + 3) (.bool (nDead y))
 | [], i, y, h, _, _ => by simp at h
 | x :: l, 0, y, _, h1, h2 => by
  have h1' : nID y = nID x := h1
  have h2' : nTxt y = nTxt x := h2
  show lnc y ++ lncells l = (lnc x ++ lncells l).set 3 _
  rw [List.set_append, if_pos (by rw [lnc_len]; omega)]
  congr 1
  simp only [lnc, h1', h2', Yg, Yf]
 | x :: l, i + 1, y, h, h1, h2 => by
  have ih := lncells_set (l := l) (i := i) y (by simpa using h) h1 h2
  show lnc x ++ lncells (l.set i y) = (lnc x ++ lncells l).set _ _
  rw [ih, List.set_append, if_neg (by rw [lnc_len]; omega), lnc_len, show (i + 1) * 4 + 3 - 4 = i * 4 + 3 by omega]
theorem ownsRow_at4 {w : World} {base g n cap k size : Nat} {e : TypeId} {xs : List Value} (h : w.ownsRow base e size (.slice (some ⟨g, 0, none⟩) n cap) n xs) (hk : k < n * size) (v : Value) :
  (w.setCell ⟨g, k, none⟩ v).ownsRow base e size (.slice (some ⟨g, 0, none⟩) n cap) n (xs.set k v) := by
 refine ⟨by rw [List.length_set]; exact h.1, ?_⟩
 rcases h.2 with ⟨e1, _⟩ | ⟨g', cap', cur, e1, hb, hg, hle, h2, h3, h4⟩
 ·cases e1
 ·cases e1
  have hcs : k < cur.size := by
   have h5 := congrArg List.length h4
   rw [Yo, h.1] at h5
   have : cur.toList.length = cur.size := by simp
   omega
  refine .inr ⟨g, cap, cur.setIfInBounds k v, rfl, hb, ?_, hle, h2, by rw [Array.size_setIfInBounds]; exact h3, ?_⟩
  ·have := BoxV.set (vs := cur.toList) (w := w) (g := g) (t := e) (by unfold BoxV; rw [Array.toArray_toList]; exact hg) k v
   unfold BoxV at this
   rw [this]
   congr 2
   apply Array.toList_inj.1
   simp
  ·rw [<- h4, Array.toList_setIfInBounds, List.take_set]
end Go.Proofs.YtnknejokneddbaaGreatDoor
