/- Rows of patches, each with what lies behind it; Go's slices.SortFunc over them. -/
import Derived.Test.YtnknejokneddbaaGreatDoorAl
import Derived.Test.YtnknejokneddbaaGreatDoorStaM
import Derived.Test.YtnknejokneddbaaGreatDoorPua
import Derived.Test.YtnknejokneddbaaGreatDoorShelh
import Derived.Test.YtnknejokneddbaaGreatDoorRela
import Derived.Test.YtnknejokneddbaaGreatDoorRefPa
import Derived.Test.YtnknejokneddbaaGreatDoorShelg
namespace Go.Proofs.YtnknejokneddbaaGreatDoor
set_option maxHeartbeats 4000000
set_option maxRecDepth 100000
open Go.RowKit Go.Shelf Go.Lib Go.Sort
abbrev Sl3 := Option Addr × Nat × Nat
abbrev HP := Pt × Sl3 × Sl3 × Sl3 × Sl3
def slV (s : Sl3) : Value := .slice s.1 s.2.1 s.2.2
def encP (x : HP) : List Value := [.int .u32 ((pID x.1 : Nat) : Int), slV x.2.1, slV x.2.2.1, slV x.2.2.2.1, slV x.2.2.2.2]
def hp0 : HP := (pt0, (none, 0, 0), (none, 0, 0), (none, 0, 0), (none, 0, 0))
def HpAt (w : World) (lo hi : Nat) (x : HP) : Prop := PtAt w lo hi (pID x.1) x.2.1.1 x.2.1.2.1 x.2.1.2.2 x.2.2.1.1 x.2.2.1.2.1 x.2.2.1.2.2 x.2.2.2.1.1 x.2.2.2.1.2.1 x.2.2.2.1.2.2 x.2.2.2.2.1 x.2.2.2.2.2.1 x.2.2.2.2.2.2 x.1
structure HpsAt (w : World) (lo hi : Nat) (p : Option Addr) (n : Nat) (xs : List HP) : Prop where
 len : xs.length = n
 cell : 0 < n -> ∃ b off, p = some ⟨b, off, none⟩ /\ lo <= b /\ b < hi /\ hi <= w.heap.size /\ ∀ i, i < n ->
  w.cell? ⟨b, off + i * 5, none⟩ = some (.int .u32 ((pID (xs[i]?.getD hp0).1 : Nat) : Int)) /\ w.cell? ⟨b, off + i * 5 + 1, none⟩ = some (slV (xs[i]?.getD hp0).2.1) /\ w.cell? ⟨b, off + i * 5 + 2, none⟩ = some (slV (xs[i]?.getD hp0).2.2.1) /\
  w.cell? ⟨b, off + i * 5 + 3, none⟩ = some (slV (xs[i]?.getD hp0).2.2.2.1) /\ w.cell? ⟨b, off + i * 5 + 4, none⟩ = some (slV (xs[i]?.getD hp0).2.2.2.2)
theorem PtsAt.hps {w : World} {lo hi : Nat} {p : Option Addr} {n : Nat} {l : List Pt} (h : PtsAt w lo hi p n l) : ∃ xs : List HP, xs.map Prod.fst = l /\ HpsAt w lo hi p n xs /\ ∀ x ∈ xs, HpAt w lo hi x := by
 rcases Nat.eq_zero_or_pos n with e | e
 ·have := h.len
  rw [e] at this
  rw [Xu this]
  exact ⟨[], rfl, ⟨e.symm, fun h => absurd h (by omega)⟩, fun x hx => by cases hx⟩
 ·obtain ⟨b, off, ep, h1, h2, h3, hc⟩ := h.cell e
  have hex : ∀ i : Nat, ∃ y : Sl3 × Sl3 × Sl3 × Sl3, i < n -> HpAt w lo hi (l[i]?.getD pt0, y) /\
    w.cell? ⟨b, off + i * 5, none⟩ = some (.int .u32 ((pID (l[i]?.getD pt0) : Nat) : Int)) /\ w.cell? ⟨b, off + i * 5 + 1, none⟩ = some (slV y.1) /\ w.cell? ⟨b, off + i * 5 + 2, none⟩ = some (slV y.2.1) /\
    w.cell? ⟨b, off + i * 5 + 3, none⟩ = some (slV y.2.2.1) /\ w.cell? ⟨b, off + i * 5 + 4, none⟩ = some (slV y.2.2.2) := by
   intro i
   by_cases hi : i < n
   ·obtain ⟨pd, nd, cd, pm, nm, cm, px, nx, cx, ph, nh, ch, c0, c1, c2, c3, c4, hh⟩ := hc i hi
    exact ⟨((pd, nd, cd), (pm, nm, cm), (px, nx, cx), (ph, nh, ch)), fun _ => ⟨hh, c0, c1, c2, c3, c4⟩⟩
   ·exact ⟨hp0.2, fun h => absurd h hi⟩
  obtain ⟨f, hf⟩ := Classical.axiomOfChoice hex
  have hget : ∀ i, i < n -> (((List.range n).map fun i => ((l[i]?.getD pt0, f i) : HP))[i]?.getD hp0) = (l[i]?.getD pt0, f i) := by
   intro i hi
   rw [Xr, List.getElem?_range hi]
   rfl
  refine ⟨(List.range n).map fun i => (l[i]?.getD pt0, f i), ?_, ⟨by simp, fun _ => ⟨b, off, ep, h1, h2, h3, fun i hi => ?_⟩⟩, fun x hx => ?_⟩
  ·rw [List.map_map]
   apply List.ext_getElem
   ·simp [h.len]
   ·intro i hi1 hi2
    rw [List.getElem_map, List.getElem_range]
    show l[i]?.getD pt0 = _
    rw [Zm hi2]
    rfl
  ·rw [hget i hi]
   exact (hf i hi).2
  ·obtain ⟨i, hi, rfl⟩ := Yi.1 hx
   exact (hf i (List.mem_range.1 hi)).1
theorem HpsAt.calm {w w' : World} {lo hi : Nat} {p : Option Addr} {n : Nat} {xs : List HP} (h : HpsAt w lo hi p n xs) (hg : w.grownBy w' none) : HpsAt w' lo hi p n xs :=
 ⟨h.len, fun hn => by
  obtain ⟨b, off, e, h1, h2, h3, hc⟩ := h.cell hn
  refine ⟨b, off, e, h1, h2, Zn h3 hg.size, fun i hi => ?_⟩
  obtain ⟨c0, c1, c2, c3, c4⟩ := hc i hi
  exact ⟨Xb hg c0 (by omega), Xb hg c1 (by omega), Xb hg c2 (by omega), Xb hg c3 (by omega), Xb hg c4 (by omega)⟩⟩
theorem HpAt.calm {w w' : World} {lo hi : Nat} {x : HP} (h : HpAt w lo hi x) (hg : w.grownBy w' none) : HpAt w' lo hi x := PtAt.calm h hg
def hpcells (l : List HP) : List Value := l.flatMap encP
theorem encP_len (x : HP) : (encP x).length = 5 := rfl
theorem encP_one (x : HP) : ∀ v ∈ encP x, v.oneCell' = true := by
 intro v hv
 simp only [encP, List.mem_cons, List.not_mem_nil, or_false] at hv
 rcases hv with rfl | rfl | rfl | rfl | rfl <;> rfl
theorem hpcells_snoc (l : List HP) (x : HP) : hpcells (l ++ [x]) = hpcells l ++ encP x := by simp [hpcells]
theorem hpcells_len (l : List HP) : (hpcells l).length = l.length * 5 := by
 induction l with
 | nil => rfl
 | cons x l ih => show (encP x ++ hpcells l).length = _; rw [Zq, ih, encP_len, Zt]; omega
def cfP (x y : HP) : Int := cmpV ltN (pID x.1) (pID y.1)
theorem ltHP (x y : HP) : ltOf cfP x y = decide (pID x.1 < pID y.1) := by
 unfold ltOf cfP
 by_cases h1 : pID x.1 < pID y.1
 ·rw [cmpV_lt (by simpa [ltN] using h1)]
  simp [h1]
 ·by_cases h2 : pID y.1 < pID x.1
  ·rw [cmpV_gt linN (by simpa [ltN] using h2)]
   simp [h1]
  ·have e : pID x.1 = pID y.1 := by omega
   rw [e]
   unfold cmpV
   rw [if_neg (by rw [linN.irr]; decide), if_neg (by rw [linN.irr]; decide)]
   simp
theorem swoHP : SWO (ltOf cfP) where
 irrefl x := by rw [ltHP]; simp
 trans x y z h1 h2 := by rw [ltHP] at *; simp at *; omega
 ntrans x y z h1 h2 := by rw [ltHP] at *; simp at *; omega
instance : Inhabited HP := ⟨hp0⟩
theorem cmpNum_c (x y : HP) (W : World) : Calls Tryz.prog 78 #[.agg (encP x).toArray, .agg (encP y).toArray] W fun e w' => e = .returned (.int .i64 (cfP x y)) /\ ∃ q os', w' = grow (W.drewN q) os' := by
 have hcon := fun W' => cmpU_c (pID x.1) (pID y.1) W'
 unfold cfP
 generalize cmpV ltN (pID x.1) (pID y.1) = r at hcon ⊢
 unfold encP
 unfold slV
 go_enter Tryz.func78, Tryz.ntmps78
 go_wp2_with (go_at_call 113; refine (hcon _).mono ?_; rintro e w' ⟨rfl, h9⟩; subst w')
 go_ret
 exact ⟨rfl, 0, _, by rw [alloc_eq_grow, alloc_eq_grow, grow_grow]; rfl⟩
theorem cmpLaysP (blk off size : Nat) (w : World) : CmpLays Tryz.prog 78 #[] encP 5 cfP blk off size w := fun _ _ _ _ x y => cmpNum_c x y _
theorem hpcells_get : ∀ {l : List HP} {i r : Nat}, i < l.length -> r < 5 -> (hpcells l)[i * 5 + r]? = (encP (l[i]?.getD hp0))[r]?
 | [], i, r, h, _ => by simp at h
 | x :: l, 0, r, _, hr => by
  show (encP x ++ hpcells l)[_]? = _
  rw [Nat.zero_mul, Yj, List.getElem?_append_left (by rw [encP_len]; exact hr)]
  rfl
 | x :: l, i + 1, r, h, hr => by
  have ih := hpcells_get (l := l) (i := i) (r := r) (by simpa using h) hr
  show (encP x ++ hpcells l)[_]? = _
  rw [List.getElem?_append_right (by rw [encP_len]; omega), encP_len, show (i + 1) * 5 + r - 5 = i * 5 + r by omega, ih]
  rfl
theorem flatP (xs : List HP) : flatK encP 5 xs.toArray = (hpcells xs).toArray := by
 apply Array.ext
 ·simp [hpcells_len]
 ·intro t h1 h2
  have ht : t < xs.length * 5 := by simpa using h1
  obtain ⟨i, hi⟩ : ∃ i, t / 5 = i := ⟨_, rfl⟩
  obtain ⟨r, hr⟩ : ∃ r, t % 5 = r := ⟨_, rfl⟩
  have e : t = i * 5 + r := by omega
  have hil : i < xs.length := by omega
  have hr5 : r < 5 := by omega
  have h3 := get_flatK encP 5 xs.toArray t (by simpa using ht)
  rw [getElem!_pos _ t h1] at h3
  rw [h3, hi, hr]
  have h4 := hpcells_get (l := xs) hil hr5
  rw [<- e, Zm (by simpa using h2)] at h4
  have h5 : xs.toArray[i]! = xs[i]?.getD hp0 := by
   rw [getElem!_pos _ i (by simpa using hil), Zm hil]
   simp
  rw [h5]
  have h6 : ((encP (xs[i]?.getD hp0))[r]?) = some ((encP (xs[i]?.getD hp0))[r]!) := by
   have : r < (encP (xs[i]?.getD hp0)).length := hr5
   generalize encP (xs[i]?.getD hp0) = ws at *
   rw [getElem!_pos _ r this, Zm this]
  rw [h6] at h4
  simpa using (Option.some.inj h4).symm
theorem holdsV {w : World} {g : Nat} {cur : Array Value} {e : TypeId} {vs : List Value} (hb : w.heap[g]? = some (.cells cur e (0, 0))) (ht : cur.toList.take vs.length = vs) : Holds id w g 0 vs.toArray := by
 intro j hj
 have hj' : j < vs.length := by simpa using hj
 refine ⟨?_, by simp [World.frozen?, hb]⟩
 have h1 : (cur.toList.take vs.length)[j]? = vs[j]? := by rw [ht]
 rw [Xy hj'] at h1
 simp only [World.cell?, hb, Yj]
 simp only [Option.isSome_none, Bool.false_eq_true, if_false]
 rw [<- Array.getElem?_toList, h1]
 simp [hj']
theorem heap_sortedV {w : World} {g n : Nat} {os : Array Obj} {cur : Array Value} {e : TypeId} {fr : Nat × Nat} (d : Array Value) (hb : w.heap[g]? = some (.cells cur e fr)) :
  (grow (putRow id (Sort.ahead w n) g 0 d) os).heap[g]? = some (.cells (putCells id 0 d cur) e fr) := by
 rw [heap_grow_old _ _ (by simpa using (Zp.1 hb).1)]
 simp [putRow, mapBlock, Sort.ahead, Array.getElem?_modify, hb, onCells]
theorem grownBy_sortedV {w : World} {g n : Nat} {os : Array Obj} (d : Array Value) : w.grownBy (grow (putRow id (Sort.ahead w n) g 0 d) os) (some g) := by
 refine ⟨rfl, rfl, rfl, by simp, fun k hk hne => ?_⟩
 rw [heap_grow_old _ _ (by simpa using hk)]
 have : g ≠ k := fun e => hne (by rw [e])
 simp [putRow, mapBlock, Sort.ahead, Array.getElem?_modify, this]
theorem take_putCellsV (cur : Array Value) (ts : List Value) (h : ts.length <= cur.size) : (putCells id 0 ts.toArray cur).toList.take ts.length = ts := by
 apply List.ext_getElem?
 intro j
 by_cases hj : j < ts.length
 ·rw [Xy hj, Array.getElem?_toList]
  simp [putCells, hj, show j < cur.size by omega]
 ·rw [List.getElem?_take_eq_none (by omega), List.getElem?_eq_none (by omega)]
theorem sortP_c (xs : List HP) (base : Nat) (v : Value) (w : World) (h : w.ownsRow base 56 5 v xs.length (hpcells xs)) (h0 : 0 < xs.length) (hn : xs.length <= 1000000) :
  Calls Tryz.prog 111 #[v, .func (.func 78) #[] #[]] w fun e w' => e = .returned (.tuple #[]) /\
   ∃ ys : List HP, ys.Perm xs /\ (ys.Pairwise fun a b => pID a.1 <= pID b.1) /\ w'.ownsRow base 56 5 v ys.length (hpcells ys) /\ w.grownBy w' v.ownBlock := by
 rcases h.2 with ⟨rfl, h0'⟩ | ⟨g, cap, cur, rfl, hb, hg, hle, h2, h3, h4⟩
 ·omega
 ·have hH : HoldsK encP 5 w g 0 xs.toArray := by
   unfold HoldsK
   rw [flatP]
   exact holdsV hg (by rw [hpcells_len]; exact h4)
  have hc := Tryz.slices_SortFunc_pt (α := HP) 5 Tryz.isAgg56 Tryz.sizeOf56 encP (fun _ => rfl) encP_one cfP swoHP 78 #[] g 0 cap xs.toArray w
   (enters_of Tryz.func78 (by kernel_rfl) rfl) (cmpLaysP _ _ _ _) hH (Zp.1 hg).1 (by simp; omega)
  rw [Xg] at hc
  refine hc.mono ?_
  rintro e w' ⟨rfl, d', n, os, ⟨p1, p2, p3⟩, hs, rfl⟩
  have hl : d'.toList.length = xs.length := by simpa using p1
  have hp : d'.toList.Perm xs := by
   have e1 : (d'.extract 0 xs.length).toList = d'.toList := by simp [<- hl]
   have e2 : (xs.toArray.extract 0 xs.length).toList = xs := by simp
   rwa [e1, e2] at p3
  have ed : flatK encP 5 d' = (hpcells d'.toList).toArray := by
   have := flatP d'.toList
   rwa [Array.toArray_toList] at this
  refine ⟨rfl, d'.toList, hp, ?_, ?_, ?_⟩
  ·rw [Vl]
   intro i j hi hj hij
   have := hs i j (Ze _) hij (by omega)
   rw [ltHP, decide_eq_false_iff_not, getElem!_pos _ i (by simpa using hi), getElem!_pos _ j (by simpa using hj)] at this
   simpa using this
  ·unfold sortWorldK putRowK
   rw [ed]
   refine ⟨by rw [hpcells_len], .inr ⟨g, cap, _, by rw [hl], hb, heap_sortedV _ hg, by rw [hl]; exact hle, h2, by simp [putCells, h3], ?_⟩⟩
   have := take_putCellsV cur (hpcells d'.toList) (by rw [hpcells_len, hl, h3]; exact Vk _ hle)
   rwa [hpcells_len] at this
  ·unfold sortWorldK putRowK
   exact grownBy_sortedV _
open Go.RowKit Go.Shelf
attribute [local go_sem] Oper.semAt_some
theorem Tryz.info56 : (Tryz.prog.info? 56).map (fun i => (i.zero, i.size, i.bytes)) = some (some (.agg #[.int .u32 0, .slice none 0 0, .slice none 0 0, .slice none 0 0, .slice none 0 0]), 5, 104) := by kernel_rfl
def patV (x : HP) : Array Value := #[.agg #[.int .u32 ((pID x.1 : Nat) : Int), .slice x.2.1.1 x.2.1.2.1 x.2.1.2.2, .slice x.2.2.1.1 x.2.2.1.2.1 x.2.2.1.2.2, .slice x.2.2.2.1.1 x.2.2.2.1.2.1 x.2.2.2.1.2.2, .slice x.2.2.2.2.1 x.2.2.2.2.2.1 x.2.2.2.2.2.2]]
def PatBox (x : HP) (B : Nat) (W : World) : Prop := W.heap[B]? = some (.cells #[.int .u32 ((pID x.1 : Nat) : Int), .slice x.2.1.1 x.2.1.2.1 x.2.1.2.2, .slice x.2.2.1.1 x.2.2.1.2.1 x.2.2.1.2.2, .slice x.2.2.2.1.1 x.2.2.2.1.2.1 x.2.2.2.1.2.2, .slice x.2.2.2.2.1 x.2.2.2.2.2.1 x.2.2.2.2.2.2] 56 (0, 0))
theorem PatBox.cells {x : HP} {B : Nat} {W : World} (h : PatBox x B W) : W.cell? ⟨B, 0, none⟩ = some (.int .u32 ((pID x.1 : Nat) : Int)) /\ W.cell? ⟨B, 1, none⟩ = some (.slice x.2.1.1 x.2.1.2.1 x.2.1.2.2) /\ W.cell? ⟨B, 2, none⟩ = some (.slice x.2.2.1.1 x.2.2.1.2.1 x.2.2.1.2.2) /\
  W.cell? ⟨B, 3, none⟩ = some (.slice x.2.2.2.1.1 x.2.2.2.1.2.1 x.2.2.2.1.2.2) /\ W.cell? ⟨B, 4, none⟩ = some (.slice x.2.2.2.2.1 x.2.2.2.2.2.1 x.2.2.2.2.2.2) := by
 unfold PatBox at h
 refine ⟨?_, ?_, ?_, ?_, ?_⟩ <;> simp [World.cell?, h]
theorem hps_cells {w : World} {lo hi b off n i : Nat} {xs : List HP} (h : HpsAt w lo hi (some ⟨b, off, none⟩) n xs) (hi' : i < n) :
  w.cell? ⟨b, off + i * 5, none⟩ = some (.int .u32 ((pID (xs[i]?.getD hp0).1 : Nat) : Int)) /\ w.cell? ⟨b, off + i * 5 + 1, none⟩ = some (.slice (xs[i]?.getD hp0).2.1.1 (xs[i]?.getD hp0).2.1.2.1 (xs[i]?.getD hp0).2.1.2.2) /\ w.cell? ⟨b, off + i * 5 + 2, none⟩ = some (.slice (xs[i]?.getD hp0).2.2.1.1 (xs[i]?.getD hp0).2.2.1.2.1 (xs[i]?.getD hp0).2.2.1.2.2) /\
  w.cell? ⟨b, off + i * 5 + 3, none⟩ = some (.slice (xs[i]?.getD hp0).2.2.2.1.1 (xs[i]?.getD hp0).2.2.2.1.2.1 (xs[i]?.getD hp0).2.2.2.1.2.2) /\ w.cell? ⟨b, off + i * 5 + 4, none⟩ = some (.slice (xs[i]?.getD hp0).2.2.2.2.1 (xs[i]?.getD hp0).2.2.2.2.2.1 (xs[i]?.getD hp0).2.2.2.2.2.2) := by
 obtain ⟨b', off', e, _, _, _, hc⟩ := h.cell (by omega)
 cases e
 exact hc i hi'
theorem cell_new_row (w : World) (vs : List Value) (t : TypeId) : ∀ j u, vs[j]? = some u -> (w.alloc (.cells vs.toArray t)).cell? ((⟨w.heap.size, 0, none⟩ : Addr).add j) = some u := by
 intro j u hu
 rw [add_off, Yj]
 exact (BoxV.new w vs t).cell hu
theorem valuesP_in (n : Nat) (a : Option Addr) (len cap : Nat) (w : World) :
  CallsIn Fence.wide n Tryz.prog 77 #[.slice a len cap] w fun e w' => e = .returned (.func (.func 112) #[] #[.pointer (some ⟨w.heap.size, 0, none⟩)]) /\ w' = w.alloc (.cells #[.slice a len cap] 22) := by
 refine callsIn_of_wp Tryz.func77 rfl trivial ?_ rfl
 simp only [Tryz.ntmps77, Xg, Zt, Xh, Nat.reduceAdd, Nat.reduceSub, Xl, Xk, Xn, Xm, Ys, Xd]
 gi_wp2
 go_ret
 exact ⟨rfl, rfl⟩
theorem valuesP1_in (n : Nat) (hn : 1 <= n) (l Bs n₀ lo hi : Nat) (p : Option Addr) (len cap : Nat) (xs : List HP) (hlen : len <= 1000000) (hlo : hi <= n₀)
  (J Jx : List HP -> World -> Prop) (hab : ∀ s A B, J s A -> A.grownBy B none -> J s B)
  (hY : ∀ pre x W, J pre W -> pre.length < len -> YieldAt Fence.wide (n - 1) Tryz.prog l (patV x) W fun e W' =>
   (e = .returned (.bool true) /\ J (pre ++ [x]) W' /\ Below n₀ W W') ∨ (e = .returned (.bool false) /\ Jx (pre ++ [x]) W'))
  (W : World) (hn₀ : n₀ <= W.heap.size) (hBs : W.cell? ⟨Bs, 0, none⟩ = some (.slice p len cap)) (hx : HpsAt W lo hi p len xs) (h0 : J [] W) :
  CallsIn Fence.wide n Tryz.prog 112 #[.func (.yield l) #[] #[], .pointer (some ⟨Bs, 0, none⟩)] W fun e W' => (∃ v, e = .returned v) /\
   ((∃ ys, ys = xs /\ J ys W') ∨ (∃ pre, pre <+: xs /\ Jx pre W')) := by
 have HY := Za hY
 have HAB := Za hab
 have HX := Za hx
 have HL := Za hx.len
 have H0 := Za h0
 have HP : Hid (0 < len -> ∃ b off, p = some ⟨b, off, none⟩ /\ lo <= b /\ b < hi /\ hi <= W.heap.size) := Za fun h => by
  obtain ⟨b, off, e, h1, h2, h3, _⟩ := hx.cell h
  exact ⟨b, off, e, h1, h2, h3⟩
 clear hY hab hx h0
 refine callsIn_of_wp Tryz.func112 rfl trivial ?_ rfl
 simp only [Tryz.ntmps112, Xg, Zt, Xh, Nat.reduceAdd, Nat.reduceSub, Xl, Xk, Xn, Xm, Ys, Xd]
 gi_wp2
 gi_loopw [7] (fun i wr => ∃ k : Nat, k <= len /\ i = .int .i64 k /\ J (xs.take k) wr /\ Below n₀ W wr) (fun i _ => len - (intOf i).toNat)
 case atStart => exact ⟨0, Ze _, rfl, H0.out, Below.refl _ _⟩
 case round =>
  obtain ⟨k, hk, rfl, hJ, hB⟩ := hrel
  by_cases hkm : k < len
  ·obtain ⟨b, off, rfl, hb1, hb2, hb3⟩ := HP.out (by omega)
   obtain ⟨c0, c1, c2, c3, c4⟩ := hps_cells HX.out hkm
   have hbk : b < n₀ := by omega
   replace c0 := (hB.cell (p := ⟨b, off + k * 5, none⟩) hbk).trans c0
   replace c1 := (hB.cell (p := ⟨b, off + k * 5 + 1, none⟩) hbk).trans c1
   replace c2 := (hB.cell (p := ⟨b, off + k * 5 + 2, none⟩) hbk).trans c2
   replace c3 := (hB.cell (p := ⟨b, off + k * 5 + 3, none⟩) hbk).trans c3
   replace c4 := (hB.cell (p := ⟨b, off + k * 5 + 4, none⟩) hbk).trans c4
   have hkl : k < xs.length := by rw [HL.out]; exact hkm
   have HNX : Hid (xs.take (k + 1) = xs.take k ++ [xs[k]?.getD hp0]) := Za (by rw [Xi hkl, Zm hkl]; rfl)
   have HTL : Hid ((xs.take k).length < len) := Za (by rw [Yo]; omega)
   have HPX : Hid (xs.take k ++ [xs[k]?.getD hp0] <+: xs) := Za (by rw [<- HNX.out]; exact List.take_prefix _ _)
   have HJA := Za (HAB.out _ _ _ hJ (Zd wr (.cells (encP (xs[k]?.getD hp0)).toArray 56) none))
   have HBA := Za (hB.trans (Xo (Zd wr (.cells (encP (xs[k]?.getD hp0)).toArray 56) none) |>.mono (by have := hB.size; omega)))
   obtain ⟨fn, tmps, assign, body, hyy, hR⟩ := HY.out _ (xs[k]?.getD hp0) _ HJA.out HTL.out
   unfold patV at hyy
   unfold encP slV at hyy hR HJA HBA
   clear hJ hB
   generalize xs[k]?.getD hp0 = y at *
   gi_wp2
   refine hR.mono ?_
   rintro e W3 (⟨rfl, hJ3, hk3⟩ | ⟨rfl, hJx3⟩)
   ·gi_wp2
    exact ⟨⟨k + 1, by omega, by go_num, by rw [HNX.out]; exact hJ3, HBA.out.trans hk3⟩, by simp [intOf]; omega⟩
   ·gi_wp2
    refine bodyPost_ret (results_none rfl _ _ _) rfl ?_
    exact ⟨⟨_, rfl⟩, .inr ⟨_, HPX.out, hJx3⟩⟩
  ·obtain rfl : k = len := by omega
   have HE : Hid (xs.take k = xs) := Za (Yl (by rw [HL.out]; exact Zc _))
   rw [HE.out] at hJ
   gi_wp2
   go_end0
   exact ⟨⟨_, rfl⟩, .inl ⟨_, rfl, hJ⟩⟩
theorem valuesP_stops (n : Nat) (hn : 1 <= n) (Bs n₀ lo hi : Nat) (p : Option Addr) (len cap : Nat) (xs : List HP) (hlen : len <= 1000000) (hlo : hi <= n₀) (w : World) (hBs : Bs < w.heap.size) (hc : w.cell? ⟨Bs, 0, none⟩ = some (.slice p len cap)) (hx : HpsAt w lo hi p len xs) (hn₀ : n₀ <= w.heap.size) :
  SeqStopsK Fence.wide n Tryz.prog 112 #[.pointer (some ⟨Bs, 0, none⟩)] patV (Below n₀) (fun ys => ys = xs) (fun pre => pre <+: xs) xs.length w := fun l J Jx W hW hJ _ hY h0 => by
 have hx' : HpsAt W lo hi p len xs := ⟨hx.len, fun h => by
  obtain ⟨b, off, e, h1, h2, h3, hcc⟩ := hx.cell h
  refine ⟨b, off, e, h1, h2, Zn h3 hW.size, fun i hi => ?_⟩
  obtain ⟨c0, c1, c2, c3, c4⟩ := hcc i hi
  exact ⟨(hW.cell (p := ⟨b, _, none⟩) (by show b < _; omega)).trans c0, (hW.cell (p := ⟨b, _, none⟩) (by show b < _; omega)).trans c1, (hW.cell (p := ⟨b, _, none⟩) (by show b < _; omega)).trans c2, (hW.cell (p := ⟨b, _, none⟩) (by show b < _; omega)).trans c3, (hW.cell (p := ⟨b, _, none⟩) (by show b < _; omega)).trans c4⟩⟩
 rw [hx.len] at hY
 exact valuesP1_in n hn l Bs n₀ lo hi p len cap xs hlen hlo J Jx (fun s A B hs hg' => hJ s A B none hs hg' (by simp)) hY W (Zn hn₀ hW.size) ((hW.cell (p := ⟨Bs, 0, none⟩) hBs).trans hc) hx' h0
theorem appendSeqP_in (n : Nat) (hn : 3 <= n) (Bs lo hi : Nat) (p : Option Addr) (len cap : Nat) (xs : List HP) (hlen : len <= 100000) (w : World) (hc : w.cell? ⟨Bs, 0, none⟩ = some (.slice p len cap)) (hx : HpsAt w lo hi p len xs) (hB : Bs < w.heap.size) (hhi : hi <= w.heap.size) :
  CallsIn Fence.wide n Tryz.prog 152 #[.slice none 0 0, .func (.func 112) #[] #[.pointer (some ⟨Bs, 0, none⟩)]] w fun e w' => ∃ v, e = .returned v /\ w'.ownsRow w.heap.size 56 5 v xs.length (hpcells xs) /\ w.grownBy w' none := by
 have h1 : 1 <= n := by omega
 have hro : Fence.wide.round = none := rfl
 obtain ⟨i0, hi', hz0, hz1, hz2⟩ := Yz Tryz.info56
 have HL := Za hx.len
 refine callsIn_of_wp_marks Tryz.func152 rfl trivial ?_ hro
 simp only [Tryz.ntmps152, Xg, Zt, Xh, Nat.reduceAdd, Nat.reduceSub, Xl, Xk, Xn, Xm, Ys, Xd]
 have HX := Za hx
 clear hx
 gi_wp2
 have bO := Boxed.new w 22 (.slice none 0 0)
 have hB0 : Below w.heap.size w (w.alloc (.cells #[.slice none 0 0] 22)) := (Below.refl _ w).alloc (Zc _) _
 refine wpIn_rangeFunc_ownH hro h1 (gf := 112) (lb := #[.pointer (some ⟨Bs, 0, none⟩)]) rfl trivial (enters_of Tryz.func112 (by kernel_rfl) rfl)
  (valuesP_stops (n - 1) (by omega) Bs w.heap.size lo hi p len cap xs (by omega) hhi _ (by simp; omega) ((hB0.cell (p := ⟨Bs, 0, none⟩) hB).trans hc) (HX.out.calm (Xp hB0)) hB0.size) belowK_t (belowK_b (by simp)) (Below.refl _ _) (fun _ => rfl)
  (fun pre W => (∃ v, Boxed W w.heap.size 22 v /\ W.ownsRow w.heap.size 56 5 v pre.length (hpcells pre) /\ True) /\ Below w.heap.size w W)
  (fun _ _ _ => False)
  (OwnFrom.and (Own.from (holdsRow_own w.heap.size w.heap.size 22 56 5 (fun pre : List HP => pre.length) hpcells (fun _ _ => True)) _) (ownFrom_below (Zc _) (by simp)))
  (fun _ _ _ _ _ hs _ _ => hs)
  ⟨⟨_, bO, Yp _ _ _ _, trivial⟩, hB0⟩
  (fun x a' W => ∃ B, PatBox x B W /\ w.heap.size < B /\ a' = { tmps := #[.slice none 0 0, .func (.func 112) #[] #[.pointer (some ⟨Bs, 0, none⟩)], .pointer (some ⟨w.heap.size, 0, none⟩), undef, .slice none 0 0, .pointer (some ⟨B, 0, none⟩), .func (.func 112) #[] #[.pointer (some ⟨Bs, 0, none⟩)], (patV x)[0]!, undef, undef, undef, undef, undef], defers := [] })
  ?hAx ?assign ?body ?done ?stop
 case hAx =>
  rintro x a' _ A B row ⟨b, hb, h2, h3⟩ hg hrow
  refine ⟨b, (hg.block b (Zp.1 hb).1 fun e => ?_).trans hb, h2, h3⟩
  obtain ⟨_, o, ho, hoc⟩ := hrow b e.symm
  rw [show A.heap[b]? = _ from hb] at ho
  cases ho
  cases hoc
 case assign =>
  intro l pre x W K hI hK
  have HK := Za hK
  clear hK
  unfold patV
  gi_wp2
  obtain ⟨⟨v, hv, hrow, _⟩, hB⟩ := hI
  have hlt := hv.lt
  refine HK.out _ _ ((KeepsOthers.alloc W _).from _) ((Below.refl _ W).alloc hB.size _) ⟨⟨v, hv.alloc _, hrow.alloc _, trivial⟩, hB.alloc hB.size _⟩ ⟨W.heap.size, Vh W _, by omega, rfl⟩
 case body =>
  rintro l pre x a' W hl hlr ⟨⟨v, hv, hrow, _⟩, hB⟩ ⟨b, hb, hb2, rfl⟩ hlt
  have hcv := hv.cell
  obtain ⟨c0, c1, c2, c3, c4⟩ := hb.cells
  have hpl : pre.length < 100000 := by rw [HL.out] at hlt; omega
  unfold patV
  gi_wp2_with (gi_at_builtin; refine wpListIn_append_own _ rfl _ _ 22 rfl w.heap.size 56 i0 (.agg #[.int .u32 0, .slice none 0 0, .slice none 0 0, .slice none 0 0, .slice none 0 0]) 5 104 Tryz.underlying22 hi' hz0 hz1 hz2 rfl (by decide) _ _ _ rfl (hrow.alloc _) ⟨W.heap.size, 0, none⟩ 1 1 (encP x) rfl rfl (cell_new_row W (encP x) 56) (encP_one x) (by unfold maxLen; omega) (by omega) (by have := hB.size; simp; omega) ?_; intro v' w1 hown' hgrow _; obtain ⟨g', cap', rfl⟩ := ownsRow_succ hown'; obtain ⟨hv1, hv2, hr2, hk2, hb2⟩ := hv.appended (by decide) hrow hB.size (by omega) hown' hgrow; have hc1 := hv1.cell; have hf1 := hv1.frozen)
  exact ⟨hk2.from _, hb2, ⟨_, hv2, by rw [hpcells_snoc]; simpa using hr2, trivial⟩, hB.trans hb2⟩
 case done =>
  rintro D ys W hD rfl ⟨⟨v, hv, hrow, _⟩, hB⟩ hK
  have hc := hv.cell
  gi_wp2
  refine ⟨by simp, .inl ⟨_, _, rfl, run_takeDeferred hK, ?_⟩⟩
  exact ⟨_, results_tmp rfl _ _ _, _, rfl, ownsRow_putObj hrow _ hK rfl, Xp (hB.trans (belowK_b (w := w) (Zc _) W D _ _ (by simp at hD; omega) hK rfl rfl))⟩
 case stop =>
  rintro D c pre W _ _ h _
  exact h.elim
theorem collectP_in (n : Nat) (hn : 4 <= n) (Bs lo hi : Nat) (p : Option Addr) (len cap : Nat) (xs : List HP) (hlen : len <= 100000) (w : World) (hc : w.cell? ⟨Bs, 0, none⟩ = some (.slice p len cap)) (hx : HpsAt w lo hi p len xs) (hB : Bs < w.heap.size) (hhi : hi <= w.heap.size) :
  CallsIn Fence.wide n Tryz.prog 110 #[.func (.func 112) #[] #[.pointer (some ⟨Bs, 0, none⟩)]] w fun e w' => ∃ v, e = .returned v /\ w'.ownsRow w.heap.size 56 5 v xs.length (hpcells xs) /\ w.grownBy w' none := by
 have h1 : 1 <= n := by omega
 have h := Za (appendSeqP_in (n - 1) (by omega) Bs lo hi p len cap xs hlen w hc hx hB hhi)
 clear hx hc
 refine callsIn_of_wp Tryz.func110 rfl trivial ?_ rfl
 simp only [Tryz.ntmps110, Xg, Zt, Xh, Nat.reduceAdd, Nat.reduceSub, Xl, Xk, Xn, Xm, Ys, Xd]
 gi_wp2_with (refine ⟨trivial, ?_⟩; gi_at_call 152; refine h.out.mono ?_; rintro e w9 ⟨v, rfl, hv, hg⟩; have HV := Za hv; have HG := Za hg; clear hv hg)
 go_ret
 exact ⟨_, rfl, HV.out, HG.out⟩
theorem insP_none (p : Option Addr) (cap : Nat) (fv : Value) (w : World) :
  Calls Tryz.prog 176 #[.slice p 0 cap, .int .i64 0, .int .i64 0, fv] w fun e w' => e = .returned (.tuple #[]) /\ w' = w := by
 go_enter Tryz.func176, Tryz.ntmps176
 go_wp2
 refine wp_loop_rounds 1 ?_
 rw [rounds_succ]
 go_wp2
 go_end0
 exact ⟨rfl, rfl⟩
theorem pdqP_none (p : Option Addr) (cap : Nat) (lim : Int) (fv : Value) (w : World) :
  Calls Tryz.prog 153 #[.slice p 0 cap, .int .i64 0, .int .i64 0, .int .i64 lim, fv] w fun e w' => e = .returned (.tuple #[]) /\ w' = w := by
 have hi := fun W => insP_none p cap fv W
 go_enter Tryz.func153, Tryz.ntmps153
 go_wp2
 refine wp_loop_rounds 1 ?_
 rw [rounds_succ]
 go_wp2_with (go_at_call 176; refine (hi _).mono ?_; rintro e w' ⟨rfl, h9⟩; subst w')
 (try simp only [Exit.inBlock, Exit.then]); refine bodyPost_ret (results_none rfl _ _ _) rfl ?_
 exact ⟨rfl, rfl⟩
theorem sortP_none (p : Option Addr) (cap : Nat) (fv : Value) (w : World) :
  Calls Tryz.prog 111 #[.slice p 0 cap, fv] w fun e w' => e = .returned (.tuple #[]) /\ w' = w := by
 have hp := fun lim W => pdqP_none p cap lim fv W
 have hl : ∀ W, Calls Tryz.prog 93 #[.int .u64 0] W fun e w' => e = .returned (.int .i64 (Lib.bitLen 0 : Nat)) /\ w' = W := fun W => Tryz.bits_Len 0 W (by omega) (by omega)
 go_enter Tryz.func111, Tryz.ntmps111
 go_wp2_with (first | (go_at_call 93; refine (hl _).mono ?_; rintro e w' ⟨rfl, h9⟩; subst w') | (go_at_call 153; refine (hp _ _).mono ?_; rintro e w' ⟨rfl, h9⟩; subst w'))
 go_end0
 exact ⟨rfl, rfl⟩
def SrtP (ys xs : List HP) : Prop := ys.Perm xs /\ ys.Pairwise fun a b => pID a.1 <= pID b.1
theorem sortedP_in (n : Nat) (hn : 5 <= n) (Bs lo hi : Nat) (p : Option Addr) (len cap : Nat) (xs : List HP) (hlen : len <= 100000) (w : World) (hc : w.cell? ⟨Bs, 0, none⟩ = some (.slice p len cap)) (hx : HpsAt w lo hi p len xs) (hB : Bs < w.heap.size) (hhi : hi <= w.heap.size) :
  CallsIn Fence.wide n Tryz.prog 76 #[.func (.func 112) #[] #[.pointer (some ⟨Bs, 0, none⟩)], .func (.func 78) #[] #[]] w fun e w' =>
   ∃ v ys, e = .returned v /\ SrtP ys xs /\ w'.ownsRow w.heap.size 56 5 v ys.length (hpcells ys) /\ w.grownBy w' none := by
 have h := Za (collectP_in (n - 1) (by omega) Bs lo hi p len cap xs hlen w hc hx hB hhi)
 have HL := Za hx.len
 clear hx hc
 refine callsIn_of_wp Tryz.func76 rfl trivial ?_ rfl
 simp only [Tryz.ntmps76, Xg, Zt, Xh, Nat.reduceAdd, Nat.reduceSub, Xl, Xk, Xn, Xm, Ys, Xd]
 gi_wp2_with fail
 refine ⟨trivial, fun _ => by omega, ?_⟩
 refine h.out.mono ?_
 rintro e w1 ⟨v, rfl, hv, hg⟩
 have hs : Hid (Calls Tryz.prog 111 #[v, .func (.func 78) #[] #[]] w1 fun e w' => e = .returned (.tuple #[]) /\ ∃ ys, SrtP ys xs /\ w'.ownsRow w.heap.size 56 5 v ys.length (hpcells ys) /\ w.grownBy w' none) := by
  refine Za ?_
  rcases Nat.eq_zero_or_pos xs.length with e0 | e0
  ·have hx0 : xs = [] := Xu e0
   subst hx0
   have hv' : ∃ p cap, v = .slice p 0 cap := by
    rcases hv.2 with ⟨e, _⟩ | ⟨g, cap, cur, e, _⟩
    ·exact ⟨none, 0, e⟩
    ·exact ⟨_, cap, e⟩
   obtain ⟨p', cap', rfl⟩ := hv'
   refine (sortP_none p' cap' _ w1).mono ?_
   rintro e w' ⟨rfl, rfl⟩
   exact ⟨rfl, [], ⟨List.Perm.refl _, Vb⟩, hv, hg⟩
  ·refine (sortP_c xs w.heap.size v w1 hv e0 (by have := HL.out; omega)).mono ?_
   rintro e w' ⟨rfl, ys, hp, hs, ho, hg2⟩
   refine ⟨rfl, ys, ⟨hp, hs⟩, ho, ?_⟩
   rcases hv.2 with ⟨rfl, _⟩ | ⟨g, cap', cur, rfl, hb, _⟩
   ·exact Zb hg hg2
   ·exact Yx hg hg2 hb
 clear hv hg
 gi_wp2_with fail
 refine ⟨trivial, fun _ => by omega, ?_⟩
 refine (callsIn_wide.2 hs.out).mono ?_
 rintro e w2 ⟨rfl, ys, h1, h2, h3⟩
 have H1 := Za h1
 have H2 := Za h2
 have H3 := Za h3
 clear h1 h2 h3
 gi_wp2
 go_ret
 exact ⟨_, ys, rfl, H1.out, H2.out, H3.out⟩
def KeepT (t : TypeId) (W W' : World) : Prop := ∀ (g : Nat) (cur : Array Value), W.heap[g]? = some (.cells cur t (0, 0)) -> W'.heap[g]? = some (.cells cur t (0, 0))
theorem KeepT.calm {t : TypeId} {W W' : World} (h : W.grownBy W' none) : KeepT t W W' := fun g _ hg => (h.block g (Zp.1 hg).1 (by simp)).trans hg
theorem KeepT.refl (t : TypeId) (W : World) : KeepT t W W := fun _ _ h => h
theorem KeepT.trans {t : TypeId} {A B C : World} (h : KeepT t A B) (k : KeepT t B C) : KeepT t A C := fun g cur hg => k g cur (h g cur hg)
theorem KeepT.put {t : TypeId} (W : World) (l : Nat) (o o' : Obj) (hw : W.heap[l]? = some o) (hc : o.isCells = false) : KeepT t W (W.putObj l o') := by
 intro g cur hg
 have hne : g ≠ l := fun e => by subst e; rw [hg] at hw; cases hw; cases hc
 exact (World.putObj_heap_other hne).trans hg
theorem KeepT.turn {t t' : TypeId} {W W' : World} {b : Nat} {cur : Array Value} {fz : Nat × Nat} (h : W.grownBy W' (some b)) (hb : W.heap[b]? = some (.cells cur t' fz)) (ht : t ≠ t') : KeepT t W W' := by
 intro g cur' hg
 refine (h.block g (Zp.1 hg).1 fun e => ?_).trans hg
 cases e
 rw [hg] at hb
 cases hb
 exact ht rfl
def KeepR (n₀ : Nat) (W W' : World) : Prop := Below n₀ W W' /\ KeepT 56 W W'
theorem keepR_t {n₀ : Nat} {A B C : World} (h : KeepR n₀ A B) (k : KeepR n₀ B C) : KeepR n₀ A C := ⟨h.1.trans k.1, h.2.trans k.2⟩
theorem keepR_b {w : World} {n₀ : Nat} (hn : n₀ <= w.heap.size) (W : World) (l : Nat) (o o' : Obj) (hl : w.heap.size <= l) (hw : W.heap[l]? = some o) (hc : o.isCells = false) (hk : o.isWalk = false) : KeepR n₀ W (W.putObj l o') :=
 ⟨belowK_b hn W l o o' hl hw hc hk, KeepT.put W l o o' hw hc⟩
def KeepF (m₀ : Nat) (W W' : World) : Prop := ∀ (g : Nat) (cur : Array Value), m₀ <= g -> W.heap[g]? = some (.cells cur 56 (0, 0)) -> W'.heap[g]? = some (.cells cur 56 (0, 0))
theorem keepF_t {m₀ : Nat} {A B C : World} (h : KeepF m₀ A B) (k : KeepF m₀ B C) : KeepF m₀ A C := fun g cur hm hg => k g cur hm (h g cur hm hg)
theorem keepF_of {m₀ : Nat} {A B : World} (h : KeepT 56 A B) : KeepF m₀ A B := fun g cur _ hg => h g cur hg
theorem keepF_b {w : World} {m₀ : Nat} (W : World) (l : Nat) (o o' : Obj) (_ : w.heap.size <= l) (hw : W.heap[l]? = some o) (hc : o.isCells = false) (_ : o.isWalk = false) : KeepF m₀ W (W.putObj l o') := keepF_of (KeepT.put W l o o' hw hc)
theorem rowP_cells {W : World} {g : Nat} {cur : Array Value} {ys : List HP} (hb : W.heap[g]? = some (.cells cur 56 (0, 0))) (ht : cur.toList.take (ys.length * 5) = hpcells ys) {i : Nat} (hi : i < ys.length) :
  W.cell? ⟨g, i * 5, none⟩ = some (.int .u32 ((pID (ys[i]?.getD hp0).1 : Nat) : Int)) /\ W.cell? ⟨g, i * 5 + 1, none⟩ = some (.slice (ys[i]?.getD hp0).2.1.1 (ys[i]?.getD hp0).2.1.2.1 (ys[i]?.getD hp0).2.1.2.2) /\ W.cell? ⟨g, i * 5 + 2, none⟩ = some (.slice (ys[i]?.getD hp0).2.2.1.1 (ys[i]?.getD hp0).2.2.1.2.1 (ys[i]?.getD hp0).2.2.1.2.2) /\
  W.cell? ⟨g, i * 5 + 3, none⟩ = some (.slice (ys[i]?.getD hp0).2.2.2.1.1 (ys[i]?.getD hp0).2.2.2.1.2.1 (ys[i]?.getD hp0).2.2.2.1.2.2) /\ W.cell? ⟨g, i * 5 + 4, none⟩ = some (.slice (ys[i]?.getD hp0).2.2.2.2.1 (ys[i]?.getD hp0).2.2.2.2.2.1 (ys[i]?.getD hp0).2.2.2.2.2.2) := by
 have key : ∀ r, r < 5 -> W.cell? ⟨g, i * 5 + r, none⟩ = (encP (ys[i]?.getD hp0))[r]? := by
  intro r hr
  rw [<- hpcells_get hi hr, <- ht, Xy (by omega)]
  simp [World.cell?, hb]
 exact ⟨key 0 (by omega), key 1 (by omega), key 2 (by omega), key 3 (by omega), key 4 (by omega)⟩
theorem rowP_slice {W : World} {base : Nat} {v : Value} {ys : List HP} (hv : W.ownsRow base 56 5 v ys.length (hpcells ys)) :
  ∃ pv cv, v = .slice pv ys.length cv /\ (0 < ys.length -> ∃ g cur, pv = some ⟨g, 0, none⟩ /\ base <= g /\ W.heap[g]? = some (.cells cur 56 (0, 0)) /\ cur.toList.take (ys.length * 5) = hpcells ys) := by
 rcases hv.2 with ⟨rfl, e0⟩ | ⟨g, cp, cur, rfl, hbg, hb, _, _, _, ht⟩
 ·exact ⟨none, 0, by rw [e0], fun h => absurd h (by omega)⟩
 ·exact ⟨_, cp, rfl, fun _ => ⟨g, cur, rfl, hbg, hb, ht⟩⟩
theorem rising1_in (n : Nat) (hn : 6 <= n) (l Bs n₀ lo hi : Nat) (p : Option Addr) (len cap : Nat) (xs : List HP) (hlen : len <= 100000)
  (J Jx : List { x : HP // x ∈ xs } -> World -> Prop) (hab : ∀ s A B, J s A -> A.grownBy B none -> J s B)
  (hY : ∀ pre x W, J pre W -> pre.length < xs.length -> YieldAt Fence.wide (n - 1) Tryz.prog l (patV x.1) W fun e W' =>
   (e = .returned (.bool true) /\ J (pre ++ [x]) W' /\ KeepF n₀ W W') ∨ (e = .returned (.bool false) /\ Jx (pre ++ [x]) W'))
  (W : World) (hn₀ : n₀ <= W.heap.size) (hBs : W.cell? ⟨Bs, 0, none⟩ = some (.slice p len cap)) (hx : HpsAt W lo hi p len xs) (hhi : hi <= W.heap.size) (h0 : J [] W) :
  CallsIn Fence.wide n Tryz.prog 75 #[.func (.yield l) #[] #[], .pointer (some ⟨Bs, 0, none⟩)] W fun e W' => (∃ v, e = .returned v) /\
   ((∃ zs, SrtP (zs.map Subtype.val) xs /\ J zs W') ∨ (∃ pre zs, SrtP (zs.map Subtype.val) xs /\ pre <+: zs /\ Jx pre W')) := by
 have h1 : 1 <= n := by omega
 have HY := Za hY
 have HAB := Za hab
 have hB2 := Zd W (.cells #[.slice p len cap] 22) none
 have HS := Za (sortedP_in (n - 1) (by omega) W.heap.size lo hi p len cap xs hlen (W.alloc (.cells #[.slice p len cap] 22)) (by simp) (hx.calm hB2) (by simp) (by simp; omega))
 have HL := Za hx.len
 have H0 := Za (hab _ _ _ h0 hB2)
 clear hY hab hx h0
 refine callsIn_of_wp Tryz.func75 rfl trivial ?_ rfl
 simp only [Tryz.ntmps75, Xg, Zt, Xh, Nat.reduceAdd, Nat.reduceSub, Xl, Xk, Xn, Xm, Ys, Xd]
 gi_wp2_with (first | (refine ⟨trivial, ?_⟩; gi_at_call 77; refine (valuesP_in (n - 1) _ _ _ _).mono ?_; rintro e w9 ⟨rfl, rfl⟩) | (refine ⟨trivial, ?_⟩; gi_at_call 76; refine HS.out.mono ?_; rintro e w9 ⟨v, ys, rfl, hs, hv, hg⟩; obtain ⟨pv, cv, rfl, hv2⟩ := rowP_slice hv; have HV := Za hv2; have HSR := Za hs; have HG := Za hg; clear hv hv2 hs hg))
 have HJ := Za (HAB.out _ _ _ H0.out HG.out)
 have HYL : Hid (ys.length = xs.length) := Za HSR.out.1.length_eq
 obtain ⟨zs, hzs⟩ : ∃ zs : List { x : HP // x ∈ xs }, zs.map Subtype.val = ys := ⟨ys.attachWith (· ∈ xs) (fun x hx => HSR.out.1.mem_iff.1 hx), List.attachWith_map_subtype_val _⟩
 have HZ := Za hzs
 have HZL : Hid (zs.length = ys.length) := Za (by rw [<- hzs, Yn])
 clear hzs hBs
 generalize hm : ys.length = m at *
 have HM := Za hm
 have hm2 : m <= 100000 := by have := HL.out; have := HYL.out; omega
 clear hm
 gi_wp2
 gi_loopw [9] (fun i wr => ∃ k : Nat, k <= m /\ i = .int .i64 k /\ J (zs.take k) wr /\ Hid (KeepF n₀ w9 wr)) (fun i _ => m - (intOf i).toNat)
 case atStart => exact ⟨0, Ze _, rfl, HJ.out, Za fun _ _ _ h => h⟩
 case round =>
  obtain ⟨k, hk, rfl, hJ, HK⟩ := hrel
  by_cases hkm : k < m
  ·obtain ⟨g, cur, rfl, hg0, hg1, hg2⟩ := HV.out (by omega)
   obtain ⟨c0, c1, c2, c3, c4⟩ := rowP_cells (i := k) (HK.out _ _ (by simp at hg0; omega) hg1) (by rw [HM.out]; exact hg2) (by rw [HM.out]; exact hkm)
   have hkz : k < zs.length := by rw [HZL.out]; exact hkm
   have HNX : Hid (zs.take (k + 1) = zs.take k ++ [zs[k]]) := Za (Xi hkz)
   have HTL : Hid ((zs.take k).length < xs.length) := Za (by rw [Yo]; have := HYL.out; omega)
   have HPX : Hid (zs.take k ++ [zs[k]] <+: zs) := Za (by rw [<- HNX.out]; exact List.take_prefix _ _)
   have hyk : ys[k]?.getD hp0 = zs[k].1 := by
    rw [<- HZ.out, Xr, Zm hkz]
    rfl
   rw [hyk] at c0 c1 c2 c3 c4
   have HJA := Za (HAB.out _ _ _ hJ (Zd wr (.cells (encP zs[k].1).toArray 56) none))
   have HKA : Hid (KeepF n₀ w9 (wr.alloc (.cells (encP zs[k].1).toArray 56))) := Za (keepF_t HK.out (keepF_of (KeepT.calm (Zd wr _ none))))
   obtain ⟨fn, tmps, assign, body, hyy, hR⟩ := HY.out _ zs[k] _ HJA.out HTL.out
   unfold patV at hyy
   unfold encP slV at hyy hR HJA HKA
   clear hJ HK hyk hg0 hg1 hg2
   generalize zs[k] = y at *
   gi_wp2
   refine hR.mono ?_
   rintro e W3 (⟨rfl, hJ3, hk3⟩ | ⟨rfl, hJx3⟩)
   ·gi_wp2
    exact ⟨⟨k + 1, by omega, by go_num, by rw [HNX.out]; exact hJ3, Za (keepF_t HKA.out hk3)⟩, by simp [intOf]; omega⟩
   ·gi_wp2
    refine bodyPost_ret (results_none rfl _ _ _) rfl ?_
    exact ⟨⟨_, rfl⟩, .inr ⟨_, zs, by rw [HZ.out]; exact HSR.out, HPX.out, hJx3⟩⟩
  ·obtain rfl : k = m := by omega
   have HE : Hid (zs.take k = zs) := Za (Yl (by rw [HZL.out]; exact Zc _))
   rw [HE.out] at hJ
   gi_wp2
   go_end0
   exact ⟨⟨_, rfl⟩, .inl ⟨zs, by rw [HZ.out]; exact HSR.out, hJ⟩⟩
theorem rising_in (n : Nat) (a : Option Addr) (len cap : Nat) (w : World) :
  CallsIn Fence.wide n Tryz.prog 42 #[.slice a len cap] w fun e w' => e = .returned (.func (.func 75) #[] #[.pointer (some ⟨w.heap.size, 0, none⟩)]) /\ w' = w.alloc (.cells #[.slice a len cap] 22) := by
 refine callsIn_of_wp Tryz.func42 rfl trivial ?_ rfl
 simp only [Tryz.ntmps42, Xg, Zt, Xh, Nat.reduceAdd, Nat.reduceSub, Xl, Xk, Xn, Xm, Ys, Xd]
 gi_wp2
 go_ret
 exact ⟨rfl, rfl⟩
theorem HpsAt.below {w W : World} {lo hi n₀ : Nat} {p : Option Addr} {n : Nat} {xs : List HP} (h : HpsAt w lo hi p n xs) (hg : Below n₀ w W) (hh : hi <= n₀) : HpsAt W lo hi p n xs :=
 ⟨h.len, fun hn => by
  obtain ⟨b, off, e, h1, h2, h3, hc⟩ := h.cell hn
  refine ⟨b, off, e, h1, h2, Zn h3 hg.size, fun i hi => ?_⟩
  obtain ⟨c0, c1, c2, c3, c4⟩ := hc i hi
  exact ⟨(hg.cell (p := ⟨b, _, none⟩) (by show b < _; omega)).trans c0, (hg.cell (p := ⟨b, _, none⟩) (by show b < _; omega)).trans c1, (hg.cell (p := ⟨b, _, none⟩) (by show b < _; omega)).trans c2, (hg.cell (p := ⟨b, _, none⟩) (by show b < _; omega)).trans c3, (hg.cell (p := ⟨b, _, none⟩) (by show b < _; omega)).trans c4⟩⟩
theorem rising_stopsF (n : Nat) (hn : 6 <= n) (Bs n₀ lo hi : Nat) (p : Option Addr) (len cap : Nat) (xs : List HP) (hlen : len <= 100000) (w : World) (hBs : Bs < w.heap.size) (hc : w.cell? ⟨Bs, 0, none⟩ = some (.slice p len cap)) (hx : HpsAt w lo hi p len xs) (hhi : hi <= w.heap.size) (hn₀ : n₀ <= w.heap.size) :
  SeqStopsK Fence.wide n Tryz.prog 75 #[.pointer (some ⟨Bs, 0, none⟩)] (fun x : { x : HP // x ∈ xs } => patV x.1) (KeepF n₀) (fun zs => SrtP (zs.map Subtype.val) xs) (fun pre => ∃ zs, SrtP (zs.map Subtype.val) xs /\ pre <+: zs) xs.length w := fun l J Jx W hW hJ _ hY h0 => by
 refine (rising1_in n hn l Bs n₀ lo hi p len cap xs hlen J Jx (fun s A B hs hg' => hJ s A B none hs hg' (by simp)) hY W (Zn hn₀ hW.size) ((hW.cell (p := ⟨Bs, 0, none⟩) hBs).trans hc) (hx.below hW hhi) (Zn hhi hW.size) h0).mono ?_
 rintro e W' ⟨h1, h2 | ⟨pre, zs, h3, h4, h5⟩⟩
 ·exact ⟨h1, .inl h2⟩
 ·exact ⟨h1, .inr ⟨pre, ⟨zs, h3, h4⟩, h5⟩⟩
theorem rising_stops (n : Nat) (hn : 6 <= n) (Bs n₀ lo hi : Nat) (p : Option Addr) (len cap : Nat) (xs : List HP) (hlen : len <= 100000) (w : World) (hBs : Bs < w.heap.size) (hc : w.cell? ⟨Bs, 0, none⟩ = some (.slice p len cap)) (hx : HpsAt w lo hi p len xs) (hhi : hi <= w.heap.size) (hn₀ : n₀ <= w.heap.size) :
  SeqStopsK Fence.wide n Tryz.prog 75 #[.pointer (some ⟨Bs, 0, none⟩)] (fun x : { x : HP // x ∈ xs } => patV x.1) (KeepR n₀) (fun zs => SrtP (zs.map Subtype.val) xs) (fun pre => ∃ zs, SrtP (zs.map Subtype.val) xs /\ pre <+: zs) xs.length w := fun l J Jx W hW hJ hJx hY h0 =>
 rising_stopsF n hn Bs n₀ lo hi p len cap xs hlen w hBs hc hx hhi hn₀ l J Jx W hW hJ hJx (fun pre x W1 hj hp => (hY pre x W1 hj hp).mono (by
  rintro e W' (⟨h1, h2, h3⟩ | h4)
  ·exact .inl ⟨h1, h2, keepF_of h3.2⟩
  ·exact .inr h4)) h0
end Go.Proofs.YtnknejokneddbaaGreatDoor
