/- Package patch: concat, sort, compact, Paths, Needs. -/
import Derived.Lib.AppendZerosOnto
import Derived.Sort.OwnSorted
import Derived.Deep.AppendLies
import Derived.Test.YtnknejokneddbaaGreatDoorPue
import Derived.Test.YtnknejokneddbaaGreatDoorPatP
import Derived.Test.YtnknejokneddbaaGreatDoorShelg
import Derived.Test.YtnknejokneddbaaGreatDoorRefPa
/-! Package patch: Go's own slices.Grow, slices.Concat over strings. -/
namespace Go.Proofs.YtnknejokneddbaaGreatDoor
open Go.RowKit

end Go.Proofs.YtnknejokneddbaaGreatDoor
/-! Package patch: Paths. -/
namespace Go.Proofs.YtnknejokneddbaaGreatDoor
open Go.RowKit Go.Sort

theorem grownBy_put {α : Type} [Inhabited α] (enc : α → Value) {w : World} {g n : Nat} (d : Array α) : w.grownBy (putRow enc (Sort.ahead w n) g 0 d) (some g) := by
 refine ⟨rfl, rfl, rfl, by simp, fun k hk hne => ?_⟩
 have : g ≠ k := fun e => hne (by rw [e])
 simp [putRow, mapBlock, Sort.ahead, Array.getElem?_modify, this]
theorem sortS_c (ss : List (List UInt8)) (base : Nat) (v : Value) (w : World) (h : w.ownsRow base 9 1 v ss.length (ss.map encStr)) (hn : ss.length ≤ 1000000) :
  Calls Tryz.prog 55 #[v] w fun e w' => e = .returned (.tuple #[]) ∧ w'.ownsRow base 9 1 v ss.length ((ss.mergeSort fun x y => decide (x ≤ y)).map encStr) ∧ w.grownBy w' v.ownBlock := by
 have h' := h
 rcases h'.2 with ⟨rfl, h0⟩ | ⟨g, cap, cur, rfl, hb, hg, hle, h2, h3, h4⟩
 ·have hs : ss = [] := List.eq_nil_of_length_eq_zero h0
  subst hs
  refine (Tryz.slices_Sort_string_none none 0 w).mono ?_
  rintro e w' ⟨rfl, rfl⟩
  exact ⟨rfl, by simpa using h, grownBy_refl _ _⟩
 ·refine (Tryz.slices_Sort_string g 0 cap ss w (Go.holds_of_block hg (by simpa using h4)) (Array.getElem?_eq_some_iff.1 hg).1 (by omega)).mono ?_
  rintro e w' ⟨rfl, n, os, rfl⟩
  exact ⟨rfl, ownsRow_sorted (by simp) hb hg hle h2 h3, grownBy_sorted _⟩
theorem comp_len {α : Type} [Inhabited α] [DecidableEq α] (zs : List α) : (Lib.compact zs).length ≤ zs.length := by
 unfold Lib.compact Lib.compactUpTo
 rw [List.length_map]
 have := List.length_filter_le (Lib.keeps zs.toArray) (List.range zs.length)
 rwa [List.length_range] at this
theorem owns_low {w : World} {base base' : Nat} {e : TypeId} {size n : Nat} {v : Value} {xs : List Value} (h : w.ownsRow base e size v n xs) (hb : base' ≤ base) : w.ownsRow base' e size v n xs := by
 refine ⟨h.1, ?_⟩
 rcases h.2 with h2 | ⟨g, cap, cur, e1, h1, h3⟩
 ·exact .inl h2
 ·exact .inr ⟨g, cap, cur, e1, Nat.le_trans hb h1, h3⟩
theorem scells_bl (L : List ByteArray) : scells L = (L.map bl).map encStr := by
 unfold scells
 rw [List.map_map]
 apply List.map_congr_left
 intro x _
 show Value.string x = Value.string (mkB (bl x))
 rw [mk_bl]

end Go.Proofs.YtnknejokneddbaaGreatDoor
/-! Package patch: Needs, by what the sort of numbers does. -/
namespace Go.Proofs.YtnknejokneddbaaGreatDoor
open Go.RowKit Go.Sort

/-- What slices.Sort does to numbers in a row of their own. -/
structure SortU : Prop where
 row : ∀ (blk cap : Nat) (zs : List Int) (w : World), Holds (Value.int .u32) w blk 0 zs.toArray → blk < w.heap.size → zs.length ≤ 1000000 → zs.length ≤ cap →
  Calls Tryz.prog 131 #[.slice (some ⟨blk, 0, none⟩) zs.length cap] w fun e w' => e = .returned (.tuple #[]) ∧ ∃ ys : Array Int, Holds (Value.int .u32) w' blk 0 ys ∧ ys.size = zs.length ∧ ys.toList.Perm zs ∧
   (∀ i j, i < j → j < ys.size → ltI ys[j]! ys[i]! = false) ∧ w.grownBy w' (some blk)
 none : ∀ (w : World), Calls Tryz.prog 131 #[.slice none 0 0] w fun e w' => e = .returned (.tuple #[]) ∧ w.grownBy w' none

theorem compactU_nil (w : World) : Calls Tryz.prog 132 #[.slice none 0 0] w fun e w' => e = .returned (.slice none 0 0) ∧ w' = w := by
 go_enter Tryz.func132, Tryz.ntmps132
 go_wp2
 go_ret
 exact ⟨rfl, rfl⟩
/-- What is left of a sorted row of numbers. -/
theorem compactU_c (blk cap : Nat) (ys : Array Int) (l : List Nat) (w : World) (hH : Holds (Value.int .u32) w blk 0 ys) (hb : blk < w.heap.size) (hn : ys.size ≤ 1000000) (hc : ys.size ≤ cap) (hs : ∀ i j, i < j → j < ys.size → ltI ys[j]! ys[i]! = false) (hm : ys.toList.Perm (l.map fun x : Nat => (x : Int))) :
  Calls Tryz.prog 132 #[.slice (some ⟨blk, 0, none⟩) ys.size cap] w fun e w' => ∃ R : List Nat, e = .returned (.slice (some ⟨blk, 0, none⟩) R.length cap) ∧ NsAt .u32 w' blk w'.heap.size (some ⟨blk, 0, none⟩) R.length R ∧ R.length ≤ ys.size ∧ risR ltN R ∧ (∀ x, x ∈ R ↔ x ∈ l) ∧ w.grownBy w' (some blk) := by
 refine (Tryz.slices_Compact_u32 0 (fun w => Tryz.zeroValue52 w) blk 0 cap ys w hH (by omega) hc).mono ?_
 rintro e w' ⟨rfl, q, rfl⟩
 obtain ⟨hr1, -⟩ := compUp_ris linI ys ys.size hs ys.size (Nat.le_refl _)
 have hmem := compUp_mem ys ys.size
 have hcl : (Lib.compactUpTo ys ys.size).length ≤ ys.size := by
  have := comp_len ys.toList
  unfold Lib.compact at this
  simpa using this
 have hL : (Lib.compactUpTo ys ys.size ++ List.replicate (ys.size - (Lib.compactUpTo ys ys.size).length) 0).toArray.size = ys.size := by simp; omega
 have hh := holds_putRow (Value.int .u32) (Sort.ahead w q) blk 0 ys _ (holds_ahead _ _ _ _ _ _ hH) hL
 have hnn : ∀ x ∈ Lib.compactUpTo ys ys.size, ∃ n : Nat, x = (n : Int) ∧ n ∈ l := fun x hx => by
  obtain ⟨j, hj, e⟩ := (hmem x).1 hx
  have h1 : x ∈ ys.toList := by rw [← e, getElem!_pos _ j hj]; simp
  have h2 := hm.mem_iff.1 h1
  obtain ⟨n, hn, e2⟩ := List.mem_map.1 h2
  exact ⟨n, e2.symm, hn⟩
 refine ⟨(Lib.compactUpTo ys ys.size).map Int.toNat, by rw [List.length_map], ⟨rfl, fun h0 => ⟨blk, 0, rfl, Nat.le_refl _, by simpa using hb, Nat.le_refl _, fun i hi => ?_⟩⟩, by rw [List.length_map]; omega, ?_, fun x => ?_, grownBy_put (Value.int .u32) _⟩
 ·rw [List.length_map] at hi
  rw [(hh i (by rw [hL]; omega)).1, getElem!_pos _ i (by rw [hL]; omega)]
  simp only [List.getElem_toArray]
  rw [List.getElem_append_left hi, List.getElem?_map, List.getElem?_eq_getElem hi]
  obtain ⟨n, e, _⟩ := hnn _ (List.getElem_mem hi)
  simp only [Option.map_some, Option.getD_some, e, Int.toNat_natCast]
 ·refine List.pairwise_map.2 (hr1.imp_of_mem fun {a b} ha hb h => ?_)
  obtain ⟨n, rfl, _⟩ := hnn a ha
  obtain ⟨m, rfl, _⟩ := hnn b hb
  simpa [ltN, ltI] using h
 ·rw [List.mem_map]
  constructor
  ·rintro ⟨y, hy, rfl⟩
   obtain ⟨n, rfl, h⟩ := hnn y hy
   simpa using h
  ·intro hx
   refine ⟨(x : Int), (hmem _).2 ?_, by simp⟩
   have h1 : (x : Int) ∈ ys.toList := hm.mem_iff.2 (List.mem_map.2 ⟨x, hx, rfl⟩)
   obtain ⟨j, hj, e⟩ := List.getElem_of_mem h1
   have hj' : j < ys.size := by simpa using hj
   exact ⟨j, hj', by rw [getElem!_pos _ j hj']; simpa using e⟩

/-- The numbers named, but one's own. -/
def nameF (id : Nat) (l : List Ln) : List Nat := (l.map fun x => x.1).filter fun x => decide (x ≠ id)
theorem nameF_app (id : Nat) (a b : List Ln) : nameF id (a ++ b) = nameF id a ++ nameF id b := by unfold nameF; rw [List.map_append, List.filter_append]
def namesF (id : Nat) (hs : List Hk) : List Nat := hs.flatMap fun h => nameF id (namedL (hEdges h) (hKills h))
theorem namesH_eq (h : Hk) : namesH h = (namedL (hEdges h) (hKills h)).map fun x => x.1 := by
 unfold namesH namedL
 rw [List.map_append, List.map_flatMap]
 rfl
theorem namesF_mem {p : Pt} {x : Nat} : x ∈ namesF (pID p) (pHunks p) ↔ x ∈ namesL p ∧ x ≠ pID p := by
 unfold namesF namesL nameF
 rw [List.mem_flatMap, List.mem_flatMap]
 simp only [List.mem_filter, decide_eq_true_eq]
 constructor
 ·rintro ⟨h, hh, hx, hne⟩
  exact ⟨⟨h, hh, by rw [namesH_eq]; exact hx⟩, hne⟩
 ·rintro ⟨⟨h, hh, hx⟩, hne⟩
  exact ⟨h, hh, by rw [namesH_eq] at hx; exact hx, hne⟩
theorem namesF_succ {id : Nat} {hs : List Hk} {k : Nat} (hk : k < hs.length) : namesF id (hs.take (k + 1)) = namesF id (hs.take k) ++ nameF id (namedL (hEdges (hs[k]?.getD hk0)) (hKills (hs[k]?.getD hk0))) := by
 unfold namesF
 rw [take_snoc hk hk0, List.flatMap_append]
 simp
theorem nameF_succ {id : Nat} {l : List Ln} {j : Nat} (hj : j < l.length) : nameF id (l.take (j + 1)) = nameF id (l.take j) ++ (if (l[j]?.getD (0, 0)).1 = id then [] else [(l[j]?.getD (0, 0)).1]) := by
 rw [take_snoc hj (0, 0), nameF_app]
 congr 1
 unfold nameF
 by_cases h : (l[j]?.getD (0, 0)).1 = id
 ·rw [if_pos h]; simp [h]
 ·rw [if_neg h]; simp [h]

theorem owns_calm {w w' : World} {base : Nat} {e : TypeId} {size n : Nat} {v : Value} {xs : List Value} (h : w.ownsRow base e size v n xs) (hg : w.grownBy w' none) : w'.ownsRow base e size v n xs := h.kept hg (by
 cases v.ownBlock with
 | none => exact .inl rfl
 | some g => exact .inr (by simp))
theorem LnsAt.far {w w' : World} {lo hi n : Nat} {p : Option Addr} {l : List Ln} (h : LnsAt w lo hi p n l) {ob : Option Nat} (hg : w.grownBy w' ob) (hh : hi ≤ w.heap.size) (hf : ∀ g, ob = some g → g < lo ∨ hi ≤ g) : LnsAt w' lo hi p n l :=
 h.stay ⟨hg.size, fun i h1 h2 => hg.block i (by omega) fun e => by
  rcases hf i (by rw [e]) with h3 | h3 <;> omega⟩
theorem ris_nodup {α : Type} {lt : α → α → Bool} (O : Lin lt) {l : List α} (h : risR lt l) : l.Nodup := h.imp fun {a b} h e => by
 rw [e, O.irr] at h
 cases h
theorem holdsU {w : World} {g : Nat} {cur : Array Value} {e : TypeId} {l : List Nat} (hb : w.heap[g]? = some (.cells cur e (0, 0))) (ht : cur.toList.take l.length = ncells .u32 l) : Holds (Value.int .u32) w g 0 (l.map fun x : Nat => (x : Int)).toArray := by
 intro j hj
 have hj' : j < l.length := by simpa using hj
 refine ⟨?_, by simp [World.frozen?, hb]⟩
 have h1 : (cur.toList.take l.length)[j]? = (ncells .u32 l)[j]? := by rw [ht]
 rw [List.getElem?_take_of_lt hj', ncells_get hj'] at h1
 simp only [World.cell?, hb, Nat.zero_add]
 simp only [Option.isSome_none, Bool.false_eq_true, if_false]
 rw [← Array.getElem?_toList, h1, getElem!_pos _ j hj]
 simp [hj']

set_option maxRecDepth 8000 in
set_option maxHeartbeats 8000000 in
theorem needs_c (hS : SortU) (id : Nat) (pd : Option Addr) (nd cd : Nat) (pm : Option Addr) (nm cm : Nat) (px : Option Addr) (nx cx : Nat) (ph : Option Addr) (nh ch : Nat) (lo hi : Nat) (p : Pt) (w : World)
  (h : PtAt w lo hi id pd nd cd pm nm cm px nx cx ph nh ch p) (hb : PBig p) :
  Calls Tryz.prog 91 #[.agg #[.int .u32 (id : Int), .slice pd nd cd, .slice pm nm cm, .slice px nx cx, .slice ph nh ch]] w fun e w' => ∃ q m c, e = .returned (.slice q m c) ∧ NsAt .u32 w' w.heap.size w'.heap.size q m (needsL p) ∧ m ≤ c ∧ (q = none → c = 0) ∧ m ≤ 1000000 ∧ w.grownBy w' none := by
 obtain ⟨i0, hi0, hz0, hz1, hz2⟩ := info_parts infoU32
 have HG := Lib.hid (World.grownBy_alloc w (.cells #[.int .u32 (id : Int), .slice pd nd cd, .slice pm nm cm, .slice px nx cx, .slice ph nh ch] 56) none)
 have HB := Lib.hid (BoxV.new w [.int .u32 (id : Int), .slice pd nd cd, .slice pm nm cm, .slice px nx cx, .slice ph nh ch] 56)
 have H := Lib.hid (h.calm HG.out)
 have HL := Lib.hid h.hunks.len
 have HI := Lib.hid h.num
 have HBB := Lib.hid hb.hs
 have hh1 : nh ≤ 20 := by have := hb.hunks; have := h.hunks.len; omega
 clear h hb
 go_enter Tryz.func91, Tryz.ntmps91
 go_upto_region 1 with fail
 generalize w.alloc _ = w1 at *
 generalize hwg : w.heap.size = g1 at *
 have HWG := Lib.hid hwg
 clear hwg
 have r4 := HB.out.cell (k := 4) rfl
 have hgs := HG.out.size
 go_wp2
 clear r4
 go_loopw [3, 11] (fun v i wr => ∃ (k : Nat) (pre : List Nat), k ≤ nh ∧ i = .int .i64 k ∧ pre.length ≤ k * 3000 ∧ Hid (namesF id ((pHunks p).take k) = pre) ∧ wr.ownsRow w1.heap.size 52 1 v pre.length (ncells .u32 pre) ∧ w1.grownBy wr none) (fun _ i _ => nh - (intOf i).toNat)
 case atStart => exact ⟨0, [], Nat.zero_le _, rfl, Nat.zero_le _, Lib.hid rfl, World.ownsRow_nil _ _ _ _, grownBy_refl _ _⟩
 case round =>
  obtain ⟨k, pre, hk, rfl, hpre, HE, hrow, hgr⟩ := hrel
  have HROW := Lib.hid hrow
  have HGR := Lib.hid hgr
  by_cases hkn : k < nh
  ·have k0 : (0 : Int) ≤ k := by omega
   have k1 : (k : Int) < nh := by omega
   have hkl : k < (pHunks p).length := by rw [HL.out]; exact hkn
   obtain ⟨b, o, rfl, _, _, _, hc⟩ := (H.out.hunks.calm hgr).cell (by omega)
   obtain ⟨pa, na, ca, pe, ne, ce, pk, nk, ck, cx0, cx1, cx2, cx3, hh⟩ := hc k hkn
   have HST := Lib.hid (namesF_succ (id := id) hkl)
   rw [HE.out] at HST
   have hbx := HBB.out _ (get_mem (d := hk0) hkl)
   have HH := Lib.hid hh
   clear hc hrow hgr hh
   generalize (pHunks p)[k]?.getD hk0 = x at *
   have hle := HH.out.edges.len
   have hlk := HH.out.kills.len
   have hga := World.grownBy_alloc wr (.cells #[.string (hPath x), .slice pa na ca, .slice pe ne ce, .slice pk nk ck] 68) none
   have HBX := Lib.hid (BoxV.new wr [.string (hPath x), .slice pa na ca, .slice pe ne ce, .slice pk nk ck] 68)
   have HROW2 := Lib.hid (HROW.out.alloc (.cells #[.string (hPath x), .slice pa na ca, .slice pe ne ce, .slice pk nk ck] 68))
   have HG2 := Lib.hid (grownBy_trans HGR.out hga)
   have HH2 := Lib.hid (HH.out.calm hga)
   have hne9 : ne ≤ 1000 := by omega
   have hnk9 : nk ≤ 1000 := by omega
   clear hga HROW hle hlk hbx
   go_upto_region 5 with fail
   generalize wr.alloc _ = w3 at *
   generalize wr.heap.size = gX at *
   obtain ⟨y0, y1, y2, y3⟩ := HBX.out.four
   have HNL := Lib.hid (namedL_len (hEdges x) (hKills x))
   have hnl0 := HNL.out
   rw [HH2.out.edges.len, HH2.out.kills.len] at hnl0
   have HNC := Lib.hid (named_c (hPath x) pa na ca pe ne ce pk nk ck lo hi lo hi (hEdges x) (hKills x) w3 HH2.out.edges HH2.out.kills HH2.out.zk (by omega) (by omega))
   generalize hPath x = pth at *
   obtain ⟨nl, hnl⟩ : ∃ nl, namedL (hEdges x) (hKills x) = nl := ⟨_, rfl⟩
   rw [hnl] at HNC HST hnl0
   obtain ⟨ll, hll⟩ : ∃ ll, nl.length = ll := ⟨_, rfl⟩
   have HLL := Lib.hid hll
   rw [hll] at hnl0
   clear cx0 cx1 cx2 cx3 HBX HH HH2 HNL hnl hll
   go_wp2_with fail
   refine HNC.out.mono ?_
   rintro e w4 ⟨p9, c9, rfl, hat, _, _, hg4⟩
   have HAT := Lib.hid hat
   rw [HLL.out] at HAT ⊢
   have HG4 := Lib.hid (grownBy_trans HG2.out hg4)
   have HROW4 := Lib.hid (owns_calm HROW2.out hg4)
   have HFAR := Lib.hid (fun g hg => Or.inl (b := w4.heap.size ≤ g) (HROW2.out.lt g hg).2)
   generalize w3.heap.size = lo9 at *
   generalize hh9 : w4.heap.size = hi9 at HFAR HAT
   have HHI := Lib.hid (Nat.le_of_eq hh9.symm)
   clear hh9
   clear hat hg4 y0 y1 y2 y3 HROW2 HG2 HNC
   have hgs4 := HG4.out.size
   go_wp2
   go_loopw [3, 18] (fun v i wr => ∃ (j : Nat) (pre2 : List Nat), j ≤ ll ∧ i = .int .i64 j ∧ pre2.length ≤ k * 3000 + j ∧ Hid (pre ++ nameF id (nl.take j) = pre2) ∧ wr.ownsRow w1.heap.size 52 1 v pre2.length (ncells .u32 pre2) ∧ Hid (∀ g, v.ownBlock = some g → g < lo9 ∨ hi9 ≤ g) ∧ Hid (LnsAt wr lo9 hi9 p9 ll nl) ∧ hi9 ≤ wr.heap.size ∧ w1.grownBy wr none) (fun _ i _ => ll - (intOf i).toNat)
   case atStart => exact ⟨0, pre, Nat.zero_le _, rfl, by omega, Lib.hid (by simp [nameF]), HROW4.out, HFAR, HAT, HHI.out, HG4.out⟩
   case round =>
    clear HROW4 HFAR HAT HHI
    obtain ⟨j, pre2, hj, rfl, hpre2, HE2, hrow2, HFR, HAT2, hhi9, hgr2⟩ := hrel
    have HROW := Lib.hid hrow2
    have HGR2 := Lib.hid hgr2
    by_cases hjn : j < ll
    ·have j0 : (0 : Int) ≤ j := by omega
     have j1 : (j : Int) < ll := by omega
     obtain ⟨b', o', rfl, _, _, _, hc'⟩ := HAT2.out.cell (by omega)
     obtain ⟨cx0, cx1⟩ := hc' j hjn
     have hst2 := nameF_succ (id := id) (show j < nl.length by rw [HLL.out]; exact hjn)
     have HST2 : Hid (pre ++ nameF id (nl.take (j + 1)) = pre2 ++ (if (nl[j]?.getD (0, 0)).1 = id then [] else [(nl[j]?.getD (0, 0)).1])) := Lib.hid (by rw [hst2, ← List.append_assoc, HE2.out])
     have hbx0 := (HB.out.calm hgr2).cell (k := 0) rfl
     clear hc' hrow2 hgr2 hst2
     generalize nl[j]?.getD (0, 0) = y at *
     obtain ⟨y1, y2⟩ := y
     simp only at cx0 cx1
     have hga := World.grownBy_alloc wr (.cells #[.int .u32 (y1 : Int), .int .i64 y2] 60) none
     have HBY := Lib.hid (BoxV.new wr [.int .u32 (y1 : Int), .int .i64 y2] 60)
     have HROW2 := Lib.hid (HROW.out.alloc (.cells #[.int .u32 (y1 : Int), .int .i64 y2] 60))
     have HG5 := Lib.hid (grownBy_trans HGR2.out hga)
     have HAT5 := Lib.hid (HAT2.out.calm hga)
     have hhi5 : hi9 ≤ (wr.alloc (.cells #[.int .u32 (y1 : Int), .int .i64 y2] 60)).heap.size := by have := hga.size; omega
     have hbx1 := cell_calmG hga hbx0
     clear hga HROW hbx0
     go_upto_region 8 with fail
     generalize wr.alloc _ = w5 at *
     generalize wr.heap.size = gY at *
     have hg5s := HG5.out.size
     have z0 := HBY.out.cell (k := 0) rfl
     have z1 := HBY.out.cell (k := 1) rfl
     clear cx0 cx1 HBY
     by_cases hyi : y1 = id
     ·have e1 : ((y1 : Int) != (id : Int)) = false := by rw [hyi]; simp
      have HN : Hid (pre ++ nameF id (nl.take (j + 1)) = pre2) := Lib.hid (by rw [HST2.out, if_pos hyi, List.append_nil])
      clear hyi HST2
      go_wp2
      exact ⟨⟨j + 1, pre2, by omega, by go_num, by omega, HN, HROW2.out, HFR, HAT5, hhi5, HG5.out⟩, by simp [intOf]; omega⟩
     ·have e1 : ((y1 : Int) != (id : Int)) = true := by simp; omega
      have HN : Hid (pre ++ nameF id (nl.take (j + 1)) = pre2 ++ [y1]) := Lib.hid (by rw [HST2.out, if_neg hyi])
      clear hyi HST2
      have hga2 := World.grownBy_alloc w5 (.cells #[.int .u32 (y1 : Int)] 52) none
      have HAT6 := Lib.hid (HAT5.out.calm hga2)
      have hhi6 : hi9 ≤ (w5.alloc (.cells #[.int .u32 (y1 : Int)] 52)).heap.size := by have := hga2.size; omega
      have HHI6 := Lib.hid hhi6
      have HHI5 := Lib.hid hhi5
      clear hga2 hhi6
      go_wp2_with (at_builtin; refine wpList_append_lies _ rfl _ _ 53 rfl w1.heap.size 52 i0 (.int .u32 0) 1 4 Tryz.underlying53 hi0 hz0 hz1 hz2 rfl (by decide) _ _ _ rfl (HROW2.out.alloc _) ⟨w5.heap.size, 0, none⟩ 1 1 [.int .u32 (y1 : Int)] rfl rfl box_src (by simp [Value.oneCell']) (by decide) (by unfold maxLen; omega) (by omega) (by simp; omega) _ rfl ?_; intro g6 c6 w6 hrow6 hgrow6 hlies hg6; have HO := Lib.hid hrow6; have HGA := Lib.hid (grownBy_app HG5.out HROW2.out hgrow6); have HAT7 := Lib.hid (HAT6.out.far hgrow6 HHI6.out HFR.out); have HF7 := Lib.hid (show g6 < lo9 ∨ hi9 ≤ g6 from hlies.elim (fun h => HFR.out g6 h) (fun h => Or.inr (by rw [h]; exact HHI6.out))); have hhi7 := Nat.le_trans HHI6.out hgrow6.size; clear hrow6 hgrow6 hlies)
      exact ⟨⟨j + 1, pre2 ++ [y1], by omega, by go_num, by simp; omega, HN, by rw [ncells_app, List.length_append]; exact HO.out, Lib.hid (fun g hg => by simp [Value.ownBlock] at hg; subst hg; exact HF7.out), HAT7, hhi7, HGA.out⟩, by simp [intOf]; omega⟩
    ·obtain rfl : ll = j := by omega
     have j1 : ¬ ((ll : Int) < ll) := by omega
     have HN : Hid (namesF id ((pHunks p).take (k + 1)) = pre2) := Lib.hid (by
      have := HE2.out
      rw [List.take_of_length_le (by rw [HLL.out]; exact Nat.le_refl _)] at this
      rw [HST.out, this])
     clear hrow2 hgr2
     go_wp2
     exact ⟨⟨k + 1, pre2, by omega, by go_num, by omega, HN, HROW.out, HGR2.out⟩, by simp [intOf]; omega⟩
  ·obtain rfl : nh = k := by omega
   have k1 : ¬ ((nh : Int) < nh) := by omega
   have HN : Hid (namesF id (pHunks p) = pre) := Lib.hid (by have := HE.out; rwa [List.take_of_length_le (by rw [HL.out]; exact Nat.le_refl _)] at this)
   have HM : Hid (∀ x, x ∈ pre ↔ x ∈ namesL p ∧ x ≠ pID p) := Lib.hid fun x => by rw [← HN.out, ← HI.out]; exact namesF_mem
   have hpl : pre.length ≤ 60000 := by omega
   rcases HROW.out.2 with ⟨rfl, h0⟩ | ⟨g, cap, cur, rfl, hb, hg, hle, h2, h3, h4⟩
   ·have hp0 : pre = [] := List.eq_nil_of_length_eq_zero h0
    subst hp0
    have HNE : Hid ([] = needsL p) := Lib.hid (needsL_uniq List.Pairwise.nil HM.out)
    clear hrow hgr HROW HE HN
    go_wp2_with fail
    refine (hS.none _).mono ?_
    rintro e w5 ⟨rfl, hg5⟩
    have HG5 := Lib.hid (grownBy_trans HG.out (grownBy_trans HGR.out hg5))
    clear hg5
    go_wp2_with fail
    refine (compactU_nil _).mono ?_
    rintro e w6 ⟨rfl, h9⟩
    subst w6
    go_wp2
    go_ret
    refine ⟨none, 0, 0, rfl, ?_, Nat.le_refl _, fun _ => rfl, by omega, HG5.out⟩
    rw [← HNE.out]
    exact nsAt_nil _ _ _ _
   ·have hzl : (pre.map fun x : Nat => (x : Int)).length = pre.length := List.length_map _
    have hgl : g < wr.heap.size := (Array.getElem?_eq_some_iff.1 hg).1
    have HC := hS.row g cap (pre.map fun x : Nat => (x : Int)) wr (holdsU hg (by simpa using h4)) hgl (by omega) (by omega)
    rw [hzl] at HC
    have HSC := Lib.hid HC
    have HGB := Lib.hid hb
    have hgs1 := HG.out.size
    clear hrow hgr HROW HE HN HC hg h2 h3 h4 hzl
    go_wp2_with fail
    refine HSC.out.mono ?_
    rintro e w5 ⟨rfl, ys, hys, hsz, hperm, hsrt, hg5⟩
    have hgl5 : g < w5.heap.size := Nat.lt_of_lt_of_le hgl hg5.size
    have HC := Lib.hid (compactU_c g cap ys pre w5 hys hgl5 (by omega) (by omega) hsrt hperm)
    rw [hsz] at HC
    have hle9 := hle
    have HG5 := Lib.hid (grownBy_new HGR.out hg5 hb)
    clear hys hsz hperm hsrt hg5 HSC
    go_wp2_with fail
    refine HC.out.mono ?_
    rintro e w6 ⟨R, rfl, hat, hrl, hris, hmem, hg6⟩
    have HRN : Hid (R = needsL p) := Lib.hid (needsL_uniq hris fun x => by rw [hmem]; exact HM.out x)
    have HG6 := Lib.hid (grownBy_new HG5.out hg6 hb)
    have HAT := Lib.hid hat
    have HRB : Hid (R.length ≤ 1000000) := Lib.hid (by omega)
    have hrl : R.length ≤ cap := by omega
    clear hat hris hmem hg6 HC
    go_wp2
    go_ret
    refine ⟨some ⟨g, 0, none⟩, R.length, cap, rfl, ?_, hrl, fun h => (by cases h), HRB.out, grownBy_trans HG.out HG6.out⟩
    rw [← HRN.out]
    exact ⟨HAT.out.len, fun hn => by
     obtain ⟨b, off, e, h1, h2, h3, hc⟩ := HAT.out.cell hn
     exact ⟨b, off, e, by have := HWG.out; have := HGB.out; omega, h2, h3, hc⟩⟩

end Go.Proofs.YtnknejokneddbaaGreatDoor
