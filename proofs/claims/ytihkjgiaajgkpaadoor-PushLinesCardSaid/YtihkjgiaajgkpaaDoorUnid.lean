/- Package union: the contracts of Places, Classes. -/
import Derived.Test.YtihkjgiaajgkpaaDoorUnic
namespace Go.Proofs.YtihkjgiaajgkpaaDoor
open Go.RowKit

/-- What hands back a row of numbers of its own. -/
def RowIPost (l : List Nat) (w : World) (e : Ending) (w' : World) : Prop := ∃ g, e = .returned (.slice (some ⟨g, 0, none⟩) l.length l.length) ∧ RowI w' w.heap.size g l.length l ∧ w.grownBy w' none

theorem places_start (L : List Nat) (n : Nat) (hl : L.length = n) (hn : n ≤ 1000) (w : World) : Hid (RowI (w.alloc (.cells (madeCells #[.int .i64 0] n) 3)) w.heap.size w.heap.size n (plK L 0)) ∧ Hid (w.grownBy (w.alloc (.cells (madeCells #[.int .i64 0] n) 3)) none) := by
  refine ⟨Lib.hid ?_, Lib.hid (World.grownBy_alloc _ _ _)⟩
  have h := heap_alloc_new w (.cells (madeCells #[.int .i64 0] n) 3)
  rw [made_iv] at h
  have h2 := plK_zero L
  rw [hl] at h2
  rw [← h2] at h
  have := rowI_of h (Nat.le_refl _) (by rw [h2]; simp; omega)
  rw [made_iv, ← h2]
  have e : (plK L 0).length = n := by rw [h2]; simp
  rw [e] at this
  exact this

set_option maxRecDepth 20000 in
set_option maxHeartbeats 2000000 in
theorem placesU_c (lo hi b : Nat) (L : List Nat) (w : World) (h : IsUn w lo hi b L) : Calls Tryd.prog 102 #[.pointer (some ⟨b, 0, none⟩)] w (RowIPost (placesL L) w) := by
  obtain ⟨p, c, F, hu, hd, hL⟩ := h
  have hc := hu.cell
  have hsm := hu.small
  have HU := Lib.hid hu
  have HD := Lib.hid hd
  have HLE := Lib.hid hL
  have HLL : Hid (L.length = F.length) := Lib.hid (by rw [← hL, rootL_len])
  have HROW := Lib.hid hu.row
  generalize hN : F.length = n at *
  have HN := Lib.hid hN
  have HIS := Lib.hid (rootL_is hd)
  rw [hL] at HIS
  clear hu hd hN hL
  have hmk := run_make_row' (P := Tryd.prog) 26 3 (.int .i64 0) 8 Tryd.underlying26 Tryd.infoZ3 rfl .i64 .i64 n (by omega) (by omega) w
  obtain ⟨HR0, HG0⟩ := places_start L n HLL.out hsm w
  have hc2 : (w.alloc (.cells (madeCells #[.int .i64 0] n) 3)).cell? ⟨b, 0, none⟩ = some (.slice p n c) := by
    have := (HU.out.calm HG0.out).cell
    rwa [HN.out] at this
  go_enter Tryd.func102, Tryd.ntmps102
  go_wp2
  generalize hgb : w.heap.size = gb at *
  have HGB := Lib.hid hgb
  clear hgb hc2
  go_loopw [4, 18] (fun q i wr => ∃ k : Nat, k ≤ n ∧ i = .int .i64 k ∧ q = .int .i64 (cntR L k) ∧ RowI wr gb gb n (plK L k) ∧ w.grownBy wr none) (fun _ i _ => n - (intOf i).toNat)
  case atStart => exact ⟨0, Nat.zero_le _, rfl, rfl, HR0.out, HG0.out⟩
  case round =>
    obtain ⟨k, hk, rfl, rfl, hrow, hgr⟩ := hrel
    by_cases hkn : k < n
    · have k0 : (0 : Int) ≤ k := by omega
      have k1 : (k : Int) < n := by omega
      have hcn : (cntR L k : Int) ≤ 1000 := by have := cntR_le L k; omega
      obtain ⟨g, rfl, hgh, hrow2⟩ := HROW.out (by omega)
      have hx := (hrow2.calm hgr).cell (j := k) (nx_get (by rw [HN.out]; exact hkn))
      have hle := HD.out k (by rw [HN.out]; exact hkn)
      have hfz := hrow.free k
      have hkl : k < (plK L k).length := by rw [plK_len (by rw [HLL.out]; exact hk), HLL.out]; exact hkn
      have hcur := hrow.cell (j := k) (nx_get hkl)
      have HST := Lib.hid (plK_succ (L := L) (k := k) (by rw [HLL.out]; exact hkn))
      have HSET := Lib.hid (fun v => hrow.set (j := k) v)
      have HGS := Lib.hid (fun v : Nat => grownBy_new hgr (grownBy_setCell wr ⟨gb, k, none⟩ (.int .i64 (v : Int))) (by rw [HGB.out]; exact Nat.le_refl _))
      have hcs := cntR_succ L k
      by_cases he : nx F k = k
      · have hLk : nx L k = k := by rw [← HLE.out, nx_rootL (by rw [HN.out]; exact hkn)]; exact root_of_fix he
        have HPL := Lib.hid (plc_root hLk)
        rw [if_pos hLk] at hcs
        have HCS := Lib.hid hcs
        rw [he] at hx
        clear hcs hLk he hle hrow hgr hrow2 HR0 HG0 hkl HROW
        generalize nx (plK L k) k = v at *
        generalize cntR L k = q at *
        go_wp2
        refine ⟨⟨k + 1, by omega, by go_num, by rw [HCS.out]; go_num, ?_, ?_⟩, by simp [intOf]; omega⟩
        · rw [← HST.out, HPL.out]
          exact HSET.out _
        · exact HGS.out _
      · have hlt : nx F k < k := by omega
        have hroot : nx L k = root F (nx F k) := by rw [← HLE.out, nx_rootL (by rw [HN.out]; exact hkn)]; exact root_step hlt
        have hLk : ¬ nx L k = k := by have := root_le F (nx F k); omega
        have hpl : plc6 L (nx F k) = plc6 L k := by
          unfold plc6
          rw [hroot, ← HLE.out, nx_rootL (by rw [HN.out]; omega)]
        have hy := hrow.cell (j := nx F k) (nx_get (by omega))
        rw [plK_get hlt, hpl] at hy
        rw [if_neg hLk, Nat.add_zero] at hcs
        have HCS := Lib.hid hcs
        have hne : ((nx F k : Int) == (k : Int)) = false := by simp; omega
        have n0 : (0 : Int) ≤ nx F k := by omega
        have n1 : (nx F k : Int) < n := by omega
        clear hcs hLk he hle hrow hgr hrow2 HR0 HG0 hkl HROW hroot hpl
        generalize nx (plK L k) k = v at *
        generalize nx F k = m at *
        generalize cntR L k = q at *
        have HST2 := HST
        have HS2 := Lib.hid (HSET.out (plc6 L k))
        have HG2 := Lib.hid (HGS.out (plc6 L k))
        clear HST HSET HGS
        generalize plc6 L k = u at *
        go_wp2
        refine ⟨⟨k + 1, by omega, by go_num, by rw [HCS.out]; rfl, ?_, ?_⟩, by simp [intOf]; omega⟩
        · rw [← HST2.out]
          exact HS2.out
        · exact HG2.out
    · obtain rfl : k = n := by omega
      have HRW := Lib.hid hrow
      have HGR := Lib.hid hgr
      clear hrow hgr
      go_wp2
      go_ret
      have hpl := placesL_len L
      refine ⟨gb, by rw [hpl, HLL.out]; rfl, ?_, HGR.out⟩
      have := HRW.out
      rw [← HLL.out, plK_end] at this
      rw [hpl, HGB.out]
      exact this

/-- Being one, as a relation. -/
def eqC (L : List Nat) (a b : Nat) : Bool := decide (nx L a = nx L b)
theorem eqC_trans (L : List Nat) : Trans (eqC L) := by
  intro a b c h1 h2
  unfold eqC at *
  simp only [decide_eq_true_eq] at *
  exact h1.trans h2
theorem eqC_lead {L : List Nat} (h : isL L) {a : Nat} (ha : a < L.length) : leadC (eqC L) a = decide (nx L a = a) := by
  by_cases e : nx L a = a
  · rw [decide_eq_true e, leadC_iff]
    intro b hb
    have := h.le b (by omega)
    simp only [oneC, eqC, Bool.or_eq_false_iff, decide_eq_false_iff_not, Bool.and_eq_false_iff]
    exact ⟨by omega, .inl (by omega)⟩
  · rw [decide_eq_false e, Bool.eq_false_iff]
    intro hl
    rw [leadC_iff] at hl
    have h1 := h.le a ha
    have h2 := hl (nx L a) (by omega)
    have h3 := h.fix a ha
    rw [Bool.eq_false_iff] at h2
    apply h2
    rw [oneC_iff]
    right
    simp [eqC, h3]
theorem leads_cnt {L : List Nat} (h : isL L) {a : Nat} (ha : a ≤ L.length) : leadsC (eqC L) a = (List.range a).filter (fun j => decide (nx L j = j)) := by
  unfold leadsC
  apply List.filter_congr
  intro x hx
  exact eqC_lead h (by have := List.mem_range.1 hx; omega)
theorem circ_cnt {L : List Nat} (h : isL L) {a : Nat} (ha : a ≤ L.length) : (circL (eqC L) a).length = cntR L a := by
  rw [circ_length, leads_cnt h ha]
  rfl
theorem leads_at {L : List Nat} (h : isL L) {a m : Nat} (ha : a ≤ L.length) (hm : m < a) (hf : nx L m = m) : (leadsC (eqC L) a)[cntR L m]? = some m := by
  rw [leads_cnt h ha]
  induction a with
  | zero => omega
  | succ a ih =>
    rw [List.range_succ, List.filter_append]
    by_cases e : m = a
    · subst e
      rw [List.getElem?_append_right (by unfold cntR; exact Nat.le_refl _)]
      unfold cntR
      rw [Nat.sub_self]
      simp [hf]
    · have h1 := ih (by omega) (by omega)
      rw [List.getElem?_append_left (List.getElem?_eq_some_iff.1 h1).1]
      exact h1
theorem circ_at {L : List Nat} (h : isL L) {a e : Nat} (ha : a ≤ L.length) (hm : nx L e < a) (he : e < L.length) : (circL (eqC L) a)[plc6 L e]? = some (clsC (eqC L) a (nx L e)) := by
  unfold circL
  rw [List.getElem?_map]
  unfold plc6
  rw [leads_at h ha hm (h.fix e he)]
  rfl
/-- One element more: into its class, or a class of its own. -/
theorem circ_old {L : List Nat} (h : isL L) {e : Nat} (he : e < L.length) (hlt : nx L e < e) : circL (eqC L) (e + 1) = (circL (eqC L) e).set (plc6 L e) (clsC (eqC L) e (nx L e) ++ [e]) := by
  have hf := h.fix e he
  refine circ_hit (eqC_trans L) (circ_at h (by omega) hlt he) (leads_at h (by omega) hlt hf) ?_
  simp [eqC, hf]
theorem circ_new {L : List Nat} (h : isL L) {e : Nat} (he : e < L.length) (heq : nx L e = e) : circL (eqC L) (e + 1) = circL (eqC L) e ++ [[e]] := by
  refine circ_miss (eqC_trans L) ?_
  intro k x hx hc
  have hm := mem_leads.1 (List.mem_of_getElem? hx)
  have := h.le x (by omega)
  have h2 := hc.1
  unfold eqC at h2
  simp only [decide_eq_true_eq] at h2
  omega

/-- The classes so far, in memory of their own. -/
def IsGrid6 (w : World) (base : Nat) (v : Value) (ls : List (List Nat)) : Prop := ∃ ib ic, Grid w base v ls ib ic
def GridPost6 (ls : List (List Nat)) (w : World) (e : Ending) (w' : World) : Prop := ∃ v, e = .returned v ∧ IsGrid6 w' w.heap.size v ls ∧ w.grownBy w' none

theorem Grid.down {w : World} {base base' : Nat} {v : Value} {ls : List (List Nat)} {ib ic : Nat → Nat} (h : Grid w base v ls ib ic) (hb : base' ≤ base) : Grid w base' v ls ib ic :=
  ⟨ownsRow_down h.out hb, fun k l hl => (h.row k l hl).mono hb, h.ap⟩
/-- One cell of a row of its own set. -/
theorem ownsRow_setAt {w : World} {base g n cap k : Nat} {e : TypeId} {xs : List Value} (h : w.ownsRow base e 1 (.slice (some ⟨g, 0, none⟩) n cap) n xs) (v : Value) : (w.setCell ⟨g, k, none⟩ v).ownsRow base e 1 (.slice (some ⟨g, 0, none⟩) n cap) n (xs.set k v) := by
  obtain ⟨h0, h⟩ := h
  refine ⟨by simpa using h0, ?_⟩
  rcases h with ⟨hv, _⟩ | ⟨g', cap', cur, hv, h1, hb, h2, h3, h4, h5⟩
  · cases hv
  · cases hv
    refine .inr ⟨g, cap, cur.setIfInBounds k v, rfl, h1, heap_setCell_same w g k cur _ _ hb, h2, h3, by simpa using h4, ?_⟩
    have e1 : (cur.setIfInBounds k v).toList = cur.toList.set k v := by simp
    rw [e1, List.take_set, h5]
theorem ownsRow_free {w : World} {base g n cap : Nat} {e : TypeId} {xs : List Value} (h : w.ownsRow base e 1 (.slice (some ⟨g, 0, none⟩) n cap) n xs) (k : Nat) : w.frozen? ⟨g, k, none⟩ = false := by
  rcases h.2 with ⟨hv, _⟩ | ⟨g', cap', cur, hv, h1, hb, _⟩
  · cases hv
  · cases hv
    simp [World.frozen?, hb]
theorem ownsRow_at {w : World} {base g n cap k : Nat} {e : TypeId} {xs : List Value} {x : Value} (h : w.ownsRow base e 1 (.slice (some ⟨g, 0, none⟩) n cap) n xs) (hx : xs[k]? = some x) : w.cell? ⟨g, k, none⟩ = some x := by
  have := World.ownsRow.cells h (g := g) rfl k x hx
  rwa [add_blk] at this

set_option maxRecDepth 20000 in
set_option maxHeartbeats 4000000 in
theorem classesU_c (lo hi b : Nat) (L : List Nat) (w : World) (h : IsUn w lo hi b L) : Calls Tryd.prog 73 #[.pointer (some ⟨b, 0, none⟩)] w (GridPost6 (circL (eqC L) L.length) w) := by
  obtain ⟨i0, hi0, hz0, hz1, hz2⟩ := info_parts Tryd.infoI3
  obtain ⟨j0, hj0, hy0, hy1, hy2⟩ := info_parts Tryd.infoI26
  obtain ⟨his, hsm⟩ := h.is
  have H := Lib.hid h
  have HIS := Lib.hid his
  clear h his
  have HPL := Lib.hid (placesL_len L)
  generalize hN : L.length = n at *
  have HN := Lib.hid hN
  clear hN
  go_enter Tryd.func73, Tryd.ntmps73
  go_wp2_with fail
  refine (placesU_c lo hi b L _ H.out).mono ?_
  rintro e w1 ⟨pg, rfl, hrowp, hg1⟩
  rw [HPL.out]
  rw [HPL.out] at hrowp
  have HRP := Lib.hid hrowp
  have HG1 := Lib.hid hg1
  clear hrowp hg1
  go_wp2
  go_loopw [3, 9] (fun v i wr => ∃ a : Nat, a ≤ n ∧ i = .int .i64 a ∧ IsGrid6 wr w1.heap.size v (circL (eqC L) a) ∧ w1.grownBy wr none) (fun _ i _ => n - (intOf i).toNat)
  case atStart => exact ⟨0, Nat.zero_le _, rfl, ⟨fun _ => 0, fun _ => 0, grid_nil _ _ _ _⟩, grownBy_refl _ _⟩
  case round =>
    obtain ⟨a, ha, rfl, ⟨ib, ic, hgrid⟩, hgr⟩ := hrel
    obtain ⟨qg, cap, rfl, hqg⟩ := hgrid.slice
    have hlen := circ_cnt HIS.out (a := a) (by rw [HN.out]; exact ha)
    have hcl := cntR_le L a
    by_cases han : a < n
    · have a0 : (0 : Int) ≤ a := by omega
      have a1 : (a : Int) < n := by omega
      have hpc := (HRP.out.calm hgr).cell (j := a) (nx_get (by rw [placesL_len, HN.out]; exact han))
      rw [nx_places (by rw [HN.out]; exact han)] at hpc
      by_cases hold : nx L a < a
      · -- into a class that is there
        have HST := Lib.hid (circ_old HIS.out (by rw [HN.out]; exact han) hold)
        have hat := circ_at HIS.out (a := a) (e := a) (by rw [HN.out]; exact ha) hold (by rw [HN.out]; exact han)
        have hplt : plc6 L a < (circL (eqC L) a).length := (List.getElem?_eq_some_iff.1 hat).1
        obtain ⟨g, rfl, hgb, hgl⟩ := hqg (plc6 L a) hplt
        have hhead := hgrid.head hat
        have hrw := hgrid.row _ _ hat
        have hle := cls_le (eqC L) a (nx L a)
        have HGN : Hid (some g ≠ (Value.slice (some ⟨ib (plc6 L a), 0, none⟩) (clsC (eqC L) a (nx L a)).length (ic (plc6 L a))).ownBlock) := Lib.hid (by
          have := hgrid.out_ne hplt
          simpa [Value.ownBlock] using this)
        have hsz := hgr.size
        have HCA : Hid (∀ o, (wr.alloc o).cell? ⟨g, plc6 L a, none⟩ = some (.slice (some ⟨ib (plc6 L a), 0, none⟩) (clsC (eqC L) a (nx L a)).length (ic (plc6 L a)))) := Lib.hid fun o => (World.cell?_of_block (a := ⟨g, plc6 L a, none⟩) ((World.grownBy_alloc wr o none).block g hgl (by simp))).trans hhead
        have HFA : Hid (∀ o, (wr.alloc o).frozen? ⟨g, plc6 L a, none⟩ = false) := Lib.hid fun o => (World.frozen?_of_block (a := ⟨g, plc6 L a, none⟩) ((World.grownBy_alloc wr o none).block g hgl (by simp))).trans (hgrid.free (plc6 L a))
        rw [hlen] at hplt
        have p0 : (0 : Int) ≤ plc6 L a := by omega
        have p1 : (plc6 L a : Int) < cntR L a := by omega
        have hne : ((plc6 L a : Int) == (cntR L a : Int)) = false := by simp; omega
        have HGRID := Lib.hid hgrid
        have HGR := Lib.hid hgr
        have HRW := Lib.hid hrw
        have HAT := Lib.hid hat
        have HLEN := Lib.hid hlen
        clear hgrid hgr hrw hat hqg hold
        rw [HLEN.out]
        clear hlen
        generalize clsC (eqC L) a (nx L a) = l at *
        generalize plc6 L a = k at *
        generalize cntR L a = m at *
        go_wp2_with (at_builtin; refine wpList_append_lies _ rfl _ _ 26 rfl w1.heap.size 3 i0 (.int .i64 0) 1 8 Tryd.underlying26 hi0 hz0 hz1 hz2 rfl (by decide) _ _ _ rfl (HRW.out.alloc _) ⟨wr.heap.size, 0, none⟩ 1 1 [.int .i64 a] rfl rfl (World.news_of_block (heap_alloc_new wr _)) (by simp [Value.oneCell']) (by decide) (by unfold maxLen; omega) (by omega) (by simp; omega) _ rfl ?_; intro g' cap' w2 hown' hgrow hor hlt'; have c2 := World.grownBy.cell hgrow (a := ⟨g, k, none⟩) (HCA.out _) HGN.out; have f2 := (World.grownBy.frozen_far hgrow ⟨g, k, none⟩ (by simp; omega) HGN.out).trans (HFA.out _); have HOWN := Lib.hid hown'; have HGROW := Lib.hid hgrow; have HOR := Lib.hid hor; clear hown' hgrow hor)
        refine ⟨⟨a + 1, by omega, by go_num, ?_⟩, by simp [intOf]; omega⟩
        have hgk : wr.grownBy w2 (some (ib k)) := grownBy_trans (World.grownBy_alloc wr _ _) HGROW.out
        have hrow : RowI w2 w1.heap.size g' cap' (l ++ [a]) := by
          have := HOWN.out
          unfold RowI
          simpa [iv] using this
        have hne : g' = ib k ∨ wr.heap.size ≤ g' := by
          rcases HOR.out with e | e
          · left; exact (Option.some.inj (show some (ib k) = some g' from e)).symm
          · right; rw [e]; simp
        have hgd : Grid wr w1.heap.size (.slice (some ⟨g, 0, none⟩) m cap) (circL (eqC L) a) ib ic := by
          have := HGRID.out
          rwa [HLEN.out] at this
        obtain ⟨r1, r2⟩ := hgd.grow HAT.out hgk hrow hne
        rw [List.length_append, List.length_singleton] at r1 r2
        refine ⟨⟨_, _, by rw [HST.out]; exact r1⟩, ?_⟩
        have hbk := HRW.out.lt.1
        exact grownBy_new (grownBy_new HGR.out hgk hbk) r2 hgb
      · -- a class of its own
        have heq : nx L a = a := by have := HIS.out.le a (by rw [HN.out]; exact han); omega
        have HST := Lib.hid (circ_new HIS.out (by rw [HN.out]; exact han) heq)
        have hpl : plc6 L a = cntR L a := plc_root heq
        rw [hpl] at hpc
        have hsz := hgr.size
        have HGRID := Lib.hid hgrid
        have HGR := Lib.hid hgr
        have HLEN := Lib.hid hlen
        have HO : Hid (wr.ownsRow w1.heap.size 26 1 (.slice qg (cntR L a) cap) (cntR L a) (hdr ib ic (circL (eqC L) a))) := Lib.hid (by have := hgrid.out; rwa [hlen] at this)
        clear hgrid hgr hqg hold hpl heq
        rw [HLEN.out]
        clear hlen
        generalize cntR L a = m at *
        have hmm : ((m : Int) == (m : Int)) = true := by simp
        have m0 : (0 : Int) ≤ m := by omega
        have m1 : (m : Int) < ((m + 1 : Nat) : Int) := by omega
        have HHL : Hid ((hdr ib ic (circL (eqC L) a)).length = m) := Lib.hid (by rw [hdr_len, HLEN.out])
        go_wp2_with (at_builtin; first
          | (refine wpList_append_lies _ rfl _ _ 103 rfl w1.heap.size 26 j0 (.slice none 0 0) 1 24 Tryd.underlying103 hj0 hy0 hy1 hy2 rfl (by decide) _ _ _ rfl (HO.out.alloc _) ⟨wr.heap.size, 0, none⟩ 1 1 [.slice none 0 0] rfl rfl (World.news_of_block (heap_alloc_new wr _)) (by simp [Value.oneCell']) (by decide) (by unfold maxLen; omega) (by omega) (by simp; omega) _ rfl ?_
             intro g' cap' w2 hown' hgrow hor hlt'
             have c2 := ownsRow_at (k := m) (x := .slice none 0 0) hown' (by rw [List.getElem?_append_right (by rw [HHL.out]; exact Nat.le_refl _), HHL.out, Nat.sub_self]; rfl)
             have hgl2 : g' < w2.heap.size := (World.ownsRow.lt hown' g' rfl).2
             have HC2A : Hid (∀ o, (w2.alloc o).cell? ⟨g', m, none⟩ = some (.slice none 0 0)) := Lib.hid fun o => (World.cell?_of_block (a := ⟨g', m, none⟩) ((World.grownBy_alloc w2 o none).block g' hgl2 (by simp))).trans c2
             have HF2A : Hid (∀ o, (w2.alloc o).frozen? ⟨g', m, none⟩ = false) := Lib.hid fun o => (World.frozen?_of_block (a := ⟨g', m, none⟩) ((World.grownBy_alloc w2 o none).block g' hgl2 (by simp))).trans (ownsRow_free hown' m)
             have hsz2 : w1.heap.size ≤ w2.heap.size := Nat.le_trans hsz (Nat.le_trans (by simp) hgrow.size)
             have HOWN := Lib.hid hown'
             have HGROW := Lib.hid hgrow
             have HOR := Lib.hid hor
             clear hown' hgrow hor)
          | (refine wpList_append_lies _ rfl _ _ 26 rfl w1.heap.size 3 i0 (.int .i64 0) 1 8 Tryd.underlying26 hi0 hz0 hz1 hz2 rfl (by decide) (.slice none 0 0) 0 [] rfl (World.ownsRow_nil _ _ _ _) ⟨w2.heap.size, 0, none⟩ 1 1 [.int .i64 a] rfl rfl (World.news_of_block (heap_alloc_new w2 _)) (by simp [Value.oneCell']) (by decide) (by unfold maxLen; omega) (by omega) (by simp; omega) _ rfl ?_
             intro g3 cap3 w3 hown3 hgrow3 hor3 hlt3
             have c3 := World.grownBy.cell hgrow3 (a := ⟨g', m, none⟩) (HC2A.out _) (by simp [Value.ownBlock])
             have f3 := (World.grownBy.frozen_far hgrow3 ⟨g', m, none⟩ (by simp; omega) (by simp [Value.ownBlock])).trans (HF2A.out _)
             have HOWN3 := Lib.hid hown3
             have HGROW3 := Lib.hid hgrow3
             have HOR3 := Lib.hid hor3
             clear hown3 hgrow3 hor3))
        refine ⟨⟨a + 1, by omega, by go_num, ?_⟩, by simp [intOf]; omega⟩
        have hga : wr.grownBy (wr.alloc (.cells #[.slice none 0 0] 26)) none := World.grownBy_alloc wr _ none
        have hgb3 : w2.grownBy w3 none := grownBy_trans (World.grownBy_alloc w2 _ none) (by simpa [Value.ownBlock] using HGROW3.out)
        have hown3 : w3.ownsRow w1.heap.size 26 1 (.slice (some ⟨g', 0, none⟩) (m + 1) cap') (m + 1) (hdr ib ic (circL (eqC L) a) ++ [.slice none 0 0]) := ownsRow_calm HOWN.out hgb3
        have hset := ownsRow_setAt (k := m) hown3 (.slice (some ⟨g3, 0, none⟩) 1 cap3)
        rw [List.set_append_right _ _ (by rw [HHL.out]; exact Nat.le_refl _), HHL.out, Nat.sub_self, List.set_cons_zero] at hset
        have hgw : w3.grownBy (w3.setCell ⟨g', m, none⟩ (.slice (some ⟨g3, 0, none⟩) 1 cap3)) (some g') := grownBy_setCell w3 ⟨g', m, none⟩ _
        have hg2 : wr.grownBy w2 (Value.slice qg m cap).ownBlock := grownBy_trans (World.grownBy_alloc wr _ _) HGROW.out
        have hg3 : wr.grownBy w3 (Value.slice qg m cap).ownBlock := grownBy_trans hg2 (grownBy_none hgb3)
        have hg3e : g3 = w2.heap.size + 1 := by
          rcases HOR3.out with e | e
          · cases e
          · rw [e]; simp
        have hg4 : wr.grownBy (w3.setCell ⟨g', m, none⟩ (.slice (some ⟨g3, 0, none⟩) 1 cap3)) (Value.slice qg m cap).ownBlock := by
          rcases HOR.out with e | e
          · have e' : (Value.slice qg m cap).ownBlock = some g' := e
            rw [e'] at hg3 ⊢
            exact grownBy_trans hg3 hgw
          · have e' : g' = wr.heap.size + 1 := by rw [e]; simp
            exact ⟨hgw.os.trans hg3.os, hgw.tape.trans hg3.tape, hgw.output.trans hg3.output, Nat.le_trans hg3.size hgw.size, fun i hi hr => (hgw.block i (Nat.lt_of_lt_of_le hi hg3.size) (by simp; omega)).trans (hg3.block i hi hr)⟩
        have hrow3 : RowI w3 w1.heap.size g3 cap3 [a] := by
          have := HOWN3.out
          unfold RowI
          simpa [iv] using this
        have hrow4 := hrow3.kept hgw (by simp; omega)
        have hszr := hg2.size
        have hs := Grid.snoc HGRID.out (by rw [HLEN.out]; exact hg4) hrow4 (fun j hj => by have := (HGRID.out.row j _ (List.getElem?_eq_getElem hj)).lt; omega) (by rw [HLEN.out]; exact hset)
        refine ⟨⟨_, _, by rw [HST.out]; exact hs⟩, ?_⟩
        cases hob : (Value.slice qg m cap).ownBlock with
        | none => rw [hob] at hg4; exact grownBy_trans HGR.out hg4
        | some r => rw [hob] at hg4; exact grownBy_new HGR.out hg4 (HO.out.lt r hob).1
    · obtain rfl : a = n := by omega
      have HGRID : Hid (Grid wr w1.heap.size (.slice qg (cntR L a) cap) (circL (eqC L) a) ib ic) := Lib.hid (by rwa [hlen] at hgrid)
      have HGR := Lib.hid hgr
      clear hgrid hgr
      rw [hlen]
      clear hlen
      go_wp2
      go_ret
      exact ⟨_, rfl, ⟨ib, ic, HGRID.out.down HG1.out.size⟩, grownBy_trans HG1.out HGR.out⟩

end Go.Proofs.YtihkjgiaajgkpaaDoor
