/- The contracts of package order: Circles, Of, Reduce. -/
import Derived.Test.YtkipldmkdnjkaaaDoorOrdB
namespace Go.Proofs.YtkipldmkdnjkaaaDoor
open Go.RowKit

theorem Grid.mono {w : World} {base base' : Nat} {v : Value} {ls : List (List Nat)} {ib ic : Nat → Nat} (h : Grid w base v ls ib ic) (hb : base' ≤ base) : Grid w base' v ls ib ic := by
  refine ⟨⟨h.out.1, h.out.2.imp id fun ⟨g, cap, cur, h1, h2, h3⟩ => ⟨g, cap, cur, h1, Nat.le_trans hb h2, h3⟩⟩, fun k l hl => (h.row k l hl).mono hb, h.ap⟩
theorem circ_mem {C : Nat → Nat → Bool} {n : Nat} {l : List Nat} (hl : l ∈ circL C n) {x : Nat} (hx : x ∈ l) : x < n := by
  unfold circL at hl
  obtain ⟨y, _, rfl⟩ := List.mem_map.1 hl
  exact (mem_cls.1 hx).1

set_option maxHeartbeats 400000 in
theorem circles_c (lo hi p n : Nat) (R : Nat → Nat → Bool) (w : World) (h : IsRel w lo hi p n R) : Calls Tryd.prog 12 #[.pointer (some ⟨p, 0, none⟩)] w (GridPost (circL (clo n R) n) w) := by
  have H := Lib.hid h
  clear h
  go_enter Tryd.func12, Tryd.ntmps12
  go_wp2_with fail
  refine (ordClosure_c lo hi p n R _ H.out).mono ?_
  rintro e w1 ⟨q, rfl, h1, hg1⟩
  have H1 := Lib.hid h1
  have HG := Lib.hid hg1
  clear h1 hg1
  go_wp2_with fail
  refine (classes_c _ _ q n (clo n R) _ H1.out (clo_trans H.out.supp)).mono ?_
  rintro e w2 ⟨v, rfl, ⟨ib, ic, hgrid⟩, hg2⟩
  go_wp2
  go_ret
  exact ⟨v, rfl, ⟨ib, ic, hgrid.mono HG.out.size⟩, grownBy_trans HG.out hg2⟩

theorem rowI_made (w : World) (base n : Nat) (hb : base ≤ w.heap.size) (hn : n ≤ 1000000) : RowI (w.alloc (.cells (madeCells #[.int .i64 0] n) 3)) base w.heap.size n (List.replicate n 0) := by
  refine ⟨by simp, .inr ⟨w.heap.size, n, madeCells #[.int .i64 0] n, by simp, hb, heap_alloc_new w _, by simp, by unfold maxLen; omega, ?_, ?_⟩⟩
  · simp [madeCells]
  · rw [toList_madeCells_one, List.take_of_length_le (by simp), List.map_replicate]
    rfl

/-- What Of leaves. -/
def IntsPost (l : List Nat) (w : World) (e : Ending) (w' : World) : Prop := ∃ g c, e = .returned (.slice (some ⟨g, 0, none⟩) l.length c) ∧ RowI w' w.heap.size g c l ∧ w.grownBy w' none

set_option maxHeartbeats 4000000 in
theorem ordOf_c (lo hi p n : Nat) (R : Nat → Nat → Bool) (w : World) (h : IsRel w lo hi p n R) : Calls Tryd.prog 15 #[.pointer (some ⟨p, 0, none⟩)] w (IntsPost (ofK (circL (clo n R) n) n (circL (clo n R) n).length) w) := by
  have H := Lib.hid h
  have hn := h.small
  have HS := Lib.hid h.supp
  clear h
  have hmk := run_make_row' (P := Tryd.prog) 41 3 (.int .i64 0) 8 Tryd.underlying41 Tryd.infoI3 rfl .i64 .i64 n (by omega) (by omega)
  go_enter Tryd.func15, Tryd.ntmps15
  go_wp2_with fail
  refine (ordClosure_c lo hi p n R _ H.out).mono ?_
  rintro e w1 ⟨q, rfl, h1, hg1⟩
  have H1 := Lib.hid h1
  have HG := Lib.hid hg1
  clear h1 hg1
  go_wp2_with fail
  refine (relLen_c _ _ q n (clo n R) _ H1.out).mono ?_
  rintro e w2 ⟨rfl, hw2⟩
  subst w2
  have HO := Lib.hid (rowI_made w1 w.heap.size n HG.out.size (by omega))
  have hga := World.grownBy_alloc w1 (.cells (madeCells #[.int .i64 0] n) 3) none
  have H2 := Lib.hid (H1.out.calm hga)
  have HG2 := Lib.hid (grownBy_trans HG.out hga)
  have hog : w1.heap.size < (w1.alloc (.cells (madeCells #[.int .i64 0] n) 3)).heap.size := by simp
  have hwo : w.heap.size ≤ w1.heap.size := HG.out.size
  clear hga HG H1
  go_wp2_with fail
  refine (classes_c _ _ q n (clo n R) _ H2.out (clo_trans HS.out)).mono ?_
  rintro e w3 ⟨v, rfl, ⟨ib, ic, hgrid⟩, hg3⟩
  have HO3 := Lib.hid (HO.out.calm hg3)
  have HG3 := Lib.hid (grownBy_trans HG2.out hg3)
  obtain ⟨pg, cap, rfl, hpg⟩ := hgrid.slice
  have HPG := Lib.hid hpg
  have HMEM : Hid (∀ l ∈ circL (clo n R) n, ∀ x ∈ l, x < n) := Lib.hid fun l hl x hx => circ_mem hl hx
  have hll := circ_le (clo n R) n
  have HLL : Hid (∀ l ∈ circL (clo n R) n, l.length ≤ n) := Lib.hid fun l hl => by
    obtain ⟨y, _, rfl⟩ := List.mem_map.1 hl
    exact cls_le _ _ _
  have HGRID := Lib.hid hgrid
  clear hgrid hpg hg3 HO HG2 H2 HS H hmk
  generalize circL (clo n R) n = ls at *
  generalize hb : (w1.alloc (.cells (madeCells #[.int .i64 0] n) 3)).heap.size = base at *
  generalize w1.heap.size = og at *
  clear hb w1
  generalize hL : ls.length = L at *
  have HL := Lib.hid hL
  clear hL
  go_wp2
  go_loopw [17] (fun i wr => ∃ k : Nat, k ≤ L ∧ i = .int .i64 k ∧ RowI wr w.heap.size og n (ofK ls n k) ∧ w3.grownBy wr (some og)) (fun i _ => L - (intOf i).toNat)
  case atStart => exact ⟨0, Nat.zero_le _, rfl, HO3.out, grownBy_refl _ _⟩
  case round =>
    obtain ⟨k, hk, rfl, hrow, hgr⟩ := hrel
    have HR := Lib.hid hrow
    have HGR := Lib.hid hgr
    clear hrow hgr
    by_cases hkl : k < L
    · obtain ⟨g, rfl, hgb, hgl⟩ := HPG.out k hkl
      have hgk : Grid wr base (.slice (some ⟨g, 0, none⟩) L cap) ls ib ic := HGRID.out.kept fun i h1 h2 => HGR.out.block i h2 (fun e => by have := Option.some.inj e; omega)
      have hk' : k < ls.length := by rw [HL.out]; exact hkl
      obtain ⟨l, hl⟩ : ∃ l, ls[k]? = some l := ⟨_, List.getElem?_eq_getElem hk'⟩
      have hcell := hgk.head hl
      have HROW := Lib.hid (hgk.row k l hl)
      have HLK := Lib.hid hl
      have HML := Lib.hid (HMEM.out l (List.mem_of_getElem? hl))
      have hln := HLL.out l (List.mem_of_getElem? hl)
      have HOFS : Hid (ofK ls n (k + 1) = setL (ofK ls n k) l k) := Lib.hid (by rw [ofK, List.getD_eq_getElem?_getD, hl]; rfl)
      have HOL := Lib.hid (ofK_len ls n k)
      have k0 : (0 : Int) ≤ k := by omega
      have k1 : (k : Int) < L := by omega
      clear hgk hl
      generalize ofK ls n k = o at *
      go_wp2
      go_loopw [24] (fun i wi => ∃ j : Nat, j ≤ l.length ∧ i = .int .i64 j ∧ RowI wi w.heap.size og n (setL o (l.take j) k) ∧ wr.grownBy wi (some og)) (fun i _ => l.length - (intOf i).toNat)
      case atStart => exact ⟨0, Nat.zero_le _, rfl, HR.out, grownBy_refl _ _⟩
      case round =>
        obtain ⟨j, hj, rfl, hrj, hgj⟩ := hrel
        have HRJ := Lib.hid hrj
        have HGJ := Lib.hid hgj
        clear hrj hgj
        by_cases hjl : j < l.length
        · obtain ⟨x, hx⟩ : ∃ x, l[j]? = some x := ⟨_, List.getElem?_eq_getElem hjl⟩
          have hxn : x < n := HML.out x (List.mem_of_getElem? hx)
          have hbl := HROW.out.lt
          have c1 := (HROW.out.kept HGJ.out (by intro e; have := Option.some.inj e; omega)).cell hx
          have hsl : (setL o (l.take j) k).length = n := by rw [setL_len, HOL.out]
          obtain ⟨y, hy⟩ : ∃ y, (setL o (l.take j) k)[x]? = some y := ⟨_, List.getElem?_eq_getElem (by rw [hsl]; exact hxn)⟩
          have c2 := HRJ.out.cell hy
          have f2 := HRJ.out.free x
          have HSET := Lib.hid (HRJ.out.set (j := x) k)
          have HTK : Hid (setL o (l.take (j + 1)) k = (setL o (l.take j) k).set x k) := Lib.hid (by
            rw [← setL_snoc]
            congr 1
            rw [List.take_add_one, hx]
            rfl)
          have j0 : (0 : Int) ≤ j := by omega
          have j1 : (j : Int) < l.length := by omega
          have x0 : (0 : Int) ≤ x := by omega
          have x1 : (x : Int) < n := by omega
          clear hx hbl hsl hy
          go_wp2
          exact ⟨⟨j + 1, by omega, by go_num, by rw [HTK.out]; exact HSET.out, grownBy_trans HGJ.out (grownBy_setCell _ ⟨og, x, none⟩ _)⟩, by simp [intOf]; omega⟩
        · obtain rfl : j = l.length := by omega
          have HE : Hid (RowI wr w.heap.size og n (ofK ls n (k + 1))) := Lib.hid (by rw [HOFS.out]; have := HRJ.out; rwa [List.take_length] at this)
          go_wp2
          exact ⟨⟨k + 1, by omega, by go_num, HE.out, grownBy_trans HGR.out HGJ.out⟩, by simp [intOf]; omega⟩
    · obtain rfl : k = L := by omega
      go_wp2
      go_ret
      have hlen : (ofK ls n k).length = n := ofK_len ls n k
      exact ⟨og, n, by rw [hlen]; rfl, HR.out, grownBy_new HG3.out HGR.out hwo⟩

end Go.Proofs.YtkipldmkdnjkaaaDoor
