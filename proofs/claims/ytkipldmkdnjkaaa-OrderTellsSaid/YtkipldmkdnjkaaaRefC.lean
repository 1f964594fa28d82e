/- The contracts of Classes, free, Sort of package centoref2. -/
import Derived.Test.YtkipldmkdnjkaaaRefB
import Derived.Test.YtkipldmkdnjkaaaOrdF
namespace Go.Proofs.Ytkipldmkdnjkaaa
open Go.RowKit

set_option maxHeartbeats 4000000 in
theorem matClasses_c (lo hi p n : Nat) (C : Nat → Nat → Bool) (w : World) (h : IsMat w lo hi p n C) : Calls Try.prog 13 #[.pointer (some ⟨p, 0, none⟩)] w (IntsPost (ofK (circL C n) n (circL C n).length) w) := by
  have H := Lib.hid h
  have hn := h.small
  clear h
  have hmk := run_make_row' (P := Try.prog) 32 3 (.int .i64 0) 8 Try.underlying32 Try.infoI3 rfl .i64 .i64 n (by omega) (by omega)
  go_enter Try.func13, Try.ntmps13
  go_wp2_with fail
  refine (matCircles_c lo hi p n C _ H.out).mono ?_
  rintro e w1 ⟨v, rfl, ⟨ib, ic, hgrid⟩, hg1⟩
  have hc0 := (H.out.calm hg1).c0
  obtain ⟨pg, cap, rfl, hpg⟩ := hgrid.slice
  have HGRID := Lib.hid hgrid
  have HPG := Lib.hid hpg
  have HG1 := Lib.hid hg1
  have HO := Lib.hid (rowI_made w1 w.heap.size n hg1.size (by omega))
  have HGA := Lib.hid (World.grownBy_alloc w1 (.cells (madeCells #[.int .i64 0] n) 3) (some w1.heap.size))
  have hwo : w.heap.size ≤ w1.heap.size := hg1.size
  have HMEM : Hid (∀ l ∈ circL C n, ∀ x ∈ l, x < n) := Lib.hid fun l hl x hx => circ_mem hl hx
  have hll := circ_le C n
  have HLL : Hid (∀ l ∈ circL C n, l.length ≤ n) := Lib.hid fun l hl => by
    obtain ⟨y, _, rfl⟩ := List.mem_map.1 hl
    exact cls_le _ _ _
  clear hgrid hpg hg1 H
  generalize circL C n = ls at *
  generalize hL : ls.length = L at *
  have HL := Lib.hid hL
  clear hL
  go_wp2
  clear hmk
  have HW1 : Hid (w1.heap.size = w1.heap.size) := Lib.hid rfl
  generalize hog : w1.heap.size = og at *
  have HOG := Lib.hid hog
  clear hog HW1
  go_loopw [5] (fun i wr => ∃ k : Nat, k ≤ L ∧ i = .int .i64 k ∧ RowI wr w.heap.size og n (ofK ls n k) ∧ w1.grownBy wr (some og)) (fun i _ => L - (intOf i).toNat)
  case atStart => exact ⟨0, Nat.zero_le _, rfl, HO.out, HGA.out⟩
  case round =>
    obtain ⟨k, hk, rfl, hrow, hgr⟩ := hrel
    have HR := Lib.hid hrow
    have HGR := Lib.hid hgr
    clear hrow hgr
    by_cases hkl : k < L
    · obtain ⟨g, rfl, hgb, hgl⟩ := HPG.out k hkl
      have hk' : k < ls.length := by rw [HL.out]; exact hkl
      obtain ⟨l, hl⟩ : ∃ l, ls[k]? = some l := ⟨_, List.getElem?_eq_getElem hk'⟩
      have hln := HLL.out l (List.mem_of_getElem? hl)
      have HLK := Lib.hid hl
      have HML := Lib.hid (HMEM.out l (List.mem_of_getElem? hl))
      have HOFS : Hid (ofK ls n (k + 1) = setL (ofK ls n k) l k) := Lib.hid (by rw [ofK, List.getD_eq_getElem?_getD, hl]; rfl)
      have HOL := Lib.hid (ofK_len ls n k)
      have k0 : (0 : Int) ≤ k := by omega
      have k1 : (k : Int) < L := by omega
      clear hl
      generalize ofK ls n k = o at *
      go_wp2
      go_loopw [6] (fun i wi => ∃ j : Nat, j ≤ l.length ∧ i = .int .i64 j ∧ RowI wi w.heap.size og n (setL o (l.take j) k) ∧ w1.grownBy wi (some og)) (fun i _ => l.length - (intOf i).toNat)
      case atStart => exact ⟨0, Nat.zero_le _, rfl, HR.out, HGR.out⟩
      case round =>
        obtain ⟨j, hj, rfl, hrj, hgj⟩ := hrel
        have hgk : Grid wr w.heap.size (.slice (some ⟨g, 0, none⟩) L cap) ls ib ic := HGRID.out.kept fun i h1 h2 => hgj.block i h2 (fun e => by have := Option.some.inj e; rw [HOG.out] at h2; omega)
        have hcell := hgk.head HLK.out
        have HROW := Lib.hid (hgk.row k l HLK.out)
        have HRJ := Lib.hid hrj
        have HGJ := Lib.hid hgj
        clear hrj hgj hgk
        by_cases hjl : j < l.length
        · obtain ⟨x, hx⟩ : ∃ x, l[j]? = some x := ⟨_, List.getElem?_eq_getElem hjl⟩
          have hxn : x < n := HML.out x (List.mem_of_getElem? hx)
          have c1 := HROW.out.cell hx
          have hsl : (setL o (l.take j) k).length = n := by rw [setL_len, HOL.out]
          obtain ⟨y, hy⟩ : ∃ y, (setL o (l.take j) k)[x]? = some y := ⟨_, List.getElem?_eq_getElem (by rw [hsl]; exact hxn)⟩
          have c2 := HRJ.out.cell hy
          have f2 := HRJ.out.free x
          have HSET := Lib.hid (HRJ.out.set (j := x) k)
          have HTK : Hid (setL o (l.take (j + 1)) k = (setL o (l.take j) k).set x k) := Lib.hid (by
            rw [← setL_snoc]
            congr 1
            rw [List.take_add_one, hx]
            rfl)
          have j0 : (0 : Int) ≤ j := by omega
          have j1 : (j : Int) < l.length := by omega
          have x0 : (0 : Int) ≤ x := by omega
          have x1 : (x : Int) < n := by omega
          clear hx hsl hy
          go_wp2
          exact ⟨⟨j + 1, by omega, by go_num, by rw [HTK.out]; exact HSET.out, grownBy_trans HGJ.out (grownBy_setCell _ ⟨og, x, none⟩ _)⟩, by simp [intOf]; omega⟩
        · obtain rfl : j = l.length := by omega
          have HE : Hid (RowI wr w.heap.size og n (ofK ls n (k + 1))) := Lib.hid (by rw [HOFS.out]; have := HRJ.out; rwa [List.take_length] at this)
          go_wp2
          exact ⟨⟨k + 1, by omega, by go_num, HE.out, HGJ.out⟩, by simp [intOf]; omega⟩
    · obtain rfl : k = L := by omega
      go_wp2
      go_ret
      have hlen : (ofK ls n k).length = n := ofK_len ls n k
      exact ⟨og, n, by rw [hlen]; rfl, HR.out, grownBy_new HG1.out HGR.out hwo⟩

end Go.Proofs.Ytkipldmkdnjkaaa
