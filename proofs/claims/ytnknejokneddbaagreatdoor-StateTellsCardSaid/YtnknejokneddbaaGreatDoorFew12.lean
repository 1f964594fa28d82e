/- ID; few over patches. -/
import Derived.Laws.BitsAllLaws
import Derived.Test.YtnknejokneddbaaGreatDoorPatP
import Derived.Test.YtnknejokneddbaaGreatDoorBits
import Derived.Test.YtnknejokneddbaaGreatDoorRefPa
import Derived.Test.YtnknejokneddbaaGreatDoorArgT
/-! Package patch: ID. -/
namespace Go.Proofs.YtnknejokneddbaaGreatDoor
open Go.RowKit

end Go.Proofs.YtnknejokneddbaaGreatDoor
/-! The law folder's few, over patches. -/
namespace Go.Proofs.YtnknejokneddbaaGreatDoor
open Go.RowKit

/-- A hunk of few. -/
def OkH (h : Hk) : Prop := (hAdds h).length ≤ 50 ∧ (hEdges h).length ≤ 90 ∧ (hKills h).length ≤ 50 ∧ (hPath h).size ≤ 40 ∧ ∀ s ∈ hAdds h, s.size ≤ 100
theorem pfew_iff (p : Pt) : PFew p ↔ (∀ h ∈ pHunks p, OkH h) ∧ (∀ s ∈ pMakes p, s.size ≤ 40) ∧ (∀ s ∈ pDrops p, s.size ≤ 40) ∧ (pHunks p).length ≤ 8 ∧ (pDeps p).length ≤ 70 ∧ (pMakes p).length ≤ 10 ∧ (pDrops p).length ≤ 10 :=
 ⟨fun h => ⟨h.hs, h.ms, h.xs, h.hunks, h.deps, h.makes, h.drops⟩, fun h => ⟨h.2.2.2.1, h.2.2.2.2.1, h.2.2.2.2.2.1, h.2.2.2.2.2.2, h.2.1, h.2.2.1, h.1⟩⟩
section
variable {α : Type} {P : α → Prop} {l : List α} {k : Nat} {d : α}
theorem tk_more (h : ∀ x ∈ l.take k, P x) (hp : P (l[k]?.getD d)) : ∀ x ∈ l.take (k + 1), P x := by
 intro x hx
 rw [List.take_add_one, List.mem_append] at hx
 rcases hx with hx | hx
 ·exact h x hx
 ·cases hk : l[k]? with
  | none => rw [hk] at hx; cases hx
  | some y =>
   rw [hk] at hx hp
   obtain rfl : x = y := by simpa using hx
   exact hp
theorem tk_all (h : ∀ x ∈ l.take k, P x) (hk : l.length ≤ k) : ∀ x ∈ l, P x := by rwa [List.take_of_length_le hk] at h
theorem tk_fail (hk : k < l.length) (hn : ¬ P (l[k]?.getD d)) : ¬ ∀ x ∈ l, P x := fun h => hn (by
 rw [List.getElem?_eq_getElem hk]
 exact h _ (List.getElem_mem hk))
end

set_option maxRecDepth 8000 in
set_option maxHeartbeats 16000000 in
theorem few_c (id : Nat) (pd : Option Addr) (nd cd : Nat) (pm : Option Addr) (nm cm : Nat) (px : Option Addr) (nx cx : Nat) (ph : Option Addr) (nh ch : Nat) (lo hi : Nat) (p : Pt) (r : Bool) (w : World)
  (h : PtAt w lo hi id pd nd cd pm nm cm px nx cx ph nh ch p) (hmm : nm ≤ maxLen) (hmx : nx ≤ maxLen) (hmh : nh ≤ maxLen) (hr : r = true ↔ PFew p) :
  Calls Tryz.prog 32 #[.agg #[.int .u32 (id : Int), .slice pd nd cd, .slice pm nm cm, .slice px nx cx, .slice ph nh ch]] w fun e w' => e = .returned (.bool r) ∧ w.grownBy w' none := by
 rw [pfew_iff] at hr
 unfold maxLen at hmm hmx hmh
 have HG0 := Lib.hid (World.grownBy_alloc w (.cells #[.int .u32 (id : Int), .slice pd nd cd, .slice pm nm cm, .slice px nx cx, .slice ph nh ch] 56) none)
 have HB := Lib.hid (BoxV.new w [.int .u32 (id : Int), .slice pd nd cd, .slice pm nm cm, .slice px nx cx, .slice ph nh ch] 56)
 have H := Lib.hid (h.calm HG0.out)
 have HLD := Lib.hid h.deps.len
 have HLM := Lib.hid h.makes.len
 have HLX := Lib.hid h.drops.len
 have HLH := Lib.hid h.hunks.len
 rw [HLH.out, HLD.out, HLM.out, HLX.out] at hr
 have HR := Lib.hid hr
 clear h hr
 go_enter Tryz.func32, Tryz.ntmps32
 go_upto_region 1 with fail
 generalize w.alloc _ = w1 at *
 generalize w.heap.size = g1 at *
 go_wp2
 go_loopw [3, 4, 5] (fun vi _ _ wr => ∃ k : Nat, vi = .int .i64 k ∧ k ≤ nh ∧ Hid (w1.grownBy wr none) ∧ Hid (∀ h ∈ (pHunks p).take k, OkH h)) (fun vi _ _ _ => nh - (intOf vi).toNat)
 case atStart => exact ⟨0, rfl, Nat.zero_le _, Lib.hid (World.grownBy.refl w1 none), Lib.hid (by intro s hs; simp at hs)⟩
 case round =>
  obtain ⟨k, rfl, hk, HG, HA⟩ := hrel
  obtain ⟨a0, a1, a2, a3, a4⟩ := (HB.out.calm HG.out).five
  by_cases hkn : k < nh
  ·have k0 : (k : Int) < nh := by omega
   obtain ⟨b, off, rfl, q1, q2, q3, hc⟩ := (H.out.calm HG.out).hunks.cell (by omega)
   obtain ⟨pa, na, ca, pe, ne, ce, pk, nk, ck, e0, e1, e2, e3, hat⟩ := hc k hkn
   have HM := Lib.hid (fun h => tk_more (k := k) (d := hk0) HA.out h)
   have HF := Lib.hid (fun h => tk_fail (k := k) (P := OkH) (l := pHunks p) (d := hk0) (by rw [HLH.out]; exact hkn) h)
   clear hc
   generalize (pHunks p)[k]?.getD hk0 = hk at *
   have HX := Lib.hid hat
   clear hat
   go_upto_region 5 with fail
   have HGA := Lib.hid (World.grownBy_alloc wr (.cells #[.string (hPath hk), .slice pa na ca, .slice pe ne ce, .slice pk nk ck] 68) none)
   have HBH := Lib.hid (BoxV.new wr [.string (hPath hk), .slice pa na ca, .slice pe ne ce, .slice pk nk ck] 68)
   have HG3 := Lib.hid (grownBy_trans HG.out HGA.out)
   have HHK := Lib.hid (HX.out.calm HGA.out)
   clear HGA HX e0 e1 e2 e3 a0 a1 a2 a3 a4
   generalize wr.alloc _ = w3 at *
   generalize wr.heap.size = g3 at *
   obtain ⟨c0, c1, c2, c3⟩ := HBH.out.four
   have HLA := Lib.hid HHK.out.adds.len
   have HLE := Lib.hid HHK.out.edges.len
   have HLK := Lib.hid HHK.out.kills.len
   by_cases t1 : na ≤ 50
   ·have d1 : (na : Int) ≤ 50 := by omega
    by_cases t2 : ne ≤ 90
    ·have d2 : (ne : Int) ≤ 90 := by omega
     by_cases t3 : nk ≤ 50
     ·have d3 : (nk : Int) ≤ 50 := by omega
      by_cases t4 : (hPath hk).size ≤ 40
      ·have d4 : ((hPath hk).size : Int) ≤ 40 := by omega
       go_wp2
       go_loopw [5] (fun vj ww => ∃ j : Nat, vj = .int .i64 j ∧ j ≤ na ∧ Hid (w3.grownBy ww none) ∧ Hid (∀ s ∈ (hAdds hk).take j, s.size ≤ 100)) (fun vj _ => na - (intOf vj).toNat)
       case atStart => exact ⟨0, rfl, Nat.zero_le _, Lib.hid (World.grownBy.refl w3 none), Lib.hid (by intro s hs; simp at hs)⟩
       case round =>
        clear c0 c1 c2 c3
        obtain ⟨j, rfl, hj, HGJ, HAJ⟩ := hrel
        obtain ⟨c0, c1, c2, c3⟩ := (HBH.out.calm HGJ.out).four
        by_cases hjn : j < na
        ·have j0 : (j : Int) < na := by omega
         obtain ⟨b2, off2, rfl, u1, u2, u3, hc2⟩ := (HHK.out.adds.calm HGJ.out).cell (by omega)
         have hcj := hc2 j hjn
         have HMJ := Lib.hid (fun h => tk_more (k := j) (d := ByteArray.empty) HAJ.out h)
         have HFJ := Lib.hid (fun h => tk_fail (k := j) (P := fun s : ByteArray => s.size ≤ 100) (l := hAdds hk) (d := ByteArray.empty) (by rw [HLA.out]; exact hjn) h)
         clear hc2
         generalize (hAdds hk)[j]?.getD .empty = s at *
         by_cases hs : s.size ≤ 100
         ·have hs1 : (s.size : Int) ≤ 100 := by omega
          go_wp2
          exact ⟨⟨j + 1, by go_num, by omega, HGJ, Lib.hid (HMJ.out hs)⟩, by simp [intOf]; omega⟩
         ·have hs1 : (100 : Int) < s.size := by omega
          obtain rfl : r = false := no_false HR.out fun h => HF.out (fun h9 => HFJ.out hs h9.2.2.2.2) h.1
          have HGG := Lib.hid (grownBy_trans HG0.out (grownBy_trans HG3.out HGJ.out))
          go_wp2
          go_ret
          exact ⟨rfl, HGG.out⟩
        ·have j0 : ¬ ((j : Int) < na) := by omega
         have HOK : Hid (OkH hk) := Lib.hid ⟨by rw [HLA.out]; exact t1, by rw [HLE.out]; exact t2, by rw [HLK.out]; exact t3, t4, tk_all HAJ.out (by rw [HLA.out]; omega)⟩
         have HG4 := Lib.hid (grownBy_trans HG3.out HGJ.out)
         go_wp2
         exact ⟨⟨k + 1, by go_num, by omega, HG4, Lib.hid (HM.out HOK.out)⟩, by simp [intOf]; omega⟩
      ·have d4 : (40 : Int) < ((hPath hk).size : Int) := by omega
       obtain rfl : r = false := no_false HR.out fun h => HF.out (fun h9 => t4 h9.2.2.2.1) h.1
       have HGG := Lib.hid (grownBy_trans HG0.out HG3.out)
       go_wp2
       go_ret
       exact ⟨rfl, HGG.out⟩
     ·have d3 : (50 : Int) < (nk : Int) := by omega
      obtain rfl : r = false := no_false HR.out fun h => HF.out (fun h9 => t3 (by have := h9.2.2.1; rw [HLK.out] at this; exact this)) h.1
      have HGG := Lib.hid (grownBy_trans HG0.out HG3.out)
      go_wp2
      go_ret
      exact ⟨rfl, HGG.out⟩
    ·have d2 : (90 : Int) < (ne : Int) := by omega
     obtain rfl : r = false := no_false HR.out fun h => HF.out (fun h9 => t2 (by have := h9.2.1; rw [HLE.out] at this; exact this)) h.1
     have HGG := Lib.hid (grownBy_trans HG0.out HG3.out)
     go_wp2
     go_ret
     exact ⟨rfl, HGG.out⟩
   ·have d1 : (50 : Int) < (na : Int) := by omega
    obtain rfl : r = false := no_false HR.out fun h => HF.out (fun h9 => t1 (by have := h9.1; rw [HLA.out] at this; exact this)) h.1
    have HGG := Lib.hid (grownBy_trans HG0.out HG3.out)
    go_wp2
    go_ret
    exact ⟨rfl, HGG.out⟩
  ·obtain rfl : nh = k := by omega
   have k0 : ¬ ((nh : Int) < nh) := by omega
   have HOH := Lib.hid (tk_all HA.out (Nat.le_of_eq HLH.out))
   clear hk hkn HA
   go_wp2
   clear a0 a1 a2 a3 a4
   go_loopw [6] (fun vi wr => ∃ k : Nat, vi = .int .i64 k ∧ k ≤ nm ∧ Hid (w1.grownBy wr none) ∧ Hid (∀ s ∈ (pMakes p).take k, s.size ≤ 40)) (fun vi _ => nm - (intOf vi).toNat)
   case atStart => exact ⟨0, rfl, Nat.zero_le _, HG, Lib.hid (by intro s hs; simp at hs)⟩
   case round =>
    clear HG
    obtain ⟨k, rfl, hk, HG, HA⟩ := hrel
    obtain ⟨a0, a1, a2, a3, a4⟩ := (HB.out.calm HG.out).five
    by_cases hkn : k < nm
    ·have k0 : (k : Int) < nm := by omega
     obtain ⟨b, off, rfl, q1, q2, q3, hc⟩ := (H.out.calm HG.out).makes.cell (by omega)
     have hck := hc k hkn
     have HM := Lib.hid (fun h => tk_more (k := k) (d := ByteArray.empty) HA.out h)
     have HF := Lib.hid (fun h => tk_fail (k := k) (P := fun s : ByteArray => s.size ≤ 40) (l := pMakes p) (d := ByteArray.empty) (by rw [HLM.out]; exact hkn) h)
     clear hc
     generalize (pMakes p)[k]?.getD .empty = s at *
     by_cases hs : s.size ≤ 40
     ·have hs1 : (s.size : Int) ≤ 40 := by omega
      go_wp2
      exact ⟨⟨k + 1, by go_num, by omega, HG, Lib.hid (HM.out hs)⟩, by simp [intOf]; omega⟩
     ·have hs1 : (40 : Int) < s.size := by omega
      obtain rfl : r = false := no_false HR.out fun h => HF.out hs h.2.1
      have HGG := Lib.hid (grownBy_trans HG0.out HG.out)
      go_wp2
      go_ret
      exact ⟨rfl, HGG.out⟩
    ·obtain rfl : nm = k := by omega
     have k0 : ¬ ((nm : Int) < nm) := by omega
     have HOM := Lib.hid (tk_all HA.out (Nat.le_of_eq HLM.out))
     clear hk hkn HA
     go_wp2
     clear a0 a1 a2 a3 a4
     go_loopw [7] (fun vi wr => ∃ k : Nat, vi = .int .i64 k ∧ k ≤ nx ∧ Hid (w1.grownBy wr none) ∧ Hid (∀ s ∈ (pDrops p).take k, s.size ≤ 40)) (fun vi _ => nx - (intOf vi).toNat)
     case atStart => exact ⟨0, rfl, Nat.zero_le _, HG, Lib.hid (by intro s hs; simp at hs)⟩
     case round =>
      clear HG
      obtain ⟨k, rfl, hk, HG, HA⟩ := hrel
      obtain ⟨a0, a1, a2, a3, a4⟩ := (HB.out.calm HG.out).five
      by_cases hkn : k < nx
      ·have k0 : (k : Int) < nx := by omega
       obtain ⟨b, off, rfl, q1, q2, q3, hc⟩ := (H.out.calm HG.out).drops.cell (by omega)
       have hck := hc k hkn
       have HM := Lib.hid (fun h => tk_more (k := k) (d := ByteArray.empty) HA.out h)
       have HF := Lib.hid (fun h => tk_fail (k := k) (P := fun s : ByteArray => s.size ≤ 40) (l := pDrops p) (d := ByteArray.empty) (by rw [HLX.out]; exact hkn) h)
       clear hc
       generalize (pDrops p)[k]?.getD .empty = s at *
       by_cases hs : s.size ≤ 40
       ·have hs1 : (s.size : Int) ≤ 40 := by omega
        go_wp2
        exact ⟨⟨k + 1, by go_num, by omega, HG, Lib.hid (HM.out hs)⟩, by simp [intOf]; omega⟩
       ·have hs1 : (40 : Int) < s.size := by omega
        obtain rfl : r = false := no_false HR.out fun h => HF.out hs h.2.2.1
        have HGG := Lib.hid (grownBy_trans HG0.out HG.out)
        go_wp2
        go_ret
        exact ⟨rfl, HGG.out⟩
      ·obtain rfl : nx = k := by omega
       have k0 : ¬ ((nx : Int) < nx) := by omega
       have HOX := Lib.hid (tk_all HA.out (Nat.le_of_eq HLX.out))
       clear hk hkn HA
       have HGG := Lib.hid (grownBy_trans HG0.out HG.out)
       by_cases t1 : nh ≤ 8
       ·have d1 : (nh : Int) ≤ 8 := by omega
        by_cases t2 : nd ≤ 70
        ·have d2 : (nd : Int) ≤ 70 := by omega
         by_cases t3 : nm ≤ 10
         ·have d3 : (nm : Int) ≤ 10 := by omega
          by_cases t4 : nx ≤ 10
          ·have d4 : (nx : Int) ≤ 10 := by omega
           obtain rfl : r = true := HR.out.2 ⟨HOH.out, HOM.out, HOX.out, t1, t2, t3, t4⟩
           go_wp2
           go_ret
           exact ⟨rfl, HGG.out⟩
          ·have d4 : ¬ ((nx : Int) ≤ 10) := by omega
           obtain rfl : r = false := no_false HR.out fun h => t4 h.2.2.2.2.2.2
           go_wp2
           go_ret
           exact ⟨rfl, HGG.out⟩
         ·have d3 : ¬ ((nm : Int) ≤ 10) := by omega
          obtain rfl : r = false := no_false HR.out fun h => t3 h.2.2.2.2.2.1
          go_wp2
          go_ret
          exact ⟨rfl, HGG.out⟩
        ·have d2 : ¬ ((nd : Int) ≤ 70) := by omega
         obtain rfl : r = false := no_false HR.out fun h => t2 h.2.2.2.2.1
         go_wp2
         go_ret
         exact ⟨rfl, HGG.out⟩
       ·have d1 : ¬ ((nh : Int) ≤ 8) := by omega
        obtain rfl : r = false := no_false HR.out fun h => t1 h.2.2.2.1
        go_wp2
        go_ret
        exact ⟨rfl, HGG.out⟩

end Go.Proofs.YtnknejokneddbaaGreatDoor
