/- The law folder's fewAll, right. -/
import Derived.Test.YtnknejokneddbaaGreatDoorRefSe
import Derived.Test.YtnknejokneddbaaGreatDoorFew12
namespace Go.Proofs.YtnknejokneddbaaGreatDoor
open Go.RowKit

set_option maxRecDepth 8000 in
set_option maxHeartbeats 8000000 in
theorem fewAll_c (p : Option Addr) (n c lo hi : Nat) (l : List Pt) (r : Bool) (w : World) (h : PtsAt w lo hi p n l) (hn : n ≤ maxLen) (hm : ∀ x ∈ l, (pMakes x).length ≤ maxLen ∧ (pDrops x).length ≤ maxLen ∧ (pHunks x).length ≤ maxLen) (hr : r = true ↔ (∀ x ∈ l, PFew x) ∧ n ≤ 16) :
  Calls Tryz.prog 10 #[.slice p n c] w fun e w' => e = .returned (.bool r) ∧ w.grownBy w' none := by
 have H := Lib.hid h
 have HR := Lib.hid hr
 have HL := Lib.hid h.len
 have HM := Lib.hid hm
 clear h hr hm
 unfold maxLen at hn
 go_enter Tryz.func10, Tryz.ntmps10
 go_wp2
 go_loopw [3] (fun v wr => ∃ k : Nat, k ≤ n ∧ v = .int .i64 k ∧ Hid (∀ j, j < k → PFew (l[j]?.getD pt0)) ∧ Hid (w.grownBy wr none)) (fun v _ => n - (intOf v).toNat)
 case atStart => exact ⟨0, Nat.zero_le _, rfl, Lib.hid (fun j hj => absurd hj (Nat.not_lt_zero _)), Lib.hid (grownBy_refl _ _)⟩
 case round =>
 obtain ⟨k, hk, rfl, HU, HG⟩ := hrel
 by_cases hkn : k < n
 ·have k0 : (0 : Int) ≤ k := by omega
  have k1 : (k : Int) < n := by omega
  obtain ⟨b, o, rfl, _, _, _, hc⟩ := (H.out.calm HG.out).cell (by omega)
  obtain ⟨pd, nd, cd, pm, nm, cm, px, nx, cx, ph, nh, ch, c0, c1, c2, c3, c4, hp⟩ := hc k hkn
  have HX := Lib.hid (get_mem (d := pt0) (show k < l.length by rw [HL.out]; exact hkn))
  have HU2 := Lib.hid (show PFew (l[k]?.getD pt0) → ∀ j, j < k + 1 → PFew (l[j]?.getD pt0) from fun h => upto_succ (q := fun j => PFew (l[j]?.getD pt0)) HU.out h)
  have HMX := Lib.hid (HM.out _ HX.out)
  clear hc HU
  generalize l[k]?.getD pt0 = x at *
  have HP := Lib.hid hp
  clear hp
  generalize hid : pID x = id at *
  obtain ⟨rf, hrf⟩ := bool_of (PFew x)
  have HRF := Lib.hid hrf
  clear hrf
  go_wp2_with fail
  refine (few_c id pd nd cd pm nm cm px nx cx ph nh ch _ _ x rf wr HP.out (by rw [← HP.out.makes.len]; exact HMX.out.1) (by rw [← HP.out.drops.len]; exact HMX.out.2.1) (by rw [← HP.out.hunks.len]; exact HMX.out.2.2) HRF.out).mono ?_
  rintro e w2 ⟨rfl, hg⟩
  have HG2 := Lib.hid (grownBy_trans HG.out hg)
  clear hg c0 c1 c2 c3 c4
  cases rf with
  | false =>
   obtain rfl : r = false := no_false HR.out fun h => by have := HRF.out.2 (h.1 x HX.out); cases this
   go_wp2
   go_ret
   exact ⟨rfl, HG2.out⟩
  | true =>
   have HU3 := Lib.hid (HU2.out (HRF.out.1 rfl))
   go_wp2
   exact ⟨⟨k + 1, by omega, by go_num, HU3, HG2⟩, by simp [intOf]; omega⟩
 obtain rfl : n = k := by omega
 have k1 : ¬ ((n : Int) < n) := by omega
 have HA := Lib.hid (upto_list (q := fun x => PFew x) HL.out HU.out)
 by_cases h16 : n ≤ 16
 ·obtain rfl : r = true := HR.out.2 ⟨HA.out, h16⟩
  have e1 : ((n : Int) ≤ 16) := by omega
  go_wp2
  go_ret
  exact ⟨by simp, HG.out⟩
 ·obtain rfl : r = false := no_false HR.out fun h => h16 h.2
  have e1 : ¬ ((n : Int) ≤ 16) := by omega
  go_wp2
  go_ret
  exact ⟨by simp, HG.out⟩

end Go.Proofs.YtnknejokneddbaaGreatDoor
