/- The reference's unions: New, Join, Places. -/
import Derived.Test.YtihkjgiaajgkpaaDoorUnid
namespace Go.Proofs.YtihkjgiaajgkpaaDoor
open Go.RowKit

/-- The reference's union: of each element the least one. -/
def IsRn (w : World) (lo hi b : Nat) (L : List Nat) : Prop := ∃ p c, IsUg 83 w lo hi b p c L
theorem IsRn.calm {w w' : World} {lo hi b : Nat} {L : List Nat} (h : IsRn w lo hi b L) (hg : w.grownBy w' none) : IsRn w' lo hi b L := by
  obtain ⟨p, c, h1⟩ := h
  exact ⟨p, c, h1.calm hg⟩
theorem IsRn.apart {w w' : World} {lo hi lo' hi' b : Nat} {L : List Nat} (h : IsRn w lo hi b L) (hg : Kept lo' hi' w w') (hd : hi ≤ lo' ∨ hi' ≤ lo) : IsRn w' lo hi b L := by
  obtain ⟨p, c, h1⟩ := h
  exact ⟨p, c, h1.apart hg hd⟩
theorem IsRn.top {w : World} {lo hi b : Nat} {L : List Nat} (h : IsRn w lo hi b L) : lo < hi ∧ hi ≤ w.heap.size := by
  obtain ⟨p, c, h1⟩ := h
  have := h1.h1
  have := h1.h2
  exact ⟨by omega, h1.h3⟩
def MadeR (L : List Nat) (w : World) (e : Ending) (w' : World) : Prop := ∃ b, e = .returned (.pointer (some ⟨b, 0, none⟩)) ∧ IsRn w' w.heap.size w'.heap.size b L ∧ w.grownBy w' none

set_option maxRecDepth 20000 in
set_option maxHeartbeats 1000000 in
theorem newR_c (n : Nat) (w : World) (hn : n < 1000) : Calls Tryd.prog 36 #[.int .i64 n] w (MadeR (List.range n) w) := by
  obtain ⟨i0, hi0, hz0, hz1, hz2⟩ := info_parts Tryd.infoI3
  have n2 : (n : Int) < 1000 := by omega
  go_enter Tryd.func36, Tryd.ntmps36
  go_wp2
  have hb0 := Boxed.new w 83 (.slice none 0 0)
  have HB0 := Lib.hid hb0
  clear hb0
  have HG0 := Lib.hid (World.grownBy_alloc w (.cells #[.slice none 0 0] 83) none)
  generalize hgb : w.heap.size = gb at *
  have HGB := Lib.hid hgb
  clear hgb
  go_loopw [4] (fun i wr => ∃ (k : Nat) (v : Value), k ≤ n ∧ i = .int .i64 k ∧ Boxed wr gb 83 v ∧ wr.ownsRow gb 3 1 v k ((List.range k).map iv) ∧ w.grownBy wr none) (fun i _ => n - (intOf i).toNat)
  case atStart => exact ⟨0, _, Nat.zero_le _, rfl, HB0.out, World.ownsRow_nil _ _ _ _, HG0.out⟩
  case round =>
    obtain ⟨k, v, hk, rfl, hv, hrow, hgr⟩ := hrel
    have hc := hv.cell
    by_cases hkn : k < n
    · have k1 : (k : Int) < n := by omega
      have hsz := hgr.size
      rw [HGB.out] at hsz
      go_wp2_with (at_builtin; refine wpList_append_own _ rfl _ _ 26 rfl gb 3 i0 (.int .i64 0) 1 8 Tryd.underlying26 hi0 hz0 hz1 hz2 rfl (by decide) v k ((List.range k).map iv) rfl (hrow.alloc _) ⟨wr.heap.size, 0, none⟩ 1 1 [.int .i64 k] rfl rfl (cell_one_new _ _ _) (by simp [Value.oneCell']) (by unfold maxLen; omega) (by omega) (by simp; omega) ?_; intro v' w1 hown' hgrow _; obtain ⟨g', cap', rfl⟩ := ownsRow_succ hown'; obtain ⟨hv1, hv2, hr2, hk2, hb2⟩ := hv.appended (by decide) hrow hsz (Nat.le_refl _) hown' hgrow; have hc1 := hv1.cell; have hf1 := hv1.frozen)
      refine ⟨⟨k + 1, _, by omega, by go_num, hv2, ?_, ?_⟩, by simp [intOf]; omega⟩
      · rw [List.range_succ, List.map_append]
        exact hr2
      · exact below_grownBy ((grownBy_below hgr).trans (hb2.mono (by rw [HGB.out]; exact Nat.le_refl _)))
    · obtain rfl : k = n := by omega
      have HV := Lib.hid hv
      have HR := Lib.hid hrow
      have HG := Lib.hid hgr
      clear hv hrow hgr
      go_wp2
      go_ret
      have hl : (List.range k).length = k := by simp
      have hlt := HV.out.lt
      rcases HR.out.2 with ⟨rfl, h0⟩ | ⟨g, cap, cur, rfl, h1, h2, _⟩
      · refine ⟨gb, rfl, ⟨none, 0, by rw [HGB.out]; exact Nat.le_refl _, hlt, Nat.le_refl _, by omega, fun _ => rfl, ?_, fun h => by omega⟩, HG.out⟩
        rw [hl, h0]
        exact HV.out
      · refine ⟨gb, rfl, ⟨_, cap, by rw [HGB.out]; exact Nat.le_refl _, hlt, Nat.le_refl _, by omega, by simp, ?_, fun h => ⟨g, rfl, (Array.getElem?_eq_some_iff.1 h2).1, ?_⟩⟩, HG.out⟩
        · rw [hl]
          exact HV.out
        · rw [HGB.out]
          have := HR.out
          unfold RowI
          rw [hl]
          exact this

set_option maxRecDepth 20000 in
set_option maxHeartbeats 2000000 in
theorem placesR_c (lo hi b : Nat) (L : List Nat) (w : World) (h : IsRn w lo hi b L) (his : isL L) : Calls Tryd.prog 59 #[.pointer (some ⟨b, 0, none⟩)] w (RowIPost (placesL L) w) := by
  obtain ⟨p, c, hu⟩ := h
  have hc := hu.cell
  have hsm := hu.small
  have HU := Lib.hid hu
  have HIS := Lib.hid his
  have HROW := Lib.hid hu.row
  generalize hN : L.length = n at *
  have HN := Lib.hid hN
  clear hu his hN
  have hmk := run_make_row' (P := Tryd.prog) 26 3 (.int .i64 0) 8 Tryd.underlying26 Tryd.infoZ3 rfl .i64 .i64 n (by omega) (by omega) w
  obtain ⟨HR0, HG0⟩ := places_start L n HN.out hsm w
  go_enter Tryd.func59, Tryd.ntmps59
  go_wp2
  generalize hgb : w.heap.size = gb at *
  have HGB := Lib.hid hgb
  clear hgb hc
  go_loopw [4, 5] (fun q i wr => ∃ k : Nat, k ≤ n ∧ i = .int .i64 k ∧ q = .int .i64 (cntR L k) ∧ RowI wr gb gb n (plK L k) ∧ w.grownBy wr none) (fun _ i _ => n - (intOf i).toNat)
  case atStart => exact ⟨0, Nat.zero_le _, rfl, rfl, HR0.out, HG0.out⟩
  case round =>
    obtain ⟨k, hk, rfl, rfl, hrow, hgr⟩ := hrel
    have hc := (HU.out.calm hgr).cell
    rw [HN.out] at hc
    by_cases hkn : k < n
    · have k0 : (0 : Int) ≤ k := by omega
      have k1 : (k : Int) < n := by omega
      have hcn : (cntR L k : Int) ≤ 1000 := by have := cntR_le L k; omega
      obtain ⟨g, rfl, hgh, hrow2⟩ := HROW.out (by omega)
      have hx := (hrow2.calm hgr).cell (j := k) (nx_get (by rw [HN.out]; exact hkn))
      have hle := HIS.out.le k (by rw [HN.out]; exact hkn)
      have hfx := HIS.out.fix k (by rw [HN.out]; exact hkn)
      have hfz := hrow.free k
      have hkl : k < (plK L k).length := by rw [plK_len (by rw [HN.out]; exact hk), HN.out]; exact hkn
      have hcur := hrow.cell (j := k) (nx_get hkl)
      have HST := Lib.hid (plK_succ (L := L) (k := k) (by rw [HN.out]; exact hkn))
      have HSET := Lib.hid (fun v => hrow.set (j := k) v)
      have HGS := Lib.hid (fun v : Nat => grownBy_new hgr (grownBy_setCell wr ⟨gb, k, none⟩ (.int .i64 (v : Int))) (by rw [HGB.out]; exact Nat.le_refl _))
      have hcs := cntR_succ L k
      by_cases he : nx L k = k
      · have HPL := Lib.hid (plc_root he)
        rw [if_pos he] at hcs
        have HCS := Lib.hid hcs
        rw [he] at hx
        clear hcs he hle hfx hrow hgr hrow2 HR0 HG0 hkl HROW
        generalize nx (plK L k) k = v at *
        generalize cntR L k = q at *
        go_wp2
        refine ⟨⟨k + 1, by omega, by go_num, by rw [HCS.out]; go_num, ?_, ?_⟩, by simp [intOf]; omega⟩
        · rw [← HST.out, HPL.out]
          exact HSET.out _
        · exact HGS.out _
      · have hlt : nx L k < k := by omega
        have hpl : plc6 L (nx L k) = plc6 L k := by
          unfold plc6
          rw [hfx]
        have hy := hrow.cell (j := nx L k) (nx_get (by omega))
        rw [plK_get hlt, hpl] at hy
        rw [if_neg he, Nat.add_zero] at hcs
        have HCS := Lib.hid hcs
        have hne : ((nx L k : Int) == (k : Int)) = false := by simp; omega
        have n0 : (0 : Int) ≤ nx L k := by omega
        have n1 : (nx L k : Int) < n := by omega
        have HS2 := Lib.hid (HSET.out (plc6 L k))
        have HG2 := Lib.hid (HGS.out (plc6 L k))
        have HST2 := HST
        clear hcs he hle hfx hrow hgr hrow2 HR0 HG0 hkl HROW hpl HST HSET HGS
        generalize nx (plK L k) k = v at *
        generalize plc6 L k = u at *
        generalize nx L k = m at *
        generalize cntR L k = q at *
        go_wp2
        refine ⟨⟨k + 1, by omega, by go_num, by rw [HCS.out]; first | done | rfl, ?_, ?_⟩, by simp [intOf]; omega⟩
        · rw [← HST2.out]
          exact HS2.out
        · exact HG2.out
    · obtain rfl : k = n := by omega
      have HRW := Lib.hid hrow
      have HGR := Lib.hid hgr
      clear hrow hgr
      go_wp2
      go_ret
      have hpl := placesL_len L
      refine ⟨gb, by rw [hpl, HN.out]; rfl, ?_, HGR.out⟩
      have := HRW.out
      rw [← HN.out, plK_end] at this
      rw [hpl, HGB.out]
      exact this

end Go.Proofs.YtihkjgiaajgkpaaDoor
