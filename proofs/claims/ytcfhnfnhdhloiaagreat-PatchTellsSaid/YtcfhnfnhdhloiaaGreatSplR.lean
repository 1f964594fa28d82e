/- The reference's Lines and Fits. -/
import Derived.Test.YtcfhnfnhdhloiaaGreatSplQ
import Derived.Test.YtcfhnfnhdhloiaaGreatArra
import Derived.Test.YtcfhnfnhdhloiaaGreatApps
namespace Go.Proofs.YtcfhnfnhdhloiaaGreat
open Go.RowKit

theorem byte10 {x : UInt8} (h : ((x.toNat : Int) == 10) = true) : x = 10 := by
  have h' : (x.toNat : Int) = 10 := by simpa using h
  exact UInt8.toNat_inj.1 (by show x.toNat = 10; omega)
theorem not10 {x : UInt8} (h : ((x.toNat : Int) == 10) = false) : some x ≠ some 10 := by
  intro e
  cases e
  simp at h

set_option maxRecDepth 20000 in
set_option maxHeartbeats 4000000 in
theorem refLines_c (s : ByteArray) (w : World) (hs : s.size ≤ 1000000) :
    Calls Tryz.prog 65 #[.string s] w (StrsPost (linesS s) w) := by
  obtain ⟨i0, hi', hz0, hz1, hz2⟩ := info_parts Tryz.info9
  go_enter Tryz.func65, Tryz.ntmps65
  go_wp2
  go_loopw [3, 4, 5] (fun v f i wr => ∃ (F K : Nat) (pre : List ByteArray), f = .int .i64 F ∧ i = .int .i64 K ∧ RL s F K pre ∧ wr.ownsRow w.heap.size 9 1 v pre.length (scells pre) ∧ w.grownBy wr none) (fun _ _ i _ => s.size - (intOf i).toNat)
  case atStart => exact ⟨0, 0, [], rfl, rfl, RL.start s, World.ownsRow_nil _ _ _ _, grownBy_refl _ _⟩
  case round =>
    obtain ⟨F, K, pre, rfl, rfl, hR, hrow, hg⟩ := hrel
    have hfi := hR.fi
    have hil := hR.il
    have hlen := hR.len
    have HR := Lib.hid hR
    clear hR
    by_cases hk : K < s.size
    · have hk' : (K : Int) < s.size := by omega
      have k0 : (0 : Int) ≤ K := by omega
      have k1 : (F : Int) ≤ (K : Int) + 1 := by omega
      have k2 : (0 : Int) ≤ F := by omega
      have k3 : (K : Int) + 1 ≤ s.size := by omega
      have k4 : IntKind.i64.wrap ((K : Int) + 1) = (K : Int) + 1 := IntWalk.i64_in _ (by omega)
      have k5 : ((K : Int) + 1).toNat = K + 1 := by omega
      have HB := Lib.hid (Lib.data_getElem? s K hk)
      go_wp2_with (at_builtin; refine wpList_append_own _ rfl _ _ 24 rfl w.heap.size 9 i0 (.string .empty) 1 16 Tryz.underlying24 hi' hz0 hz1 hz2 rfl (by decide) _ _ _ rfl (hrow.alloc _) ⟨wr.heap.size, 0, none⟩ 1 1 [.string (s.extract F (K + 1))] rfl rfl (cell_one_new _ _ _) (by simp [Value.oneCell']) (by unfold maxLen; omega) (by omega) (by have := hg.size; simp; omega) ?_; intro v' w1 hown' hgrow _; obtain ⟨g', cap', rfl⟩ := ownsRow_succ hown'; have HO := Lib.hid hown'; have HG := Lib.hid (grownBy_app hg hrow hgrow); clear hown' hgrow)
      · have hx : (((s[K]'hk).toNat : Int) == 10) = true := by assumption
        have hb : (bl s)[K]? = some 10 := by rw [show (bl s)[K]? = _ from HB.out, byte10 hx]
        exact ⟨⟨K + 1, K + 1, _, by go_num, by go_num, HR.out.cut hk hb, by rw [scells_snoc]; simpa using HO.out, HG.out⟩, by simp [intOf]; omega⟩
      · have hx : (((s[K]'hk).toNat : Int) == 10) = false := by assumption
        have hb : (bl s)[K]? ≠ some 10 := by rw [show (bl s)[K]? = _ from HB.out]; exact not10 hx
        exact ⟨⟨F, K + 1, pre, rfl, by go_num, HR.out.more hk hb, hrow, hg⟩, by simp [intOf]; omega⟩
    · have hk' : ¬ ((K : Int) < s.size) := by omega
      obtain rfl : K = s.size := by omega
      by_cases hF : F < s.size
      · have hF' : (F : Int) < s.size := by omega
        have k2 : (0 : Int) ≤ F := by omega
        have k3 : (F : Int) ≤ s.size := by omega
        have HE := Lib.hid (HR.out.last hF)
        go_wp2_with (at_builtin; refine wpList_append_own _ rfl _ _ 24 rfl w.heap.size 9 i0 (.string .empty) 1 16 Tryz.underlying24 hi' hz0 hz1 hz2 rfl (by decide) _ _ _ rfl (hrow.alloc _) ⟨wr.heap.size, 0, none⟩ 1 1 [.string (s.extract F s.size)] rfl rfl (cell_one_new _ _ _) (by simp [Value.oneCell']) (by unfold maxLen; omega) (by omega) (by have := hg.size; simp; omega) ?_; intro v' w1 hown' hgrow _; obtain ⟨g', cap', rfl⟩ := ownsRow_succ hown'; have HO := Lib.hid hown'; have HG := Lib.hid (grownBy_app hg hrow hgrow); clear hown' hgrow)
        go_ret
        exact ⟨_, rfl, by rw [HE.out, scells_snoc]; simpa using HO.out, HG.out⟩
      · have hF' : ¬ ((F : Int) < s.size) := by omega
        have HE := Lib.hid (HR.out.none hF)
        go_wp2
        go_ret
        exact ⟨_, rfl, by rw [HE.out]; exact hrow, hg⟩

theorem take_len60 {l : List ByteArray} {k : Nat} (hk : k < l.length) (h : (l.take k).all (fun s => decide (s.size ≤ 60)) = true) (hs : (l[k]?.getD .empty).size ≤ 60) : (l.take (k + 1)).all (fun s => decide (s.size ≤ 60)) = true := by
  rw [all_take _ hk, h, decide_eq_true hs]; rfl

end Go.Proofs.YtcfhnfnhdhloiaaGreat
