/- The reference's Lines and Fits. -/
import Derived.Test.YtgmdkghggomloaaSplQ
import Derived.Test.YtgmdkghggomloaaSplA
namespace Go.Proofs.Ytgmdkghggomloaa
open Go.RowKit

theorem byte10 {x : UInt8} (h : ((x.toNat : Int) == 10) = true) : x = 10 := by
  have h' : (x.toNat : Int) = 10 := by simpa using h
  exact UInt8.toNat_inj.1 (by show x.toNat = 10; omega)
theorem not10 {x : UInt8} (h : ((x.toNat : Int) == 10) = false) : some x ≠ some 10 := by
  intro e
  cases e
  simp at h

/-- Behind an append onto a row of one's own nothing has turned that lay before. -/
theorem grownBy_app {w wr w1 : World} {o : Obj} {size n : Nat} {e : TypeId} {v : Value} {xs : List Value} (hg : w.grownBy wr none) (hrow : wr.ownsRow w.heap.size e size v n xs) (hgrow : (wr.alloc o).grownBy w1 v.ownBlock) : w.grownBy w1 none := by
  have hb : Below w.heap.size w (wr.alloc o) := (grownBy_below hg).alloc hg.size o
  exact below_grownBy (hb.grown hgrow (by have := hg.size; simp; omega) (fun k hk => (hrow.lt k hk).1))

set_option maxHeartbeats 4000000 in
theorem refLines_c (s : ByteArray) (w : World) (hs : s.size ≤ 1000000) :
    Calls Try.prog 10 #[.string s] w (StrsPost (linesS s) w) := by
  obtain ⟨i0, hi', hz0, hz1, hz2⟩ := info_parts Try.info9
  go_enter Try.func10, Try.ntmps10
  go_wp2
  go_loopw [3, 4, 5] (fun v f i wr => ∃ (F K : Nat) (pre : List ByteArray), f = .int .i64 F ∧ i = .int .i64 K ∧ RL s F K pre ∧ wr.ownsRow w.heap.size 9 1 v pre.length (scells pre) ∧ w.grownBy wr none) (fun _ _ i _ => s.size - (intOf i).toNat)
  case atStart => exact ⟨0, 0, [], rfl, rfl, RL.start s, World.ownsRow_nil _ _ _ _, grownBy_refl _ _⟩
  case round =>
    obtain ⟨F, K, pre, rfl, rfl, hR, hrow, hg⟩ := hrel
    have hfi := hR.fi
    have hil := hR.il
    have hlen := hR.len
    have HR := Lib.hid hR
    clear hR
    by_cases hk : K < s.size
    · have hk' : (K : Int) < s.size := by omega
      have k0 : (0 : Int) ≤ K := by omega
      have k1 : (F : Int) ≤ (K : Int) + 1 := by omega
      have k2 : (0 : Int) ≤ F := by omega
      have k3 : (K : Int) + 1 ≤ s.size := by omega
      have k4 : IntKind.i64.wrap ((K : Int) + 1) = (K : Int) + 1 := IntWalk.i64_in _ (by omega)
      have k5 : ((K : Int) + 1).toNat = K + 1 := by omega
      have HB := Lib.hid (Lib.data_getElem? s K hk)
      go_wp2_with (at_builtin; refine wpList_append_own _ rfl _ _ 22 rfl w.heap.size 9 i0 (.string .empty) 1 16 Try.underlying22 hi' hz0 hz1 hz2 rfl (by decide) _ _ _ rfl (hrow.alloc _) ⟨wr.heap.size, 0, none⟩ 1 1 [.string (s.extract F (K + 1))] rfl rfl (cell_one_new _ _ _) (by simp [Value.oneCell']) (by unfold maxLen; omega) (by omega) (by have := hg.size; simp; omega) ?_; intro v' w1 hown' hgrow _; obtain ⟨g', cap', rfl⟩ := ownsRow_succ hown'; have HO := Lib.hid hown'; have HG := Lib.hid (grownBy_app hg hrow hgrow); clear hown' hgrow)
      · have hx : (((s[K]'hk).toNat : Int) == 10) = true := by assumption
        have hb : (bl s)[K]? = some 10 := by rw [show (bl s)[K]? = _ from HB.out, byte10 hx]
        exact ⟨⟨K + 1, K + 1, _, by go_num, by go_num, HR.out.cut hk hb, by rw [scells_snoc]; simpa using HO.out, HG.out⟩, by simp [intOf]; omega⟩
      · have hx : (((s[K]'hk).toNat : Int) == 10) = false := by assumption
        have hb : (bl s)[K]? ≠ some 10 := by rw [show (bl s)[K]? = _ from HB.out]; exact not10 hx
        exact ⟨⟨F, K + 1, pre, rfl, by go_num, HR.out.more hk hb, hrow, hg⟩, by simp [intOf]; omega⟩
    · have hk' : ¬ ((K : Int) < s.size) := by omega
      obtain rfl : K = s.size := by omega
      by_cases hF : F < s.size
      · have hF' : (F : Int) < s.size := by omega
        have k2 : (0 : Int) ≤ F := by omega
        have k3 : (F : Int) ≤ s.size := by omega
        have HE := Lib.hid (HR.out.last hF)
        go_wp2_with (at_builtin; refine wpList_append_own _ rfl _ _ 22 rfl w.heap.size 9 i0 (.string .empty) 1 16 Try.underlying22 hi' hz0 hz1 hz2 rfl (by decide) _ _ _ rfl (hrow.alloc _) ⟨wr.heap.size, 0, none⟩ 1 1 [.string (s.extract F s.size)] rfl rfl (cell_one_new _ _ _) (by simp [Value.oneCell']) (by unfold maxLen; omega) (by omega) (by have := hg.size; simp; omega) ?_; intro v' w1 hown' hgrow _; obtain ⟨g', cap', rfl⟩ := ownsRow_succ hown'; have HO := Lib.hid hown'; have HG := Lib.hid (grownBy_app hg hrow hgrow); clear hown' hgrow)
        go_ret
        exact ⟨_, rfl, by rw [HE.out, scells_snoc]; simpa using HO.out, HG.out⟩
      · have hF' : ¬ ((F : Int) < s.size) := by omega
        have HE := Lib.hid (HR.out.none hF)
        go_wp2
        go_ret
        exact ⟨_, rfl, by rw [HE.out]; exact hrow, hg⟩

theorem take_len60 {l : List ByteArray} {k : Nat} (hk : k < l.length) (h : (l.take k).all (fun s => decide (s.size ≤ 60)) = true) (hs : (l[k]?.getD .empty).size ≤ 60) : (l.take (k + 1)).all (fun s => decide (s.size ≤ 60)) = true := by
  rw [all_take _ hk, h, decide_eq_true hs]; rfl

set_option maxHeartbeats 4000000 in
theorem refFits_c (s : ByteArray) (r : Bool) (w : World) (hs : s.size ≤ 1000000) (hr : fitsS s = r) :
    Calls Try.prog 12 #[.string s] w fun e w' => e = .returned (.bool r) ∧ w.grownBy w' none := by
  have hll := linesS_len s
  go_enter Try.func12, Try.ntmps12
  go_wp2_with (go_at_call 10; refine (refLines_c s _ hs).mono ?_; rintro e w1 ⟨v, rfl, hown, hg⟩; obtain ⟨p, c, rfl, hat, hpc, hcc⟩ := strsAt_ownC hown; have H := Lib.hid hat; have HG := Lib.hid hg; clear hown hat hg hpc hcc)
  unfold fitsS at hr
  generalize linesS s = l at *
  obtain ⟨n, hn⟩ : ∃ n, l.length = n := ⟨_, rfl⟩
  have HLEN := Lib.hid hn
  have hn2 : n ≤ 1000000 := by omega
  have H2 := H
  rw [hn] at H2 ⊢
  have HR := Lib.hid hr
  clear hr hn H hll
  go_wp2
  go_loop [4] (fun i => ∃ k : Nat, k ≤ n ∧ i = .int .i64 k ∧ Hid ((l.take k).all (fun s => decide (s.size ≤ 60)) = true)) (fun i => n - (intOf i).toNat)
  case atStart => exact ⟨0, Nat.zero_le _, rfl, Lib.hid rfl⟩
  case round =>
    obtain ⟨k, hk, rfl, HA⟩ := hrel
    by_cases hkn : k < n
    · obtain ⟨b, off, rfl, q1, q2, q3, hc⟩ := H2.out.cell (by omega)
      have hck := hc k hkn
      clear hc
      have hkl : k < l.length := by rw [HLEN.out]; exact hkn
      have HY := Lib.hid (fun h => take_len60 (l := l) (k := k) hkl HA.out h)
      have HN := Lib.hid (fun h => all_out (fun s : ByteArray => decide (s.size ≤ 60)) (L := l) (k := k) hkl h)
      generalize l[k]?.getD .empty = x at *
      by_cases h6 : x.size ≤ 60
      · have h6' : ¬ ((60 : Int) < x.size) := by omega
        have HZ := Lib.hid (HY.out h6)
        go_wp2
        go_round
        case rel => exact ⟨k + 1, by omega, by go_num, HZ⟩
        case measure => simp [intOf]; omega
      · have h6' : (60 : Int) < x.size := by omega
        have hf : r = false := by
          rw [← HR.out]
          unfold fitL
          rw [HN.out (decide_eq_false h6), Bool.and_false]
        subst hf
        go_wp2
        go_ret
        exact ⟨rfl, HG.out⟩
    · obtain rfl : k = n := by omega
      have hf : decide ((k : Int) ≤ 40) = r := by
        rw [← HR.out]
        unfold fitL
        have := HA.out
        rw [List.take_of_length_le (by rw [HLEN.out]; exact Nat.le_refl _)] at this
        rw [this, Bool.and_true, HLEN.out]
        rw [Bool.eq_iff_iff, decide_eq_true_eq, decide_eq_true_eq]
        omega
      go_wp2
      go_ret
      exact ⟨rfl, HG.out⟩

end Go.Proofs.Ytgmdkghggomloaa
