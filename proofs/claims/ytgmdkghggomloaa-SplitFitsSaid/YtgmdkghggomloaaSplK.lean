/- centolaw10's own functions: same, is. -/
import Derived.Test.YtgmdkghggomloaaSplC
import Derived.Test.YtgmdkghggomloaaSplR
namespace Go.Proofs.Ytgmdkghggomloaa
open Go.RowKit

set_option maxHeartbeats 1000000 in
theorem same10_r (p1 p2 : Option Addr) (n1 n2 c1 c2 lo1 hi1 lo2 hi2 : Nat) (l1 l2 : List ByteArray) (r : Bool) (w : World) (h1 : StrsAt w lo1 hi1 p1 n1 l1) (h2 : StrsAt w lo2 hi2 p2 n2 l2) (hs : n1 ≤ 1000000) (hr : decide (l1 = l2) = r) :
    Calls Try.prog 8 #[.slice p1 n1 c1, .slice p2 n2 c2] w fun e w' => e = .returned (.bool r) ∧ w.grownBy w' none := by
  by_cases hl : n1 = n2
  · obtain rfl : n1 = n2 := hl
    have hb : ((n1 : Int) != (n1 : Int)) = false := by simp
    have H1 := Lib.hid h1
    have H2 := Lib.hid h2
    have HR := Lib.hid hr
    clear h1 h2 hr
    go_enter Try.func8, Try.ntmps8
    go_wp2
    go_loopw [5] (fun i wr => ∃ k : Nat, k ≤ n1 ∧ i = .int .i64 k ∧ Hid (l1.take k = l2.take k) ∧ w.grownBy wr none) (fun i _ => n1 - (intOf i).toNat)
    case atStart => exact ⟨0, Nat.zero_le _, rfl, Lib.hid rfl, grownBy_refl _ _⟩
    case round =>
      obtain ⟨k, hk, rfl, HT, hgr⟩ := hrel
      by_cases hkn : k < n1
      · obtain ⟨b1, o1, rfl, q1, q2, q3, hc1⟩ := (H1.out.calm hgr).cell (by omega)
        obtain ⟨b2, o2, rfl, r1, r2, r3, hc2⟩ := (H2.out.calm hgr).cell (by omega)
        have x1 := hc1 k hkn
        have y1 := hc2 k hkn
        clear hc1 hc2
        have k0 : (0 : Int) ≤ k := by omega
        have k1 : (k : Int) < n1 := by omega
        by_cases heq : l1[k]?.getD .empty = l2[k]?.getD .empty
        · have HT2 := Lib.hid (take_eqS (by rw [H1.out.len]; exact hkn) (by rw [H2.out.len]; exact hkn) HT.out heq)
          have hN : ((l1[k]?.getD .empty).toList == (l2[k]?.getD .empty).toList) = true := by rw [str_eq]; simpa using heq
          clear heq
          generalize l1[k]?.getD .empty = u at *
          generalize l2[k]?.getD .empty = v at *
          go_wp2
          go_quiet (fail)
          go_wp2
          exact ⟨⟨k + 1, by omega, by go_num, HT2, grownBy_trans hgr (grownBy_drewN _ _ none)⟩, by simp [intOf]; omega⟩
        · have hN : ((l1[k]?.getD .empty).toList == (l2[k]?.getD .empty).toList) = false := by rw [str_eq]; simpa using heq
          have hrf : r = false := by
            rw [← HR.out, decide_eq_false_iff_not]
            intro e
            exact heq (by rw [e])
          subst hrf
          clear heq
          generalize l1[k]?.getD .empty = u at *
          generalize l2[k]?.getD .empty = v at *
          go_wp2
          go_quiet (fail)
          go_wp2
          go_ret
          exact ⟨rfl, grownBy_trans hgr (grownBy_drewN _ _ none)⟩
      · obtain rfl : k = n1 := by omega
        have hrt : r = true := by
          have := HT.out
          rw [List.take_of_length_le (by rw [H1.out.len]; exact Nat.le_refl _), List.take_of_length_le (by rw [H2.out.len]; exact Nat.le_refl _)] at this
          rw [← HR.out]
          simpa using this
        subst hrt
        go_wp2
        go_ret
        exact ⟨rfl, hgr⟩
  · have hb : ((n1 : Int) != (n2 : Int)) = true := by simp; omega
    have hrf : r = false := by
      rw [← hr, decide_eq_false_iff_not]
      intro e
      exact hl (by rw [← h1.len, ← h2.len, e])
    subst hrf
    clear h1 h2 hl hr
    go_enter Try.func8, Try.ntmps8
    go_wp2
    go_ret
    exact ⟨rfl, grownBy_refl _ _⟩

/-- So far no end within. -/
def noUp (s : ByteArray) (j : Nat) : Prop := ∀ k, k < j → k + 1 < s.size → (bl s)[k]? ≠ some 10
theorem noUp_zero (s : ByteArray) : noUp s 0 := fun k h => absurd h (by omega)
theorem noUp_succ {s : ByteArray} {j : Nat} (h : noUp s j) (hj : j + 1 < s.size → (bl s)[j]? ≠ some 10) : noUp s (j + 1) := by
  intro k hk h1
  by_cases e : k = j
  · subst e; exact hj h1
  · exact h k (by omega) h1
theorem noUp_all {s : ByteArray} (h : noUp s s.size) : firstL (bl s) = (bl s).length :=
  (firstL_full _).2 fun k hk => h k (by rw [bl_size] at hk; omega) (by rw [bl_size] at hk; exact hk)

set_option maxHeartbeats 4000000 in
theorem isLaw_c (p : Option Addr) (n c lo hi : Nat) (L : List ByteArray) (r : Bool) (w : World) (h : StrsAt w lo hi p n L) (hn : n ≤ 1000000) (hsz : ∀ x ∈ L, x.size ≤ 1000000) (hr : isS L = r) :
    Calls Try.prog 14 #[.slice p n c] w fun e w' => e = .returned (.bool r) ∧ w.grownBy w' none := by
  have HR := Lib.hid hr
  have H := Lib.hid h
  have HLEN := Lib.hid h.len
  have HSZ := Lib.hid hsz
  clear h hsz hr
  go_enter Try.func14, Try.ntmps14
  go_wp2
  go_loopw [3] (fun i wr => ∃ k : Nat, k ≤ n ∧ i = .int .i64 k ∧ Hid (isUp L k = true) ∧ w.grownBy wr none) (fun i _ => n - (intOf i).toNat)
  case atStart => exact ⟨0, Nat.zero_le _, rfl, Lib.hid rfl, grownBy_refl _ _⟩
  case round =>
    obtain ⟨k, hk, rfl, HA, hgr⟩ := hrel
    by_cases hkn : k < n
    · obtain ⟨b, off, rfl, q1, q2, q3, hc⟩ := (H.out.calm hgr).cell (by omega)
      have hck := hc k hkn
      clear hc
      have hkl : k < L.length := by rw [HLEN.out]; exact hkn
      have hs : (L[k]?.getD .empty).size ≤ 1000000 := by
        rw [List.getElem?_eq_getElem hkl]
        exact HSZ.out _ (List.getElem_mem hkl)
      have HSU := Lib.hid (isUp_succ L k)
      have HNO := Lib.hid (fun h => isUp_no (L := L) (k := k) hkl h)
      rw [HLEN.out] at HSU HNO
      generalize L[k]?.getD .empty = s at *
      by_cases h0 : s.size = 0
      · have he : ((s.size : Int) == 0) = true := by rw [beq_iff_eq]; omega
        have hf : r = false := by
          rw [← HR.out]
          refine HNO.out ?_
          unfold goodB
          rw [show bl s = [] from List.length_eq_zero_iff.1 (by rw [bl_size, h0])]
          rfl
        subst hf
        go_wp2
        go_ret
        exact ⟨rfl, hgr⟩
      · have he : ((s.size : Int) == 0) = false := by rw [beq_eq_false_iff_ne]; omega
        have hne : bl s ≠ [] := by
          intro e
          have := bl_size s
          rw [e] at this
          exact h0 this.symm
        go_wp2
        go_loop [4] (fun x => ∃ j : Nat, j ≤ s.size ∧ x = .int .i64 j ∧ Hid (noUp s j)) (fun x => s.size - (intOf x).toNat)
        case atStart => exact ⟨0, Nat.zero_le _, rfl, Lib.hid (noUp_zero s)⟩
        case round =>
          obtain ⟨j, hj, rfl, HU⟩ := hrel
          by_cases hjs : j < s.size
          · have hjs' : (j : Int) < s.size := by omega
            have HB := Lib.hid (Lib.data_getElem? s j hjs)
            by_cases hlast : j + 1 < s.size
            · have hl' : (j : Int) < (s.size : Int) - 1 := by omega
              go_wp2
              · have hx : ((s[j]'hjs).toNat : Int) = 10 := by assumption
                have hf : r = false := by
                  rw [← HR.out]
                  refine HNO.out ?_
                  unfold goodB
                  rw [decide_eq_false (p := firstL (bl s) = (bl s).length), Bool.and_false, Bool.false_and]
                  intro e
                  refine (firstL_full _).1 e j (by rw [bl_size]; exact hlast) ?_
                  rw [show (bl s)[j]? = _ from HB.out, byte10 (beq_iff_eq.2 hx)]
                subst hf
                go_ret
                exact ⟨rfl, hgr⟩
              · have hx : ¬ ((s[j]'hjs).toNat : Int) = 10 := by assumption
                have HU2 : Hid (noUp s (j + 1)) := Lib.hid (noUp_succ HU.out (fun _ => by rw [show (bl s)[j]? = _ from HB.out]; exact not10 (beq_eq_false_iff_ne.2 hx)))
                exact ⟨⟨j + 1, by omega, by go_num, HU2⟩, by simp [intOf]; omega⟩
            · have hl' : ¬ ((j : Int) < (s.size : Int) - 1) := by omega
              have HU2 : Hid (noUp s (j + 1)) := Lib.hid (noUp_succ HU.out (fun h => absurd h hlast))
              go_wp2
              all_goals exact ⟨⟨j + 1, by omega, by go_num, HU2⟩, by simp [intOf]; omega⟩
          · obtain rfl : j = s.size := by omega
            have hfull := noUp_all HU.out
            have hG : goodB (decide (k + 1 = n)) (bl s) = (decide (k + 1 = n) || decide ((bl s).getLast? = some 10)) := by
              unfold goodB
              rw [decide_eq_true hfull, decide_eq_true hne]
              rfl
            have HG := Lib.hid hG
            have hzl : s.size - 1 < s.size := by omega
            have HL10 := Lib.hid (last10 s hzl)
            clear hfull hG hne HU
            obtain ⟨z, hz⟩ : ∃ z, z = s.size - 1 := ⟨_, rfl⟩
            have hz1 : IntKind.i64.wrap ((s.size : Int) - 1) = (z : Int) := by rw [IntWalk.i64_in _ (by omega)]; omega
            have z0 : (0 : Int) ≤ z := by omega
            have z1 : (z : Int) < s.size := by omega
            have z2 : z < s.size := by omega
            obtain ⟨y, hy⟩ : ∃ y, y = n - 1 := ⟨_, rfl⟩
            have hy1 : IntKind.i64.wrap ((n : Int) - 1) = (y : Int) := by rw [IntWalk.i64_in _ (by omega)]; omega
            have HL11 : Hid (decide ((bl s).getLast? = some 10) = !(((s[z]'z2).toNat : Int) != 10)) := by
              refine Lib.hid ?_
              rw [HL10.out]
              simp only [hz]
            have k0 : (0 : Int) ≤ k := by omega
            have k1 : (k : Int) < n := by omega
            by_cases h2 : k + 1 = n
            · have HN : Hid (isUp L (k + 1) = true) := Lib.hid (by rw [HSU.out, HA.out, HG.out, decide_eq_true h2]; rfl)
              have h2' : decide ((k : Int) < (y : Int)) = false := by rw [decide_eq_false_iff_not]; omega
              have h2'' : ¬ k < y := by omega
              clear hz hy HL10 HL11
              go_wp2
              go_quiet (fail)
              go_wp2
              exact ⟨⟨k + 1, by omega, by go_num, HN, grownBy_trans hgr (grownBy_drewN _ _ none)⟩, by simp [intOf]; omega⟩
            · have h2' : (k : Int) < (y : Int) := by omega
              have h2'' : k < y := by omega
              clear hz hy HL10
              go_wp2
              go_quiet (fail)
              go_wp2
              · have hx : (((s[z]'z2).toNat : Int) != 10) = true := by assumption
                have hf : r = false := by
                  rw [← HR.out]
                  refine HNO.out ?_
                  rw [HG.out, decide_eq_false h2, HL11.out, hx]
                  rfl
                subst hf
                go_ret
                exact ⟨rfl, grownBy_trans hgr (grownBy_drewN _ _ none)⟩
              · have hx : (((s[z]'z2).toNat : Int) != 10) = false := by assumption
                have HN : Hid (isUp L (k + 1) = true) := Lib.hid (by rw [HSU.out, HA.out, HG.out, decide_eq_false h2, HL11.out, hx]; rfl)
                exact ⟨⟨k + 1, by omega, by go_num, HN, grownBy_trans hgr (grownBy_drewN _ _ none)⟩, by simp [intOf]; omega⟩
    · obtain rfl : k = n := by omega
      have hf : r = true := by
        rw [← HR.out, ← isUp_all, HLEN.out]
        exact HA.out
      subst hf
      go_wp2
      go_ret
      exact ⟨rfl, hgr⟩

end Go.Proofs.Ytgmdkghggomloaa
