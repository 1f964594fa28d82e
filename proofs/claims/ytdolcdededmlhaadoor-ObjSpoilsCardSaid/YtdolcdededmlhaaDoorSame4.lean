/- The contracts of slices.Equal over strings and pairs, Same of package obj. -/
import Derived.Test.YtdolcdededmlhaaDoorFresh
namespace Go.Proofs.YtdolcdededmlhaaDoor
open Go.RowKit

theorem str_eq {a b : ByteArray} : (a.toList == b.toList) = decide (a = b) := by
  by_cases h : a = b
  · rw [h]; simp
  · rw [decide_eq_false h]
    rw [beq_eq_false_iff_ne]
    intro e
    rw [ByteArray.toList_eq, ByteArray.toList_eq] at e
    exact h (by cases a; cases b; simp at e; rw [e])

theorem take_eqS {l1 l2 : List ByteArray} {k : Nat} (h1 : k < l1.length) (h2 : k < l2.length) (h : l1.take k = l2.take k) (e : l1[k]?.getD .empty = l2[k]?.getD .empty) : l1.take (k + 1) = l2.take (k + 1) := by
  rw [List.getElem?_eq_getElem h1, List.getElem?_eq_getElem h2] at e
  simp only [Option.getD_some] at e
  rw [List.take_succ_eq_append_getElem h1, List.take_succ_eq_append_getElem h2, h, e]

set_option maxHeartbeats 1000000 in
theorem eqS_r (p1 p2 : Option Addr) (n1 n2 c1 c2 lo1 hi1 lo2 hi2 : Nat) (l1 l2 : List ByteArray) (r : Bool) (w : World) (h1 : StrsAt w lo1 hi1 p1 n1 l1) (h2 : StrsAt w lo2 hi2 p2 n2 l2) (hs : n1 ≤ 1000000) (hr : decide (l1 = l2) = r) :
    Calls Tryd.prog 36 #[.slice p1 n1 c1, .slice p2 n2 c2] w fun e w' => e = .returned (.bool r) ∧ w.grownBy w' none := by
  by_cases hl : n1 = n2
  · obtain rfl : n1 = n2 := hl
    have hb : ((n1 : Int) != (n1 : Int)) = false := by simp
    have H1 := Lib.hid h1
    have H2 := Lib.hid h2
    have HR := Lib.hid hr
    clear h1 h2 hr
    go_enter Tryd.func36, Tryd.ntmps36
    go_wp2
    go_loopw [13] (fun i wr => ∃ k : Nat, k ≤ n1 ∧ i = .int .i64 k ∧ Hid (l1.take k = l2.take k) ∧ w.grownBy wr none) (fun i _ => n1 - (intOf i).toNat)
    case atStart => exact ⟨0, Nat.zero_le _, rfl, Lib.hid rfl, grownBy_refl _ _⟩
    case round =>
      obtain ⟨k, hk, rfl, HT, hgr⟩ := hrel
      by_cases hkn : k < n1
      · obtain ⟨b1, o1, rfl, q1, q2, q3, hc1⟩ := (H1.out.calm hgr).cell (by omega)
        obtain ⟨b2, o2, rfl, r1, r2, r3, hc2⟩ := (H2.out.calm hgr).cell (by omega)
        have x1 := hc1 k hkn
        have y1 := hc2 k hkn
        clear hc1 hc2
        have k0 : (0 : Int) ≤ k := by omega
        have k1 : (k : Int) < n1 := by omega
        by_cases heq : l1[k]?.getD .empty = l2[k]?.getD .empty
        · have HT2 := Lib.hid (take_eqS (by rw [H1.out.len]; exact hkn) (by rw [H2.out.len]; exact hkn) HT.out heq)
          have hN : ((l1[k]?.getD .empty).toList == (l2[k]?.getD .empty).toList) = true := by rw [str_eq]; simpa using heq
          clear heq
          generalize l1[k]?.getD .empty = u at *
          generalize l2[k]?.getD .empty = v at *
          go_wp2
          go_quiet (fail)
          go_wp2
          exact ⟨⟨k + 1, by omega, by go_num, HT2, grownBy_trans hgr (grownBy_drewN _ _ none)⟩, by simp [intOf]; omega⟩
        · have hN : ((l1[k]?.getD .empty).toList == (l2[k]?.getD .empty).toList) = false := by rw [str_eq]; simpa using heq
          have hrf : r = false := by
            rw [← HR.out, decide_eq_false_iff_not]
            intro e
            exact heq (by rw [e])
          subst hrf
          clear heq
          generalize l1[k]?.getD .empty = u at *
          generalize l2[k]?.getD .empty = v at *
          go_wp2
          go_quiet (fail)
          go_wp2
          go_ret
          exact ⟨rfl, grownBy_trans hgr (grownBy_drewN _ _ none)⟩
      · obtain rfl : k = n1 := by omega
        have hrt : r = true := by
          have := HT.out
          rw [List.take_of_length_le (by rw [H1.out.len]; exact Nat.le_refl _), List.take_of_length_le (by rw [H2.out.len]; exact Nat.le_refl _)] at this
          rw [← HR.out]
          simpa using this
        subst hrt
        go_wp2
        go_ret
        exact ⟨rfl, hgr⟩
  · have hb : ((n1 : Int) != (n2 : Int)) = true := by simp; omega
    have hrf : r = false := by
      rw [← hr, decide_eq_false_iff_not]
      intro e
      exact hl (by rw [← h1.len, ← h2.len, e])
    subst hrf
    clear h1 h2 hl hr
    go_enter Tryd.func36, Tryd.ntmps36
    go_wp2
    go_ret
    exact ⟨rfl, grownBy_refl _ _⟩

set_option maxHeartbeats 1000000 in
theorem eqP_r (p1 p2 : Option Addr) (n1 n2 c1 c2 lo1 hi1 lo2 hi2 : Nat) (l1 l2 : List (Int × Int)) (r : Bool) (w : World) (h1 : PairsAt w lo1 hi1 p1 n1 l1) (h2 : PairsAt w lo2 hi2 p2 n2 l2) (hs : n1 ≤ 1000000) (hr : decide (l1 = l2) = r) :
    Calls Tryd.prog 37 #[.slice p1 n1 c1, .slice p2 n2 c2] w fun e w' => e = .returned (.bool r) ∧ w.grownBy w' none := by
  by_cases hl : n1 = n2
  · obtain rfl : n1 = n2 := hl
    have hb : ((n1 : Int) != (n1 : Int)) = false := by simp
    have H1 := Lib.hid h1
    have H2 := Lib.hid h2
    have HR := Lib.hid hr
    clear h1 h2 hr
    go_enter Tryd.func37, Tryd.ntmps37
    go_wp2
    go_loopw [13] (fun i wr => ∃ k : Nat, k ≤ n1 ∧ i = .int .i64 k ∧ Hid (l1.take k = l2.take k) ∧ w.grownBy wr none) (fun i _ => n1 - (intOf i).toNat)
    case atStart => exact ⟨0, Nat.zero_le _, rfl, Lib.hid rfl, grownBy_refl _ _⟩
    case round =>
      obtain ⟨k, hk, rfl, HT, hgr⟩ := hrel
      by_cases hkn : k < n1
      · obtain ⟨b1, o1, rfl, q1, q2, q3, hc1⟩ := (H1.out.calm hgr).cell (by omega)
        obtain ⟨b2, o2, rfl, r1, r2, r3, hc2⟩ := (H2.out.calm hgr).cell (by omega)
        obtain ⟨x1, x2⟩ := hc1 k hkn
        obtain ⟨y1, y2⟩ := hc2 k hkn
        clear hc1 hc2
        have k0 : (0 : Int) ≤ k := by omega
        have k1 : (k : Int) < n1 := by omega
        have hN := pair_neq (l1[k]?.getD (0, 0)).1 (l1[k]?.getD (0, 0)).2 (l2[k]?.getD (0, 0)).1 (l2[k]?.getD (0, 0)).2
        by_cases heq : l1[k]?.getD (0, 0) = l2[k]?.getD (0, 0)
        · have e1 : (!((l1[k]?.getD (0, 0)).1 == (l2[k]?.getD (0, 0)).1 && (l1[k]?.getD (0, 0)).2 == (l2[k]?.getD (0, 0)).2)) = false := by rw [heq]; simp
          rw [e1] at hN
          have HT2 := Lib.hid (take_eq_succ (by rw [H1.out.len]; exact hkn) (by rw [H2.out.len]; exact hkn) HT.out heq)
          clear heq e1
          generalize l1[k]?.getD (0, 0) = u at *
          generalize l2[k]?.getD (0, 0) = v at *
          go_wp2
          go_quiet (fail)
          go_wp2
          exact ⟨⟨k + 1, by omega, by go_num, HT2, grownBy_trans hgr (grownBy_drewN _ _ none)⟩, by simp [intOf]; omega⟩
        · have e1 : (!((l1[k]?.getD (0, 0)).1 == (l2[k]?.getD (0, 0)).1 && (l1[k]?.getD (0, 0)).2 == (l2[k]?.getD (0, 0)).2)) = true := by
            rw [Bool.not_eq_true', Bool.and_eq_false_iff, beq_eq_false_iff_ne, beq_eq_false_iff_ne]
            by_cases e0 : (l1[k]?.getD (0, 0)).1 = (l2[k]?.getD (0, 0)).1
            · exact .inr fun e2 => heq (Prod.ext e0 e2)
            · exact .inl e0
          rw [e1] at hN
          have hrf : r = false := by
            rw [← HR.out, decide_eq_false_iff_not]
            intro e
            exact heq (by rw [e])
          subst hrf
          clear heq e1
          generalize l1[k]?.getD (0, 0) = u at *
          generalize l2[k]?.getD (0, 0) = v at *
          go_wp2
          go_quiet (fail)
          go_wp2
          go_ret
          exact ⟨rfl, grownBy_trans hgr (grownBy_drewN _ _ none)⟩
      · obtain rfl : k = n1 := by omega
        have hrt : r = true := by
          have := HT.out
          rw [List.take_of_length_le (by rw [H1.out.len]; exact Nat.le_refl _), List.take_of_length_le (by rw [H2.out.len]; exact Nat.le_refl _)] at this
          rw [← HR.out]
          simpa using this
        subst hrt
        go_wp2
        go_ret
        exact ⟨rfl, hgr⟩
  · have hb : ((n1 : Int) != (n2 : Int)) = true := by simp; omega
    have hrf : r = false := by
      rw [← hr, decide_eq_false_iff_not]
      intro e
      exact hl (by rw [← h1.len, ← h2.len, e])
    subst hrf
    clear h1 h2 hl hr
    go_enter Tryd.func37, Tryd.ntmps37
    go_wp2
    go_ret
    exact ⟨rfl, grownBy_refl _ _⟩

/-- Two boxes laid by a call's beginning. -/
theorem box22 {w w1 : World} {x y x' y' : Value} {t : TypeId} (hg : ((w.alloc (.cells #[x, y] t)).alloc (.cells #[x', y'] t)).grownBy w1 none) :
    (w1.cell? ⟨w.heap.size, 0, none⟩ = some x ∧ w1.cell? ⟨w.heap.size, 1, none⟩ = some y) ∧ (w1.cell? ⟨w.heap.size + 1, 0, none⟩ = some x' ∧ w1.cell? ⟨w.heap.size + 1, 1, none⟩ = some y') ∧ w.grownBy w1 none := by
  have h2 := box2 hg
  have h1 := box2 h2.2.2
  rw [World.size_alloc] at h2
  exact ⟨⟨h1.1, h1.2.1⟩, ⟨h2.1, h2.2.1⟩, h1.2.2⟩

set_option maxHeartbeats 1000000 in
theorem objSame_r (p q p' q' : Option Addr) (n c m d n' c' m' d' lo hi lo' hi' : Nat) (L L' : List ByteArray) (P P' : List (Int × Int)) (r : Bool) (w : World) (h : ObjAt w lo hi p n q m L P) (h' : ObjAt w lo' hi' p' n' q' m' L' P') (hn : n ≤ 1000000) (hm : m ≤ 1000000)
    (hr : (decide (L = L') && decide (P = P')) = r) :
    Calls Tryd.prog 18 #[.agg #[.slice p n c, .slice q m d], .agg #[.slice p' n' c', .slice q' m' d']] w fun e w' => e = .returned (.bool r) ∧ w.grownBy w' none := by
  have hg0 := grownBy_trans (World.grownBy_alloc w (.cells #[.slice p n c, .slice q m d] 25) none) (World.grownBy_alloc _ (.cells #[.slice p' n' c', .slice q' m' d'] 25) none)
  have H1 := Lib.hid (h.calm hg0)
  have H2 := Lib.hid (h'.calm hg0)
  clear h h' hg0
  cases hl : decide (L = L')
  · have HL := Lib.hid hl
    obtain rfl : r = false := by rw [← hr, hl]; rfl
    clear hl hr
    go_enter Tryd.func18, Tryd.ntmps18
    go_wp2_with fail
    refine (eqS_r _ _ _ _ _ _ _ _ _ _ L L' false _ (by exact H1.out.ls) (by exact H2.out.ls) hn HL.out).mono ?_
    rintro e w1 ⟨rfl, hg⟩
    have HG := Lib.hid (box22 hg).2.2
    clear hg
    go_wp2
    go_ret
    exact ⟨rfl, HG.out⟩
  · have HL := Lib.hid hl
    have HP : Hid (decide (P = P') = r) := Lib.hid (by rw [← hr, hl]; rfl)
    clear hl hr
    go_enter Tryd.func18, Tryd.ntmps18
    go_wp2_with fail
    refine (eqS_r _ _ _ _ _ _ _ _ _ _ L L' true _ (by exact H1.out.ls) (by exact H2.out.ls) hn HL.out).mono ?_
    rintro e w1 ⟨rfl, hg⟩
    obtain ⟨⟨b0, b1⟩, ⟨b2, b3⟩, hg1⟩ := box22 hg
    have HG1 := Lib.hid hg1
    have H3 := Lib.hid (H1.out.calm hg)
    have H4 := Lib.hid (H2.out.calm hg)
    clear hg hg1
    go_wp2_with fail
    refine (eqP_r _ _ _ _ _ _ _ _ _ _ P P' r _ (by exact H3.out.ps) (by exact H4.out.ps) hm HP.out).mono ?_
    rintro e w2 ⟨rfl, hg2⟩
    have HG := Lib.hid (grownBy_trans HG1.out hg2)
    clear hg2
    go_wp2
    go_ret
    exact ⟨rfl, HG.out⟩

end Go.Proofs.YtdolcdededmlhaaDoor
