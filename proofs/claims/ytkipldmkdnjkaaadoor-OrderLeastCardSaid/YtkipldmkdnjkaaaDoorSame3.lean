/- centolaw3's own functions same and samePairs. -/
import Derived.Test.YtkipldmkdnjkaaaDoorOrdF
import Derived.Test.YtkipldmkdnjkaaaDoorOrdD
import Derived.Test.YtkipldmkdnjkaaaDoorRelJoins
namespace Go.Proofs.YtkipldmkdnjkaaaDoor
open Go.RowKit

set_option maxHeartbeats 1000000 in
theorem samePairs3_r (p1 p2 : Option Addr) (n1 n2 c1 c2 lo1 hi1 lo2 hi2 : Nat) (l1 l2 : List (Int × Int)) (r : Bool) (w : World) (h1 : PairsAt w lo1 hi1 p1 n1 l1) (h2 : PairsAt w lo2 hi2 p2 n2 l2) (hs : n1 ≤ 1000000) (hr : decide (l1 = l2) = r) :
    Calls Tryd.prog 7 #[.slice p1 n1 c1, .slice p2 n2 c2] w fun e w' => e = .returned (.bool r) ∧ w.grownBy w' none := by
  by_cases hl : n1 = n2
  · obtain rfl : n1 = n2 := hl
    have hb : ((n1 : Int) != (n1 : Int)) = false := by simp
    have H1 := Lib.hid h1
    have H2 := Lib.hid h2
    have HR := Lib.hid hr
    clear h1 h2 hr
    go_enter Tryd.func7, Tryd.ntmps7
    go_wp2
    go_loopw [5] (fun i wr => ∃ k : Nat, k ≤ n1 ∧ i = .int .i64 k ∧ Hid (l1.take k = l2.take k) ∧ w.grownBy wr none) (fun i _ => n1 - (intOf i).toNat)
    case atStart => exact ⟨0, Nat.zero_le _, rfl, Lib.hid rfl, grownBy_refl _ _⟩
    case round =>
      obtain ⟨k, hk, rfl, HT, hgr⟩ := hrel
      by_cases hkn : k < n1
      · obtain ⟨b1, o1, rfl, q1, q2, q3, hc1⟩ := (H1.out.calm hgr).cell (by omega)
        obtain ⟨b2, o2, rfl, r1, r2, r3, hc2⟩ := (H2.out.calm hgr).cell (by omega)
        obtain ⟨x1, x2⟩ := hc1 k hkn
        obtain ⟨y1, y2⟩ := hc2 k hkn
        clear hc1 hc2
        have k0 : (0 : Int) ≤ k := by omega
        have k1 : (k : Int) < n1 := by omega
        have hN := pair_neq (l1[k]?.getD (0, 0)).1 (l1[k]?.getD (0, 0)).2 (l2[k]?.getD (0, 0)).1 (l2[k]?.getD (0, 0)).2
        by_cases heq : l1[k]?.getD (0, 0) = l2[k]?.getD (0, 0)
        · have e1 : (!((l1[k]?.getD (0, 0)).1 == (l2[k]?.getD (0, 0)).1 && (l1[k]?.getD (0, 0)).2 == (l2[k]?.getD (0, 0)).2)) = false := by rw [heq]; simp
          rw [e1] at hN
          have HT2 := Lib.hid (take_eq_succ (by rw [H1.out.len]; exact hkn) (by rw [H2.out.len]; exact hkn) HT.out heq)
          clear heq e1
          generalize l1[k]?.getD (0, 0) = u at *
          generalize l2[k]?.getD (0, 0) = v at *
          go_wp2
          go_quiet (fail)
          go_wp2
          exact ⟨⟨k + 1, by omega, by go_num, HT2, grownBy_trans hgr (grownBy_drewN _ _ none)⟩, by simp [intOf]; omega⟩
        · have e1 : (!((l1[k]?.getD (0, 0)).1 == (l2[k]?.getD (0, 0)).1 && (l1[k]?.getD (0, 0)).2 == (l2[k]?.getD (0, 0)).2)) = true := by
            rw [Bool.not_eq_true', Bool.and_eq_false_iff, beq_eq_false_iff_ne, beq_eq_false_iff_ne]
            by_cases e0 : (l1[k]?.getD (0, 0)).1 = (l2[k]?.getD (0, 0)).1
            · exact .inr fun e2 => heq (Prod.ext e0 e2)
            · exact .inl e0
          rw [e1] at hN
          have hrf : r = false := by
            rw [← HR.out, decide_eq_false_iff_not]
            intro e
            exact heq (by rw [e])
          subst hrf
          clear heq e1
          generalize l1[k]?.getD (0, 0) = u at *
          generalize l2[k]?.getD (0, 0) = v at *
          go_wp2
          go_quiet (fail)
          go_wp2
          go_ret
          exact ⟨rfl, grownBy_trans hgr (grownBy_drewN _ _ none)⟩
      · obtain rfl : k = n1 := by omega
        have hrt : r = true := by
          have := HT.out
          rw [List.take_of_length_le (by rw [H1.out.len]; exact Nat.le_refl _), List.take_of_length_le (by rw [H2.out.len]; exact Nat.le_refl _)] at this
          rw [← HR.out]
          simpa using this
        subst hrt
        go_wp2
        go_ret
        exact ⟨rfl, hgr⟩
  · have hb : ((n1 : Int) != (n2 : Int)) = true := by simp; omega
    have hrf : r = false := by
      rw [← hr, decide_eq_false_iff_not]
      intro e
      exact hl (by rw [← h1.len, ← h2.len, e])
    subst hrf
    clear h1 h2 hl hr
    go_enter Tryd.func7, Tryd.ntmps7
    go_wp2
    go_ret
    exact ⟨rfl, grownBy_refl _ _⟩


/-- A slice of ints that lies there: what a caller reads of it. -/
structure IntsAt (w : World) (p : Option Addr) (n : Nat) (l : List Nat) : Prop where
  len : l.length = n
  cell : 0 < n → ∃ g, p = some ⟨g, 0, none⟩ ∧ g < w.heap.size ∧ ∀ (j x : Nat), l[j]? = some x → w.cell? ⟨g, j, none⟩ = some (.int .i64 x)
theorem IntsAt.calm {w w' : World} {p : Option Addr} {n : Nat} {l : List Nat} (h : IntsAt w p n l) (hg : w.grownBy w' none) : IntsAt w' p n l :=
  ⟨h.len, fun h0 => by
    obtain ⟨g, h1, h2, h3⟩ := h.cell h0
    exact ⟨g, h1, Nat.lt_of_lt_of_le h2 hg.size, fun j x hx => (World.cell?_of_block (a := ⟨g, j, none⟩) (hg.block g h2 (by simp))).trans (h3 j x hx)⟩⟩
theorem RowI.ints {w : World} {base g c : Nat} {l : List Nat} (h : RowI w base g c l) : IntsAt w (some ⟨g, 0, none⟩) l.length l :=
  ⟨rfl, fun _ => ⟨g, rfl, h.lt.2, fun _ _ hx => h.cell hx⟩⟩
theorem intsAt_nil (w : World) : IntsAt w none 0 [] := ⟨rfl, fun h => absurd h (by omega)⟩

end Go.Proofs.YtkipldmkdnjkaaaDoor
