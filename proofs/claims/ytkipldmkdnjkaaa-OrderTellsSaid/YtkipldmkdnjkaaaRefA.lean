/- The contracts of package centoref2 on classes: one, IsOrder, IsTotal, Circles, Classes. -/
import Derived.Test.YtkipldmkdnjkaaaOrdQ
import Derived.Test.YtkipldmkdnjkaaaOrdD
import Derived.Test.YtkipldmkdnjkaaaOrdC
namespace Go.Proofs.Ytkipldmkdnjkaaa
open Go.RowKit

theorem IsMat.rows {w : World} {lo hi p n : Nat} {R : Nat → Nat → Bool} (h : IsMat w lo hi p n R) (h0 : 0 < n) :
    ∃ mb cap, ∃ rb : Nat → Nat, w.cell? ⟨p, 1, none⟩ = some (.slice (some ⟨mb, 0, none⟩) n cap) ∧ (∀ a, a < n → w.cell? ⟨mb, a, none⟩ = some (.slice (some ⟨rb a, 0, none⟩) n n)) ∧ ∀ a b, a < n → b < n → w.cell? ⟨rb a, b, none⟩ = some (.bool (R a b)) := by
  obtain ⟨h1, h2, pm, cap, mb, rb, h3⟩ := h
  obtain ⟨rfl, _⟩ := h3.cm h0
  exact ⟨mb, cap, rb, h3.c1, fun a ha => (h3.cm ha).2, fun a b ha hb => (h3.row a ha).cell hb⟩

set_option maxHeartbeats 1000000 in
theorem matOne_c (lo hi p n a b : Nat) (C : Nat → Nat → Bool) (w : World) (h : IsMat w lo hi p n C) (ha : a < n) (hb : b < n) : Calls Try.prog 35 #[.pointer (some ⟨p, 0, none⟩), .int .i64 a, .int .i64 b] w fun e w' => e = .returned (.bool (oneC C a b)) ∧ w' = w := by
  by_cases hab : a = b
  · subst hab
    rw [oneC_refl]
    clear h
    go_enter Try.func35, Try.ntmps35
    go_wp2
    go_ret
    exact ⟨rfl, rfl⟩
  · have hne : ((a : Int) == (b : Int)) = false := by simp; omega
    have e1 : oneC C a b = (C a b && C b a) := by simp [oneC, hab]
    rw [e1]
    obtain ⟨mb, cap, rb, g1, g2, g3⟩ := h.rows (by omega)
    have ra := g2 a ha
    have rb' := g2 b hb
    have cab := g3 a b ha hb
    have cba := g3 b a hb ha
    have a0 : (0 : Int) ≤ a := by omega
    have a1 : (a : Int) < n := by omega
    have b0 : (0 : Int) ≤ b := by omega
    have b1 : (b : Int) < n := by omega
    clear h g2 g3 e1
    generalize C a b = u at *
    generalize C b a = v at *
    cases u
    · go_enter Try.func35, Try.ntmps35
      go_wp2
      go_ret
      exact ⟨rfl, rfl⟩
    · go_enter Try.func35, Try.ntmps35
      go_wp2
      go_ret
      exact ⟨rfl, rfl⟩

set_option maxHeartbeats 1000000 in
theorem matIsOrder_c (lo hi p n : Nat) (C : Nat → Nat → Bool) (w : World) (h : IsMat w lo hi p n C) : Calls Try.prog 20 #[.pointer (some ⟨p, 0, none⟩)] w fun e w' => e = .returned (.bool (ordB C n)) ∧ w.grownBy w' none := by
  have hn := h.small
  have hc0 := h.c0
  have H := Lib.hid h
  clear h
  go_enter Try.func20, Try.ntmps20
  go_wp2
  go_loopw [3] (fun i wr => ∃ k : Nat, k ≤ n ∧ i = .int .i64 k ∧ (List.range k).all (fun a => !C a a) = true ∧ w = wr) (fun i _ => n - (intOf i).toNat)
  case atStart => exact ⟨0, Nat.zero_le _, rfl, rfl, rfl⟩
  case round =>
    obtain ⟨k, hk, rfl, hall, rfl⟩ := hrel
    have HALL := Lib.hid hall
    clear hall
    by_cases hkn : k < n
    · obtain ⟨mb, cap, rb, g1, g2, g3⟩ := H.out.rows (by omega)
      have rk := g2 k hkn
      have ck := g3 k k hkn hkn
      have HN := Lib.hid hkn
      have k0 : (0 : Int) ≤ k := by omega
      have k1 : (k : Int) < n := by omega
      clear g2 g3
      cases hcc : C k k
      · rw [hcc] at ck
        have HC := Lib.hid hcc
        clear hcc
        go_wp2
        exact ⟨⟨k + 1, by omega, by go_num, by rw [all_succ, HALL.out, HC.out]; rfl, trivial⟩, by simp [intOf]; omega⟩
      · rw [hcc] at ck
        have HC := Lib.hid hcc
        clear hcc
        go_wp2
        go_ret
        refine ⟨?_, grownBy_refl _ _⟩
        have : ordB C n = false := all_no HN.out (by rw [HC.out]; rfl)
        rw [this]
        rfl
    · obtain rfl : k = n := by omega
      go_wp2
      go_ret
      exact ⟨by rw [show ordB C k = true from HALL.out]; rfl, grownBy_refl _ _⟩

set_option maxHeartbeats 1000000 in
theorem matIsTotal_c (lo hi p n : Nat) (C : Nat → Nat → Bool) (w : World) (h : IsMat w lo hi p n C) : Calls Try.prog 22 #[.pointer (some ⟨p, 0, none⟩)] w fun e w' => e = .returned (.bool (ordB C n && totB C n)) ∧ w.grownBy w' none := by
  have hn := h.small
  have hc0 := h.c0
  have H := Lib.hid h
  clear h
  go_enter Try.func22, Try.ntmps22
  go_wp2
  go_loopw [3] (fun i wr => ∃ k : Nat, k ≤ n ∧ i = .int .i64 k ∧ (List.range k).all (fun a => (List.range a).all fun b => C a b || C b a) = true ∧ w = wr) (fun i _ => n - (intOf i).toNat)
  case atStart => exact ⟨0, Nat.zero_le _, rfl, rfl, rfl⟩
  case round =>
    obtain ⟨a, ha, rfl, hall, rfl⟩ := hrel
    have HALL := Lib.hid hall
    clear hall
    by_cases han : a < n
    · have HAN := Lib.hid han
      have a0 : (0 : Int) ≤ a := by omega
      have a1 : (a : Int) < n := by omega
      go_wp2
      go_loopw [4] (fun i wr => ∃ b : Nat, b ≤ a ∧ i = .int .i64 b ∧ (List.range b).all (fun b => C a b || C b a) = true ∧ w = wr) (fun i _ => a - (intOf i).toNat)
      case atStart => exact ⟨0, Nat.zero_le _, rfl, rfl, rfl⟩
      case round =>
        obtain ⟨b, hb, rfl, hallb, rfl⟩ := hrel
        have HALLB := Lib.hid hallb
        clear hallb
        by_cases hba : b < a
        · obtain ⟨mb, cap, rb, g1, g2, g3⟩ := H.out.rows (by omega)
          have hbn : b < n := by omega
          have ra := g2 a han
          have rb' := g2 b hbn
          have cab := g3 a b han hbn
          have cba := g3 b a hbn han
          have HBA := Lib.hid hba
          have b0 : (0 : Int) ≤ b := by omega
          have b1 : (b : Int) < a := by omega
          have b2 : (b : Int) < n := by omega
          clear g2 g3
          cases hab : C a b
          · cases hba' : C b a
            · rw [hab] at cab
              rw [hba'] at cba
              have HAB := Lib.hid hab
              have HBA' := Lib.hid hba'
              clear hab hba'
              go_wp2
              go_ret
              refine ⟨?_, grownBy_refl _ _⟩
              have : totB C n = false := all_no HAN.out (all_no HBA.out (by rw [HAB.out, HBA'.out]; rfl))
              rw [this, Bool.and_false]
              rfl
            · rw [hab] at cab
              rw [hba'] at cba
              have HAB := Lib.hid hab
              have HBA' := Lib.hid hba'
              clear hab hba'
              go_wp2
              exact ⟨⟨b + 1, by omega, by go_num, by rw [all_succ, HALLB.out, HAB.out, HBA'.out]; rfl, trivial⟩, by simp [intOf]; omega⟩
          · rw [hab] at cab
            have HAB := Lib.hid hab
            clear hab
            go_wp2
            exact ⟨⟨b + 1, by omega, by go_num, by rw [all_succ, HALLB.out, HAB.out]; rfl, trivial⟩, by simp [intOf]; omega⟩
        · obtain rfl : b = a := by omega
          go_wp2
          exact ⟨⟨b + 1, by omega, by go_num, by rw [all_succ, HALL.out, HALLB.out]; rfl, trivial⟩, by simp [intOf]; omega⟩
    · obtain rfl : a = n := by omega
      go_wp2_with fail
      refine (matIsOrder_c lo hi p a C _ H.out).mono ?_
      rintro e w1 ⟨he, hg1⟩
      cases ho : ordB C a
      · rw [ho] at he
        subst he
        have HO := Lib.hid ho
        clear ho
        go_wp2
        go_ret
        exact ⟨by rw [HO.out]; rfl, hg1⟩
      · rw [ho] at he
        subst he
        have HO := Lib.hid ho
        clear ho
        go_wp2
        go_ret
        exact ⟨by rw [HO.out, show totB C a = true from HALL.out]; rfl, hg1⟩

end Go.Proofs.Ytkipldmkdnjkaaa
