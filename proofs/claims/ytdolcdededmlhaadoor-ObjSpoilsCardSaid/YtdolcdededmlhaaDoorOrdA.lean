/- The contracts of package order: what only asks; the classes. -/
import Derived.StillTailTactics
import Derived.Test.YtdolcdededmlhaaDoorGrid
namespace Go.Proofs.YtdolcdededmlhaaDoor
open Go.RowKit

theorem hasI_nat {n : Nat} {R : Nat → Nat → Bool} {a b : Nat} (ha : a < n) (hb : b < n) : hasI n R (a : Int) (b : Int) = R a b := by
  unfold hasI
  simp [ha, hb]
theorem relHas_n (lo hi p n a b : Nat) (R : Nat → Nat → Bool) (w : World) (h : IsRel w lo hi p n R) (ha : a < n) (hb : b < n) : Calls Tryd.prog 28 #[.pointer (some ⟨p, 0, none⟩), .int .i64 a, .int .i64 b] w fun e w' => e = .returned (.bool (R a b)) ∧ ∃ m, w' = w.drewN m := by
  have := relHas_c lo hi p n a b R w h
  rwa [hasI_nat ha hb] at this
theorem drewN_add (w : World) (a b : Nat) : (w.drewN a).drewN b = w.drewN (a + b) := by
  unfold World.drewN
  simp [Nat.add_assoc]

set_option maxHeartbeats 400000 in
theorem ordClosure_c (lo hi p n : Nat) (R : Nat → Nat → Bool) (w : World) (h : IsRel w lo hi p n R) : Calls Tryd.prog 47 #[.pointer (some ⟨p, 0, none⟩)] w (MadePost n (clo n R) w) := by
  have H := Lib.hid h
  clear h
  go_enter Tryd.func47, Tryd.ntmps47
  go_wp2_with fail
  refine (closure_c lo hi p n R _ H.out).mono ?_
  rintro e w1 ⟨q, rfl, h1, hg1⟩
  go_wp2
  go_ret
  exact ⟨q, rfl, h1, hg1⟩

set_option maxHeartbeats 400000 in
theorem ordClosure_nil (w : World) : Calls Tryd.prog 47 #[.pointer none] w (MadePost 0 (fun _ _ => false) w) := by
  go_enter Tryd.func47, Tryd.ntmps47
  go_wp2_with fail
  refine (relNew_mid 0 _ (by omega)).mono ?_
  rintro e w1 ⟨q, rfl, h1, hg1⟩
  go_wp2
  go_ret
  exact ⟨q, rfl, h1, hg1⟩

theorem all_succ (f : Nat → Bool) (k : Nat) : (List.range (k + 1)).all f = ((List.range k).all f && f k) := by
  rw [List.range_succ, List.all_append]
  simp
theorem all_no {f : Nat → Bool} {n a : Nat} (ha : a < n) (h : f a = false) : (List.range n).all f = false := by
  cases e : (List.range n).all f with
  | false => rfl
  | true =>
    rw [List.all_eq_true] at e
    have := e a (by simpa using ha)
    rw [h] at this
    cases this

set_option maxHeartbeats 1000000 in
theorem isOrder_c (lo hi p n : Nat) (C : Nat → Nat → Bool) (w : World) (h : IsRel w lo hi p n C) : Calls Tryd.prog 48 #[.pointer (some ⟨p, 0, none⟩)] w fun e w' => e = .returned (.bool (ordB C n)) ∧ ∃ m, w' = w.drewN m := by
  have H := Lib.hid h
  have hn := h.small
  clear h
  go_enter Tryd.func48, Tryd.ntmps48
  go_wp2_with fail
  refine (relLen_c lo hi p n C _ H.out).mono ?_
  rintro e w1 ⟨rfl, hw1⟩
  subst w1
  go_wp2
  go_loopw [6] (fun i wr => ∃ k : Nat, k ≤ n ∧ i = .int .i64 k ∧ (List.range k).all (fun a => !C a a) = true ∧ ∃ m, wr = w.drewN m) (fun i _ => n - (intOf i).toNat)
  case atStart => exact ⟨0, Nat.zero_le _, rfl, rfl, 0, rfl⟩
  case round =>
    obtain ⟨k, hk, rfl, hall, m, rfl⟩ := hrel
    have HALL := Lib.hid hall
    clear hall
    by_cases hkn : k < n
    · have HN := Lib.hid hkn
      have hki : (k : Int) < n := by omega
      go_wp2_with fail
      refine (relHas_n lo hi p n k k C _ (H.out.calm (grownBy_drewN w m none)) HN.out HN.out).mono ?_
      rintro e w' ⟨he, m', rfl⟩
      cases hcc : C k k
      · rw [hcc] at he
        subst he
        have HC := Lib.hid hcc
        clear hcc
        go_wp2
        exact ⟨⟨k + 1, by omega, by go_num, by rw [all_succ, HALL.out, HC.out]; rfl, m + m', rfl⟩, by simp [intOf]; omega⟩
      · rw [hcc] at he
        subst he
        have HC := Lib.hid hcc
        clear hcc
        go_wp2
        go_ret
        refine ⟨?_, m + m', rfl⟩
        have : ordB C n = false := all_no HN.out (by rw [HC.out]; rfl)
        rw [this]
        rfl
    · obtain rfl : k = n := by omega
      go_wp2
      go_ret
      exact ⟨by rw [show ordB C k = true from HALL.out]; rfl, m, rfl⟩

set_option maxHeartbeats 1000000 in
/-- Of a closure: total. -/
theorem isTotal_in (pt : Option Addr) (n : Nat) (C : Nat → Nat → Bool) (w : World) (hn : n ≤ 200) (hclo : Calls Tryd.prog 47 #[.pointer pt] w (MadePost n C w)) : Calls Tryd.prog 27 #[.pointer pt] w fun e w' => e = .returned (.bool (ordB C n && totB C n)) ∧ w.grownBy w' none := by
  go_enter Tryd.func27, Tryd.ntmps27
  go_wp2_with fail
  refine hclo.mono ?_
  rintro e w1 ⟨q, rfl, h1, hg1⟩
  have H1 := Lib.hid h1
  have HG := Lib.hid hg1
  clear h1 hg1 hclo
  go_wp2_with fail
  refine (isOrder_c _ _ q n C _ H1.out).mono ?_
  rintro e w2 ⟨he, m, rfl⟩
  have HR := Lib.hid (H1.out.calm (grownBy_drewN w1 m none))
  cases ho : ordB C n
  · rw [ho] at he
    subst he
    have HO := Lib.hid ho
    clear ho
    go_wp2
    go_ret
    exact ⟨by rw [HO.out]; rfl, grownBy_trans HG.out (grownBy_drewN _ m none)⟩
  · rw [ho] at he
    subst he
    have HO := Lib.hid ho
    clear ho
    go_wp2_with fail
    refine (relLen_c _ _ q n C _ HR.out).mono ?_
    rintro e w3 ⟨rfl, hw3⟩
    subst w3
    have HG2 := Lib.hid (grownBy_trans HG.out (grownBy_drewN w1 m none))
    clear HG H1
    generalize w1.drewN m = w2 at *
    go_wp2
    go_loopw [13] (fun i wr => ∃ a : Nat, a ≤ n ∧ i = .int .i64 a ∧ (List.range a).all (fun a => (List.range a).all fun b => C a b || C b a) = true ∧ ∃ m, wr = w2.drewN m) (fun i _ => n - (intOf i).toNat)
    case atStart => exact ⟨0, Nat.zero_le _, rfl, rfl, 0, rfl⟩
    case round =>
      obtain ⟨a, ha, rfl, hall, m1, rfl⟩ := hrel
      have HALL := Lib.hid hall
      clear hall
      by_cases han : a < n
      · have HAN := Lib.hid han
        have hai : (a : Int) < n := by omega
        go_wp2
        go_loopw [17] (fun i wr => ∃ b : Nat, b ≤ a ∧ i = .int .i64 b ∧ (List.range b).all (fun b => C a b || C b a) = true ∧ ∃ m, wr = w2.drewN m) (fun i _ => a - (intOf i).toNat)
        case atStart => exact ⟨0, Nat.zero_le _, rfl, rfl, m1, rfl⟩
        case round =>
          obtain ⟨b, hb, rfl, hallb, m2, rfl⟩ := hrel
          have HALLB := Lib.hid hallb
          clear hallb
          by_cases hba : b < a
          · have HBA := Lib.hid hba
            have hbi : (b : Int) < a := by omega
            go_wp2_with fail
            refine (relHas_n _ _ q n a b C _ (HR.out.calm (grownBy_drewN w2 m2 none)) HAN.out (Nat.lt_trans HBA.out HAN.out)).mono ?_
            rintro e w' ⟨he, m3, rfl⟩
            cases hab : C a b
            · rw [hab] at he
              subst he
              have HAB := Lib.hid hab
              clear hab
              go_wp2_with fail
              refine (relHas_n _ _ q n b a C _ (HR.out.calm (grownBy_drewN w2 (m2 + m3) none)) (Nat.lt_trans HBA.out HAN.out) HAN.out).mono ?_
              rintro e w' ⟨he, m4, rfl⟩
              cases hba' : C b a
              · rw [hba'] at he
                subst he
                have HBA' := Lib.hid hba'
                clear hba'
                go_wp2
                go_ret
                refine ⟨?_, grownBy_trans HG2.out (grownBy_drewN w2 _ none)⟩
                have : totB C n = false := all_no HAN.out (all_no HBA.out (by rw [HAB.out, HBA'.out]; rfl))
                rw [this, Bool.and_false]
                rfl
              · rw [hba'] at he
                subst he
                have HBA' := Lib.hid hba'
                clear hba'
                go_wp2
                exact ⟨⟨b + 1, by omega, by go_num, by rw [all_succ, HALLB.out, HAB.out, HBA'.out]; rfl, _, rfl⟩, by simp [intOf]; omega⟩
            · rw [hab] at he
              subst he
              have HAB := Lib.hid hab
              clear hab
              go_wp2
              exact ⟨⟨b + 1, by omega, by go_num, by rw [all_succ, HALLB.out, HAB.out]; rfl, _, rfl⟩, by simp [intOf]; omega⟩
          · obtain rfl : b = a := by omega
            go_wp2
            exact ⟨⟨b + 1, by omega, by go_num, by rw [all_succ, HALL.out, HALLB.out]; rfl, m2, rfl⟩, by simp [intOf]; omega⟩
      · obtain rfl : a = n := by omega
        go_wp2
        go_ret
        refine ⟨?_, grownBy_trans HG2.out (grownBy_drewN w2 m1 none)⟩
        rw [show totB C a = true from HALL.out, HO.out]
        rfl

theorem isTotal_c (lo hi p n : Nat) (R : Nat → Nat → Bool) (w : World) (h : IsRel w lo hi p n R) : Calls Tryd.prog 27 #[.pointer (some ⟨p, 0, none⟩)] w fun e w' => e = .returned (.bool (ordB (clo n R) n && totB (clo n R) n)) ∧ w.grownBy w' none :=
  isTotal_in _ n _ w h.small (ordClosure_c lo hi p n R w h)
theorem isTotal_nil (w : World) : Calls Tryd.prog 27 #[.pointer none] w fun e w' => e = .returned (.bool true) ∧ w.grownBy w' none :=
  isTotal_in none 0 _ w (by omega) (ordClosure_nil w)

end Go.Proofs.YtdolcdededmlhaaDoor
