/- The law folder's texts: two slices of texts compared. -/
import Derived.Test.YtcfhnfnhdhloiaaGreatRefPa
namespace Go.Proofs.YtcfhnfnhdhloiaaGreat
open Go.RowKit Go.Shelf

set_option maxHeartbeats 1000000 in
theorem texts12_c (p q : Option Addr) (n m c d lo hi lo' hi' : Nat) (la lb : List ByteArray) (r : Bool) (w : World) (hp : StrsAt w lo hi p n la) (hq : StrsAt w lo' hi' q m lb) (hn : n ≤ 1000000) (hm : m ≤ 1000000) (hr : r = true ↔ la = lb) :
    Calls Tryz.prog 12 #[.slice p n c, .slice q m d] w fun e w' => e = .returned (.bool r) ∧ w.grownBy w' none := by
  have HP := Lib.hid hp
  have HQ := Lib.hid hq
  have HR := Lib.hid hr
  have HPL := Lib.hid hp.len
  have HQL := Lib.hid hq.len
  clear hp hq hr
  by_cases hnm : n = m
  · subst hnm
    have e0 : ((n : Int) != (n : Int)) = false := by simp
    have HL := Lib.hid (HPL.out.trans HQL.out.symm)
    go_enter Tryz.func12, Tryz.ntmps12
    go_wp2
    go_loopw [5] (fun i wr => ∃ k : Nat, k ≤ n ∧ i = .int .i64 k ∧ Hid (∀ j, j < k → la[j]?.getD .empty = lb[j]?.getD .empty) ∧ Hid (w.grownBy wr none)) (fun i _ => n - (intOf i).toNat)
    case atStart => exact ⟨0, Nat.zero_le _, rfl, Lib.hid (fun j hj => absurd hj (Nat.not_lt_zero _)), Lib.hid (grownBy_refl _ _)⟩
    case round =>
      obtain ⟨k, hk, rfl, HE, HG⟩ := hrel
      by_cases hkn : k < n
      · have k0 : (0 : Int) ≤ k := by omega
        have k1 : (k : Int) < n := by omega
        obtain ⟨b, o, rfl, _, _, _, hc⟩ := (HP.out.calm HG.out).cell (by omega)
        obtain ⟨b', o', rfl, _, _, _, hc'⟩ := (HQ.out.calm HG.out).cell (by omega)
        have x0 := hc k hkn
        have y0 := hc' k hkn
        have HU := Lib.hid (show la[k]?.getD .empty = lb[k]?.getD .empty → ∀ j, j < k + 1 → la[j]?.getD .empty = lb[j]?.getD .empty from fun h => upto_succ (q := fun j => la[j]?.getD .empty = lb[j]?.getD .empty) HE.out h)
        have HX := Lib.hid (show la = lb → la[k]?.getD .empty = lb[k]?.getD .empty from fun h => by rw [h])
        have HG2 := Lib.hid (fun z => grownBy_trans HG.out (grownBy_drewN wr z none))
        clear hc hc' HE HG
        generalize la[k]?.getD .empty = x at *
        generalize lb[k]?.getD .empty = y at *
        by_cases hxy : x = y
        · subst hxy
          have e1 : (x.toList == x.toList) = true := toList_eqP rfl
          have HU2 := Lib.hid (HU.out rfl)
          go_wp2
          go_quiet (fail)
          go_wp2
          exact ⟨⟨k + 1, by omega, by go_num, HU2, Lib.hid (HG2.out _)⟩, by simp [intOf]; omega⟩
        · have e1 : (x.toList == y.toList) = false := toList_neP hxy
          obtain rfl : r = false := no_false HR.out fun h => hxy (HX.out h)
          go_wp2
          go_quiet (fail)
          go_wp2
          go_ret
          exact ⟨rfl, HG2.out _⟩
      · obtain rfl : n = k := by omega
        have k1 : ¬ ((n : Int) < n) := by omega
        obtain rfl : r = true := HR.out.2 (eq_get (d := .empty) HL.out (by rw [HPL.out]; exact HE.out))
        go_wp2
        go_ret
        exact ⟨rfl, HG.out⟩
  · have e0 : ((n : Int) != (m : Int)) = true := by simp; omega
    obtain rfl : r = false := no_false HR.out fun h => hnm (by rw [← HPL.out, ← HQL.out, h])
    go_enter Tryz.func12, Tryz.ntmps12
    go_wp2
    go_ret
    exact ⟨rfl, grownBy_refl _ _⟩

end Go.Proofs.YtcfhnfnhdhloiaaGreat
