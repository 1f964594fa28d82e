/- The reference's unions: Join. -/
import Derived.Test.YtihkjgiaajgkpaaDoorUnir
namespace Go.Proofs.YtihkjgiaajgkpaaDoor
open Go.RowKit

theorem joinL_same {L : List Nat} {a b : Nat} (h : nx L a = nx L b) : joinL L a b = L := by
  apply list_nx (joinL_len L a b)
  intro e he
  rw [joinL_len] at he
  rw [nx_joinL he, h]
  split <;> omega
/-- The first k with y turned to x. -/
def repK (L : List Nat) (x y k : Nat) : List Nat := (L.take k).map (fun v => if v = y then x else v) ++ L.drop k
theorem repK_len (L : List Nat) (x y k : Nat) : (repK L x y k).length = L.length := by simp [repK]; omega
theorem repK_zero (L : List Nat) (x y : Nat) : repK L x y 0 = L := by simp [repK]
theorem repK_at {L : List Nat} {x y k : Nat} (hk : k < L.length) : nx (repK L x y k) k = nx L k := by
  unfold nx repK
  rw [List.getElem?_append_right (by simp; omega)]
  simp
  congr 2
  omega
theorem repK_succ {L : List Nat} {x y k : Nat} (hk : k < L.length) : repK L x y (k + 1) = (repK L x y k).set k (if nx L k = y then x else nx L k) := by
  unfold repK
  rw [List.set_append_right _ _ (by simp; omega)]
  have e : ((L.take k).map (fun v => if v = y then x else v)).length = k := by simp; omega
  rw [e, Nat.sub_self, List.drop_eq_getElem_cons hk, List.set_cons_zero, List.take_succ_eq_append_getElem hk, List.map_append, List.append_assoc]
  unfold nx
  rw [List.getElem?_eq_getElem hk]
  rfl
theorem set_nx {L : List Nat} {k : Nat} (hk : k < L.length) : L.set k (nx L k) = L := by
  unfold nx
  rw [List.getElem?_eq_getElem hk]
  simp
theorem repK_hit {L : List Nat} {x y k : Nat} (hk : k < L.length) (h : nx L k = y) : (repK L x y k).set k x = repK L x y (k + 1) := by rw [repK_succ hk, if_pos h]
theorem repK_miss {L : List Nat} {x y k : Nat} (hk : k < L.length) (h : nx L k ≠ y) : repK L x y k = repK L x y (k + 1) := by
  rw [repK_succ hk, if_neg h]
  have := set_nx (L := repK L x y k) (k := k) (by rw [repK_len]; exact hk)
  rw [repK_at hk] at this
  exact this.symm
theorem repK_end {L : List Nat} {a b : Nat} : repK L (min (nx L a) (nx L b)) (max (nx L a) (nx L b)) L.length = joinL L a b := by
  apply list_nx
  · rw [repK_len, joinL_len]
  · intro e he
    rw [repK_len] at he
    rw [nx_joinL he]
    unfold repK
    rw [List.take_length, List.drop_length, List.append_nil]
    have : nx (L.map fun v => if v = max (nx L a) (nx L b) then min (nx L a) (nx L b) else v) e = (fun v => if v = max (nx L a) (nx L b) then min (nx L a) (nx L b) else v) (nx L e) := by
      unfold nx
      rw [List.getElem?_map, List.getElem?_eq_getElem he]
      rfl
    rw [this]
    show (if nx L e = max (nx L a) (nx L b) then min (nx L a) (nx L b) else nx L e) = _
    repeat' split
    all_goals omega

def JoinRPost (lo hi b : Nat) (L : List Nat) (r : Bool) (w : World) (e : Ending) (w' : World) : Prop := e = .returned (.bool r) ∧ IsRn w' lo hi b L ∧ Kept lo hi w w'

set_option maxRecDepth 20000 in
set_option maxHeartbeats 4000000 in
theorem joinR_c (lo hi b : Nat) (L : List Nat) (x y : Int) (w : World) (h : IsRn w lo hi b L) : Calls Tryd.prog 37 #[.pointer (some ⟨b, 0, none⟩), .int .i64 x, .int .i64 y] w (JoinRPost lo hi b (joinZ L x y) (joinUB L x y) w) := by
  obtain ⟨p, c, hu⟩ := h
  have hc := hu.cell
  have hsm := hu.small
  have HU := Lib.hid hu
  have HROW := Lib.hid hu.row
  clear hu
  have NO : hasZ L.length x = false ∨ hasZ L.length y = false → Hid (∀ w', w.grownBy w' none → JoinRPost lo hi b (joinZ L x y) (joinUB L x y) w (.returned (.bool false)) w') := by
    intro hz
    refine Lib.hid fun w' hg => ?_
    have e1 : joinZ L x y = L := by unfold joinZ; rcases hz with hz | hz <;> rw [hz] <;> simp
    have e2 : joinUB L x y = false := by unfold joinUB; rcases hz with hz | hz <;> rw [hz] <;> simp
    rw [e1, e2]
    exact ⟨rfl, ⟨p, c, HU.out.calm hg⟩, Kept.calm hg⟩
  by_cases x0 : x < 0
  · have HNO := NO (.inl (hasZ_not.2 (.inl x0)))
    clear NO HROW
    have d0 : decide (x < 0) = true := by simpa using x0
    go_enter Tryd.func37, Tryd.ntmps37
    go_wp2
    go_quiet (fail)
    go_wp2
    go_ret
    exact HNO.out _ (grownBy_drewN _ _ none)
  have d0 : decide (x < 0) = false := by simpa using x0
  by_cases y0 : y < 0
  · have HNO := NO (.inr (hasZ_not.2 (.inl y0)))
    clear NO HROW
    have d1 : decide (y < 0) = true := by simpa using y0
    go_enter Tryd.func37, Tryd.ntmps37
    go_wp2
    go_quiet (fail)
    go_wp2
    go_ret
    exact HNO.out _ (grownBy_drewN _ _ none)
  have d1 : decide (y < 0) = false := by simpa using y0
  by_cases x1 : (L.length : Int) ≤ x
  · have HNO := NO (.inl (hasZ_not.2 (.inr x1)))
    clear NO HROW
    have d2 : decide ((L.length : Int) ≤ x) = true := by simpa using x1
    go_enter Tryd.func37, Tryd.ntmps37
    go_wp2
    go_quiet (fail)
    go_wp2
    go_ret
    exact HNO.out _ (grownBy_drewN _ _ none)
  have d2 : decide ((L.length : Int) ≤ x) = false := by simpa using x1
  by_cases y1 : (L.length : Int) ≤ y
  · have HNO := NO (.inr (hasZ_not.2 (.inr y1)))
    clear NO HROW
    have d3 : decide ((L.length : Int) ≤ y) = true := by simpa using y1
    go_enter Tryd.func37, Tryd.ntmps37
    go_wp2
    go_quiet (fail)
    go_wp2
    go_ret
    exact HNO.out _ (grownBy_drewN _ _ none)
  have d3 : decide ((L.length : Int) ≤ y) = false := by simpa using y1
  clear NO
  obtain ⟨a, rfl⟩ := Int.eq_ofNat_of_zero_le (show 0 ≤ x by omega)
  obtain ⟨d, rfl⟩ := Int.eq_ofNat_of_zero_le (show 0 ≤ y by omega)
  have ha : a < L.length := by omega
  have hd : d < L.length := by omega
  have hz1 : hasZ L.length (a : Int) = true := hasZ_iff.2 ⟨by omega, by omega⟩
  have hz2 : hasZ L.length (d : Int) = true := hasZ_iff.2 ⟨by omega, by omega⟩
  obtain ⟨g, rfl, hgh, hrow⟩ := HROW.out (by omega)
  have ca := hrow.cell (j := a) (nx_get ha)
  have cd := hrow.cell (j := d) (nx_get hd)
  have d4 : decide (L.length ≤ a) = false := by simpa using ha
  have d5 : decide (L.length ≤ d) = false := by simpa using hd
  have a0 : (0 : Int) ≤ a := by omega
  have e0 : (0 : Int) ≤ d := by omega
  have a1 : (a : Int) < L.length := by omega
  have e1 : (d : Int) < L.length := by omega
  by_cases heq : nx L a = nx L d
  · have HP : Hid (∀ w', w.grownBy w' none → JoinRPost lo hi b (joinZ L a d) (joinUB L a d) w (.returned (.bool false)) w') := Lib.hid (by
      intro w' hg
      have e1 : joinZ L a d = L := by unfold joinZ; rw [hz1, hz2]; exact joinL_same heq
      have e2 : joinUB L a d = false := by
        unfold joinUB
        rw [hz1, hz2]
        simp [heq]
      rw [e1, e2]
      exact ⟨rfl, ⟨_, c, HU.out.calm hg⟩, Kept.calm hg⟩)
    rw [← heq] at cd
    have hbe : ((nx L a : Int) == (nx L a : Int)) = true := by simp
    clear hz1 hz2 heq hrow HROW ha hd x0 y0 x1 y1
    generalize nx L a = u at *
    go_enter Tryd.func37, Tryd.ntmps37
    go_wp2
    go_quiet (fail)
    go_wp2
    go_ret
    exact HP.out _ (grownBy_drewN _ _ none)
  · have HP : Hid (∀ w', Kept lo hi w w' → IsUg 83 w' lo hi b (some ⟨g, 0, none⟩) c (joinL L a d) → JoinRPost lo hi b (joinZ L a d) (joinUB L a d) w (.returned (.bool true)) w') := Lib.hid (by
      intro w' hk hu
      have e1 : joinZ L a d = joinL L a d := by unfold joinZ; rw [hz1, hz2]; rfl
      have e2 : joinUB L a d = true := by
        unfold joinUB
        rw [hz1, hz2]
        simpa using heq
      rw [e1, e2]
      exact ⟨rfl, ⟨_, c, hu⟩, hk⟩)
    have hbe : ((nx L a : Int) == (nx L d : Int)) = false := by simp; omega
    have HE := Lib.hid (repK_end (L := L) (a := a) (b := d))
    have HLG := Lib.hid hrow.lt.1
    generalize hN : L.length = n at *
    have HN := Lib.hid hN
    have HNL := Lib.hid (show 0 < n by omega)
    clear hz1 hz2 hrow HROW ha hd x0 y0 x1 y1 hN
    by_cases hlt : nx L a < nx L d
    · have hmn : min (nx L a) (nx L d) = nx L a := by omega
      have hmx : max (nx L a) (nx L d) = nx L d := by omega
      rw [hmn, hmx] at HE
      have hlt1 : (nx L a : Int) < nx L d := by omega
      clear hmn hmx heq
      generalize nx L a = u at *
      generalize nx L d = v at *
      go_enter Tryd.func37, Tryd.ntmps37
      go_wp2
      go_quiet (fail)
      go_wp2
      go_quiet (fail)
      go_wp2
      clear ca cd hc hbe hlt hlt1
      go_loopw [9] (fun i wr => ∃ k : Nat, k ≤ n ∧ i = .int .i64 k ∧ IsUg 83 wr lo hi b (some ⟨g, 0, none⟩) c (repK L u v k) ∧ Kept lo hi w wr) (fun i _ => n - (intOf i).toNat)
      case atStart => exact ⟨0, Nat.zero_le _, rfl, by rw [repK_zero]; exact HU.out.calm (grownBy_trans (grownBy_drewN w _ none) (grownBy_drewN _ _ none)), Kept.calm (grownBy_trans (grownBy_drewN w _ none) (grownBy_drewN _ _ none))⟩
      case round =>
        obtain ⟨k, hk, rfl, hu, hkp⟩ := hrel
        have hc := hu.cell
        rw [repK_len, HN.out] at hc
        by_cases hkn : k < n
        · have k0 : (0 : Int) ≤ k := by omega
          have k1 : (k : Int) < n := by omega
          have hkL : k < L.length := by rw [HN.out]; exact hkn
          obtain ⟨g2, e2, hg2, hrow⟩ := hu.row (by rw [repK_len]; omega)
          cases e2
          have hx := hrow.cell (j := k) (nx_get (by rw [repK_len]; exact hkL))
          rw [repK_at hkL] at hx
          have hfz := hrow.free k
          by_cases he : nx L k = v
          · have HST := Lib.hid (repK_hit (x := u) hkL he)
            have HSET := Lib.hid (hu.set (by decide) (by rw [repK_len]; omega) k u)
            have HKS := Lib.hid (hkp.trans (Kept.row (grownBy_setCell wr ⟨g, k, none⟩ (.int .i64 (u : Nat))) HLG.out hgh))
            rw [he] at hx
            have hbb : ((v : Int) == (v : Int)) = true := by simp
            clear he hu hkp hrow hkL
            go_wp2
            exact ⟨⟨k + 1, by omega, by go_num, by rw [← HST.out]; exact HSET.out, HKS.out⟩, by simp [intOf]; omega⟩
          · have HST := Lib.hid (repK_miss (x := u) hkL he)
            have hbb : ((nx L k : Int) == (v : Int)) = false := by simp; omega
            have HU3 := Lib.hid hu
            have HK3 := Lib.hid hkp
            clear he hu hkp hrow hkL
            generalize nx L k = z at *
            go_wp2
            exact ⟨⟨k + 1, by omega, by go_num, by rw [← HST.out]; exact HU3.out, HK3.out⟩, by simp [intOf]; omega⟩
        · obtain rfl : k = n := by omega
          have HU3 := Lib.hid hu
          have HK3 := Lib.hid hkp
          clear hu hkp
          go_wp2
          go_ret
          refine HP.out _ HK3.out ?_
          have := HU3.out
          rw [HE.out] at this
          exact this
    · have hmn : min (nx L a) (nx L d) = nx L d := by omega
      have hmx : max (nx L a) (nx L d) = nx L a := by omega
      rw [hmn, hmx] at HE
      have hlt1 : (nx L d : Int) < nx L a := by omega
      have hlt2 : ¬ (nx L a : Int) < nx L d := by omega
      clear hmn hmx heq
      generalize nx L a = u at *
      generalize nx L d = v at *
      go_enter Tryd.func37, Tryd.ntmps37
      go_wp2
      go_quiet (fail)
      go_wp2
      go_quiet (fail)
      go_wp2
      clear ca cd hc hbe hlt hlt1 hlt2
      go_loopw [9] (fun i wr => ∃ k : Nat, k ≤ n ∧ i = .int .i64 k ∧ IsUg 83 wr lo hi b (some ⟨g, 0, none⟩) c (repK L v u k) ∧ Kept lo hi w wr) (fun i _ => n - (intOf i).toNat)
      case atStart => exact ⟨0, Nat.zero_le _, rfl, by rw [repK_zero]; exact HU.out.calm (grownBy_trans (grownBy_drewN w _ none) (grownBy_drewN _ _ none)), Kept.calm (grownBy_trans (grownBy_drewN w _ none) (grownBy_drewN _ _ none))⟩
      case round =>
        obtain ⟨k, hk, rfl, hu, hkp⟩ := hrel
        have hc := hu.cell
        rw [repK_len, HN.out] at hc
        by_cases hkn : k < n
        · have k0 : (0 : Int) ≤ k := by omega
          have k1 : (k : Int) < n := by omega
          have hkL : k < L.length := by rw [HN.out]; exact hkn
          obtain ⟨g2, e2, hg2, hrow⟩ := hu.row (by rw [repK_len]; omega)
          cases e2
          have hx := hrow.cell (j := k) (nx_get (by rw [repK_len]; exact hkL))
          rw [repK_at hkL] at hx
          have hfz := hrow.free k
          by_cases he : nx L k = u
          · have HST := Lib.hid (repK_hit (x := v) hkL he)
            have HSET := Lib.hid (hu.set (by decide) (by rw [repK_len]; omega) k v)
            have HKS := Lib.hid (hkp.trans (Kept.row (grownBy_setCell wr ⟨g, k, none⟩ (.int .i64 (v : Nat))) HLG.out hgh))
            rw [he] at hx
            have hbb : ((u : Int) == (u : Int)) = true := by simp
            clear he hu hkp hrow hkL
            go_wp2
            exact ⟨⟨k + 1, by omega, by go_num, by rw [← HST.out]; exact HSET.out, HKS.out⟩, by simp [intOf]; omega⟩
          · have HST := Lib.hid (repK_miss (x := v) hkL he)
            have hbb : ((nx L k : Int) == (u : Int)) = false := by simp; omega
            have HU3 := Lib.hid hu
            have HK3 := Lib.hid hkp
            clear he hu hkp hrow hkL
            generalize nx L k = z at *
            go_wp2
            exact ⟨⟨k + 1, by omega, by go_num, by rw [← HST.out]; exact HU3.out, HK3.out⟩, by simp [intOf]; omega⟩
        · obtain rfl : k = n := by omega
          have HU3 := Lib.hid hu
          have HK3 := Lib.hid hkp
          clear hu hkp
          go_wp2
          go_ret
          refine HP.out _ HK3.out ?_
          have := HU3.out
          rw [HE.out] at this
          exact this

end Go.Proofs.YtihkjgiaajgkpaaDoor
