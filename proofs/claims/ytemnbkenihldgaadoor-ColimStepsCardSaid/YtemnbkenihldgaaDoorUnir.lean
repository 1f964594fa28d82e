/- The reference's Union: New, Places, Join. -/
import Derived.Test.YtemnbkenihldgaaDoorUnia
/-! The reference's unions: New, Join, Places. -/
namespace Go.Proofs.YtemnbkenihldgaaDoor
open Go.RowKit

/-- The reference's union: of each element the least one. -/
def IsRn (w : World) (lo hi b : Nat) (L : List Nat) : Prop := ∃ p c, IsUg 76 w lo hi b p c L
theorem IsRn.calm {w w' : World} {lo hi b : Nat} {L : List Nat} (h : IsRn w lo hi b L) (hg : w.grownBy w' none) : IsRn w' lo hi b L := by
  obtain ⟨p, c, h1⟩ := h
  exact ⟨p, c, h1.calm hg⟩
theorem IsRn.apart {w w' : World} {lo hi lo' hi' b : Nat} {L : List Nat} (h : IsRn w lo hi b L) (hg : Kept lo' hi' w w') (hd : hi ≤ lo' ∨ hi' ≤ lo) : IsRn w' lo hi b L := by
  obtain ⟨p, c, h1⟩ := h
  exact ⟨p, c, h1.apart hg hd⟩
theorem IsRn.top {w : World} {lo hi b : Nat} {L : List Nat} (h : IsRn w lo hi b L) : lo < hi ∧ hi ≤ w.heap.size := by
  obtain ⟨p, c, h1⟩ := h
  have := h1.h1
  have := h1.h2
  exact ⟨by omega, h1.h3⟩
def MadeR (L : List Nat) (w : World) (e : Ending) (w' : World) : Prop := ∃ b, e = .returned (.pointer (some ⟨b, 0, none⟩)) ∧ IsRn w' w.heap.size w'.heap.size b L ∧ w.grownBy w' none

set_option maxRecDepth 20000 in
set_option maxHeartbeats 1000000 in
theorem newR_c (n : Nat) (w : World) (hn : n < 1000) : Calls Tryd.prog 17 #[.int .i64 n] w (MadeR (List.range n) w) := by
  obtain ⟨i0, hi0, hz0, hz1, hz2⟩ := info_parts Tryd.infoI3
  have n2 : (n : Int) < 1000 := by omega
  go_enter Tryd.func17, Tryd.ntmps17
  go_wp2
  have hb0 := Boxed.new w 76 (.slice none 0 0)
  have HB0 := Lib.hid hb0
  clear hb0
  have HG0 := Lib.hid (World.grownBy_alloc w (.cells #[.slice none 0 0] 76) none)
  generalize hgb : w.heap.size = gb at *
  have HGB := Lib.hid hgb
  clear hgb
  go_loopw [4] (fun i wr => ∃ (k : Nat) (v : Value), k ≤ n ∧ i = .int .i64 k ∧ Boxed wr gb 76 v ∧ wr.ownsRow gb 3 1 v k ((List.range k).map iv) ∧ w.grownBy wr none) (fun i _ => n - (intOf i).toNat)
  case atStart => exact ⟨0, _, Nat.zero_le _, rfl, HB0.out, World.ownsRow_nil _ _ _ _, HG0.out⟩
  case round =>
    obtain ⟨k, v, hk, rfl, hv, hrow, hgr⟩ := hrel
    have hc := hv.cell
    by_cases hkn : k < n
    · have k1 : (k : Int) < n := by omega
      have hsz := hgr.size
      rw [HGB.out] at hsz
      go_wp2_with (at_builtin; refine wpList_append_own _ rfl _ _ 28 rfl gb 3 i0 (.int .i64 0) 1 8 Tryd.underlying28 hi0 hz0 hz1 hz2 rfl (by decide) v k ((List.range k).map iv) rfl (hrow.alloc _) ⟨wr.heap.size, 0, none⟩ 1 1 [.int .i64 k] rfl rfl (cell_one_new _ _ _) (by simp [Value.oneCell']) (by unfold maxLen; omega) (by omega) (by simp; omega) ?_; intro v' w1 hown' hgrow _; obtain ⟨g', cap', rfl⟩ := ownsRow_succ hown'; obtain ⟨hv1, hv2, hr2, hk2, hb2⟩ := hv.appended (by decide) hrow hsz (Nat.le_refl _) hown' hgrow; have hc1 := hv1.cell; have hf1 := hv1.frozen)
      refine ⟨⟨k + 1, _, by omega, by go_num, hv2, ?_, ?_⟩, by simp [intOf]; omega⟩
      · rw [List.range_succ, List.map_append]
        exact hr2
      · exact below_grownBy ((grownBy_below hgr).trans (hb2.mono (by rw [HGB.out]; exact Nat.le_refl _)))
    · obtain rfl : k = n := by omega
      have HV := Lib.hid hv
      have HR := Lib.hid hrow
      have HG := Lib.hid hgr
      clear hv hrow hgr
      go_wp2
      go_ret
      have hl : (List.range k).length = k := by simp
      have hlt := HV.out.lt
      rcases HR.out.2 with ⟨rfl, h0⟩ | ⟨g, cap, cur, rfl, h1, h2, _⟩
      · refine ⟨gb, rfl, ⟨none, 0, by rw [HGB.out]; exact Nat.le_refl _, hlt, Nat.le_refl _, by omega, fun _ => rfl, ?_, fun h => by omega⟩, HG.out⟩
        rw [hl, h0]
        exact HV.out
      · refine ⟨gb, rfl, ⟨_, cap, by rw [HGB.out]; exact Nat.le_refl _, hlt, Nat.le_refl _, by omega, by simp, ?_, fun h => ⟨g, rfl, (Array.getElem?_eq_some_iff.1 h2).1, ?_⟩⟩, HG.out⟩
        · rw [hl]
          exact HV.out
        · rw [HGB.out]
          have := HR.out
          unfold RowI
          rw [hl]
          exact this

set_option maxRecDepth 20000 in
set_option maxHeartbeats 2000000 in
theorem placesR_c (lo hi b : Nat) (L : List Nat) (w : World) (h : IsRn w lo hi b L) (his : isL L) : Calls Tryd.prog 40 #[.pointer (some ⟨b, 0, none⟩)] w (RowIPost (placesL L) w) := by
  obtain ⟨p, c, hu⟩ := h
  have hc := hu.cell
  have hsm := hu.small
  have HU := Lib.hid hu
  have HIS := Lib.hid his
  have HROW := Lib.hid hu.row
  generalize hN : L.length = n at *
  have HN := Lib.hid hN
  clear hu his hN
  have hmk := run_make_row' (P := Tryd.prog) 28 3 (.int .i64 0) 8 Tryd.underlying28 Tryd.infoZ3 rfl .i64 .i64 n (by omega) (by omega) w
  obtain ⟨HR0, HG0⟩ := places_start L n HN.out hsm w
  go_enter Tryd.func40, Tryd.ntmps40
  go_wp2
  generalize hgb : w.heap.size = gb at *
  have HGB := Lib.hid hgb
  clear hgb hc
  go_loopw [4, 5] (fun q i wr => ∃ k : Nat, k ≤ n ∧ i = .int .i64 k ∧ q = .int .i64 (cntR L k) ∧ RowI wr gb gb n (plK L k) ∧ w.grownBy wr none) (fun _ i _ => n - (intOf i).toNat)
  case atStart => exact ⟨0, Nat.zero_le _, rfl, rfl, HR0.out, HG0.out⟩
  case round =>
    obtain ⟨k, hk, rfl, rfl, hrow, hgr⟩ := hrel
    have hc := (HU.out.calm hgr).cell
    rw [HN.out] at hc
    by_cases hkn : k < n
    · have k0 : (0 : Int) ≤ k := by omega
      have k1 : (k : Int) < n := by omega
      have hcn : (cntR L k : Int) ≤ 1000 := by have := cntR_le L k; omega
      obtain ⟨g, rfl, hgh, hrow2⟩ := HROW.out (by omega)
      have hx := (hrow2.calm hgr).cell (j := k) (nx_get (by rw [HN.out]; exact hkn))
      have hle := HIS.out.le k (by rw [HN.out]; exact hkn)
      have hfx := HIS.out.fix k (by rw [HN.out]; exact hkn)
      have hfz := hrow.free k
      have hkl : k < (plK L k).length := by rw [plK_len (by rw [HN.out]; exact hk), HN.out]; exact hkn
      have hcur := hrow.cell (j := k) (nx_get hkl)
      have HST := Lib.hid (plK_succ (L := L) (k := k) (by rw [HN.out]; exact hkn))
      have HSET := Lib.hid (fun v => hrow.set (j := k) v)
      have HGS := Lib.hid (fun v : Nat => grownBy_new hgr (grownBy_setCell wr ⟨gb, k, none⟩ (.int .i64 (v : Int))) (by rw [HGB.out]; exact Nat.le_refl _))
      have hcs := cntR_succ L k
      by_cases he : nx L k = k
      · have HPL := Lib.hid (plc_root he)
        rw [if_pos he] at hcs
        have HCS := Lib.hid hcs
        rw [he] at hx
        clear hcs he hle hfx hrow hgr hrow2 HR0 HG0 hkl HROW
        generalize nx (plK L k) k = v at *
        generalize cntR L k = q at *
        go_wp2
        refine ⟨⟨k + 1, by omega, by go_num, by rw [HCS.out]; go_num, ?_, ?_⟩, by simp [intOf]; omega⟩
        · rw [← HST.out, HPL.out]
          exact HSET.out _
        · exact HGS.out _
      · have hlt : nx L k < k := by omega
        have hpl : plc6 L (nx L k) = plc6 L k := by
          unfold plc6
          rw [hfx]
        have hy := hrow.cell (j := nx L k) (nx_get (by omega))
        rw [plK_get hlt, hpl] at hy
        rw [if_neg he, Nat.add_zero] at hcs
        have HCS := Lib.hid hcs
        have hne : ((nx L k : Int) == (k : Int)) = false := by simp; omega
        have n0 : (0 : Int) ≤ nx L k := by omega
        have n1 : (nx L k : Int) < n := by omega
        have HS2 := Lib.hid (HSET.out (plc6 L k))
        have HG2 := Lib.hid (HGS.out (plc6 L k))
        have HST2 := HST
        clear hcs he hle hfx hrow hgr hrow2 HR0 HG0 hkl HROW hpl HST HSET HGS
        generalize nx (plK L k) k = v at *
        generalize plc6 L k = u at *
        generalize nx L k = m at *
        generalize cntR L k = q at *
        go_wp2
        refine ⟨⟨k + 1, by omega, by go_num, by rw [HCS.out]; first | done | rfl, ?_, ?_⟩, by simp [intOf]; omega⟩
        · rw [← HST2.out]
          exact HS2.out
        · exact HG2.out
    · obtain rfl : k = n := by omega
      have HRW := Lib.hid hrow
      have HGR := Lib.hid hgr
      clear hrow hgr
      go_wp2
      go_ret
      have hpl := placesL_len L
      refine ⟨gb, by rw [hpl, HN.out]; rfl, ?_, HGR.out⟩
      have := HRW.out
      rw [← HN.out, plK_end] at this
      rw [hpl, HGB.out]
      exact this

end Go.Proofs.YtemnbkenihldgaaDoor
/-! The reference's unions: Join. -/
namespace Go.Proofs.YtemnbkenihldgaaDoor
open Go.RowKit

theorem joinL_same {L : List Nat} {a b : Nat} (h : nx L a = nx L b) : joinL L a b = L := by
  apply list_nx (joinL_len L a b)
  intro e he
  rw [joinL_len] at he
  rw [nx_joinL he, h]
  split <;> omega
/-- The first k with y turned to x. -/
def repK (L : List Nat) (x y k : Nat) : List Nat := (L.take k).map (fun v => if v = y then x else v) ++ L.drop k
theorem repK_len (L : List Nat) (x y k : Nat) : (repK L x y k).length = L.length := by simp [repK]; omega
theorem repK_zero (L : List Nat) (x y : Nat) : repK L x y 0 = L := by simp [repK]
theorem repK_at {L : List Nat} {x y k : Nat} (hk : k < L.length) : nx (repK L x y k) k = nx L k := by
  unfold nx repK
  rw [List.getElem?_append_right (by simp; omega)]
  simp
  congr 2
  omega
theorem repK_succ {L : List Nat} {x y k : Nat} (hk : k < L.length) : repK L x y (k + 1) = (repK L x y k).set k (if nx L k = y then x else nx L k) := by
  unfold repK
  rw [List.set_append_right _ _ (by simp; omega)]
  have e : ((L.take k).map (fun v => if v = y then x else v)).length = k := by simp; omega
  rw [e, Nat.sub_self, List.drop_eq_getElem_cons hk, List.set_cons_zero, List.take_succ_eq_append_getElem hk, List.map_append, List.append_assoc]
  unfold nx
  rw [List.getElem?_eq_getElem hk]
  rfl
theorem set_nx {L : List Nat} {k : Nat} (hk : k < L.length) : L.set k (nx L k) = L := by
  unfold nx
  rw [List.getElem?_eq_getElem hk]
  simp
theorem repK_hit {L : List Nat} {x y k : Nat} (hk : k < L.length) (h : nx L k = y) : (repK L x y k).set k x = repK L x y (k + 1) := by rw [repK_succ hk, if_pos h]
theorem repK_miss {L : List Nat} {x y k : Nat} (hk : k < L.length) (h : nx L k ≠ y) : repK L x y k = repK L x y (k + 1) := by
  rw [repK_succ hk, if_neg h]
  have := set_nx (L := repK L x y k) (k := k) (by rw [repK_len]; exact hk)
  rw [repK_at hk] at this
  exact this.symm
theorem repK_end {L : List Nat} {a b : Nat} : repK L (min (nx L a) (nx L b)) (max (nx L a) (nx L b)) L.length = joinL L a b := by
  apply list_nx
  · rw [repK_len, joinL_len]
  · intro e he
    rw [repK_len] at he
    rw [nx_joinL he]
    unfold repK
    rw [List.take_length, List.drop_length, List.append_nil]
    have : nx (L.map fun v => if v = max (nx L a) (nx L b) then min (nx L a) (nx L b) else v) e = (fun v => if v = max (nx L a) (nx L b) then min (nx L a) (nx L b) else v) (nx L e) := by
      unfold nx
      rw [List.getElem?_map, List.getElem?_eq_getElem he]
      rfl
    rw [this]
    show (if nx L e = max (nx L a) (nx L b) then min (nx L a) (nx L b) else nx L e) = _
    repeat' split
    all_goals omega

def JoinRPost (lo hi b : Nat) (L : List Nat) (r : Bool) (w : World) (e : Ending) (w' : World) : Prop := e = .returned (.bool r) ∧ IsRn w' lo hi b L ∧ Kept lo hi w w'

set_option maxRecDepth 20000 in
set_option maxHeartbeats 4000000 in
theorem joinR_c (lo hi b : Nat) (L : List Nat) (x y : Int) (w : World) (h : IsRn w lo hi b L) : Calls Tryd.prog 18 #[.pointer (some ⟨b, 0, none⟩), .int .i64 x, .int .i64 y] w (JoinRPost lo hi b (joinZ L x y) (joinUB L x y) w) := by
  obtain ⟨p, c, hu⟩ := h
  have hc := hu.cell
  have hsm := hu.small
  have HU := Lib.hid hu
  have HROW := Lib.hid hu.row
  clear hu
  have NO : hasZ L.length x = false ∨ hasZ L.length y = false → Hid (∀ w', w.grownBy w' none → JoinRPost lo hi b (joinZ L x y) (joinUB L x y) w (.returned (.bool false)) w') := by
    intro hz
    refine Lib.hid fun w' hg => ?_
    have e1 : joinZ L x y = L := by unfold joinZ; rcases hz with hz | hz <;> rw [hz] <;> simp
    have e2 : joinUB L x y = false := by unfold joinUB; rcases hz with hz | hz <;> rw [hz] <;> simp
    rw [e1, e2]
    exact ⟨rfl, ⟨p, c, HU.out.calm hg⟩, Kept.calm hg⟩
  by_cases x0 : x < 0
  · have HNO := NO (.inl (hasZ_not.2 (.inl x0)))
    clear NO HROW
    have d0 : decide (x < 0) = true := by simpa using x0
    go_enter Tryd.func18, Tryd.ntmps18
    go_wp2
    go_quiet (fail)
    go_wp2
    go_ret
    exact HNO.out _ (grownBy_drewN _ _ none)
  have d0 : decide (x < 0) = false := by simpa using x0
  by_cases y0 : y < 0
  · have HNO := NO (.inr (hasZ_not.2 (.inl y0)))
    clear NO HROW
    have d1 : decide (y < 0) = true := by simpa using y0
    go_enter Tryd.func18, Tryd.ntmps18
    go_wp2
    go_quiet (fail)
    go_wp2
    go_ret
    exact HNO.out _ (grownBy_drewN _ _ none)
  have d1 : decide (y < 0) = false := by simpa using y0
  by_cases x1 : (L.length : Int) ≤ x
  · have HNO := NO (.inl (hasZ_not.2 (.inr x1)))
    clear NO HROW
    have d2 : decide ((L.length : Int) ≤ x) = true := by simpa using x1
    go_enter Tryd.func18, Tryd.ntmps18
    go_wp2
    go_quiet (fail)
    go_wp2
    go_ret
    exact HNO.out _ (grownBy_drewN _ _ none)
  have d2 : decide ((L.length : Int) ≤ x) = false := by simpa using x1
  by_cases y1 : (L.length : Int) ≤ y
  · have HNO := NO (.inr (hasZ_not.2 (.inr y1)))
    clear NO HROW
    have d3 : decide ((L.length : Int) ≤ y) = true := by simpa using y1
    go_enter Tryd.func18, Tryd.ntmps18
    go_wp2
    go_quiet (fail)
    go_wp2
    go_ret
    exact HNO.out _ (grownBy_drewN _ _ none)
  have d3 : decide ((L.length : Int) ≤ y) = false := by simpa using y1
  clear NO
  obtain ⟨a, rfl⟩ := Int.eq_ofNat_of_zero_le (show 0 ≤ x by omega)
  obtain ⟨d, rfl⟩ := Int.eq_ofNat_of_zero_le (show 0 ≤ y by omega)
  have ha : a < L.length := by omega
  have hd : d < L.length := by omega
  have hz1 : hasZ L.length (a : Int) = true := hasZ_iff.2 ⟨by omega, by omega⟩
  have hz2 : hasZ L.length (d : Int) = true := hasZ_iff.2 ⟨by omega, by omega⟩
  obtain ⟨g, rfl, hgh, hrow⟩ := HROW.out (by omega)
  have ca := hrow.cell (j := a) (nx_get ha)
  have cd := hrow.cell (j := d) (nx_get hd)
  have d4 : decide (L.length ≤ a) = false := by simpa using ha
  have d5 : decide (L.length ≤ d) = false := by simpa using hd
  have a0 : (0 : Int) ≤ a := by omega
  have e0 : (0 : Int) ≤ d := by omega
  have a1 : (a : Int) < L.length := by omega
  have e1 : (d : Int) < L.length := by omega
  by_cases heq : nx L a = nx L d
  · have HP : Hid (∀ w', w.grownBy w' none → JoinRPost lo hi b (joinZ L a d) (joinUB L a d) w (.returned (.bool false)) w') := Lib.hid (by
      intro w' hg
      have e1 : joinZ L a d = L := by unfold joinZ; rw [hz1, hz2]; exact joinL_same heq
      have e2 : joinUB L a d = false := by
        unfold joinUB
        rw [hz1, hz2]
        simp [heq]
      rw [e1, e2]
      exact ⟨rfl, ⟨_, c, HU.out.calm hg⟩, Kept.calm hg⟩)
    rw [← heq] at cd
    have hbe : ((nx L a : Int) == (nx L a : Int)) = true := by simp
    clear hz1 hz2 heq hrow HROW ha hd x0 y0 x1 y1
    generalize nx L a = u at *
    go_enter Tryd.func18, Tryd.ntmps18
    go_wp2
    go_quiet (fail)
    go_wp2
    go_ret
    exact HP.out _ (grownBy_drewN _ _ none)
  · have HP : Hid (∀ w', Kept lo hi w w' → IsUg 76 w' lo hi b (some ⟨g, 0, none⟩) c (joinL L a d) → JoinRPost lo hi b (joinZ L a d) (joinUB L a d) w (.returned (.bool true)) w') := Lib.hid (by
      intro w' hk hu
      have e1 : joinZ L a d = joinL L a d := by unfold joinZ; rw [hz1, hz2]; rfl
      have e2 : joinUB L a d = true := by
        unfold joinUB
        rw [hz1, hz2]
        simpa using heq
      rw [e1, e2]
      exact ⟨rfl, ⟨_, c, hu⟩, hk⟩)
    have hbe : ((nx L a : Int) == (nx L d : Int)) = false := by simp; omega
    have HE := Lib.hid (repK_end (L := L) (a := a) (b := d))
    have HLG := Lib.hid hrow.lt.1
    generalize hN : L.length = n at *
    have HN := Lib.hid hN
    have HNL := Lib.hid (show 0 < n by omega)
    clear hz1 hz2 hrow HROW ha hd x0 y0 x1 y1 hN
    by_cases hlt : nx L a < nx L d
    · have hmn : min (nx L a) (nx L d) = nx L a := by omega
      have hmx : max (nx L a) (nx L d) = nx L d := by omega
      rw [hmn, hmx] at HE
      have hlt1 : (nx L a : Int) < nx L d := by omega
      clear hmn hmx heq
      generalize nx L a = u at *
      generalize nx L d = v at *
      go_enter Tryd.func18, Tryd.ntmps18
      go_wp2
      go_quiet (fail)
      go_wp2
      go_quiet (fail)
      go_wp2
      clear ca cd hc hbe hlt hlt1
      go_loopw [9] (fun i wr => ∃ k : Nat, k ≤ n ∧ i = .int .i64 k ∧ IsUg 76 wr lo hi b (some ⟨g, 0, none⟩) c (repK L u v k) ∧ Kept lo hi w wr) (fun i _ => n - (intOf i).toNat)
      case atStart => exact ⟨0, Nat.zero_le _, rfl, by rw [repK_zero]; exact HU.out.calm (grownBy_trans (grownBy_drewN w _ none) (grownBy_drewN _ _ none)), Kept.calm (grownBy_trans (grownBy_drewN w _ none) (grownBy_drewN _ _ none))⟩
      case round =>
        obtain ⟨k, hk, rfl, hu, hkp⟩ := hrel
        have hc := hu.cell
        rw [repK_len, HN.out] at hc
        by_cases hkn : k < n
        · have k0 : (0 : Int) ≤ k := by omega
          have k1 : (k : Int) < n := by omega
          have hkL : k < L.length := by rw [HN.out]; exact hkn
          obtain ⟨g2, e2, hg2, hrow⟩ := hu.row (by rw [repK_len]; omega)
          cases e2
          have hx := hrow.cell (j := k) (nx_get (by rw [repK_len]; exact hkL))
          rw [repK_at hkL] at hx
          have hfz := hrow.free k
          by_cases he : nx L k = v
          · have HST := Lib.hid (repK_hit (x := u) hkL he)
            have HSET := Lib.hid (hu.set (by decide) (by rw [repK_len]; omega) k u)
            have HKS := Lib.hid (hkp.trans (Kept.row (grownBy_setCell wr ⟨g, k, none⟩ (.int .i64 (u : Nat))) HLG.out hgh))
            rw [he] at hx
            have hbb : ((v : Int) == (v : Int)) = true := by simp
            clear he hu hkp hrow hkL
            go_wp2
            exact ⟨⟨k + 1, by omega, by go_num, by rw [← HST.out]; exact HSET.out, HKS.out⟩, by simp [intOf]; omega⟩
          · have HST := Lib.hid (repK_miss (x := u) hkL he)
            have hbb : ((nx L k : Int) == (v : Int)) = false := by simp; omega
            have HU3 := Lib.hid hu
            have HK3 := Lib.hid hkp
            clear he hu hkp hrow hkL
            generalize nx L k = z at *
            go_wp2
            exact ⟨⟨k + 1, by omega, by go_num, by rw [← HST.out]; exact HU3.out, HK3.out⟩, by simp [intOf]; omega⟩
        · obtain rfl : k = n := by omega
          have HU3 := Lib.hid hu
          have HK3 := Lib.hid hkp
          clear hu hkp
          go_wp2
          go_ret
          refine HP.out _ HK3.out ?_
          have := HU3.out
          rw [HE.out] at this
          exact this
    · have hmn : min (nx L a) (nx L d) = nx L d := by omega
      have hmx : max (nx L a) (nx L d) = nx L a := by omega
      rw [hmn, hmx] at HE
      have hlt1 : (nx L d : Int) < nx L a := by omega
      have hlt2 : ¬ (nx L a : Int) < nx L d := by omega
      clear hmn hmx heq
      generalize nx L a = u at *
      generalize nx L d = v at *
      go_enter Tryd.func18, Tryd.ntmps18
      go_wp2
      go_quiet (fail)
      go_wp2
      go_quiet (fail)
      go_wp2
      clear ca cd hc hbe hlt hlt1 hlt2
      go_loopw [9] (fun i wr => ∃ k : Nat, k ≤ n ∧ i = .int .i64 k ∧ IsUg 76 wr lo hi b (some ⟨g, 0, none⟩) c (repK L v u k) ∧ Kept lo hi w wr) (fun i _ => n - (intOf i).toNat)
      case atStart => exact ⟨0, Nat.zero_le _, rfl, by rw [repK_zero]; exact HU.out.calm (grownBy_trans (grownBy_drewN w _ none) (grownBy_drewN _ _ none)), Kept.calm (grownBy_trans (grownBy_drewN w _ none) (grownBy_drewN _ _ none))⟩
      case round =>
        obtain ⟨k, hk, rfl, hu, hkp⟩ := hrel
        have hc := hu.cell
        rw [repK_len, HN.out] at hc
        by_cases hkn : k < n
        · have k0 : (0 : Int) ≤ k := by omega
          have k1 : (k : Int) < n := by omega
          have hkL : k < L.length := by rw [HN.out]; exact hkn
          obtain ⟨g2, e2, hg2, hrow⟩ := hu.row (by rw [repK_len]; omega)
          cases e2
          have hx := hrow.cell (j := k) (nx_get (by rw [repK_len]; exact hkL))
          rw [repK_at hkL] at hx
          have hfz := hrow.free k
          by_cases he : nx L k = u
          · have HST := Lib.hid (repK_hit (x := v) hkL he)
            have HSET := Lib.hid (hu.set (by decide) (by rw [repK_len]; omega) k v)
            have HKS := Lib.hid (hkp.trans (Kept.row (grownBy_setCell wr ⟨g, k, none⟩ (.int .i64 (v : Nat))) HLG.out hgh))
            rw [he] at hx
            have hbb : ((u : Int) == (u : Int)) = true := by simp
            clear he hu hkp hrow hkL
            go_wp2
            exact ⟨⟨k + 1, by omega, by go_num, by rw [← HST.out]; exact HSET.out, HKS.out⟩, by simp [intOf]; omega⟩
          · have HST := Lib.hid (repK_miss (x := v) hkL he)
            have hbb : ((nx L k : Int) == (u : Int)) = false := by simp; omega
            have HU3 := Lib.hid hu
            have HK3 := Lib.hid hkp
            clear he hu hkp hrow hkL
            generalize nx L k = z at *
            go_wp2
            exact ⟨⟨k + 1, by omega, by go_num, by rw [← HST.out]; exact HU3.out, HK3.out⟩, by simp [intOf]; omega⟩
        · obtain rfl : k = n := by omega
          have HU3 := Lib.hid hu
          have HK3 := Lib.hid hkp
          clear hu hkp
          go_wp2
          go_ret
          refine HP.out _ HK3.out ?_
          have := HU3.out
          rw [HE.out] at this
          exact this

end Go.Proofs.YtemnbkenihldgaaDoor
