/- The reference's Then, Alike, Identity (package centoref4). -/
import Derived.Test.YtihkjgiaajgkpaaDoorArrb
import Derived.Test.YtihkjgiaajgkpaaDoorRefo
namespace Go.Proofs.YtihkjgiaajgkpaaDoor
open Go.RowKit

set_option maxHeartbeats 1000000 in
theorem alike_r (p1 p2 : Option Addr) (n1 n2 c1 c2 lo1 hi1 lo2 hi2 : Nat) (l1 l2 : List Int) (r : Bool) (w : World) (h1 : ZsAt w lo1 hi1 p1 n1 l1) (h2 : ZsAt w lo2 hi2 p2 n2 l2) (hs : n1 ≤ 1000000) (hr : decide (l1 = l2) = r) :
    Calls Tryd.prog 15 #[.slice p1 n1 c1, .slice p2 n2 c2] w fun e w' => e = .returned (.bool r) ∧ w.grownBy w' none := by
  by_cases hl : n1 = n2
  · obtain rfl : n1 = n2 := hl
    have hb : ((n1 : Int) != (n1 : Int)) = false := by simp
    have H1 := Lib.hid h1
    have H2 := Lib.hid h2
    have HR := Lib.hid hr
    clear h1 h2 hr
    go_enter Tryd.func15, Tryd.ntmps15
    go_wp2
    go_loopw [5] (fun i wr => ∃ k : Nat, k ≤ n1 ∧ i = .int .i64 k ∧ Hid (l1.take k = l2.take k) ∧ w.grownBy wr none) (fun i _ => n1 - (intOf i).toNat)
    case atStart => exact ⟨0, Nat.zero_le _, rfl, Lib.hid rfl, grownBy_refl _ _⟩
    case round =>
      obtain ⟨k, hk, rfl, HT, hgr⟩ := hrel
      by_cases hkn : k < n1
      · obtain ⟨b1, o1, rfl, q1, q2, q3, hc1⟩ := (H1.out.calm hgr).cell (by omega)
        obtain ⟨b2, o2, rfl, r1, r2, r3, hc2⟩ := (H2.out.calm hgr).cell (by omega)
        have x1 := hc1 k hkn
        have y1 := hc2 k hkn
        clear hc1 hc2
        have k0 : (0 : Int) ≤ k := by omega
        have k1 : (k : Int) < n1 := by omega
        by_cases heq : l1[k]?.getD 0 = l2[k]?.getD 0
        · have HT2 := Lib.hid (take_eqZ (by rw [H1.out.len]; exact hkn) (by rw [H2.out.len]; exact hkn) HT.out heq)
          have hN : (l1[k]?.getD 0 != l2[k]?.getD 0) = false := by rw [heq]; simp
          clear heq
          generalize l1[k]?.getD 0 = u at *
          generalize l2[k]?.getD 0 = v at *
          go_wp2
          go_quiet (fail)
          go_wp2
          exact ⟨⟨k + 1, by omega, by go_num, HT2, grownBy_trans hgr (grownBy_drewN _ _ none)⟩, by simp [intOf]; omega⟩
        · have hN : (l1[k]?.getD 0 != l2[k]?.getD 0) = true := by simpa using heq
          have hrf : r = false := by
            rw [← HR.out, decide_eq_false_iff_not]
            intro e
            exact heq (by rw [e])
          subst hrf
          clear heq
          generalize l1[k]?.getD 0 = u at *
          generalize l2[k]?.getD 0 = v at *
          go_wp2
          go_quiet (fail)
          go_wp2
          go_ret
          exact ⟨rfl, grownBy_trans hgr (grownBy_drewN _ _ none)⟩
      · obtain rfl : k = n1 := by omega
        have hrt : r = true := by
          have := HT.out
          rw [List.take_of_length_le (by rw [H1.out.len]; exact Nat.le_refl _), List.take_of_length_le (by rw [H2.out.len]; exact Nat.le_refl _)] at this
          rw [← HR.out]
          simpa using this
        subst hrt
        go_wp2
        go_ret
        exact ⟨rfl, hgr⟩
  · have hb : ((n1 : Int) != (n2 : Int)) = true := by simp; omega
    have hrf : r = false := by
      rw [← hr, decide_eq_false_iff_not]
      intro e
      exact hl (by rw [← h1.len, ← h2.len, e])
    subst hrf
    clear h1 h2 hl hr
    go_enter Tryd.func15, Tryd.ntmps15
    go_wp2
    go_ret
    exact ⟨rfl, grownBy_refl _ _⟩


/-- A slice of ints of its own, nil perhaps. -/
def ZsPost (l : List Int) (w : World) (e : Ending) (w' : World) : Prop := ∃ p c, e = .returned (.slice p l.length c) ∧ ZsAt w' w.heap.size w'.heap.size p l.length l ∧ w.grownBy w' none

theorem zgrow {w wr w2 : World} {o : Obj} {v : Value} {n : Nat} {xs : List Value} (h : w.grownBy wr none) (ho : wr.ownsRow w.heap.size 3 1 v n xs) (hg : (wr.alloc o).grownBy w2 v.ownBlock) : w.grownBy w2 none := by
  have h1 := grownBy_trans h (World.grownBy_alloc wr o none)
  cases hob : v.ownBlock with
  | none => rw [hob] at hg; exact grownBy_trans h1 hg
  | some r => rw [hob] at hg; exact grownBy_new h1 hg (ho.lt r hob).1

set_option maxRecDepth 20000 in
set_option maxHeartbeats 1000000 in
theorem refIdent_in (z : Int) (n : Nat) (w : World) (hz : (z < 40 ∧ z ≤ 0 ∧ n = 0) ∨ (z < 40 ∧ 0 < z ∧ z = n) ∨ (40 < z ∧ n = 40) ∨ (z = 40 ∧ n = 40)) : Calls Tryd.prog 41 #[.int .i64 z] w (ZsPost (idL n) w) := by
  obtain ⟨i0, hi0, hz0, hz1, hz2⟩ := info_parts Tryd.infoZ3
  rcases hz with ⟨h1, h2, h3⟩ | ⟨h1, h2, rfl⟩ | ⟨h1, h2⟩ | ⟨rfl, h2⟩
  · go_enter Tryd.func41, Tryd.ntmps41
    go_wp2
    go_loopw [3, 4] (fun out i wr => ∃ (k : Nat) (pm : Option Addr) (cap : Nat), k ≤ n ∧ i = .int .i64 k ∧ out = .slice pm k cap ∧ wr.ownsRow w.heap.size 3 1 (.slice pm k cap) k (zcells (idL k)) ∧ w.grownBy wr none) (fun _ i _ => n - (intOf i).toNat)
    case atStart => exact ⟨0, none, 0, Nat.zero_le _, rfl, rfl, World.ownsRow_nil _ _ _ _, grownBy_refl _ _⟩
    case round =>
      obtain ⟨k, pm, cap, hk, rfl, rfl, hown, hgr⟩ := hrel
      have HOWN := Lib.hid hown
      have HGR := Lib.hid hgr
      have hsz := hgr.size
      clear hown hgr
      by_cases hkn : k < n
      · exact absurd hkn (by omega)
      · obtain rfl : k = n := by omega
        have k1 : ¬ ((k : Int) < z) := by omega
        go_wp2
        go_ret
        obtain ⟨p, c, e, hz⟩ := zsAt_own (l := idL k) (by rw [idL_len]; exact HOWN.out)
        rw [idL_len] at e hz
        injection e with e1 e2 e3
        subst e1 e3
        subst h3
        exact ⟨pm, cap, by rw [idL_len]; rfl, by rw [idL_len]; exact hz, HGR.out⟩
  · go_enter Tryd.func41, Tryd.ntmps41
    go_wp2
    go_loopw [3, 4] (fun out i wr => ∃ (k : Nat) (pm : Option Addr) (cap : Nat), k ≤ n ∧ i = .int .i64 k ∧ out = .slice pm k cap ∧ wr.ownsRow w.heap.size 3 1 (.slice pm k cap) k (zcells (idL k)) ∧ w.grownBy wr none) (fun _ i _ => n - (intOf i).toNat)
    case atStart => exact ⟨0, none, 0, Nat.zero_le _, rfl, rfl, World.ownsRow_nil _ _ _ _, grownBy_refl _ _⟩
    case round =>
      obtain ⟨k, pm, cap, hk, rfl, rfl, hown, hgr⟩ := hrel
      have HOWN := Lib.hid hown
      have HGR := Lib.hid hgr
      have hsz := hgr.size
      clear hown hgr
      by_cases hkn : k < n
      · have k0 : (0 : Int) ≤ k := by omega
        have k1 : (k : Int) < n := by omega
        go_wp2_with (at_builtin; refine wpList_append_own _ rfl _ _ 26 rfl w.heap.size 3 i0 (.int .i64 0) 1 8 Tryd.underlying26 hi0 hz0 hz1 hz2 rfl (by decide) (.slice pm k cap) k (zcells (idL k)) rfl (HOWN.out.alloc _) ⟨wr.heap.size, 0, none⟩ 1 1 [.int .i64 (k : Int)] rfl rfl (World.news_of_block (heap_new wr _)) (by simp [Value.oneCell']) (by unfold maxLen; omega) (by omega) (by simp; omega) ?_; intro v' w2 hown' hgrow _; obtain ⟨g', cap', rfl⟩ := ownsRow_succ hown'; have HO2 := Lib.hid hown'; have HG2 := Lib.hid hgrow; clear hown' hgrow)
        go_wp2
        exact ⟨⟨k + 1, _, _, by omega, by go_num, rfl, by rw [idL_succ, zcells_snoc]; exact HO2.out, zgrow HGR.out HOWN.out HG2.out⟩, by simp [intOf]; omega⟩
      · obtain rfl : k = n := by omega
        have k1 : ¬ ((k : Int) < k) := by omega
        go_wp2
        go_ret
        obtain ⟨p, c, e, hz⟩ := zsAt_own (l := idL k) (by rw [idL_len]; exact HOWN.out)
        rw [idL_len] at e hz
        injection e with e1 e2 e3
        subst e1 e3
        exact ⟨pm, cap, by rw [idL_len]; rfl, by rw [idL_len]; exact hz, HGR.out⟩
  · go_enter Tryd.func41, Tryd.ntmps41
    go_wp2
    go_loopw [3, 4] (fun out i wr => ∃ (k : Nat) (pm : Option Addr) (cap : Nat), k ≤ n ∧ i = .int .i64 k ∧ out = .slice pm k cap ∧ wr.ownsRow w.heap.size 3 1 (.slice pm k cap) k (zcells (idL k)) ∧ w.grownBy wr none) (fun _ i _ => n - (intOf i).toNat)
    case atStart => exact ⟨0, none, 0, Nat.zero_le _, rfl, rfl, World.ownsRow_nil _ _ _ _, grownBy_refl _ _⟩
    case round =>
      obtain ⟨k, pm, cap, hk, rfl, rfl, hown, hgr⟩ := hrel
      have HOWN := Lib.hid hown
      have HGR := Lib.hid hgr
      have hsz := hgr.size
      clear hown hgr
      by_cases hkn : k < n
      · have k0 : (0 : Int) ≤ k := by omega
        have k1 : (k : Int) < 40 := by omega
        go_wp2_with (at_builtin; refine wpList_append_own _ rfl _ _ 26 rfl w.heap.size 3 i0 (.int .i64 0) 1 8 Tryd.underlying26 hi0 hz0 hz1 hz2 rfl (by decide) (.slice pm k cap) k (zcells (idL k)) rfl (HOWN.out.alloc _) ⟨wr.heap.size, 0, none⟩ 1 1 [.int .i64 (k : Int)] rfl rfl (World.news_of_block (heap_new wr _)) (by simp [Value.oneCell']) (by unfold maxLen; omega) (by omega) (by simp; omega) ?_; intro v' w2 hown' hgrow _; obtain ⟨g', cap', rfl⟩ := ownsRow_succ hown'; have HO2 := Lib.hid hown'; have HG2 := Lib.hid hgrow; clear hown' hgrow)
        go_wp2
        exact ⟨⟨k + 1, _, _, by omega, by go_num, rfl, by rw [idL_succ, zcells_snoc]; exact HO2.out, zgrow HGR.out HOWN.out HG2.out⟩, by simp [intOf]; omega⟩
      · obtain rfl : k = n := by omega
        have k1 : ¬ ((k : Int) < 40) := by omega
        go_wp2
        go_ret
        obtain ⟨p, c, e, hz⟩ := zsAt_own (l := idL k) (by rw [idL_len]; exact HOWN.out)
        rw [idL_len] at e hz
        injection e with e1 e2 e3
        subst e1 e3
        subst h2
        exact ⟨pm, cap, by rw [idL_len]; rfl, by rw [idL_len]; exact hz, HGR.out⟩
  · go_enter Tryd.func41, Tryd.ntmps41
    go_wp2
    go_loopw [3, 4] (fun out i wr => ∃ (k : Nat) (pm : Option Addr) (cap : Nat), k ≤ n ∧ i = .int .i64 k ∧ out = .slice pm k cap ∧ wr.ownsRow w.heap.size 3 1 (.slice pm k cap) k (zcells (idL k)) ∧ w.grownBy wr none) (fun _ i _ => n - (intOf i).toNat)
    case atStart => exact ⟨0, none, 0, Nat.zero_le _, rfl, rfl, World.ownsRow_nil _ _ _ _, grownBy_refl _ _⟩
    case round =>
      obtain ⟨k, pm, cap, hk, rfl, rfl, hown, hgr⟩ := hrel
      have HOWN := Lib.hid hown
      have HGR := Lib.hid hgr
      have hsz := hgr.size
      clear hown hgr
      by_cases hkn : k < n
      · have k0 : (0 : Int) ≤ k := by omega
        have k1 : (k : Int) < 40 := by omega
        go_wp2_with (at_builtin; refine wpList_append_own _ rfl _ _ 26 rfl w.heap.size 3 i0 (.int .i64 0) 1 8 Tryd.underlying26 hi0 hz0 hz1 hz2 rfl (by decide) (.slice pm k cap) k (zcells (idL k)) rfl (HOWN.out.alloc _) ⟨wr.heap.size, 0, none⟩ 1 1 [.int .i64 (k : Int)] rfl rfl (World.news_of_block (heap_new wr _)) (by simp [Value.oneCell']) (by unfold maxLen; omega) (by omega) (by simp; omega) ?_; intro v' w2 hown' hgrow _; obtain ⟨g', cap', rfl⟩ := ownsRow_succ hown'; have HO2 := Lib.hid hown'; have HG2 := Lib.hid hgrow; clear hown' hgrow)
        go_wp2
        exact ⟨⟨k + 1, _, _, by omega, by go_num, rfl, by rw [idL_succ, zcells_snoc]; exact HO2.out, zgrow HGR.out HOWN.out HG2.out⟩, by simp [intOf]; omega⟩
      · obtain rfl : k = n := by omega
        have k1 : ¬ ((k : Int) < 40) := by omega
        go_wp2
        go_ret
        obtain ⟨p, c, e, hz⟩ := zsAt_own (l := idL k) (by rw [idL_len]; exact HOWN.out)
        rw [idL_len] at e hz
        injection e with e1 e2 e3
        subst e1 e3
        subst h2
        exact ⟨pm, cap, by rw [idL_len]; rfl, by rw [idL_len]; exact hz, HGR.out⟩
theorem refIdent_c (z : Int) (n : Nat) (w : World) (h : idN z = n) : Calls Tryd.prog 41 #[.int .i64 z] w (ZsPost (idL n) w) :=
  refIdent_in z n w (by unfold idN at h; omega)

def RefThenPost (f g : List Int) (w : World) (e : Ending) (w' : World) : Prop :=
  w.grownBy w' none ∧ ((thenB f g.length = true ∧ ∃ p c, e = .returned (.tuple #[.slice p f.length c, .bool true]) ∧ ZsAt w' w.heap.size w'.heap.size p f.length (thenL f g)) ∨
    (thenB f g.length = false ∧ e = .returned (.tuple #[.slice none 0 0, .bool false])))

theorem thenL_take {f g : List Int} {k : Nat} (hk : k < f.length) : thenL (f.take (k + 1)) g = thenL (f.take k) g ++ [g[(f[k]?.getD 0).toNat]?.getD 0] := by
  rw [List.take_succ_eq_append_getElem hk, List.getElem?_eq_getElem hk]
  simp only [thenL, List.map_append, List.map_cons, List.map_nil, Option.getD_some]

end Go.Proofs.YtihkjgiaajgkpaaDoor
