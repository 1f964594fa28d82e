/- The walk of the statement ObjMakes: at every input it answers true and leaves all that lay as it lay. Condition: the table of the lowest places is in memory. -/
import Derived.Test.YtdolcdededmlhaaDoorKnow4
namespace Go.Proofs.YtdolcdededmlhaaDoor
open Go.RowKit

/-- Pairs that rise, all of them. -/
def LtP (x y : Int × Int) : Prop := x.1 < y.1 ∨ (x.1 = y.1 ∧ x.2 < y.2)
theorem onL_rise (S : Nat → Bool) (n : Nat) : (onL S n).Pairwise (· < ·) := by
  unfold onL
  exact List.Pairwise.filter _ List.pairwise_lt_range
theorem pairsL_rise (n : Nat) (R : Nat → Nat → Bool) (k : Nat) : (pairsL n R k).Pairwise LtP ∧ ∀ x ∈ pairsL n R k, x.1 < k := by
  induction k with
  | zero => simp [pairsL]
  | succ k ih =>
    rw [pairsL_succ]
    refine ⟨?_, ?_⟩
    · rw [List.pairwise_append]
      refine ⟨ih.1, ?_, ?_⟩
      · rw [List.pairwise_map]
        exact (onL_rise (R k) n).imp fun h => .inr ⟨rfl, by simpa using h⟩
      · intro x hx y hy
        rw [List.mem_map] at hy
        obtain ⟨b, _, rfl⟩ := hy
        exact .inl (ih.2 x hx)
    · intro x hx
      rcases List.mem_append.1 hx with hx | hx
      · have := ih.2 x hx; omega
      · rw [List.mem_map] at hx
        obtain ⟨b, _, rfl⟩ := hx
        show (k : Int) < ((k + 1 : Nat) : Int)
        omega
theorem risesB_of {l : List (Int × Int)} (h : l.Pairwise LtP) : risesB l = true := by
  unfold risesB nbr
  rw [List.all_map, List.all_eq_true]
  intro i hi
  have hi' : i < l.length - 1 := by simpa using hi
  have h1 : i < l.length := by omega
  have h2 : i + 1 < l.length := by omega
  show ltP (l[i]?.getD (0, 0), l[i + 1]?.getD (0, 0)) = true
  rw [List.getElem?_eq_getElem h1, List.getElem?_eq_getElem h2]
  have := List.pairwise_iff_getElem.1 h i (i + 1) h1 h2 (by omega)
  unfold ltP
  simpa [LtP] using this
theorem risesB_pairsL (n : Nat) (R : Nat → Nat → Bool) (k : Nat) : risesB (pairsL n R k) = true := risesB_of (pairsL_rise n R k).1
theorem allIn_pairsL (n : Nat) (R : Nat → Nat → Bool) : allIn n (pairsL n R n) = true := by
  unfold allIn
  rw [List.all_eq_true]
  intro p hp
  simpa using pairsL_in p hp
/-- An object's closure makes an object. -/
theorem chk_clo {L : List ByteArray} {n : Nat} {R : Nat → Nat → Bool} (h : labErr L = 0) (hl : L.length = n) (hs : Supp n R) : chk L (pairsL n (clo n R) n) = 0 := by
  subst hl
  refine chk_ok h ?_
  rw [risesB_pairsL, allIn_pairsL, ofL_pairsL (clo_supp hs)]
  cases hg : grewC L.length (clo L.length R) L.length
  · rfl
  · exact absurd (clo_clo hs) ((grewC_iff (clo_supp hs)).1 hg)

/-- What ObjMakes has at hand. -/
structure MEnv (w W : World) (p q : Option Addr) (n m : Nat) (L : List ByteArray) (P : List (Int × Int)) : Prop where
  g : w.grownBy W none
  t0 : Tab w
  a : ObjAt W 0 w.heap.size p n q m L P
section
variable {w W W' : World} {p q : Option Addr} {n m : Nat} {L : List ByteArray} {P : List (Int × Int)}
theorem MEnv.t (h : MEnv w W p q n m L P) : Tab W := h.t0.grown h.g (by simp)
theorem MEnv.calm (h : MEnv w W p q n m L P) (hg : W.grownBy W' none) : MEnv w W' p q n m L P := ⟨grownBy_trans h.g hg, h.t0, h.a.calm hg⟩
end

/-- What Make tells, what ObjMakes wants: of n labels, all of which are short or not, and a relation of K elements. -/
def errK (n K : Nat) (b : Bool) : Int := if 40 < n then 11 else if b = false then 10 else if K ≠ n then 10 else 0
theorem lab_errK {L : List ByteArray} (K : Nat) (h : labErr L ≠ 0) : labErr L = errK L.length K (L.all okS) := by
  unfold labErr errK at *
  by_cases h40 : 40 < L.length
  · rw [if_pos h40, if_pos h40]
  · rw [if_neg h40] at h ⊢
    rw [if_neg h40]
    cases hb : L.all okS
    · rfl
    · rw [hb] at h; exact absurd rfl h
theorem lab_errK0 {L : List ByteArray} (K : Nat) (h : labErr L = 0) : errK L.length K (L.all okS) = if K ≠ L.length then 10 else 0 := by
  unfold labErr at h
  unfold errK
  by_cases h40 : 40 < L.length
  · rw [if_pos h40] at h; cases h
  · rw [if_neg h40] at h ⊢
    cases hb : L.all okS
    · rw [hb] at h; cases h
    · rfl

theorem make_err (p : Option Addr) (n c lo hi lo' hi' r K : Nat) (L : List ByteArray) (R : Nat → Nat → Bool) (k : Int) (w : World) (h : StrsAt w lo hi p n L) (hR : IsRel w lo' hi' r K R) (hk : errK n K (L.all okS) = k) (hk0 : k ≠ 0) :
    Calls Tryd.prog 23 #[.slice p n c, .pointer (some ⟨r, 0, none⟩)] w fun e w' => e = .returned (.tuple #[.agg #[.slice none 0 0, .slice none 0 0], .int .i64 k]) ∧ w.grownBy w' none := by
  have hl := h.len
  by_cases h0 : labErr L = 0
  · have e := lab_errK0 K h0
    rw [hl, hk] at e
    by_cases hKn : K = n
    · rw [if_neg (by simpa using hKn)] at e; exact absurd e hk0
    · rw [if_pos hKn] at e
      subst e
      exact make_no p n c lo hi lo' hi' r K L R w h h0 hR hKn
  · have e := lab_errK K h0
    rw [hl, hk] at e
    exact make_lab p n c lo hi L k _ w h e hk0

theorem same_refl4 (L : List ByteArray) (P : List (Int × Int)) : (decide (L = L) && decide (P = P)) = true := by simp

/-- The first k labels: want so far. -/
def wantL (L : List ByteArray) (k : Nat) : Int := if (L.take k).all okS then 0 else 10
theorem wantL_yes {L : List ByteArray} {k : Nat} (hk : k < L.length) (h : okS (L[k]?.getD .empty) = true) : wantL L (k + 1) = wantL L k := by
  unfold wantL; rw [all_take okS hk, h, Bool.and_true]
theorem wantL_no {L : List ByteArray} {k : Nat} (hk : k < L.length) (h : okS (L[k]?.getD .empty) = false) : wantL L (k + 1) = 10 := by
  unfold wantL; rw [all_take okS hk, h, Bool.and_false]; rfl

set_option maxRecDepth 100000 in
set_option maxHeartbeats 4000000 in
theorem objMakes_in (p q : Option Addr) (n c m d v : Nat) (L : List ByteArray) (P : List (Int × Int)) (w : World) (ht : Tab w) (h : ObjAt w 0 w.heap.size p n q m L P)
    (hn : n ≤ maxLen) (hc : p = none → c = 0) (hv : v < 256) :
    Calls Tryd.prog 4 #[.slice p n c, .int .u8 v, .slice q m d] w fun e w' => e = .returned (.bool true) ∧ w.grownBy w' none := by
  have HE0 := Lib.hid (show MEnv w w p q n m L P from ⟨grownBy_refl _ _, ht, h⟩)
  have HLEN := Lib.hid h.ls.len
  have HC := Lib.hid hc
  have HN := Lib.hid hn
  have v0 : (0 : Int) ≤ v := by omega
  have v1 : (v : Int) < 256 := by omega
  clear ht h hc hn hv
  go_enter Tryd.func4, Tryd.ntmps4
  go_wp2_with fail
  refine (known4_c _ HE0.out.t).mono ?_
  rintro e w1 ⟨rfl, hg1⟩
  have HE1 := Lib.hid (HE0.out.calm hg1)
  clear hg1
  cases hf : fewB L m
  · have HF := Lib.hid hf
    clear hf
    go_wp2_with fail
    refine (few_r _ _ _ _ _ _ _ _ L P false _ (by exact HE1.out.a) HN.out HF.out).mono ?_
    rintro e w2 ⟨rfl, hg2⟩
    have HG := Lib.hid (HE1.out.calm hg2).g
    clear hg2
    go_wp2
    go_ret
    exact ⟨rfl, HG.out⟩
  · have HF := Lib.hid hf
    have hs : n ≤ 50 ∧ m ≤ 200 := by
      unfold fewB at hf
      simp only [Bool.and_eq_true, decide_eq_true_eq] at hf
      rw [HLEN.out] at hf
      exact hf.2
    obtain ⟨hs1, hs2⟩ := hs
    clear hf
    have hm6 : m ≤ 1000000 := by omega
    go_wp2_with fail
    refine (few_r _ _ _ _ _ _ _ _ L P true _ (by exact HE1.out.a) HN.out HF.out).mono ?_
    rintro e w2 ⟨rfl, hg2⟩
    have HE2 := Lib.hid (HE1.out.calm hg2)
    clear hg2
    by_cases h128 : 128 ≤ v
    · have d1 : decide ((128 : Int) ≤ v) = true := by simp; omega
      obtain ⟨K, hK⟩ : ∃ K : Nat, n = K := ⟨_, rfl⟩
      have hKs : K ≤ 200 := by omega
      have HK : Hid ((n : Int) = K) := Lib.hid (by omega)
      clear hK h128
      go_wp2_with fail
      rw [HK.out]
      refine (matSome_c K _ _ _ _ _ P _ hKs (by exact HE2.out.a.ps) hm6).mono ?_
      rintro e w3 ⟨mm, rfl, hM, hg3⟩
      have HE3 := Lib.hid (HE2.out.calm hg3)
      have HM3 := Lib.hid hM
      clear hM hg3
      go_wp2_with fail
      refine (matPairs_c _ _ _ K (ofL K P) _ (by exact HM3.out)).mono ?_
      rintro e w4 ⟨pq, cq, rfl, hpq, hg4⟩
      have HE4 := Lib.hid (HE3.out.calm hg4)
      have HM4 := Lib.hid (HM3.out.calm hg4)
      have HPQ := Lib.hid hpq
      have hQL : (pairsL K (ofL K P) K).length ≤ 1000000 := by
        have := pairsL_len K (ofL K P) K
        have : K * K ≤ 200 * 200 := Nat.mul_le_mul hKs hKs
        omega
      have HQ : Hid (ofErr K (pairsL K (ofL K P) K) = 0 ∧ ofL K (pairsL K (ofL K P) K) = ofL K P) := Lib.hid ⟨pairsL_ok hKs, ofL_pairsL (ofL_supp K P)⟩
      clear hpq hg4
      generalize pairsL K (ofL K P) K = Q at *
      go_wp2_with fail
      refine (relOf_ok K _ _ _ _ _ Q _ (by exact HPQ.out) hQL HQ.out.1).mono ?_
      rw [HQ.out.2]
      rintro e w5 ⟨r, rfl, hr, hg5⟩
      have HE5 := Lib.hid (HE4.out.calm hg5)
      have HM5 := Lib.hid (HM4.out.calm hg5)
      have HR5 := Lib.hid hr
      clear hr hg5
      by_cases hk0 : errK n K (L.all okS) = 0
      · have hK3 : ¬ 40 < n ∧ L.all okS = true ∧ K = n := by
          unfold errK at hk0
          by_cases h40 : 40 < n
          · rw [if_pos h40] at hk0; cases hk0
          · rw [if_neg h40] at hk0
            cases hb : L.all okS
            · rw [hb] at hk0; cases hk0
            · rw [hb, if_neg (by simp)] at hk0
              by_cases hKn : K = n
              · exact ⟨h40, rfl, hKn⟩
              · rw [if_pos hKn] at hk0; cases hk0
        obtain ⟨h40, hb, hKn⟩ := hK3
        clear hk0
        obtain rfl : n = K := hKn.symm
        have HLB : Hid (labErr L = 0) := Lib.hid (lab_of_all (by rw [HLEN.out]; omega) hb)
        have HB := Lib.hid hb
        have e40 : ¬ ((40 : Int) < n) := by omega
        have eK : ((n : Int) != (n : Int)) = false := by simp
        have HCK := Lib.hid (chk_clo HLB.out HLEN.out (ofL_supp n P))
        clear hb h40 hKn
        go_wp2_with fail
        refine (make_ok _ n _ _ _ _ _ _ L (ofL n P) _ (by exact HE5.out.a.ls) HC.out HLB.out (by exact HR5.out) HE5.out.t).mono ?_
        have hzl : (pairsL n (clo n (ofL n P)) n).length ≤ 1000000 := by
          have := pairsL_len n (clo n (ofL n P)) n
          have : n * n ≤ 50 * 50 := Nat.mul_le_mul hs1 hs1
          omega
        generalize hZ : pairsL n (clo n (ofL n P)) n = Z at *
        have HZ := Lib.hid hZ
        clear hZ
        rintro e w6 ⟨u, v9, rfl, hown, hg6⟩
        obtain ⟨pu, cu, pv, cv, rfl, rfl, hob⟩ := hown.at
        have HE7 := Lib.hid ((HE5.out.calm hg6).calm (World.grownBy_alloc w6 (.cells #[.slice pu L.length cu, .slice pv Z.length cv] 25) none))
        have HM7 := Lib.hid ((HM5.out.calm hg6).calm (World.grownBy_alloc w6 (.cells #[.slice pu L.length cu, .slice pv Z.length cv] 25) none))
        have HO7 := Lib.hid (hob.calm (World.grownBy_alloc w6 (.cells #[.slice pu L.length cu, .slice pv Z.length cv] 25) none))
        have HB7 := Lib.hid (box2 (grownBy_refl (w6.alloc (.cells #[.slice pu L.length cu, .slice pv Z.length cv] 25)) none))
        clear hg6 hown hob
        go_wp2
        go_loop [13, 14] (fun t i => ∃ k : Nat, k ≤ n ∧ i = .int .i64 k ∧ t = .int .i64 (wantL L k)) (fun _ i => n - (intOf i).toNat)
        case atStart => exact ⟨0, Nat.zero_le _, rfl, rfl⟩
        case round =>
          obtain ⟨k, hk, rfl, rfl⟩ := hrel
          by_cases hkn : k < n
          · obtain ⟨g1, o1, rfl, q1, q2, q3, hc1⟩ := HE7.out.a.ls.cell (by omega)
            have x1 := hc1 k hkn
            clear hc1
            have k0 : (k : Int) < n := by omega
            have HW1 := Lib.hid (fun h => wantL_yes (L := L) (k := k) (by rw [HLEN.out]; exact hkn) h)
            have HW2 := Lib.hid (fun h => wantL_no (L := L) (k := k) (by rw [HLEN.out]; exact hkn) h)
            generalize L[k]?.getD .empty = s at *
            by_cases hs : s.size ≤ 60
            · have hs' : (s.size : Int) ≤ 60 := by omega
              have HW := Lib.hid (HW1.out (by unfold okS; simpa using hs))
              go_wp2
              go_round
              case rel => exact ⟨k + 1, by omega, by go_num, by rw [HW.out]⟩
              case measure => simp [intOf]; omega
            · have hs' : (60 : Int) < s.size := by omega
              have HW := Lib.hid (HW2.out (by unfold okS; simpa using hs))
              go_wp2
              go_round
              case rel => exact ⟨k + 1, by omega, by go_num, by rw [HW.out]⟩
              case measure => simp [intOf]; omega
          · obtain rfl : n = k := by omega
            have k0 : ¬ ((n : Int) < n) := by omega
            have hw : wantL L n = 0 := by
              unfold wantL
              rw [List.take_of_length_le (by rw [HLEN.out]; exact Nat.le_refl _), HB.out]
              rfl
            rw [hw]
            have hLs : Hid (L.length ≤ 1000000) := Lib.hid (by rw [HLEN.out]; omega)
            clear hw
            have henv := HE7.out
            have hmat := HM7.out
            have hobj := HO7.out
            have hx0 := HB7.out.1
            have hx1 := HB7.out.2.1
            have hn6 : n ≤ 200 := by omega
            go_wp2_with fail
            have hB8 : w6.heap.size < (w6.alloc (.cells #[.slice pu L.length cu, .slice pv Z.length cv] 25)).heap.size := by simp
            generalize w6.alloc (.cells #[.slice pu L.length cu, .slice pv Z.length cv] 25) = w7 at *
            generalize w6.heap.size = B8 at *
            go_region_held3 (fun w' => w'.cell? ⟨B8, 0, none⟩ = some (.slice pu L.length cu) ∧ w'.cell? ⟨B8, 1, none⟩ = some (.slice pv Z.length cv)) (first | exact hbx | exact ⟨hx0, hx1⟩ | go_keep)
              (first
                | (go_at_call 24; refine (refMake_c _ n _ _ _ _ _ _ L (ofL n P) _ (henv.calm (grownBy_drewN _ 1 none)).a.ls HC.out hn6 (hmat.calm (grownBy_drewN _ 1 none))).mono ?_; rw [HZ.out]; rintro e w8 ⟨pa, ca, pb, cb, rfl, hmd, hg⟩; have hg := grownBy_trans (grownBy_drewN _ 1 none) hg; have henv := henv.calm hg; have hobj := hobj.calm hg; have hbx := box_calm ⟨hx0, hx1⟩ hB8 hg; have hB9 := Nat.lt_of_lt_of_le hB8 hg.size)
                | (go_at_call 19; refine (refSame_r _ _ _ _ _ _ _ _ _ _ _ _ _ _ _ _ L L Z Z true _ hobj hmd hLs.out hzl (same_refl4 L Z)).mono ?_; rintro e w9 ⟨rfl, hg⟩; have henv := henv.calm hg; have hobj := hobj.calm hg; have hbx := box_calm hbx hB9 hg; have hB9 := Nat.lt_of_lt_of_le hB9 hg.size)
                | (go_at_call 16; refine (is_c _ _ _ _ _ _ _ _ L Z true _ hobj hzl (by rw [HCK.out]; rfl)).mono ?_; rintro e w10 ⟨rfl, hg⟩; have henv := henv.calm hg; have hbx := box_calm hbx hB9 hg))
            have HG := Lib.hid henv.g
            clear henv
            go_wp2
            go_ret
            exact ⟨rfl, HG.out⟩
      · generalize hkk : errK n K (L.all okS) = kk at *
        have HKK := Lib.hid hkk
        have HK0 := Lib.hid hk0
        clear hkk hk0
        go_wp2_with fail
        refine (make_err _ n _ _ _ _ _ _ K L (ofL K P) kk _ (by exact HE5.out.a.ls) (by exact HR5.out) HKK.out HK0.out).mono ?_
        rintro e w6 ⟨rfl, hg6⟩
        have HE6 := Lib.hid (HE5.out.calm hg6)
        have HE7 := Lib.hid (HE6.out.calm (World.grownBy_alloc w6 (.cells #[.slice none 0 0, .slice none 0 0] 25) none))
        clear hg6
        go_wp2
        go_loop [13, 14] (fun t i => ∃ k : Nat, k ≤ n ∧ i = .int .i64 k ∧ t = .int .i64 (wantL L k)) (fun _ i => n - (intOf i).toNat)
        case atStart => exact ⟨0, Nat.zero_le _, rfl, rfl⟩
        case round =>
          obtain ⟨k, hk, rfl, rfl⟩ := hrel
          by_cases hkn : k < n
          · obtain ⟨g1, o1, rfl, q1, q2, q3, hc1⟩ := HE7.out.a.ls.cell (by omega)
            have x1 := hc1 k hkn
            clear hc1
            have k0 : (k : Int) < n := by omega
            have HW1 := Lib.hid (fun h => wantL_yes (L := L) (k := k) (by rw [HLEN.out]; exact hkn) h)
            have HW2 := Lib.hid (fun h => wantL_no (L := L) (k := k) (by rw [HLEN.out]; exact hkn) h)
            generalize L[k]?.getD .empty = s at *
            by_cases hs : s.size ≤ 60
            · have hs' : (s.size : Int) ≤ 60 := by omega
              have HW := Lib.hid (HW1.out (by unfold okS; simpa using hs))
              go_wp2
              go_round
              case rel => exact ⟨k + 1, by omega, by go_num, by rw [HW.out]⟩
              case measure => simp [intOf]; omega
            · have hs' : (60 : Int) < s.size := by omega
              have HW := Lib.hid (HW2.out (by unfold okS; simpa using hs))
              go_wp2
              go_round
              case rel => exact ⟨k + 1, by omega, by go_num, by rw [HW.out]⟩
              case measure => simp [intOf]; omega
          · obtain rfl : n = k := by omega
            have k0 : ¬ ((n : Int) < n) := by omega
            have HWN : Hid (wantL L n = if L.all okS then 0 else 10) := by
              refine Lib.hid ?_
              unfold wantL
              rw [List.take_of_length_le (by rw [HLEN.out]; exact Nat.le_refl _)]
            by_cases h40 : 40 < n
            · have e40 : (40 : Int) < n := by omega
              obtain rfl : kk = 11 := by rw [← HKK.out]; unfold errK; rw [if_pos h40]
              clear h40
              by_cases hKn : K = n
              · have eK : ((K : Int) != (n : Int)) = false := by simp; omega
                clear hKn
                go_wp2
                go_ret
                exact ⟨rfl, HE7.out.g⟩
              · have eK : ((K : Int) != (n : Int)) = true := by simp; omega
                clear hKn
                go_wp2
                go_ret
                exact ⟨rfl, HE7.out.g⟩
            · have e40 : ¬ ((40 : Int) < n) := by omega
              by_cases hKn : K = n
              · have eK : ((K : Int) != (n : Int)) = false := by simp; omega
                have hb : L.all okS = false := by
                  cases hb : L.all okS
                  · rfl
                  · exfalso
                    refine HK0.out ?_
                    rw [← HKK.out]; unfold errK; rw [if_neg h40, hb, if_neg (by simp), if_neg (by simpa using hKn)]
                obtain rfl : kk = 10 := by rw [← HKK.out]; unfold errK; rw [if_neg h40, if_pos hb]
                have hw : wantL L n = 10 := by rw [HWN.out, hb]; rfl
                rw [hw]
                clear hKn h40 hb hw
                go_wp2
                go_ret
                exact ⟨rfl, HE7.out.g⟩
              · have eK : ((K : Int) != (n : Int)) = true := by simp; omega
                obtain rfl : kk = 10 := by
                  rw [← HKK.out]; unfold errK; rw [if_neg h40]
                  cases hb : L.all okS
                  · rfl
                  · rw [if_neg (by simp), if_pos hKn]
                clear hKn h40
                go_wp2
                go_ret
                exact ⟨rfl, HE7.out.g⟩
    · have d1 : decide ((128 : Int) ≤ v) = false := by simp; omega
      obtain ⟨K, hK⟩ : ∃ K : Nat, v % 20 = K := ⟨_, rfl⟩
      have hKs : K ≤ 200 := by omega
      have HK : Hid ((v : Int) % 20 = K) := Lib.hid (by omega)
      clear hK h128
      go_wp2_with fail
      rw [HK.out]
      refine (matSome_c K _ _ _ _ _ P _ hKs (by exact HE2.out.a.ps) hm6).mono ?_
      rintro e w3 ⟨mm, rfl, hM, hg3⟩
      have HE3 := Lib.hid (HE2.out.calm hg3)
      have HM3 := Lib.hid hM
      clear hM hg3
      go_wp2_with fail
      refine (matPairs_c _ _ _ K (ofL K P) _ (by exact HM3.out)).mono ?_
      rintro e w4 ⟨pq, cq, rfl, hpq, hg4⟩
      have HE4 := Lib.hid (HE3.out.calm hg4)
      have HM4 := Lib.hid (HM3.out.calm hg4)
      have HPQ := Lib.hid hpq
      have hQL : (pairsL K (ofL K P) K).length ≤ 1000000 := by
        have := pairsL_len K (ofL K P) K
        have : K * K ≤ 200 * 200 := Nat.mul_le_mul hKs hKs
        omega
      have HQ : Hid (ofErr K (pairsL K (ofL K P) K) = 0 ∧ ofL K (pairsL K (ofL K P) K) = ofL K P) := Lib.hid ⟨pairsL_ok hKs, ofL_pairsL (ofL_supp K P)⟩
      clear hpq hg4
      generalize pairsL K (ofL K P) K = Q at *
      go_wp2_with fail
      refine (relOf_ok K _ _ _ _ _ Q _ (by exact HPQ.out) hQL HQ.out.1).mono ?_
      rw [HQ.out.2]
      rintro e w5 ⟨r, rfl, hr, hg5⟩
      have HE5 := Lib.hid (HE4.out.calm hg5)
      have HM5 := Lib.hid (HM4.out.calm hg5)
      have HR5 := Lib.hid hr
      clear hr hg5
      by_cases hk0 : errK n K (L.all okS) = 0
      · have hK3 : ¬ 40 < n ∧ L.all okS = true ∧ K = n := by
          unfold errK at hk0
          by_cases h40 : 40 < n
          · rw [if_pos h40] at hk0; cases hk0
          · rw [if_neg h40] at hk0
            cases hb : L.all okS
            · rw [hb] at hk0; cases hk0
            · rw [hb, if_neg (by simp)] at hk0
              by_cases hKn : K = n
              · exact ⟨h40, rfl, hKn⟩
              · rw [if_pos hKn] at hk0; cases hk0
        obtain ⟨h40, hb, hKn⟩ := hK3
        clear hk0
        obtain rfl : n = K := hKn.symm
        have HLB : Hid (labErr L = 0) := Lib.hid (lab_of_all (by rw [HLEN.out]; omega) hb)
        have HB := Lib.hid hb
        have e40 : ¬ ((40 : Int) < n) := by omega
        have eK : ((n : Int) != (n : Int)) = false := by simp
        have HCK := Lib.hid (chk_clo HLB.out HLEN.out (ofL_supp n P))
        clear hb h40 hKn
        go_wp2_with fail
        refine (make_ok _ n _ _ _ _ _ _ L (ofL n P) _ (by exact HE5.out.a.ls) HC.out HLB.out (by exact HR5.out) HE5.out.t).mono ?_
        have hzl : (pairsL n (clo n (ofL n P)) n).length ≤ 1000000 := by
          have := pairsL_len n (clo n (ofL n P)) n
          have : n * n ≤ 50 * 50 := Nat.mul_le_mul hs1 hs1
          omega
        generalize hZ : pairsL n (clo n (ofL n P)) n = Z at *
        have HZ := Lib.hid hZ
        clear hZ
        rintro e w6 ⟨u, v9, rfl, hown, hg6⟩
        obtain ⟨pu, cu, pv, cv, rfl, rfl, hob⟩ := hown.at
        have HE7 := Lib.hid ((HE5.out.calm hg6).calm (World.grownBy_alloc w6 (.cells #[.slice pu L.length cu, .slice pv Z.length cv] 25) none))
        have HM7 := Lib.hid ((HM5.out.calm hg6).calm (World.grownBy_alloc w6 (.cells #[.slice pu L.length cu, .slice pv Z.length cv] 25) none))
        have HO7 := Lib.hid (hob.calm (World.grownBy_alloc w6 (.cells #[.slice pu L.length cu, .slice pv Z.length cv] 25) none))
        have HB7 := Lib.hid (box2 (grownBy_refl (w6.alloc (.cells #[.slice pu L.length cu, .slice pv Z.length cv] 25)) none))
        clear hg6 hown hob
        go_wp2
        go_loop [13, 14] (fun t i => ∃ k : Nat, k ≤ n ∧ i = .int .i64 k ∧ t = .int .i64 (wantL L k)) (fun _ i => n - (intOf i).toNat)
        case atStart => exact ⟨0, Nat.zero_le _, rfl, rfl⟩
        case round =>
          obtain ⟨k, hk, rfl, rfl⟩ := hrel
          by_cases hkn : k < n
          · obtain ⟨g1, o1, rfl, q1, q2, q3, hc1⟩ := HE7.out.a.ls.cell (by omega)
            have x1 := hc1 k hkn
            clear hc1
            have k0 : (k : Int) < n := by omega
            have HW1 := Lib.hid (fun h => wantL_yes (L := L) (k := k) (by rw [HLEN.out]; exact hkn) h)
            have HW2 := Lib.hid (fun h => wantL_no (L := L) (k := k) (by rw [HLEN.out]; exact hkn) h)
            generalize L[k]?.getD .empty = s at *
            by_cases hs : s.size ≤ 60
            · have hs' : (s.size : Int) ≤ 60 := by omega
              have HW := Lib.hid (HW1.out (by unfold okS; simpa using hs))
              go_wp2
              go_round
              case rel => exact ⟨k + 1, by omega, by go_num, by rw [HW.out]⟩
              case measure => simp [intOf]; omega
            · have hs' : (60 : Int) < s.size := by omega
              have HW := Lib.hid (HW2.out (by unfold okS; simpa using hs))
              go_wp2
              go_round
              case rel => exact ⟨k + 1, by omega, by go_num, by rw [HW.out]⟩
              case measure => simp [intOf]; omega
          · obtain rfl : n = k := by omega
            have k0 : ¬ ((n : Int) < n) := by omega
            have hw : wantL L n = 0 := by
              unfold wantL
              rw [List.take_of_length_le (by rw [HLEN.out]; exact Nat.le_refl _), HB.out]
              rfl
            rw [hw]
            have hLs : Hid (L.length ≤ 1000000) := Lib.hid (by rw [HLEN.out]; omega)
            clear hw
            have henv := HE7.out
            have hmat := HM7.out
            have hobj := HO7.out
            have hx0 := HB7.out.1
            have hx1 := HB7.out.2.1
            have hn6 : n ≤ 200 := by omega
            go_wp2_with fail
            have hB8 : w6.heap.size < (w6.alloc (.cells #[.slice pu L.length cu, .slice pv Z.length cv] 25)).heap.size := by simp
            generalize w6.alloc (.cells #[.slice pu L.length cu, .slice pv Z.length cv] 25) = w7 at *
            generalize w6.heap.size = B8 at *
            go_region_held3 (fun w' => w'.cell? ⟨B8, 0, none⟩ = some (.slice pu L.length cu) ∧ w'.cell? ⟨B8, 1, none⟩ = some (.slice pv Z.length cv)) (first | exact hbx | exact ⟨hx0, hx1⟩ | go_keep)
              (first
                | (go_at_call 24; refine (refMake_c _ n _ _ _ _ _ _ L (ofL n P) _ (henv.calm (grownBy_drewN _ 1 none)).a.ls HC.out hn6 (hmat.calm (grownBy_drewN _ 1 none))).mono ?_; rw [HZ.out]; rintro e w8 ⟨pa, ca, pb, cb, rfl, hmd, hg⟩; have hg := grownBy_trans (grownBy_drewN _ 1 none) hg; have henv := henv.calm hg; have hobj := hobj.calm hg; have hbx := box_calm ⟨hx0, hx1⟩ hB8 hg; have hB9 := Nat.lt_of_lt_of_le hB8 hg.size)
                | (go_at_call 19; refine (refSame_r _ _ _ _ _ _ _ _ _ _ _ _ _ _ _ _ L L Z Z true _ hobj hmd hLs.out hzl (same_refl4 L Z)).mono ?_; rintro e w9 ⟨rfl, hg⟩; have henv := henv.calm hg; have hobj := hobj.calm hg; have hbx := box_calm hbx hB9 hg; have hB9 := Nat.lt_of_lt_of_le hB9 hg.size)
                | (go_at_call 16; refine (is_c _ _ _ _ _ _ _ _ L Z true _ hobj hzl (by rw [HCK.out]; rfl)).mono ?_; rintro e w10 ⟨rfl, hg⟩; have henv := henv.calm hg; have hbx := box_calm hbx hB9 hg))
            have HG := Lib.hid henv.g
            clear henv
            go_wp2
            go_ret
            exact ⟨rfl, HG.out⟩
      · generalize hkk : errK n K (L.all okS) = kk at *
        have HKK := Lib.hid hkk
        have HK0 := Lib.hid hk0
        clear hkk hk0
        go_wp2_with fail
        refine (make_err _ n _ _ _ _ _ _ K L (ofL K P) kk _ (by exact HE5.out.a.ls) (by exact HR5.out) HKK.out HK0.out).mono ?_
        rintro e w6 ⟨rfl, hg6⟩
        have HE6 := Lib.hid (HE5.out.calm hg6)
        have HE7 := Lib.hid (HE6.out.calm (World.grownBy_alloc w6 (.cells #[.slice none 0 0, .slice none 0 0] 25) none))
        clear hg6
        go_wp2
        go_loop [13, 14] (fun t i => ∃ k : Nat, k ≤ n ∧ i = .int .i64 k ∧ t = .int .i64 (wantL L k)) (fun _ i => n - (intOf i).toNat)
        case atStart => exact ⟨0, Nat.zero_le _, rfl, rfl⟩
        case round =>
          obtain ⟨k, hk, rfl, rfl⟩ := hrel
          by_cases hkn : k < n
          · obtain ⟨g1, o1, rfl, q1, q2, q3, hc1⟩ := HE7.out.a.ls.cell (by omega)
            have x1 := hc1 k hkn
            clear hc1
            have k0 : (k : Int) < n := by omega
            have HW1 := Lib.hid (fun h => wantL_yes (L := L) (k := k) (by rw [HLEN.out]; exact hkn) h)
            have HW2 := Lib.hid (fun h => wantL_no (L := L) (k := k) (by rw [HLEN.out]; exact hkn) h)
            generalize L[k]?.getD .empty = s at *
            by_cases hs : s.size ≤ 60
            · have hs' : (s.size : Int) ≤ 60 := by omega
              have HW := Lib.hid (HW1.out (by unfold okS; simpa using hs))
              go_wp2
              go_round
              case rel => exact ⟨k + 1, by omega, by go_num, by rw [HW.out]⟩
              case measure => simp [intOf]; omega
            · have hs' : (60 : Int) < s.size := by omega
              have HW := Lib.hid (HW2.out (by unfold okS; simpa using hs))
              go_wp2
              go_round
              case rel => exact ⟨k + 1, by omega, by go_num, by rw [HW.out]⟩
              case measure => simp [intOf]; omega
          · obtain rfl : n = k := by omega
            have k0 : ¬ ((n : Int) < n) := by omega
            have HWN : Hid (wantL L n = if L.all okS then 0 else 10) := by
              refine Lib.hid ?_
              unfold wantL
              rw [List.take_of_length_le (by rw [HLEN.out]; exact Nat.le_refl _)]
            by_cases h40 : 40 < n
            · have e40 : (40 : Int) < n := by omega
              obtain rfl : kk = 11 := by rw [← HKK.out]; unfold errK; rw [if_pos h40]
              clear h40
              by_cases hKn : K = n
              · have eK : ((K : Int) != (n : Int)) = false := by simp; omega
                clear hKn
                go_wp2
                go_ret
                exact ⟨rfl, HE7.out.g⟩
              · have eK : ((K : Int) != (n : Int)) = true := by simp; omega
                clear hKn
                go_wp2
                go_ret
                exact ⟨rfl, HE7.out.g⟩
            · have e40 : ¬ ((40 : Int) < n) := by omega
              by_cases hKn : K = n
              · have eK : ((K : Int) != (n : Int)) = false := by simp; omega
                have hb : L.all okS = false := by
                  cases hb : L.all okS
                  · rfl
                  · exfalso
                    refine HK0.out ?_
                    rw [← HKK.out]; unfold errK; rw [if_neg h40, hb, if_neg (by simp), if_neg (by simpa using hKn)]
                obtain rfl : kk = 10 := by rw [← HKK.out]; unfold errK; rw [if_neg h40, if_pos hb]
                have hw : wantL L n = 10 := by rw [HWN.out, hb]; rfl
                rw [hw]
                clear hKn h40 hb hw
                go_wp2
                go_ret
                exact ⟨rfl, HE7.out.g⟩
              · have eK : ((K : Int) != (n : Int)) = true := by simp; omega
                obtain rfl : kk = 10 := by
                  rw [← HKK.out]; unfold errK; rw [if_neg h40]
                  cases hb : L.all okS
                  · rfl
                  · rw [if_neg (by simp), if_pos hKn]
                clear hKn h40
                go_wp2
                go_ret
                exact ⟨rfl, HE7.out.g⟩

end Go.Proofs.YtdolcdededmlhaaDoor
