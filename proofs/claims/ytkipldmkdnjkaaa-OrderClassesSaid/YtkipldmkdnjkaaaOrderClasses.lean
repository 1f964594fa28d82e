/- OrderClasses: the walk. -/
import Derived.Test.YtkipldmkdnjkaaaKnow3
import Derived.Test.YtkipldmkdnjkaaaOrdP
namespace Go.Proofs.Ytkipldmkdnjkaaa
open Go.RowKit

theorem relHas_v (lo hi p n a b : Nat) (R : Nat → Nat → Bool) (v : Bool) (w : World) (h : IsRel w lo hi p n R) (ha : a < n) (hb : b < n) (hv : R a b = v) : Calls Try.prog 25 #[.pointer (some ⟨p, 0, none⟩), .int .i64 a, .int .i64 b] w fun e w' => e = .returned (.bool v) ∧ ∃ m, w' = w.drewN m := by
  have := relHas_n lo hi p n a b R w h ha hb
  rwa [hv] at this

set_option maxHeartbeats 400000 in
set_option maxRecDepth 100000 in
theorem orderClasses_out (n : Int) (p : Option Addr) (L c : Nat) (w : World) (hL : 60 < L) : Calls Try.prog 6 #[.int .u8 n, .slice p L c] w fun e w' => e = .returned (.bool true) ∧ w.grownBy w' none := by
  have hLi : (60 : Int) < L := by omega
  go_enter Try.func6, Try.ntmps6
  go_wp2_with fail
  refine (known3_c _).mono ?_
  rintro e w1 ⟨rfl, hg1⟩
  go_wp2
  go_ret
  exact ⟨rfl, hg1⟩

set_option maxHeartbeats 1500000 in
set_option maxRecDepth 100000 in
theorem orderClasses_in (n : Nat) (p : Option Addr) (L c lo hi : Nat) (l : List (Int × Int)) (w : World) (hn : n < 256) (hl : PairsAt w lo hi p L l) (hL : L ≤ 60) : Calls Try.prog 6 #[.int .u8 n, .slice p L c] w fun e w' => e = .returned (.bool true) ∧ w.grownBy w' none := by
  have hLi : ¬ ((60 : Int) < L) := by omega
  have n0 : (0 : Int) ≤ n := by omega
  have n1 : (n : Int) < 256 := by omega
  have HL := Lib.hid hl
  clear hl
  go_enter Try.func6, Try.ntmps6
  go_wp2_with fail
  refine (known3_c _).mono ?_
  rintro e w1 ⟨rfl, hg1⟩
  have HL1 := Lib.hid (HL.out.calm hg1)
  have HG1 := Lib.hid hg1
  clear hg1 HL
  go_wp2_with fail
  refine (made_c _ p L c lo hi l _ HL1.out (by omega)).mono ?_
  rintro e w2 ⟨r, m, lo1, hi1, lo2, hi2, rfl, hr, _, _, _, hg⟩
  have HR2 := Lib.hid hr
  have HG2 := Lib.hid (grownBy_trans HG1.out hg)
  clear hr hg HL1 HG1
  generalize hk : cutK _ = k at *
  have hk40 : k ≤ 40 := by rw [← hk]; exact cutK_le _
  clear hk
  generalize hRR : ofL k l = R at *
  have HS := Lib.hid HR2.out.supp
  clear hRR
  go_wp2_with fail
  refine (ordOf_c _ _ r k R _ HR2.out).mono ?_
  rintro e w3 ⟨og, oc, rfl, ho, hg3⟩
  have HO3 := Lib.hid ho
  have HR3 := Lib.hid (HR2.out.calm hg3)
  have HG3 := Lib.hid (grownBy_trans HG2.out hg3)
  clear ho hg3 HR2 HG2
  go_wp2_with fail
  refine (closure_c _ _ r k R _ HR3.out).mono ?_
  rintro e w4 ⟨q, rfl, hq, hg4⟩
  have HQ4 := Lib.hid hq
  have HO4 := Lib.hid (HO3.out.calm hg4)
  have HR4 := Lib.hid (HR3.out.calm hg4)
  have HG4 := Lib.hid (grownBy_trans HG3.out hg4)
  have HCT := Lib.hid (clo_trans HS.out)
  clear hq hg4 HR3 HG3 HO3
  have hol := ofK_len (circL (clo k R) k) k (circL (clo k R) k).length
  rw [hol]
  have HOL := Lib.hid hol
  clear hol
  generalize hC : clo k R = C at *
  have HC := Lib.hid hC
  clear hC
  go_wp2_with fail
  refine (relLen_c _ _ r k R _ HR4.out).mono ?_
  rintro e w5 ⟨rfl, hw5⟩
  subst w5
  have hkk : ((k : Int) != (k : Int)) = false := by simp
  have HSAME : Hid (∀ a b x y, a < k → b < k → (ofK (circL C k) k (circL C k).length)[a]? = some x → (ofK (circL C k) k (circL C k).length)[b]? = some y → ((x = y) ↔ oneC C a b = true)) := Lib.hid fun a b x y ha hb hx hy => of_same HCT.out ha hb hx hy
  have HAT : Hid (∀ i l x, (circL C k)[i]? = some l → x ∈ l → x < k → (ofK (circL C k) k (circL C k).length)[x]? = some i) := Lib.hid fun i l x h1 h2 h3 => of_at HCT.out h1 h2 h3
  generalize ofK (circL C k) k (circL C k).length = os at *
  go_wp2
  go_loopw [9] (fun i wr => ∃ a : Nat, a ≤ k ∧ i = .int .i64 a ∧ w4.grownBy wr none) (fun i _ => k - (intOf i).toNat)
  case atStart => exact ⟨0, Nat.zero_le _, rfl, grownBy_refl _ _⟩
  case round =>
    obtain ⟨a, ha, rfl, hga⟩ := hrel
    by_cases hak : a < k
    · have a0 : (0 : Int) ≤ a := by omega
      have a1 : (a : Int) < k := by omega
      go_wp2
      go_loopw [10] (fun i wr => ∃ b : Nat, b ≤ k ∧ i = .int .i64 b ∧ w4.grownBy wr none) (fun i _ => k - (intOf i).toNat)
      case atStart => exact ⟨0, Nat.zero_le _, rfl, hga⟩
      case round =>
        obtain ⟨b, hb, rfl, hgb⟩ := hrel
        by_cases hbk : b < k
        · have b0 : (0 : Int) ≤ b := by omega
          have b1 : (b : Int) < k := by omega
          obtain ⟨x, hx⟩ : ∃ x, os[a]? = some x := ⟨_, List.getElem?_eq_getElem (by rw [HOL.out]; exact hak)⟩
          obtain ⟨y, hy⟩ : ∃ y, os[b]? = some y := ⟨_, List.getElem?_eq_getElem (by rw [HOL.out]; exact hbk)⟩
          have cx := (HO4.out.calm hgb).cell hx
          have cy := (HO4.out.calm hgb).cell hy
          have HQB := Lib.hid (HQ4.out.calm hgb)
          have HGB := Lib.hid hgb
          clear hgb
          have HS' := Lib.hid (HSAME.out a b x y hak hbk hx hy)
          have HAK := Lib.hid hak
          have HBK := Lib.hid hbk
          clear hx hy
          by_cases hab : a = b
          · subst hab
            obtain rfl : x = y := HS'.out.2 (oneC_refl C a)
            go_wp2
            go_quiet (fail)
            go_wp2
            exact ⟨⟨a + 1, by omega, by go_num, grownBy_trans HGB.out (grownBy_drewN _ _ none)⟩, by simp [intOf]; omega⟩
          · have hne : ((a : Int) == (b : Int)) = false := by simp; omega
            cases hcab : C a b
            · have hxy : ¬ x = y := fun e => by
                have := (oneC_iff C a b).1 (HS'.out.1 e)
                rcases this with h | h
                · exact hab h
                · rw [hcab] at h; exact absurd h.1 (by simp)
              have hxi : ((x : Int) == (y : Int)) = false := by simp; omega
              go_wp2
              go_quiet ((go_at_call 25; exact Calls.quiet_of (relHas_n _ _ q k _ _ C _ (by exact HQB.out.calm (grownBy_drewN _ _ none)) (by assumption) (by assumption))))
              go_wp2
              exact ⟨⟨b + 1, by omega, by go_num, grownBy_trans HGB.out (grownBy_drewN _ _ none)⟩, by simp [intOf]; omega⟩
            · cases hcba : C b a
              · have hxy : ¬ x = y := fun e => by
                  have := (oneC_iff C a b).1 (HS'.out.1 e)
                  rcases this with h | h
                  · exact hab h
                  · rw [hcba] at h; exact absurd h.2 (by simp)
                have hxi : ((x : Int) == (y : Int)) = false := by simp; omega
                go_wp2
                go_quiet ((go_at_call 25; exact Calls.quiet_of (relHas_n _ _ q k _ _ C _ (by exact HQB.out.calm (grownBy_drewN _ _ none)) (by assumption) (by assumption))))
                go_wp2
                exact ⟨⟨b + 1, by omega, by go_num, grownBy_trans HGB.out (grownBy_drewN _ _ none)⟩, by simp [intOf]; omega⟩
              · obtain rfl : x = y := HS'.out.2 ((oneC_iff C a b).2 (.inr ⟨hcab, hcba⟩))
                go_wp2
                go_quiet ((go_at_call 25; exact Calls.quiet_of (relHas_n _ _ q k _ _ C _ (by exact HQB.out.calm (grownBy_drewN _ _ none)) (by assumption) (by assumption))))
                go_wp2
                exact ⟨⟨b + 1, by omega, by go_num, grownBy_trans HGB.out (grownBy_drewN _ _ none)⟩, by simp [intOf]; omega⟩
        · obtain rfl : b = k := by omega
          go_wp2
          exact ⟨⟨a + 1, by omega, by go_num, hgb⟩, by simp [intOf]; omega⟩
    · obtain rfl : a = k := by omega
      have HO5 := Lib.hid (HO4.out.calm hga)
      have HR5 := Lib.hid (HR4.out.calm hga)
      have HG5 := Lib.hid (grownBy_trans HG4.out hga)
      clear hga HO4 HR4 HG4 HQ4 HSAME
      go_wp2_with fail
      refine (circles_c _ _ r a R _ HR5.out).mono ?_
      rintro e w6 ⟨v, rfl, ⟨ib, ic, hgrid⟩, hg6⟩
      rw [HC.out] at hgrid
      obtain ⟨pg, cap, rfl, hpg⟩ := hgrid.slice
      have HGRID := Lib.hid hgrid
      have HPG := Lib.hid hpg
      have HO6 := Lib.hid (HO5.out.calm hg6)
      have HR6 := Lib.hid (HR5.out.calm hg6)
      have HG6 := Lib.hid (grownBy_trans HG5.out hg6)
      have HTOT := Lib.hid (circ_total HCT.out a)
      have HMEM : Hid (∀ l ∈ circL C a, ∀ x ∈ l, x < a) := Lib.hid fun l hl x hx => circ_mem hl hx
      have hMa := circ_le C a
      have HLL : Hid (∀ l ∈ circL C a, l.length ≤ a) := Lib.hid fun l hl => ((rowsOk_circ C a) l hl).2
      have HTL : Hid (∀ t, t ≤ (circL C a).length → total ((circL C a).take t) ≤ 1600) := Lib.hid fun t ht => by
        have h1 : ∀ t, t ≤ (circL C a).length → total ((circL C a).take t) ≤ t * a := by
          intro t
          induction t with
          | zero => intro _; simp [total]
          | succ t ih =>
            intro h
            have hl := List.getElem?_eq_getElem (show t < (circL C a).length by omega)
            rw [total_take_succ hl, Nat.succ_mul]
            have := ih (by omega)
            have := HLL.out _ (List.mem_of_getElem? hl)
            omega
        have := h1 t ht
        have : t * a ≤ 40 * 40 := Nat.mul_le_mul (by omega) (by omega)
        omega
      clear hgrid hpg hg6 HO5 HR5 HG5 HC HCT
      generalize circL C a = ls at *
      generalize hM : ls.length = M at *
      have HM := Lib.hid hM
      clear hM
      go_wp2
      go_loopw [11, 13] (fun s i wr => ∃ t : Nat, t ≤ M ∧ i = .int .i64 t ∧ s = .int .i64 (total (ls.take t)) ∧ w6 = wr) (fun _ i _ => M - (intOf i).toNat)
      case atStart => exact ⟨0, Nat.zero_le _, rfl, by simp [total], rfl⟩
      case round =>
        obtain ⟨t, ht, rfl, rfl, rfl⟩ := hrel
        have htl := HTL.out t ht
        by_cases htM : t < M
        · obtain ⟨g, rfl, hgb, hgl⟩ := HPG.out t htM
          obtain ⟨l, hl⟩ : ∃ l, ls[t]? = some l := ⟨_, List.getElem?_eq_getElem (by rw [HM.out]; exact htM)⟩
          have hcl := HGRID.out.head hl
          have hll := HLL.out l (List.mem_of_getElem? hl)
          have HROW := Lib.hid (HGRID.out.row t l hl)
          have HATT : Hid (∀ x ∈ l, x < a ∧ os[x]? = some t) := Lib.hid fun x hx => ⟨HMEM.out l (List.mem_of_getElem? hl) x hx, HAT.out t l x hl hx (HMEM.out l (List.mem_of_getElem? hl) x hx)⟩
          have HTS := Lib.hid (total_take_succ hl)
          have t0 : (0 : Int) ≤ t := by omega
          have t1 : (t : Int) < M := by omega
          clear hl
          generalize total (ls.take t) = T at *
          go_wp2
          go_loopw [14] (fun i w7 => ∃ j : Nat, j ≤ l.length ∧ i = .int .i64 j ∧ w6 = w7) (fun i _ => l.length - (intOf i).toNat)
          case atStart => exact ⟨0, Nat.zero_le _, rfl, rfl⟩
          case round =>
            obtain ⟨j, hj, rfl, rfl⟩ := hrel
            by_cases hjl : j < l.length
            · obtain ⟨x, hx⟩ : ∃ x, l[j]? = some x := ⟨_, List.getElem?_eq_getElem hjl⟩
              have cx := HROW.out.cell hx
              obtain ⟨hxa, hox⟩ := HATT.out x (List.mem_of_getElem? hx)
              have co := HO6.out.cell hox
              have j0 : (0 : Int) ≤ j := by omega
              have j1 : (j : Int) < l.length := by omega
              have x0 : (0 : Int) ≤ x := by omega
              have x1 : (x : Int) < a := by omega
              have htt : ((t : Int) != (t : Int)) = false := by simp
              clear hx hox
              go_wp2
              exact ⟨⟨j + 1, by omega, by go_num, trivial⟩, by simp [intOf]; omega⟩
            · obtain rfl : j = l.length := by omega
              go_wp2
              exact ⟨⟨t + 1, by omega, by go_num, by rw [HTS.out]; go_num, trivial⟩, by simp [intOf]; omega⟩
        · obtain rfl : t = M := by omega
          have HT2 : Hid (total (ls.take t) = a) := Lib.hid (by rw [List.take_of_length_le (by rw [HM.out]; exact Nat.le_refl _)]; exact HTOT.out)
          rw [HT2.out]
          go_wp2_with fail
          refine (relLen_c _ _ r a R _ HR6.out).mono ?_
          rintro e w8 ⟨rfl, hw8⟩
          subst w8
          go_wp2
          go_ret
          exact ⟨by simp, HG6.out⟩

end Go.Proofs.Ytkipldmkdnjkaaa
