/- The walk of the statement MatchLongest: at every input it answers true and leaves all that lay as it lay. -/
import Derived.Test.YtbobbpghdfhkgaaMatK
namespace Go.Proofs.Ytbobbpghdfhkgaa
open Go.RowKit

set_option maxHeartbeats 4000000 in
theorem matchLongest_w (p0 p1 p2 : Option Addr) (n m L k0 k1 k2 lo0 hi0 lo1 hi1 lo2 hi2 : Nat) (x y : List Nat) (l : List (Int × Int)) (w : World) (h0 : UsAt w lo0 hi0 p0 n x) (h1 : UsAt w lo1 hi1 p1 m y) (h2 : PairsAt w lo2 hi2 p2 L l) :
    Calls Try.prog 4 #[.slice p0 n k0, .slice p1 m k1, .slice p2 L k2] w fun e w' => e = .returned (.bool true) ∧ Below w.heap.size w w' := by
  have H0 := Lib.hid h0
  have H1 := Lib.hid h1
  have H2 := Lib.hid h2
  clear h0 h1 h2
  go_enter Try.func4, Try.ntmps4
  go_wp2_with fail
  refine (known11_c _).mono ?_
  rintro e w1 ⟨rfl, hg1⟩
  have HG1 := Lib.hid hg1
  clear hg1
  by_cases a1 : 60 < n
  · have a1' : (60 : Int) < n := by omega
    go_wp2_with fail
    go_ret
    exact ⟨rfl, grownBy_below HG1.out⟩
  · have a1' : ¬ ((60 : Int) < n) := by omega
    by_cases a2 : 60 < m
    · have a2' : (60 : Int) < m := by omega
      go_wp2_with fail
      go_ret
      exact ⟨rfl, grownBy_below HG1.out⟩
    · have a2' : ¬ ((60 : Int) < m) := by omega
      by_cases a3 : 60 < L
      · have a3' : (60 : Int) < L := by omega
        go_wp2_with fail
        go_ret
        exact ⟨rfl, grownBy_below HG1.out⟩
      · have a3' : ¬ ((60 : Int) < L) := by omega
        have HXL := Lib.hid H0.out.len
        have HYL := Lib.hid H1.out.len
        go_wp2_with fail
        refine (texts_c _ _ _ _ _ _ _ (H0.out.calm HG1.out) (by omega)).mono ?_
        rintro e w2 ⟨pa, ca, rfl, ht, hg⟩
        have HA2 := Lib.hid ht
        have HG2 := Lib.hid (grownBy_trans HG1.out hg)
        clear ht hg
        go_wp2_with fail
        refine (texts_c _ _ _ _ _ _ _ (H1.out.calm HG2.out) (by omega)).mono ?_
        rintro e w3 ⟨pb, cb, rfl, ht, hg⟩
        have HA3 := Lib.hid (HA2.out.calm hg)
        have HB3 := Lib.hid ht
        have HG3 := Lib.hid (grownBy_trans HG2.out hg)
        clear ht hg HA2
        obtain ⟨A, hA⟩ : ∃ A, txL x = A := ⟨_, rfl⟩
        obtain ⟨B, hB⟩ : ∃ B, txL y = B := ⟨_, rfl⟩
        have HAL := Lib.hid (show A.length = n by rw [← hA, txL_len, HXL.out])
        have HBL := Lib.hid (show B.length = m by rw [← hB, txL_len, HYL.out])
        rw [hA] at HA3
        rw [hB] at HB3
        clear hA hB
        obtain ⟨q, hq⟩ := LgL_ex A B
        have HQ := Lib.hid hq
        obtain ⟨r, hr⟩ : ∃ r, lcs A B = r := ⟨_, rfl⟩
        have HR := Lib.hid hr
        have HR2 := Lib.hid (show lcs B A = r by rw [lcs_sym, hr])
        have HQL := Lib.hid (show (q.map intP).length = r by rw [hq.size, hr])
        have HQM := Lib.hid (isMB_first hq)
        have r1 : r ≤ n := by rw [← hr, ← HAL.out]; exact lcs_le A B
        have r2 : r ≤ m := by rw [← hr, ← HBL.out]; exact lcs_le_r A B
        have r1' : (r : Int) ≤ n := by omega
        have r2' : (r : Int) ≤ m := by omega
        clear hq hr
        go_wp2_with fail
        refine (longest_m _ _ n m _ _ A B q _ HA3.out HB3.out (by omega) (by omega) HQ.out).mono ?_
        rintro e w4 ⟨p, c, rfl, hat, hg⟩
        rw [HQL.out] at hat ⊢
        have HP4 := Lib.hid hat
        have HA4 := Lib.hid (HA3.out.calm hg)
        have HB4 := Lib.hid (HB3.out.calm hg)
        have HG4 := Lib.hid (grownBy_trans HG3.out hg)
        clear hat hg HA3 HB3
        go_wp2_with fail
        refine (length_m _ _ n m _ _ r A B _ HA4.out HB4.out (by omega) (by omega) HR.out).mono ?_
        rintro e w5 ⟨rfl, hg⟩
        have HP5 := Lib.hid (HP4.out.calm hg)
        have HA5 := Lib.hid (HA4.out.calm hg)
        have HB5 := Lib.hid (HB4.out.calm hg)
        have HG5 := Lib.hid (grownBy_trans HG4.out hg)
        clear hg HP4 HA4 HB4
        go_wp2_with fail
        refine (is_m _ _ _ n m r _ _ c _ _ A B _ true _ HA5.out HB5.out HP5.out (by omega) (by omega) (by omega) HQM.out).mono ?_
        rintro e w6 ⟨rfl, hg⟩
        have HA6 := Lib.hid (HA5.out.calm hg)
        have HB6 := Lib.hid (HB5.out.calm hg)
        have HG6 := Lib.hid (grownBy_trans HG5.out hg)
        clear hg HA5 HB5 HP5
        go_wp2_with fail
        refine (length_m _ _ m n _ _ r B A _ HB6.out HA6.out (by omega) (by omega) HR2.out).mono ?_
        rintro e w7 ⟨rfl, hg⟩
        have HA7 := Lib.hid (HA6.out.calm hg)
        have HB7 := Lib.hid (HB6.out.calm hg)
        have HG7 := Lib.hid (grownBy_trans HG6.out hg)
        clear hg HA6 HB6
        obtain ⟨s, hs⟩ : ∃ s, isMB A B l = s := ⟨_, rfl⟩
        have HS := Lib.hid hs
        have HSL : Hid (s = true → L ≤ r) := Lib.hid fun e => by
          rw [← H2.out.len, ← HR.out]
          exact isMB_len (by rw [hs]; exact e)
        clear hs
        by_cases h : n ≤ m
        · have h' : (n : Int) ≤ m := by omega
          have g1 : ¬ ((n : Int) < r) := by omega
          have g2 : ¬ ((m : Int) < r) := by omega
          go_wp2_with fail
          refine (is_m _ _ _ n m L _ _ k2 _ _ A B l s _ HA7.out HB7.out (H2.out.calm HG7.out) (by omega) (by omega) (by omega) HS.out).mono ?_
          rintro e w8 ⟨rfl, hg⟩
          have HG8 := Lib.hid (grownBy_trans HG7.out hg)
          clear hg
          cases s with
          | false =>
            go_wp2
            go_ret
            exact ⟨rfl, grownBy_below HG8.out⟩
          | true =>
            have hL : (L : Int) ≤ r := by have := HSL.out rfl; omega
            go_wp2
            go_ret
            exact ⟨rfl, grownBy_below HG8.out⟩
        · have h' : (m : Int) < n := by omega
          have g1 : ¬ ((n : Int) < r) := by omega
          have g2 : ¬ ((m : Int) < r) := by omega
          go_wp2_with fail
          refine (is_m _ _ _ n m L _ _ k2 _ _ A B l s _ HA7.out HB7.out (H2.out.calm HG7.out) (by omega) (by omega) (by omega) HS.out).mono ?_
          rintro e w8 ⟨rfl, hg⟩
          have HG8 := Lib.hid (grownBy_trans HG7.out hg)
          clear hg
          cases s with
          | false =>
            go_wp2
            go_ret
            exact ⟨rfl, grownBy_below HG8.out⟩
          | true =>
            have hL : (L : Int) ≤ r := by have := HSL.out rfl; omega
            go_wp2
            go_ret
            exact ⟨rfl, grownBy_below HG8.out⟩

end Go.Proofs.Ytbobbpghdfhkgaa
