/- The walk of the statement MatchTells: at every input it answers true and leaves all that lay as it lay. -/
import Derived.Test.YtbobbpghdfhkgaaRefN
namespace Go.Proofs.Ytbobbpghdfhkgaa
open Go.RowKit

set_option maxHeartbeats 4000000 in
theorem matchTells_w (p0 p1 p2 : Option Addr) (n m L k0 k1 k2 lo0 hi0 lo1 hi1 lo2 hi2 : Nat) (x y : List Nat) (l : List (Int × Int)) (w : World) (h0 : UsAt w lo0 hi0 p0 n x) (h1 : UsAt w lo1 hi1 p1 m y) (h2 : PairsAt w lo2 hi2 p2 L l) :
    Calls Try.prog 3 #[.slice p0 n k0, .slice p1 m k1, .slice p2 L k2] w fun e w' => e = .returned (.bool true) ∧ Below w.heap.size w w' := by
  have H0 := Lib.hid h0
  have H1 := Lib.hid h1
  have H2 := Lib.hid h2
  clear h0 h1 h2
  go_enter Try.func3, Try.ntmps3
  go_wp2_with fail
  refine (known11_c _).mono ?_
  rintro e w1 ⟨rfl, hg1⟩
  have HG1 := Lib.hid hg1
  clear hg1
  by_cases a1 : 40 < n
  · have a1' : (40 : Int) < n := by omega
    go_wp2_with fail
    go_ret
    exact ⟨rfl, grownBy_below HG1.out⟩
  · have a1' : ¬ ((40 : Int) < n) := by omega
    by_cases a2 : 40 < m
    · have a2' : (40 : Int) < m := by omega
      go_wp2_with fail
      go_ret
      exact ⟨rfl, grownBy_below HG1.out⟩
    · have a2' : ¬ ((40 : Int) < m) := by omega
      by_cases a3 : 60 < L
      · have a3' : (60 : Int) < L := by omega
        go_wp2_with fail
        go_ret
        exact ⟨rfl, grownBy_below HG1.out⟩
      · have a3' : ¬ ((60 : Int) < L) := by omega
        have HXL := Lib.hid H0.out.len
        have HYL := Lib.hid H1.out.len
        go_wp2_with fail
        refine (texts_c _ _ _ _ _ _ _ (H0.out.calm HG1.out) (by omega)).mono ?_
        rintro e w2 ⟨pa, ca, rfl, ht, hg⟩
        have HA2 := Lib.hid ht
        have HG2 := Lib.hid (grownBy_trans HG1.out hg)
        clear ht hg
        go_wp2_with fail
        refine (texts_c _ _ _ _ _ _ _ (H1.out.calm HG2.out) (by omega)).mono ?_
        rintro e w3 ⟨pb, cb, rfl, ht, hg⟩
        have HA3 := Lib.hid (HA2.out.calm hg)
        have HB3 := Lib.hid ht
        have HG3 := Lib.hid (grownBy_trans HG2.out hg)
        clear ht hg HA2
        obtain ⟨A, hA⟩ : ∃ A, txL x = A := ⟨_, rfl⟩
        obtain ⟨B, hB⟩ : ∃ B, txL y = B := ⟨_, rfl⟩
        have HAL := Lib.hid (show A.length = n by rw [← hA, txL_len, HXL.out])
        rw [hA] at HA3
        rw [hB] at HB3
        clear hA hB
        obtain ⟨q, hq⟩ := LgL_ex A B
        have HQ := Lib.hid hq
        obtain ⟨r, hr⟩ : ∃ r, lcs A B = r := ⟨_, rfl⟩
        have HR := Lib.hid hr
        have HQL := Lib.hid (show (q.map intP).length = r by rw [hq.size, hr])
        have r1 : r ≤ n := by rw [← hr, ← HAL.out]; exact lcs_le A B
        obtain ⟨s, hs⟩ : ∃ s, isMB A B l = s := ⟨_, rfl⟩
        have HS := Lib.hid hs
        clear hq hr hs
        go_wp2_with fail
        refine (longest_m _ _ n m _ _ A B q _ HA3.out HB3.out (by omega) (by omega) HQ.out).mono ?_
        rintro e w4 ⟨p, c, rfl, hat, hg⟩
        rw [HQL.out] at hat ⊢
        have HP4 := Lib.hid hat
        have HA4 := Lib.hid (HA3.out.calm hg)
        have HB4 := Lib.hid (HB3.out.calm hg)
        have HG4 := Lib.hid (grownBy_trans HG3.out hg)
        clear hat hg HA3 HB3
        go_wp2_with fail
        refine (refLongest_c _ _ n m _ _ A B q _ HA4.out HB4.out (by omega) (by omega) HQ.out).mono ?_
        rintro e w5 ⟨p', c', rfl, hat, hg⟩
        rw [HQL.out] at hat ⊢
        have HP5 := Lib.hid (HP4.out.calm hg)
        have HR5 := Lib.hid hat
        have HA5 := Lib.hid (HA4.out.calm hg)
        have HB5 := Lib.hid (HB4.out.calm hg)
        have HG5 := Lib.hid (grownBy_trans HG4.out hg)
        clear hat hg HA4 HB4 HP4
        go_wp2_with fail
        refine (same11_r _ _ _ _ _ _ _ _ _ _ _ _ true _ HP5.out HR5.out (by omega) (by simp)).mono ?_
        rintro e w6 ⟨rfl, hg⟩
        have HA6 := Lib.hid (HA5.out.calm hg)
        have HB6 := Lib.hid (HB5.out.calm hg)
        have HG6 := Lib.hid (grownBy_trans HG5.out hg)
        clear hg HA5 HB5 HP5 HR5
        go_wp2_with fail
        refine (length_m _ _ n m _ _ r A B _ HA6.out HB6.out (by omega) (by omega) HR.out).mono ?_
        rintro e w7 ⟨rfl, hg⟩
        have HA7 := Lib.hid (HA6.out.calm hg)
        have HB7 := Lib.hid (HB6.out.calm hg)
        have HG7 := Lib.hid (grownBy_trans HG6.out hg)
        clear hg HA6 HB6
        go_wp2_with fail
        refine (refLength_c _ _ n m _ _ r A B _ HA7.out HB7.out (by omega) (by omega) HR.out).mono ?_
        rintro e w8 ⟨rfl, hg⟩
        have HA8 := Lib.hid (HA7.out.calm hg)
        have HB8 := Lib.hid (HB7.out.calm hg)
        have HG8 := Lib.hid (grownBy_trans HG7.out hg)
        clear hg HA7 HB7
        go_wp2_with fail
        refine (is_m _ _ _ n m L _ _ k2 _ _ A B l s _ HA8.out HB8.out (H2.out.calm HG8.out) (by omega) (by omega) (by omega) HS.out).mono ?_
        rintro e w9 ⟨rfl, hg⟩
        have HA9 := Lib.hid (HA8.out.calm hg)
        have HB9 := Lib.hid (HB8.out.calm hg)
        have HG9 := Lib.hid (grownBy_trans HG8.out hg)
        clear hg HA8 HB8
        go_wp2_with fail
        refine (refIs_c _ _ _ n m L _ _ k2 _ _ A B l s _ HA9.out HB9.out (H2.out.calm HG9.out) (by omega) (by omega) (by omega) HS.out).mono ?_
        rintro e w10 ⟨rfl, hg⟩
        have HG10 := Lib.hid (grownBy_trans HG9.out hg)
        clear hg HA9 HB9
        have hss : (s == s) = true := by simp
        go_wp2
        go_ret
        exact ⟨rfl, grownBy_below HG10.out⟩

end Go.Proofs.Ytbobbpghdfhkgaa
