/- The walks of the statements SplitBack and SplitTells: at every input they answer true and leave all that lay as it lay. -/
import Derived.Test.YtgmdkghggomloaaSplN
import Derived.Test.YtgmdkghggomloaaArgs4P
namespace Go.Proofs.Ytgmdkghggomloaa
open Go.RowKit

def smallS (l : List ByteArray) : Bool := l.all fun s => decide (s.size ≤ 100)
theorem smallS_take {l : List ByteArray} {k : Nat} (hk : k < l.length) (h : smallS (l.take k) = true) (hs : (l[k]?.getD .empty).size ≤ 100) : smallS (l.take (k + 1)) = true := by
  unfold smallS at *
  rw [all_take _ hk, h, decide_eq_true hs]; rfl
theorem smallS_mem {l : List ByteArray} (h : smallS l = true) : ∀ x ∈ l, x.size ≤ 1000000 := fun x hx => by
  have := of_decide_eq_true (List.all_eq_true.1 h x hx)
  omega
theorem joinS_size : ∀ {l : List ByteArray}, smallS l = true → (joinS l).size ≤ 100 * l.length
  | [], _ => Nat.le_refl _
  | x :: t, h => by
    unfold smallS at h
    rw [List.all_cons, Bool.and_eq_true] at h
    have ih := joinS_size (l := t) h.2
    have hx := of_decide_eq_true h.1
    rw [← bl_size] at ih hx ⊢
    have e : bl (joinS (x :: t)) = bl x ++ bl (joinS t) := by
      unfold joinS
      rw [bl_mk, bl_mk, List.map_cons, List.flatten_cons]
    rw [e, List.length_append, List.length_cons]
    omega
theorem joinS_take {l : List ByteArray} {k : Nat} (hk : k < l.length) : joinS (l.take (k + 1)) = joinS (l.take k) ++ l[k]?.getD .empty := by
  apply bl_inj
  rw [bl_append, List.take_succ_eq_append_getElem hk, List.getElem?_eq_getElem hk]
  unfold joinS
  rw [bl_mk, bl_mk, List.map_append, List.flatten_append]
  simp only [List.map_cons, List.map_nil, List.flatten_cons, List.flatten_nil, List.append_nil, Option.getD_some]

set_option maxHeartbeats 4000000 in
theorem splitBack_w (s : ByteArray) (p : Option Addr) (n c : Nat) (l : List ByteArray) (w : World) (h : SArg w p n c l) :
    Calls Try.prog 4 #[.string s, .slice p n c] w fun e w' => e = .returned (.bool true) ∧ Below w.heap.size w w' := by
  have HLEN := Lib.hid h.at'.len
  have HCAP := Lib.hid h.cap
  have HA := Lib.hid h.at'
  clear h
  go_enter Try.func4, Try.ntmps4
  go_wp2_with fail
  refine (known10_c _).mono ?_
  rintro e w1 ⟨rfl, hg1⟩
  have HG1 := Lib.hid hg1
  have H1 := Lib.hid (HA.out.calm hg1)
  clear hg1 HA
  by_cases ha : 600 < s.size
  · have ha' : (600 : Int) < s.size := by omega
    go_wp2_with fail
    go_ret
    exact ⟨rfl, grownBy_below HG1.out⟩
  · have ha' : ¬ ((600 : Int) < s.size) := by omega
    by_cases hb : 60 < n
    · have hb' : (60 : Int) < n := by omega
      go_wp2_with fail
      go_ret
      exact ⟨rfl, grownBy_below HG1.out⟩
    · have hb' : ¬ ((60 : Int) < n) := by omega
      go_wp2_with fail
      go_loop [5] (fun i => ∃ k : Nat, k ≤ n ∧ i = .int .i64 k ∧ Hid (smallS (l.take k) = true)) (fun i => n - (intOf i).toNat)
      case atStart => exact ⟨0, Nat.zero_le _, rfl, Lib.hid rfl⟩
      case round =>
        obtain ⟨k, hk, rfl, HS⟩ := hrel
        by_cases hkn : k < n
        · obtain ⟨b, off, rfl, q1, q2, q3, hc⟩ := H1.out.cell (by omega)
          have hck := hc k hkn
          clear hc
          have hkl : k < l.length := by rw [HLEN.out]; exact hkn
          have HY := Lib.hid (fun h => smallS_take (l := l) (k := k) hkl HS.out h)
          generalize l[k]?.getD .empty = x at *
          by_cases h6 : x.size ≤ 100
          · have h6' : ¬ ((100 : Int) < x.size) := by omega
            have HZ := Lib.hid (HY.out h6)
            go_wp2_with fail
            go_round
            case rel => exact ⟨k + 1, by omega, by go_num, HZ⟩
            case measure => simp [intOf]; omega
          · have h6' : (100 : Int) < x.size := by omega
            go_wp2_with fail
            go_ret
            exact ⟨rfl, grownBy_below HG1.out⟩
        · obtain rfl : k = n := by omega
          have hsm := HS.out
          rw [List.take_of_length_le (by rw [HLEN.out]; exact Nat.le_refl _)] at hsm
          have hjs := joinS_size hsm
          rw [HLEN.out] at hjs
          have HMEM := Lib.hid (smallS_mem hsm)
          obtain ⟨A, hA⟩ : ∃ A, linesS s = A := ⟨_, rfl⟩
          obtain ⟨na, hna⟩ : ∃ n, A.length = n := ⟨_, rfl⟩
          obtain ⟨j, hj⟩ : ∃ j, joinS l = j := ⟨_, rfl⟩
          obtain ⟨B, hB⟩ : ∃ B, linesS j = B := ⟨_, rfl⟩
          obtain ⟨nb, hnb⟩ : ∃ n, B.length = n := ⟨_, rfl⟩
          obtain ⟨r, hr⟩ : ∃ r, isS l = r := ⟨_, rfl⟩
          rw [hj] at hjs
          have hr2 : decide (B = l) = r := by rw [← hr, isS_iff, hj, hB]
          have hAj : joinS A = s := by rw [← hA, joinS_lines]
          have hAi : isS A = true := by rw [← hA, isS_lines]
          have bna : na ≤ 600 := by rw [← hna, ← hA]; exact Nat.le_trans (linesS_len _) (by omega)
          have bnb : nb ≤ 6000 := by rw [← hnb, ← hB]; exact Nat.le_trans (linesS_len _) (by omega)
          have hAm : ∀ x ∈ A, x.size ≤ 1000000 := by
            intro x hx
            have hin : x ∈ linesS s := by rw [hA]; exact hx
            exact linesS_mem hin (by omega)
          have CA := Lib.hid (fun w => linesAt_c s A na w (by omega) hA hna)
          have CJ := Lib.hid (fun p c lo hi w h hc => splitJoin_c p na c lo hi A s w h hc (by omega) hAj (by omega))
          have CI := Lib.hid (fun p c lo hi w h => is_split_c p na c lo hi A true w h (by omega) hAm hAi)
          have CL := Lib.hid (fun lo hi w h => is_split_c p k c lo hi l r w h (by omega) HMEM.out hr)
          have CK := Lib.hid (fun lo hi w h => splitJoin_c p k c lo hi l j w h HCAP.out (by omega) hj (by omega))
          have CB := Lib.hid (fun w => linesAt_c j B nb w (by omega) hB hnb)
          have CS := Lib.hid (fun p1 p2 c1 c2 lo1 hi1 lo2 hi2 w h1 h2 => same10_r p1 p2 nb k c1 c2 lo1 hi1 lo2 hi2 B l r w h1 h2 (by omega) hr2)
          clear hA hna hj hB hnb hr hr2 hAj hAi hsm hAm
          go_wp2_with fail
          refine (CA.out _).mono ?_
          rintro e w2 ⟨pa, ca, rfl, hx, hxn, hxc, hg⟩
          have H2 := Lib.hid (H1.out.calm hg)
          have A2 := Lib.hid hx
          have HXC := Lib.hid hxc
          have HG2 := Lib.hid (grownBy_trans HG1.out hg)
          clear hx hg hxn hxc
          go_wp2_with fail
          refine (CJ.out _ _ _ _ _ A2.out HXC.out).mono ?_
          rintro e w3 ⟨rfl, hg⟩
          have H3 := Lib.hid (H2.out.calm hg)
          have A3 := Lib.hid (A2.out.calm hg)
          have HG3 := Lib.hid (grownBy_trans HG2.out hg)
          clear hg
          have hss : (s.toList == s.toList) = true := by rw [str_eq]; simp
          go_wp2_with fail
          refine (CI.out _ _ _ _ _ A3.out).mono ?_
          rintro e w4 ⟨rfl, h9⟩
          subst w4
          go_wp2_with fail
          refine (CL.out _ _ _ H3.out).mono ?_
          rintro e w5 ⟨rfl, h9⟩
          subst w5
          go_wp2_with fail
          refine (CK.out _ _ _ H3.out).mono ?_
          rintro e w6 ⟨rfl, hg⟩
          have H6 := Lib.hid (H3.out.calm hg)
          have HG6 := Lib.hid (grownBy_trans HG3.out hg)
          clear hg
          go_wp2_with fail
          refine (CB.out _).mono ?_
          rintro e w7 ⟨pb, cb, rfl, hx, _, _, hg⟩
          have H7 := Lib.hid (H6.out.calm hg)
          have B7 := Lib.hid hx
          have HG7 := Lib.hid (grownBy_trans HG6.out hg)
          clear hx hg
          go_wp2_with fail
          refine (CS.out _ _ _ _ _ _ _ _ _ B7.out H7.out).mono ?_
          rintro e w8 ⟨rfl, hg⟩
          have HG8 := Lib.hid (grownBy_trans HG7.out hg)
          clear hg
          go_wp2
          go_ret
          exact ⟨rfl, grownBy_below HG8.out⟩

set_option maxHeartbeats 4000000 in
theorem splitTells_w (s : ByteArray) (p : Option Addr) (n c : Nat) (l : List ByteArray) (w : World) (h : SArg w p n c l) :
    Calls Try.prog 3 #[.string s, .slice p n c] w fun e w' => e = .returned (.bool true) ∧ Below w.heap.size w w' := by
  have HLEN := Lib.hid h.at'.len
  have HCAP := Lib.hid h.cap
  have HA := Lib.hid h.at'
  clear h
  go_enter Try.func3, Try.ntmps3
  go_wp2_with fail
  refine (known10_c _).mono ?_
  rintro e w1 ⟨rfl, hg1⟩
  have HG1 := Lib.hid hg1
  have H1 := Lib.hid (HA.out.calm hg1)
  clear hg1 HA
  by_cases ha : 600 < s.size
  · have ha' : (600 : Int) < s.size := by omega
    go_wp2_with fail
    go_ret
    exact ⟨rfl, grownBy_below HG1.out⟩
  · have ha' : ¬ ((600 : Int) < s.size) := by omega
    by_cases hb : 60 < n
    · have hb' : (60 : Int) < n := by omega
      go_wp2_with fail
      go_ret
      exact ⟨rfl, grownBy_below HG1.out⟩
    · have hb' : ¬ ((60 : Int) < n) := by omega
      go_wp2_with fail
      go_loop [5, 6] (fun t i => ∃ k : Nat, k ≤ n ∧ i = .int .i64 k ∧ t = .string (joinS (l.take k)) ∧ Hid (smallS (l.take k) = true)) (fun _ i => n - (intOf i).toNat)
      case atStart => exact ⟨0, Nat.zero_le _, rfl, rfl, Lib.hid rfl⟩
      case round =>
        obtain ⟨k, hk, rfl, rfl, HS⟩ := hrel
        by_cases hkn : k < n
        · obtain ⟨b, off, rfl, q1, q2, q3, hc⟩ := H1.out.cell (by omega)
          have hck := hc k hkn
          clear hc
          have hkl : k < l.length := by rw [HLEN.out]; exact hkn
          have HY := Lib.hid (fun h => smallS_take (l := l) (k := k) hkl HS.out h)
          have HT := Lib.hid (joinS_take (l := l) (k := k) hkl)
          generalize l[k]?.getD .empty = x at *
          by_cases h6 : x.size ≤ 100
          · have h6' : ¬ ((100 : Int) < x.size) := by omega
            have HZ := Lib.hid (HY.out h6)
            have hq1 : ¬ 9223372036854775807 < (joinS (l.take k)).size + x.size := by
              have h1 := joinS_size HS.out
              have h2 : (l.take k).length ≤ k := by rw [List.length_take]; exact Nat.min_le_left _ _
              omega
            go_wp2_with fail
            go_round
            case rel => exact ⟨k + 1, by omega, by go_num, by rw [HT.out], HZ⟩
            case measure => simp [intOf]; omega
          · have h6' : (100 : Int) < x.size := by omega
            go_wp2_with fail
            go_ret
            exact ⟨rfl, grownBy_below HG1.out⟩
        · obtain rfl : k = n := by omega
          have htk : l.take k = l := List.take_of_length_le (by rw [HLEN.out]; exact Nat.le_refl _)
          have hsm := HS.out
          rw [htk] at hsm ⊢
          have hjs := joinS_size hsm
          rw [HLEN.out] at hjs
          have HMEM := Lib.hid (smallS_mem hsm)
          obtain ⟨A, hA⟩ : ∃ A, linesS s = A := ⟨_, rfl⟩
          obtain ⟨na, hna⟩ : ∃ n, A.length = n := ⟨_, rfl⟩
          obtain ⟨r, hr⟩ : ∃ r, isS l = r := ⟨_, rfl⟩
          obtain ⟨q, hq⟩ : ∃ q, fitsS s = q := ⟨_, rfl⟩
          have bna : na ≤ 600 := by rw [← hna, ← hA]; exact Nat.le_trans (linesS_len _) (by omega)
          have CA := Lib.hid (fun w => linesAt_c s A na w (by omega) hA hna)
          have CR := Lib.hid (fun w => refLinesAt_c s A na w (by omega) hA hna)
          have CS := Lib.hid (fun p1 p2 c1 c2 lo1 hi1 lo2 hi2 w h1 h2 => same10_r p1 p2 na na c1 c2 lo1 hi1 lo2 hi2 A A true w h1 h2 (by omega) (decide_eq_true rfl))
          have CF := Lib.hid (fun w => fits_c s q w (by omega) hq)
          have CG := Lib.hid (fun w => refFits_c s q w (by omega) hq)
          have CM := Lib.hid (fun lo hi w h => isLaw_c p k c lo hi l r w h (by omega) HMEM.out hr)
          have CI := Lib.hid (fun lo hi w h => is_split_c p k c lo hi l r w h (by omega) HMEM.out hr)
          generalize hj : joinS l = j at *
          have CK := Lib.hid (fun lo hi w h => splitJoin_c p k c lo hi l j w h HCAP.out (by omega) hj (by omega))
          have hss : (j.toList == j.toList) = true := by rw [str_eq]; simp
          clear hA hna hj hr hq hsm htk
          go_wp2_with fail
          refine (CA.out _).mono ?_
          rintro e w2 ⟨pa, ca, rfl, hx, _, _, hg⟩
          have H2 := Lib.hid (H1.out.calm hg)
          have A2 := Lib.hid hx
          have HG2 := Lib.hid (grownBy_trans HG1.out hg)
          clear hx hg
          go_wp2_with fail
          refine (CR.out _).mono ?_
          rintro e w3 ⟨pr, cr, rfl, hx, _, _, hg⟩
          have H3 := Lib.hid (H2.out.calm hg)
          have A3 := Lib.hid (A2.out.calm hg)
          have R3 := Lib.hid hx
          have HG3 := Lib.hid (grownBy_trans HG2.out hg)
          clear hx hg
          go_wp2_with fail
          refine (CS.out _ _ _ _ _ _ _ _ _ A3.out R3.out).mono ?_
          rintro e w4 ⟨rfl, hg⟩
          have H4 := Lib.hid (H3.out.calm hg)
          have HG4 := Lib.hid (grownBy_trans HG3.out hg)
          clear hg
          go_wp2_with fail
          refine (CF.out _).mono ?_
          rintro e w5 ⟨rfl, hg⟩
          have H5 := Lib.hid (H4.out.calm hg)
          have HG5 := Lib.hid (grownBy_trans HG4.out hg)
          clear hg
          go_wp2_with fail
          refine (CG.out _).mono ?_
          rintro e w6 ⟨rfl, hg⟩
          have H6 := Lib.hid (H5.out.calm hg)
          have HG6 := Lib.hid (grownBy_trans HG5.out hg)
          clear hg
          go_wp2_with fail
          refine (CI.out _ _ _ H6.out).mono ?_
          rintro e w7 ⟨rfl, h9⟩
          subst w7
          go_wp2_with fail
          refine (CM.out _ _ _ H6.out).mono ?_
          rintro e w7 ⟨rfl, hg⟩
          have H7 := Lib.hid (H6.out.calm hg)
          have HG7 := Lib.hid (grownBy_trans HG6.out hg)
          clear hg
          go_wp2_with fail
          refine (CK.out _ _ _ H7.out).mono ?_
          rintro e w8 ⟨rfl, hg⟩
          have HG8 := Lib.hid (grownBy_trans HG7.out hg)
          clear hg
          go_wp2
          go_ret
          exact ⟨rfl, grownBy_below HG8.out⟩

end Go.Proofs.Ytgmdkghggomloaa
