/- The walk of the statement RowPlaces: at all three bytes it answers true and leaves all that lay as it lay. Condition: the table of the lowest places is in memory. -/
import Derived.Test.YtnbigkknabdnjaaDoorCalls
namespace Go.Proofs.YtnbigkknabdnjaaDoor
open Go.RowKit

/-- One place turned. -/
def updS (S : Nat → Bool) (i : Nat) (v : Bool) (j : Nat) : Bool := if j = i then v else S j

theorem cnt_upd (S : Nat → Bool) (i : Nat) (v : Bool) (n : Nat) (hi : i < n) : (onL (updS S i v) n).length + (S i).toNat = (onL S n).length + v.toNat := by
  induction n with
  | zero => omega
  | succ n ih =>
    unfold onL
    rw [List.range_succ, List.filter_append, List.filter_append, List.length_append, List.length_append]
    by_cases e : i = n
    · subst e
      have h1 : (List.range i).filter (updS S i v) = (List.range i).filter S := by
        apply List.filter_congr
        intro j hj
        have : j < i := by simpa using hj
        unfold updS
        rw [if_neg (by omega)]
      rw [h1]
      have h2 : updS S i v i = v := by unfold updS; rw [if_pos rfl]
      cases hs : S i <;> cases v <;> simp [h2, hs]
    · have := ih (by omega)
      unfold onL at this
      have h2 : updS S i v n = S n := by unfold updS; rw [if_neg (by omega)]
      have h3 : ([n].filter (updS S i v)).length = ([n].filter S).length := by rw [List.filter_cons, List.filter_cons, h2]; split <;> rfl
      omega

theorem cnt_zero (n : Nat) : (onL (fun _ => false) n).length = 0 := by unfold onL; simp

theorem putS_upd (S : Nat → Bool) (n i : Nat) (v : Bool) (hi : i < n) (j : Nat) : putS S n (i : Int) v j = updS S i v j := by
  unfold putS updS
  by_cases e : j = i
  · subst e; rw [if_pos ⟨rfl, hi⟩, if_pos rfl]
  · rw [if_neg (by omega), if_neg e]

theorem hasS_in (S : Nat → Bool) (n i : Nat) (hi : i < n) : hasS S n (i : Int) = S i := by unfold hasS; simp [hi]

theorem updS_same (S : Nat → Bool) (i : Nat) (v : Bool) : updS S i v i = v := by unfold updS; rw [if_pos rfl]
theorem updS_other (S : Nat → Bool) (i j : Nat) (v : Bool) (h : j ≠ i) : updS S i v j = S j := by unfold updS; rw [if_neg h]

theorem IsSet.lt {w : World} {b wb n : Nat} {S : Nat → Bool} (h : IsSet w b wb n S) : b < w.heap.size ∧ wb < w.heap.size := by
  obtain ⟨ws, hr, _⟩ := h
  exact ⟨hr.hb, hr.hw⟩

/-- A row stays while another row's words, which came later, are written. -/
theorem IsSet.far {w w0 w' : World} {b wb n row : Nat} {S : Nat → Bool} (h : IsSet w b wb n S) (h0 : IsSet w0 b wb n S) (hr : w0.heap.size ≤ row) (hg : w.grownBy w' (some row)) : IsSet w' b wb n S := by
  have := h0.lt
  exact h.grown hg (by simp; omega) (by simp; omega)

theorem clamp_nat (k : Nat) (h : k ≤ 1000) : clampN (k : Int) = k := by unfold clampN; omega


theorem pl_cnt1 (k a : Nat) (ha : a < k) : (onL (updS (fun _ => false) a true) k).length = 1 := by
  have := cnt_upd (fun _ => false) a true k ha
  rw [cnt_zero] at this
  simpa using this
theorem pl_cnt2e (k a : Nat) (ha : a < k) : (onL (updS (updS (fun _ => false) a true) a true) k).length = 1 := by
  have := cnt_upd (updS (fun _ => false) a true) a true k ha
  rw [pl_cnt1 k a ha, updS_same] at this
  simpa using this
theorem pl_cnt3e (k a : Nat) (ha : a < k) : (onL (updS (updS (updS (fun _ => false) a true) a true) a false) k).length = 0 := by
  have := cnt_upd (updS (updS (fun _ => false) a true) a true) a false k ha
  rw [pl_cnt2e k a ha, updS_same] at this
  simpa using this
theorem pl_cnt2n (k a b : Nat) (ha : a < k) (hb : b < k) (h : b ≠ a) : (onL (updS (updS (fun _ => false) a true) b true) k).length = 2 := by
  have := cnt_upd (updS (fun _ => false) a true) b true k hb
  rw [pl_cnt1 k a ha, updS_other _ _ _ _ h] at this
  simpa using this
theorem pl_cnt3n (k a b : Nat) (ha : a < k) (hb : b < k) (h : b ≠ a) : (onL (updS (updS (updS (fun _ => false) a true) b true) a false) k).length = 1 := by
  have := cnt_upd (updS (updS (fun _ => false) a true) b true) a false k ha
  rw [pl_cnt2n k a b ha hb h, updS_other _ _ _ _ (fun e => h e.symm), updS_same] at this
  simpa using this
theorem hasS_low (S : Nat → Bool) (n : Nat) : hasS S n (-1) = false := by unfold hasS; simp
theorem hasS_high (S : Nat → Bool) (n : Nat) : hasS S n (n : Int) = false := by unfold hasS; simp

set_option maxHeartbeats 4000000 in
theorem places_eq (n x y a k : Nat) (w : World) (hn : n < 256) (hx : x < 256) (hy : y < 256) (ek : n + 1 = k) (ea : x % (n + 1) = a) (eb : y % (n + 1) = a) (ht : Tab w) : Calls Tryd.prog 5 #[.int .u8 n, .int .u8 x, .int .u8 y] w fun e w' => e = .returned (.bool true) ∧ w.grownBy w' none := by
  have HT := Lib.hid ht
  have ha : a < k := by rw [← ea, ← ek]; exact Nat.mod_lt _ (by omega)
  have hk : k ≤ 256 := by omega
  have h1 : ((n : Int) + 1) = (k : Int) := by omega
  have h2 : (x : Int) % (k : Int) = (a : Int) := by rw [← ea, ← ek]; exact (Int.natCast_emod x (n + 1)).symm
  have h3 : (y : Int) % (k : Int) = (a : Int) := by rw [← eb, ← ek]; exact (Int.natCast_emod y (n + 1)).symm
  have H1 := Lib.hid h1
  have H2 := Lib.hid h2
  have H3 := Lib.hid h3
  clear ht ek ea eb h1 h2 h3
  go_enter Tryd.func5, Tryd.ntmps5
  go_wp2_with fail
  refine (known_c _ HT.out).mono ?_
  rintro e w1 ⟨rfl, hg⟩
  have hg1 := Lib.hid hg
  clear hg HT
  go_wp2_with fail
  go_quiet (fail)
  go_wp2_with fail
  rw [H1.out, H2.out, H3.out]
  clear H1 H2 H3
  have hg1b := Lib.hid (grownBy_trans hg1.out (grownBy_drewN w1 nq none))
  generalize w1.drewN nq = w2 at *
  clear hg1
  refine (new_c k _).mono ?_
  rintro e w3 ⟨br, wr, rfl, hbr, hwr, hr, hg⟩
  rw [clamp_nat k (by omega)] at hr
  have hg3 := Lib.hid (grownBy_trans hg1b.out hg)
  have hb3 := hg1b.out.size
  clear hg hg1b
  go_wp2_with fail
  refine (put_c br wr k a true _ _ hr).mono ?_
  rintro e w4 ⟨⟨v4, rfl⟩, hr4, hg⟩
  have hr4 := hr4.congr (putS_upd _ k a true ha)
  have hg4 := Lib.hid (grownBy_new hg3.out hg (by omega))
  clear hr hg hg3
  go_wp2_with fail
  refine (copy_c br wr k _ _ hr4).mono ?_
  rintro e w5 ⟨bc, wc, rfl, hbc, hwc, hc5, hg⟩
  have hr5 := hr4.grown hg (by simp) (by simp)
  have hg5 := Lib.hid (grownBy_trans hg4.out hg)
  have hl4 := hr4.lt
  have hz4 := hg4.out.size
  clear hg hg4 hr4
  go_wp2_with fail
  refine (put_c bc wc k a true _ _ hc5).mono ?_
  rintro e w6 ⟨⟨v6, rfl⟩, hc6, hg⟩
  have hc6 := hc6.congr (putS_upd _ k a true ha)
  have hr6 := hr5.grown hg (by simp; omega) (by simp; omega)
  have hg6 := Lib.hid (grownBy_new hg5.out hg (by omega))
  clear hg hg5 hr5 hc5
  go_wp2_with fail
  refine (copy_c bc wc k _ _ hc6).mono ?_
  rintro e w7 ⟨bd, wd, rfl, hbd, hwd, hd7, hg⟩
  have hr7 := hr6.grown hg (by simp) (by simp)
  have hc7 := hc6.grown hg (by simp) (by simp)
  have hg7 := Lib.hid (grownBy_trans hg6.out hg)
  have hl6 := hc6.lt
  have hl6r := hr6.lt
  have hz6 := hg6.out.size
  clear hg hg6 hr6 hc6
  go_wp2_with fail
  refine (put_c bd wd k a false _ _ hd7).mono ?_
  rintro e w8 ⟨⟨v8, rfl⟩, hd8, hg⟩
  have hd8 := hd8.congr (putS_upd _ k a false ha)
  have hr8 := hr7.grown hg (by simp; omega) (by simp; omega)
  have hc8 := hc7.grown hg (by simp; omega) (by simp; omega)
  have hg8 := Lib.hid (grownBy_new hg7.out hg (by omega))
  clear hg hg7 hr7 hc7 hd7 hl6 hl6r hl4 hz4 hz6
  go_wp2_with fail
  refine (has_b br wr k a _ true _ hr8 (by rw [hasS_in _ _ _ ha, updS_same])).mono ?_
  rintro e w9 ⟨rfl, hg⟩
  have hr9 := hr8.grown hg (by simp) (by simp)
  have hc9 := hc8.grown hg (by simp) (by simp)
  have hd9 := hd8.grown hg (by simp) (by simp)
  have hg9 := Lib.hid (grownBy_trans hg8.out hg)
  clear hg hg8 hr8 hc8 hd8
  go_wp2_with fail
  refine (has_b br wr k a _ true _ hr9 (by rw [hasS_in _ _ _ ha, updS_same])).mono ?_
  rintro e w10 ⟨rfl, hg⟩
  have hr10 := hr9.grown hg (by simp) (by simp)
  have hc10 := hc9.grown hg (by simp) (by simp)
  have hd10 := hd9.grown hg (by simp) (by simp)
  have hg10 := Lib.hid (grownBy_trans hg9.out hg)
  clear hg hg9 hr9 hc9 hd9
  go_wp2_with fail
  refine (count_b br wr k 1 _ _ hr10 (pl_cnt1 k a ha)).mono ?_
  rintro e w11 ⟨rfl, hg⟩
  have hr11 := hr10.grown hg (by simp) (by simp)
  have hc11 := hc10.grown hg (by simp) (by simp)
  have hd11 := hd10.grown hg (by simp) (by simp)
  have hg11 := Lib.hid (grownBy_trans hg10.out hg)
  clear hg hg10 hr10 hc10 hd10
  go_wp2_with fail
  refine (count_b bc wc k 1 _ _ hc11 (pl_cnt2e k a ha)).mono ?_
  rintro e w12 ⟨rfl, hg⟩
  have hr12 := hr11.grown hg (by simp) (by simp)
  have hc12 := hc11.grown hg (by simp) (by simp)
  have hd12 := hd11.grown hg (by simp) (by simp)
  have hg12 := Lib.hid (grownBy_trans hg11.out hg)
  clear hg hg11 hr11 hc11 hd11
  go_wp2_with fail
  refine (count_b bd wd k 0 _ _ hd12 (pl_cnt3e k a ha)).mono ?_
  rintro e w13 ⟨rfl, hg⟩
  have hr13 := hr12.grown hg (by simp) (by simp)
  have hc13 := hc12.grown hg (by simp) (by simp)
  have hd13 := hd12.grown hg (by simp) (by simp)
  have hg13 := Lib.hid (grownBy_trans hg12.out hg)
  clear hg hg12 hr12 hc12 hd12
  go_wp2_with fail
  refine (has_b bd wd k a _ false _ hd13 (by rw [hasS_in _ _ _ ha, updS_same])).mono ?_
  rintro e w14 ⟨rfl, hg⟩
  have hr14 := hr13.grown hg (by simp) (by simp)
  have hc14 := hc13.grown hg (by simp) (by simp)
  have hd14 := hd13.grown hg (by simp) (by simp)
  have hg14 := Lib.hid (grownBy_trans hg13.out hg)
  clear hg hg13 hr13 hc13 hd13
  go_wp2_with fail
  refine (has_b bd wd k a _ false _ hd14 (by rw [hasS_in _ _ _ ha, updS_same])).mono ?_
  rintro e w15 ⟨rfl, hg⟩
  have hr15 := hr14.grown hg (by simp) (by simp)
  have hc15 := hc14.grown hg (by simp) (by simp)
  have hd15 := hd14.grown hg (by simp) (by simp)
  have hg15 := Lib.hid (grownBy_trans hg14.out hg)
  clear hg hg14 hr14 hc14 hd14
  go_wp2_with fail
  refine (has_b br wr k (-1) _ false _ hr15 (hasS_low _ _)).mono ?_
  rintro e w16 ⟨rfl, hg⟩
  have hr16 := hr15.grown hg (by simp) (by simp)
  have hc16 := hc15.grown hg (by simp) (by simp)
  have hd16 := hd15.grown hg (by simp) (by simp)
  have hg16 := Lib.hid (grownBy_trans hg15.out hg)
  clear hg hg15 hr15 hc15 hd15
  go_wp2_with fail
  refine (has_b br wr k k _ false _ hr16 (hasS_high _ _)).mono ?_
  rintro e w17 ⟨rfl, hg⟩
  have hg17 := Lib.hid (grownBy_trans hg16.out hg)
  clear hg hg16 hr16 hc16 hd16
  go_wp2
  go_ret
  exact ⟨rfl, hg17.out⟩

set_option maxHeartbeats 4000000 in
theorem places_ne (n x y a b k : Nat) (w : World) (hn : n < 256) (hx : x < 256) (hy : y < 256) (ek : n + 1 = k) (ea : x % (n + 1) = a) (eb : y % (n + 1) = b) (hab : b ≠ a) (ht : Tab w) : Calls Tryd.prog 5 #[.int .u8 n, .int .u8 x, .int .u8 y] w fun e w' => e = .returned (.bool true) ∧ w.grownBy w' none := by
  have HT := Lib.hid ht
  have ha : a < k := by rw [← ea, ← ek]; exact Nat.mod_lt _ (by omega)
  have hb : b < k := by rw [← eb, ← ek]; exact Nat.mod_lt _ (by omega)
  have hq1 : ((a : Int) == (b : Int)) = false := by simp; omega
  have hq2 : ((a : Int) != (b : Int)) = true := by simp; omega
  have HAB := Lib.hid hab
  clear hab
  have hk : k ≤ 256 := by omega
  have h1 : ((n : Int) + 1) = (k : Int) := by omega
  have h2 : (x : Int) % (k : Int) = (a : Int) := by rw [← ea, ← ek]; exact (Int.natCast_emod x (n + 1)).symm
  have h3 : (y : Int) % (k : Int) = (b : Int) := by rw [← eb, ← ek]; exact (Int.natCast_emod y (n + 1)).symm
  have H1 := Lib.hid h1
  have H2 := Lib.hid h2
  have H3 := Lib.hid h3
  clear ht ek ea eb h1 h2 h3
  go_enter Tryd.func5, Tryd.ntmps5
  go_wp2_with fail
  refine (known_c _ HT.out).mono ?_
  rintro e w1 ⟨rfl, hg⟩
  have hg1 := Lib.hid hg
  clear hg HT
  go_wp2_with fail
  go_quiet (fail)
  go_wp2_with fail
  rw [H1.out, H2.out, H3.out]
  clear H1 H2 H3
  have hg1b := Lib.hid (grownBy_trans hg1.out (grownBy_drewN w1 nq none))
  generalize w1.drewN nq = w2 at *
  clear hg1
  refine (new_c k _).mono ?_
  rintro e w3 ⟨br, wr, rfl, hbr, hwr, hr, hg⟩
  rw [clamp_nat k (by omega)] at hr
  have hg3 := Lib.hid (grownBy_trans hg1b.out hg)
  have hb3 := hg1b.out.size
  clear hg hg1b
  go_wp2_with fail
  refine (put_c br wr k a true _ _ hr).mono ?_
  rintro e w4 ⟨⟨v4, rfl⟩, hr4, hg⟩
  have hr4 := hr4.congr (putS_upd _ k a true ha)
  have hg4 := Lib.hid (grownBy_new hg3.out hg (by omega))
  clear hr hg hg3
  go_wp2_with fail
  refine (copy_c br wr k _ _ hr4).mono ?_
  rintro e w5 ⟨bc, wc, rfl, hbc, hwc, hc5, hg⟩
  have hr5 := hr4.grown hg (by simp) (by simp)
  have hg5 := Lib.hid (grownBy_trans hg4.out hg)
  have hl4 := hr4.lt
  have hz4 := hg4.out.size
  clear hg hg4 hr4
  go_wp2_with fail
  refine (put_c bc wc k b true _ _ hc5).mono ?_
  rintro e w6 ⟨⟨v6, rfl⟩, hc6, hg⟩
  have hc6 := hc6.congr (putS_upd _ k b true hb)
  have hr6 := hr5.grown hg (by simp; omega) (by simp; omega)
  have hg6 := Lib.hid (grownBy_new hg5.out hg (by omega))
  clear hg hg5 hr5 hc5
  go_wp2_with fail
  refine (copy_c bc wc k _ _ hc6).mono ?_
  rintro e w7 ⟨bd, wd, rfl, hbd, hwd, hd7, hg⟩
  have hr7 := hr6.grown hg (by simp) (by simp)
  have hc7 := hc6.grown hg (by simp) (by simp)
  have hg7 := Lib.hid (grownBy_trans hg6.out hg)
  have hl6 := hc6.lt
  have hl6r := hr6.lt
  have hz6 := hg6.out.size
  clear hg hg6 hr6 hc6
  go_wp2_with fail
  refine (put_c bd wd k a false _ _ hd7).mono ?_
  rintro e w8 ⟨⟨v8, rfl⟩, hd8, hg⟩
  have hd8 := hd8.congr (putS_upd _ k a false ha)
  have hr8 := hr7.grown hg (by simp; omega) (by simp; omega)
  have hc8 := hc7.grown hg (by simp; omega) (by simp; omega)
  have hg8 := Lib.hid (grownBy_new hg7.out hg (by omega))
  clear hg hg7 hr7 hc7 hd7 hl6 hl6r hl4 hz4 hz6
  go_wp2_with fail
  refine (has_b br wr k a _ true _ hr8 (by rw [hasS_in _ _ _ ha, updS_same])).mono ?_
  rintro e w9 ⟨rfl, hg⟩
  have hr9 := hr8.grown hg (by simp) (by simp)
  have hc9 := hc8.grown hg (by simp) (by simp)
  have hd9 := hd8.grown hg (by simp) (by simp)
  have hg9 := Lib.hid (grownBy_trans hg8.out hg)
  clear hg hg8 hr8 hc8 hd8
  go_wp2_with fail
  refine (has_b br wr k b _ false _ hr9 (by rw [hasS_in _ _ _ hb, updS_other _ _ _ _ HAB.out])).mono ?_
  rintro e w10 ⟨rfl, hg⟩
  have hr10 := hr9.grown hg (by simp) (by simp)
  have hc10 := hc9.grown hg (by simp) (by simp)
  have hd10 := hd9.grown hg (by simp) (by simp)
  have hg10 := Lib.hid (grownBy_trans hg9.out hg)
  clear hg hg9 hr9 hc9 hd9
  go_wp2_with fail
  refine (count_b br wr k 1 _ _ hr10 (pl_cnt1 k a ha)).mono ?_
  rintro e w11 ⟨rfl, hg⟩
  have hr11 := hr10.grown hg (by simp) (by simp)
  have hc11 := hc10.grown hg (by simp) (by simp)
  have hd11 := hd10.grown hg (by simp) (by simp)
  have hg11 := Lib.hid (grownBy_trans hg10.out hg)
  clear hg hg10 hr10 hc10 hd10
  go_wp2_with fail
  refine (count_b bc wc k 2 _ _ hc11 (pl_cnt2n k a b ha hb HAB.out)).mono ?_
  rintro e w12 ⟨rfl, hg⟩
  have hr12 := hr11.grown hg (by simp) (by simp)
  have hc12 := hc11.grown hg (by simp) (by simp)
  have hd12 := hd11.grown hg (by simp) (by simp)
  have hg12 := Lib.hid (grownBy_trans hg11.out hg)
  clear hg hg11 hr11 hc11 hd11
  go_wp2_with fail
  refine (count_b bd wd k 1 _ _ hd12 (pl_cnt3n k a b ha hb HAB.out)).mono ?_
  rintro e w13 ⟨rfl, hg⟩
  have hr13 := hr12.grown hg (by simp) (by simp)
  have hc13 := hc12.grown hg (by simp) (by simp)
  have hd13 := hd12.grown hg (by simp) (by simp)
  have hg13 := Lib.hid (grownBy_trans hg12.out hg)
  clear hg hg12 hr12 hc12 hd12
  go_wp2_with fail
  refine (has_b bd wd k a _ false _ hd13 (by rw [hasS_in _ _ _ ha, updS_same])).mono ?_
  rintro e w14 ⟨rfl, hg⟩
  have hr14 := hr13.grown hg (by simp) (by simp)
  have hc14 := hc13.grown hg (by simp) (by simp)
  have hd14 := hd13.grown hg (by simp) (by simp)
  have hg14 := Lib.hid (grownBy_trans hg13.out hg)
  clear hg hg13 hr13 hc13 hd13
  go_wp2_with fail
  refine (has_b bd wd k b _ true _ hd14 (by rw [hasS_in _ _ _ hb, updS_other _ _ _ _ HAB.out, updS_same])).mono ?_
  rintro e w15 ⟨rfl, hg⟩
  have hr15 := hr14.grown hg (by simp) (by simp)
  have hc15 := hc14.grown hg (by simp) (by simp)
  have hd15 := hd14.grown hg (by simp) (by simp)
  have hg15 := Lib.hid (grownBy_trans hg14.out hg)
  clear hg hg14 hr14 hc14 hd14
  go_wp2_with fail
  refine (has_b br wr k (-1) _ false _ hr15 (hasS_low _ _)).mono ?_
  rintro e w16 ⟨rfl, hg⟩
  have hr16 := hr15.grown hg (by simp) (by simp)
  have hc16 := hc15.grown hg (by simp) (by simp)
  have hd16 := hd15.grown hg (by simp) (by simp)
  have hg16 := Lib.hid (grownBy_trans hg15.out hg)
  clear hg hg15 hr15 hc15 hd15
  go_wp2_with fail
  refine (has_b br wr k k _ false _ hr16 (hasS_high _ _)).mono ?_
  rintro e w17 ⟨rfl, hg⟩
  have hg17 := Lib.hid (grownBy_trans hg16.out hg)
  clear hg hg16 hr16 hc16 hd16
  go_wp2
  go_ret
  exact ⟨rfl, hg17.out⟩

theorem places_law (n x y : Nat) (w : World) (hn : n < 256) (hx : x < 256) (hy : y < 256) (ht : Tab w) : Calls Tryd.prog 5 #[.int .u8 n, .int .u8 x, .int .u8 y] w fun e w' => e = .returned (.bool true) ∧ w.grownBy w' none := by
  by_cases h : y % (n + 1) = x % (n + 1)
  · exact places_eq n x y _ _ w hn hx hy rfl rfl h ht
  · exact places_ne n x y _ _ _ w hn hx hy rfl rfl rfl h ht

end Go.Proofs.YtnbigkknabdnjaaDoor
