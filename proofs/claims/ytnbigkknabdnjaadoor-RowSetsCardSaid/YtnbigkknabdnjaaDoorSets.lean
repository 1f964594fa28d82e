/- The walk of the statement RowSets: at every three slices of bytes it answers true and leaves all that lay as it lay. Condition: the table of the lowest places is in memory. -/
import Derived.Test.YtnbigkknabdnjaaDoorCalls
import Derived.Test.YtnbigkknabdnjaaDoorPlaces
namespace Go.Proofs.YtnbigkknabdnjaaDoor
open Go.RowKit

/-- A slice of bytes that reads as xs. -/
structure Bts (w : World) (p : Option Addr) (n : Nat) (xs : List Nat) : Prop where
  len : xs.length = n
  cell : 0 < n → ∃ b off, p = some ⟨b, off, none⟩ ∧ b < w.heap.size ∧ ∀ k, k < n → w.cell? ⟨b, off + k, none⟩ = some (.int .u8 (xs[k]?.getD 0 : Nat))
  lt : ∀ k : Nat, xs[k]?.getD 0 < 256

theorem Bts.grown {w w' : World} {p : Option Addr} {n : Nat} {xs : List Nat} (h : Bts w p n xs) (hg : w.grownBy w' none) : Bts w' p n xs := by
  refine ⟨h.len, fun hn => ?_, h.lt⟩
  obtain ⟨b, off, hp, hb, hc⟩ := h.cell hn
  exact ⟨b, off, hp, Nat.lt_of_lt_of_le hb hg.size, fun k hk => (World.cell?_of_block (a := ⟨b, off + k, none⟩) (hg.block b hb (by simp))).trans (hc k hk)⟩

/-- The places that the first k bytes put on. -/
def modS (xs : List Nat) (k j : Nat) : Bool := (xs.take k).any fun x => x % 50 == j

theorem modS_zero (xs : List Nat) (j : Nat) : modS xs 0 j = false := by simp [modS]

theorem modS_put (xs : List Nat) (k j : Nat) (hk : k < xs.length) : putS (modS xs k) 50 ((xs[k]?.getD 0 % 50 : Nat) : Int) true j = modS xs (k + 1) j := by
  unfold putS modS
  rw [List.take_succ_eq_append_getElem hk, List.any_append, List.getElem?_eq_getElem hk]
  simp only [Option.getD_some, List.any_cons, List.any_nil, Bool.or_false]
  by_cases e : j = xs[k] % 50
  · subst e
    rw [if_pos ⟨rfl, by omega⟩]
    simp
  · rw [if_neg (by omega)]
    have : (xs[k] % 50 == j) = false := by simp; omega
    rw [this, Bool.or_false]

set_option maxHeartbeats 1000000 in
theorem mod_zero (p : Option Addr) (c : Nat) (w : World) : Calls Tryd.prog 17 #[.slice p 0 c] w (NewPost 50 w) := by
  go_enter Tryd.func17, Tryd.ntmps17
  go_wp2_with fail
  refine (new_c 50 _).mono ?_
  rintro e w1 ⟨b, wb, rfl, hb, hwb, hs, hg⟩
  have HG := Lib.hid hg
  have HS := Lib.hid hs
  clear hg hs
  go_wp2_with fail
  go_loopw [4] (fun i wr => i = .int .i64 0 ∧ wr = w1) (fun _ _ => 0)
  case atStart => exact ⟨rfl, rfl⟩
  case round =>
    obtain ⟨rfl, h9⟩ := hrel
    subst wr
    go_wp2
    go_ret
    exact ⟨b, wb, rfl, hb, hwb, HS.out, HG.out⟩

/-- What mod leaves. -/
def ModPost (S : Nat → Bool) (w : World) (e : Ending) (w' : World) : Prop :=
  ∃ b wb, e = .returned (.pointer (some ⟨b, 0, none⟩)) ∧ w.heap.size ≤ b ∧ w.heap.size ≤ wb ∧ IsSet w' b wb 50 S ∧ w.grownBy w' none

set_option maxHeartbeats 1000000 in
theorem mod_some (B off n c : Nat) (xs : List Nat) (w : World) (hB : B < w.heap.size) (hc : ∀ k, k < n → w.cell? ⟨B, off + k, none⟩ = some (.int .u8 (xs[k]?.getD 0 : Nat))) (hl : xs.length = n) (hlt : ∀ k : Nat, xs[k]?.getD 0 < 256) (hn : n ≤ 40) :
    Calls Tryd.prog 17 #[.slice (some ⟨B, off, none⟩) n c] w (ModPost (modS xs n) w) := by
  have HC := Lib.hid hc
  have HL := Lib.hid hl
  have HLT := Lib.hid hlt
  clear hc hl hlt
  go_enter Tryd.func17, Tryd.ntmps17
  go_wp2_with fail
  refine (new_c 50 _).mono ?_
  rintro e w1 ⟨b, wb, rfl, hb, hwb, hs, hg⟩
  have HG := Lib.hid hg
  have HS := Lib.hid (hs.congr (fun j => (modS_zero xs j).symm))
  clear hg hs
  go_wp2_with fail
  go_loopw [4] (fun i wr => ∃ k : Nat, k ≤ n ∧ i = .int .i64 k ∧ IsSet wr b wb 50 (modS xs k) ∧ w.grownBy wr none) (fun i _ => n - (intOf i).toNat)
  case atStart => exact ⟨0, Nat.zero_le _, rfl, HS.out, HG.out⟩
  case round =>
    obtain ⟨k, hk, rfl, hs, hg⟩ := hrel
    by_cases hkn : k < n
    · have hcell := (World.cell?_of_block (a := ⟨B, off + k, none⟩) (hg.block B hB (by simp))).trans (HC.out k hkn)
      have hx := HLT.out k
      have HP := Lib.hid (modS_put xs k)
      have HS' := Lib.hid hs
      have HG' := Lib.hid hg
      clear hs hg
      generalize xs[k]?.getD 0 = x at *
      go_wp2_with fail
      refine (put_c b wb 50 _ true _ _ HS'.out).mono ?_
      rintro e w3 ⟨⟨v3, rfl⟩, hs3, hg3⟩
      have hs3 := hs3.congr (fun j => HP.out j (by rw [HL.out]; exact hkn))
      have hg3 := grownBy_new HG'.out hg3 hwb
      go_wp2_with fail
      go_roundw
      case rel => exact ⟨k + 1, by omega, by go_num, hs3, hg3⟩
      case measure => simp [intOf]; omega
    · obtain rfl : k = n := by omega
      have HS' := Lib.hid hs
      have HG' := Lib.hid hg
      clear hs hg
      go_wp2
      go_ret
      exact ⟨b, wb, rfl, hb, hwb, HS'.out, HG'.out⟩

theorem mod_c (p : Option Addr) (n c : Nat) (xs : List Nat) (w : World) (h : Bts w p n xs) (hn : n ≤ 40) : Calls Tryd.prog 17 #[.slice p n c] w (ModPost (modS xs n) w) := by
  by_cases h0 : n = 0
  · subst h0
    refine (mod_zero p c w).mono ?_
    rintro e w' ⟨b, wb, he, h1, h2, h3, h4⟩
    exact ⟨b, wb, he, h1, h2, h3.congr (fun j => (modS_zero xs j).symm), h4⟩
  · obtain ⟨b, off, rfl, hb, hc⟩ := h.cell (by omega)
    exact mod_some b off n c xs w hb hc h.len h.lt hn

/-! ### Sets of places -/

theorem sets_same (X Y : Nat → Bool) : sameS 50 50 (fun i => X i || (Y i && decide (i < 50))) (fun i => Y i || (X i && decide (i < 50))) = true := by
  unfold sameS
  simp only [decide_true, Bool.true_and, List.all_eq_true]
  intro i hi
  have : i < 50 := by simpa using hi
  simp only [this, decide_true, Bool.and_true]
  cases X i <;> cases Y i <;> rfl

theorem sets_again (X Y : Nat → Bool) : grewS 50 (fun i => X i || (Y i && decide (i < 50))) Y = false := by
  unfold grewS
  rw [List.any_eq_false]
  intro i hi
  have : i < 50 := by simpa using hi
  simp only [this, decide_true, Bool.and_true]
  cases X i <;> cases Y i <;> simp

theorem sets_count (X Y : Nat → Bool) (n : Nat) : (onL (fun i => X i || (Y i && decide (i < 50)) || (Y i && decide (i < 50))) n).length ≤ (onL X n).length + (onL Y n).length := by
  induction n with
  | zero => simp [onL]
  | succ n ih =>
    unfold onL at *
    rw [List.range_succ, List.filter_append, List.filter_append, List.filter_append, List.length_append, List.length_append, List.length_append]
    have : ([n].filter (fun i => X i || (Y i && decide (i < 50)) || (Y i && decide (i < 50)))).length ≤ ([n].filter X).length + ([n].filter Y).length := by
      simp only [List.filter_cons, List.filter_nil]
      cases X n <;> cases Y n <;> cases decide (n < 50) <;> simp
    omega

theorem sets_cut (X Y Z : Nat → Bool) : sameS 50 50 (fun i => (X i || (Y i && decide (i < 50)) || (Y i && decide (i < 50))) && Z i) (fun i => (X i && Z i) || ((Y i && Z i) && decide (i < 50))) = true := by
  unfold sameS
  simp only [decide_true, Bool.true_and, List.all_eq_true]
  intro i hi
  have : i < 50 := by simpa using hi
  simp only [this, decide_true, Bool.and_true]
  cases X i <;> cases Y i <;> cases Z i <;> rfl

theorem sets_self (X : Nat → Bool) : sameS 50 50 (fun i => X i && X i) X = true := by
  unfold sameS
  simp only [decide_true, Bool.true_and, List.all_eq_true]
  intro i _
  cases X i <;> rfl

set_option maxHeartbeats 8000000 in
set_option maxRecDepth 100000 in
theorem sets_in (p1 p2 p3 : Option Addr) (n1 n2 n3 c1 c2 c3 : Nat) (xs ys zs : List Nat) (w : World) (h1 : Bts w p1 n1 xs) (h2 : Bts w p2 n2 ys) (h3 : Bts w p3 n3 zs) (l1 : n1 ≤ 40) (l2 : n2 ≤ 40) (l3 : n3 ≤ 40) (ht : Tab w) :
    Calls Tryd.prog 4 #[.slice p1 n1 c1, .slice p2 n2 c2, .slice p3 n3 c3] w fun e w' => e = .returned (.bool true) ∧ w.grownBy w' none := by
  have HT := Lib.hid ht
  have H1 := Lib.hid h1
  have H2 := Lib.hid h2
  have H3 := Lib.hid h3
  have d1 : decide ((40 : Int) < (n1 : Int)) = false := by simp; omega
  have d2 : decide ((40 : Int) < (n2 : Int)) = false := by simp; omega
  have d3 : decide ((40 : Int) < (n3 : Int)) = false := by simp; omega
  clear ht h1 h2 h3
  go_enter Tryd.func4, Tryd.ntmps4
  go_wp2_with fail
  refine (known_c _ HT.out).mono ?_
  rintro e w1 ⟨rfl, hg⟩
  have hg1 := Lib.hid hg
  clear hg HT
  go_wp2_with fail
  refine (mod_c p1 n1 c1 xs _ (H1.out.grown hg1.out) l1).mono ?_
  rintro e w2 ⟨bx, wx, rfl, hbx, hwx, hx2, hg⟩
  have hzx := hg1.out.size
  have hg2 := Lib.hid (grownBy_trans hg1.out hg)
  clear hg hg1 
  go_wp2_with fail
  refine (mod_c p2 n2 c2 ys _ (H2.out.grown hg2.out) l2).mono ?_
  rintro e w3 ⟨by_, wy, rfl, hby_, hwy, hy3, hg⟩
  have hx3 := hx2.grown hg (by simp) (by simp)
  have hlxy := hx2.lt
  have hzy := hg2.out.size
  have hg3 := Lib.hid (grownBy_trans hg2.out hg)
  clear hg hg2 hx2
  go_wp2_with fail
  refine (mod_c p3 n3 c3 zs _ (H3.out.grown hg3.out) l3).mono ?_
  rintro e w4 ⟨bz, wz, rfl, hbz, hwz, hz4, hg⟩
  have hx4 := hx3.grown hg (by simp) (by simp)
  have hy4 := hy3.grown hg (by simp) (by simp)
  have hlxz := hx3.lt
  have hlyz := hy3.lt
  have hzz := hg3.out.size
  have hg4 := Lib.hid (grownBy_trans hg3.out hg)
  clear hg hg3 hx3 hy3
  go_wp2_with fail
  clear H1 H2 H3
  generalize modS xs n1 = X at *
  generalize modS ys n2 = Y at *
  generalize modS zs n3 = Z at *
  refine (copy_c bx wx 50 X _ hx4).mono ?_
  rintro e w5 ⟨bp, wp, rfl, hbp, hwp, hp5, hg⟩
  have hx5 := hx4.grown hg (by simp) (by simp)
  have hy5 := hy4.grown hg (by simp) (by simp)
  have hz5 := hz4.grown hg (by simp) (by simp)
  have hlxp := hx4.lt
  have hlyp := hy4.lt
  have hlzp := hz4.lt
  have hzp := hg4.out.size
  have hg5 := Lib.hid (grownBy_trans hg4.out hg)
  clear hg hg4 hx4 hy4 hz4
  go_wp2_with fail
  refine (copy_c by_ wy 50 Y _ hy5).mono ?_
  rintro e w6 ⟨bq, wq, rfl, hbq, hwq, hq6, hg⟩
  have hx6 := hx5.grown hg (by simp) (by simp)
  have hy6 := hy5.grown hg (by simp) (by simp)
  have hz6 := hz5.grown hg (by simp) (by simp)
  have hp6 := hp5.grown hg (by simp) (by simp)
  have hlxq := hx5.lt
  have hlyq := hy5.lt
  have hlzq := hz5.lt
  have hlpq := hp5.lt
  have hzq := hg5.out.size
  have hg6 := Lib.hid (grownBy_trans hg5.out hg)
  clear hg hg5 hx5 hy5 hz5 hp5
  go_wp2_with fail
  refine (or_c bp wp 50 50 (some ⟨by_, 0, none⟩) X Y _ hp6 (.inr ⟨by_, wy, rfl, by omega, by omega, hy6⟩)).mono ?_
  rintro e w7 ⟨rfl, hp7, hg⟩
  have hx7 := hx6.grown hg (by simp; omega) (by simp; omega)
  have hy7 := hy6.grown hg (by simp; omega) (by simp; omega)
  have hz7 := hz6.grown hg (by simp; omega) (by simp; omega)
  have hq7 := hq6.grown hg (by simp; omega) (by simp; omega)
  have hg7 := Lib.hid (grownBy_new hg6.out hg (by omega))
  clear hg hg6 hx6 hy6 hz6 hp6 hq6
  go_wp2_with fail
  refine (or_c bq wq 50 50 (some ⟨bx, 0, none⟩) Y X _ hq7 (.inr ⟨bx, wx, rfl, by omega, by omega, hx7⟩)).mono ?_
  rintro e w8 ⟨rfl, hq8, hg⟩
  have hx8 := hx7.grown hg (by simp; omega) (by simp; omega)
  have hy8 := hy7.grown hg (by simp; omega) (by simp; omega)
  have hz8 := hz7.grown hg (by simp; omega) (by simp; omega)
  have hp8 := hp7.grown hg (by simp; omega) (by simp; omega)
  have hg8 := Lib.hid (grownBy_new hg7.out hg (by omega))
  clear hg hg7 hx7 hy7 hz7 hp7 hq7
  go_wp2_with fail
  refine (same_b bp wp 50 bq wq 50 _ _ true _ hp8 hq8 (sets_same X Y)).mono ?_
  rintro e w9 ⟨rfl, hg⟩
  have hx9 := hx8.grown hg (by simp) (by simp)
  have hy9 := hy8.grown hg (by simp) (by simp)
  have hz9 := hz8.grown hg (by simp) (by simp)
  have hp9 := hp8.grown hg (by simp) (by simp)
  have hq9 := hq8.grown hg (by simp) (by simp)
  have hg9 := Lib.hid (grownBy_trans hg8.out hg)
  clear hg hg8 hx8 hy8 hz8 hp8 hq8
  go_wp2_with fail
  refine (or_c bp wp 50 50 (some ⟨by_, 0, none⟩) _ Y _ hp9 (.inr ⟨by_, wy, rfl, by omega, by omega, hy9⟩)).mono ?_
  rintro e w10 ⟨rfl, hp10, hg⟩
  have hx10 := hx9.grown hg (by simp; omega) (by simp; omega)
  have hy10 := hy9.grown hg (by simp; omega) (by simp; omega)
  have hz10 := hz9.grown hg (by simp; omega) (by simp; omega)
  have hq10 := hq9.grown hg (by simp; omega) (by simp; omega)
  have hg10 := Lib.hid (grownBy_new hg9.out hg (by omega))
  rw [sets_again]
  clear hg hg9 hx9 hy9 hz9 hp9 hq9
  go_wp2_with fail
  have hcount := sets_count X Y 50
  have hcx50 := onL_le X 50
  have hcy50 := onL_le Y 50
  obtain ⟨cp, hcp⟩ : ∃ c, (onL (fun i => X i || (Y i && decide (i < 50)) || (Y i && decide (i < 50))) 50).length = c := ⟨_, rfl⟩
  obtain ⟨cx, hcx⟩ : ∃ c, (onL X 50).length = c := ⟨_, rfl⟩
  obtain ⟨cy, hcy⟩ : ∃ c, (onL Y 50).length = c := ⟨_, rfl⟩
  rw [hcp, hcx, hcy] at hcount
  rw [hcx] at hcx50
  rw [hcy] at hcy50
  have HCP := Lib.hid hcp
  have HCX := Lib.hid hcx
  have HCY := Lib.hid hcy
  have hdec : decide ((cx : Int) + (cy : Int) < (cp : Int)) = false := by simp; omega
  clear hcp hcx hcy
  refine (count_b bp wp 50 cp _ _ hp10 HCP.out).mono ?_
  rintro e w11 ⟨rfl, hg⟩
  have hx11 := hx10.grown hg (by simp) (by simp)
  have hy11 := hy10.grown hg (by simp) (by simp)
  have hz11 := hz10.grown hg (by simp) (by simp)
  have hp11 := hp10.grown hg (by simp) (by simp)
  have hq11 := hq10.grown hg (by simp) (by simp)
  have hg11 := Lib.hid (grownBy_trans hg10.out hg)
  clear hg hg10 hx10 hy10 hz10 hp10 hq10
  go_wp2_with fail
  refine (count_b bx wx 50 cx _ _ hx11 HCX.out).mono ?_
  rintro e w12 ⟨rfl, hg⟩
  have hx12 := hx11.grown hg (by simp) (by simp)
  have hy12 := hy11.grown hg (by simp) (by simp)
  have hz12 := hz11.grown hg (by simp) (by simp)
  have hp12 := hp11.grown hg (by simp) (by simp)
  have hq12 := hq11.grown hg (by simp) (by simp)
  have hg12 := Lib.hid (grownBy_trans hg11.out hg)
  clear hg hg11 hx11 hy11 hz11 hp11 hq11
  go_wp2_with fail
  refine (count_b by_ wy 50 cy _ _ hy12 HCY.out).mono ?_
  rintro e w13 ⟨rfl, hg⟩
  have hx13 := hx12.grown hg (by simp) (by simp)
  have hy13 := hy12.grown hg (by simp) (by simp)
  have hz13 := hz12.grown hg (by simp) (by simp)
  have hp13 := hp12.grown hg (by simp) (by simp)
  have hq13 := hq12.grown hg (by simp) (by simp)
  have hg13 := Lib.hid (grownBy_trans hg12.out hg)
  clear hg hg12 hx12 hy12 hz12 hp12 hq12
  go_wp2_with fail
  refine (copy_c bp wp 50 _ _ hp13).mono ?_
  rintro e w14 ⟨bu, wu, rfl, hbu, hwu, hu14, hg⟩
  have hx14 := hx13.grown hg (by simp) (by simp)
  have hy14 := hy13.grown hg (by simp) (by simp)
  have hz14 := hz13.grown hg (by simp) (by simp)
  have hp14 := hp13.grown hg (by simp) (by simp)
  have hq14 := hq13.grown hg (by simp) (by simp)
  have hlxu := hx13.lt
  have hlyu := hy13.lt
  have hlzu := hz13.lt
  have hlpu := hp13.lt
  have hlqu := hq13.lt
  have hzu := hg13.out.size
  have hg14 := Lib.hid (grownBy_trans hg13.out hg)
  clear hg hg13 hx13 hy13 hz13 hp13 hq13
  go_wp2_with fail
  refine (copy_c bx wx 50 X _ hx14).mono ?_
  rintro e w15 ⟨bv, wv, rfl, hbv, hwv, hv15, hg⟩
  have hx15 := hx14.grown hg (by simp) (by simp)
  have hy15 := hy14.grown hg (by simp) (by simp)
  have hz15 := hz14.grown hg (by simp) (by simp)
  have hp15 := hp14.grown hg (by simp) (by simp)
  have hq15 := hq14.grown hg (by simp) (by simp)
  have hu15 := hu14.grown hg (by simp) (by simp)
  have hlxv := hx14.lt
  have hlyv := hy14.lt
  have hlzv := hz14.lt
  have hlpv := hp14.lt
  have hlqv := hq14.lt
  have hluv := hu14.lt
  have hzv := hg14.out.size
  have hg15 := Lib.hid (grownBy_trans hg14.out hg)
  clear hg hg14 hx14 hy14 hz14 hp14 hq14 hu14
  go_wp2_with fail
  refine (and_c bu wu 50 50 (some ⟨bz, 0, none⟩) _ Z _ hu15 (.inr ⟨bz, wz, rfl, by omega, by omega, hz15⟩)).mono ?_
  rintro e w16 ⟨⟨_, rfl⟩, hu16, hg⟩
  have hx16 := hx15.grown hg (by simp; omega) (by simp; omega)
  have hy16 := hy15.grown hg (by simp; omega) (by simp; omega)
  have hz16 := hz15.grown hg (by simp; omega) (by simp; omega)
  have hp16 := hp15.grown hg (by simp; omega) (by simp; omega)
  have hq16 := hq15.grown hg (by simp; omega) (by simp; omega)
  have hv16 := hv15.grown hg (by simp; omega) (by simp; omega)
  have hg16 := Lib.hid (grownBy_new hg15.out hg (by omega))
  clear hg hg15 hx15 hy15 hz15 hp15 hq15 hu15 hv15
  go_wp2_with fail
  refine (and_c bv wv 50 50 (some ⟨bz, 0, none⟩) X Z _ hv16 (.inr ⟨bz, wz, rfl, by omega, by omega, hz16⟩)).mono ?_
  rintro e w17 ⟨⟨_, rfl⟩, hv17, hg⟩
  have hx17 := hx16.grown hg (by simp; omega) (by simp; omega)
  have hy17 := hy16.grown hg (by simp; omega) (by simp; omega)
  have hz17 := hz16.grown hg (by simp; omega) (by simp; omega)
  have hp17 := hp16.grown hg (by simp; omega) (by simp; omega)
  have hq17 := hq16.grown hg (by simp; omega) (by simp; omega)
  have hu17 := hu16.grown hg (by simp; omega) (by simp; omega)
  have hg17 := Lib.hid (grownBy_new hg16.out hg (by omega))
  clear hg hg16 hx16 hy16 hz16 hp16 hq16 hu16 hv16
  go_wp2_with fail
  refine (copy_c by_ wy 50 Y _ hy17).mono ?_
  rintro e w18 ⟨bt, wt, rfl, hbt, hwt, ht18, hg⟩
  have hx18 := hx17.grown hg (by simp) (by simp)
  have hy18 := hy17.grown hg (by simp) (by simp)
  have hz18 := hz17.grown hg (by simp) (by simp)
  have hp18 := hp17.grown hg (by simp) (by simp)
  have hq18 := hq17.grown hg (by simp) (by simp)
  have hu18 := hu17.grown hg (by simp) (by simp)
  have hv18 := hv17.grown hg (by simp) (by simp)
  have hlxt := hx17.lt
  have hlyt := hy17.lt
  have hlzt := hz17.lt
  have hlpt := hp17.lt
  have hlqt := hq17.lt
  have hlut := hu17.lt
  have hlvt := hv17.lt
  have hzt := hg17.out.size
  have hg18 := Lib.hid (grownBy_trans hg17.out hg)
  clear hg hg17 hx17 hy17 hz17 hp17 hq17 hu17 hv17
  go_wp2_with fail
  refine (and_c bt wt 50 50 (some ⟨bz, 0, none⟩) Y Z _ ht18 (.inr ⟨bz, wz, rfl, by omega, by omega, hz18⟩)).mono ?_
  rintro e w19 ⟨⟨_, rfl⟩, ht19, hg⟩
  have hx19 := hx18.grown hg (by simp; omega) (by simp; omega)
  have hy19 := hy18.grown hg (by simp; omega) (by simp; omega)
  have hz19 := hz18.grown hg (by simp; omega) (by simp; omega)
  have hp19 := hp18.grown hg (by simp; omega) (by simp; omega)
  have hq19 := hq18.grown hg (by simp; omega) (by simp; omega)
  have hu19 := hu18.grown hg (by simp; omega) (by simp; omega)
  have hv19 := hv18.grown hg (by simp; omega) (by simp; omega)
  have hg19 := Lib.hid (grownBy_new hg18.out hg (by omega))
  clear hg hg18 hx18 hy18 hz18 hp18 hq18 hu18 hv18 ht18
  go_wp2_with fail
  refine (or_c bv wv 50 50 (some ⟨bt, 0, none⟩) _ (fun i => Y i && Z i) _ hv19 (.inr ⟨bt, wt, rfl, by omega, by omega, ht19⟩)).mono ?_
  rintro e w20 ⟨rfl, hv20, hg⟩
  have hx20 := hx19.grown hg (by simp; omega) (by simp; omega)
  have hy20 := hy19.grown hg (by simp; omega) (by simp; omega)
  have hz20 := hz19.grown hg (by simp; omega) (by simp; omega)
  have hp20 := hp19.grown hg (by simp; omega) (by simp; omega)
  have hq20 := hq19.grown hg (by simp; omega) (by simp; omega)
  have hu20 := hu19.grown hg (by simp; omega) (by simp; omega)
  have ht20 := ht19.grown hg (by simp; omega) (by simp; omega)
  have hg20 := Lib.hid (grownBy_new hg19.out hg (by omega))
  clear hg hg19 hx19 hy19 hz19 hp19 hq19 hu19 hv19 ht19
  go_wp2_with fail
  refine (copy_c bx wx 50 X _ hx20).mono ?_
  rintro e w21 ⟨be, we, rfl, hbe, hwe, he21, hg⟩
  have hx21 := hx20.grown hg (by simp) (by simp)
  have hy21 := hy20.grown hg (by simp) (by simp)
  have hz21 := hz20.grown hg (by simp) (by simp)
  have hp21 := hp20.grown hg (by simp) (by simp)
  have hq21 := hq20.grown hg (by simp) (by simp)
  have hu21 := hu20.grown hg (by simp) (by simp)
  have hv21 := hv20.grown hg (by simp) (by simp)
  have ht21 := ht20.grown hg (by simp) (by simp)
  have hlxe := hx20.lt
  have hlye := hy20.lt
  have hlze := hz20.lt
  have hlpe := hp20.lt
  have hlqe := hq20.lt
  have hlue := hu20.lt
  have hlve := hv20.lt
  have hlte := ht20.lt
  have hze := hg20.out.size
  have hg21 := Lib.hid (grownBy_trans hg20.out hg)
  clear hg hg20 hx20 hy20 hz20 hp20 hq20 hu20 hv20 ht20
  go_wp2_with fail
  refine (and_c be we 50 50 (some ⟨bx, 0, none⟩) X X _ he21 (.inr ⟨bx, wx, rfl, by omega, by omega, hx21⟩)).mono ?_
  rintro e w22 ⟨⟨_, rfl⟩, he22, hg⟩
  have hx22 := hx21.grown hg (by simp; omega) (by simp; omega)
  have hy22 := hy21.grown hg (by simp; omega) (by simp; omega)
  have hz22 := hz21.grown hg (by simp; omega) (by simp; omega)
  have hp22 := hp21.grown hg (by simp; omega) (by simp; omega)
  have hq22 := hq21.grown hg (by simp; omega) (by simp; omega)
  have hu22 := hu21.grown hg (by simp; omega) (by simp; omega)
  have hv22 := hv21.grown hg (by simp; omega) (by simp; omega)
  have ht22 := ht21.grown hg (by simp; omega) (by simp; omega)
  have hg22 := Lib.hid (grownBy_new hg21.out hg (by omega))
  clear hg hg21 hx21 hy21 hz21 hp21 hq21 hu21 hv21 ht21 he21
  go_wp2_with fail
  refine (same_b bu wu 50 bv wv 50 _ _ true _ hu22 hv22 (sets_cut X Y Z)).mono ?_
  rintro e w23 ⟨rfl, hg⟩
  have hx23 := hx22.grown hg (by simp) (by simp)
  have hy23 := hy22.grown hg (by simp) (by simp)
  have hz23 := hz22.grown hg (by simp) (by simp)
  have hp23 := hp22.grown hg (by simp) (by simp)
  have hq23 := hq22.grown hg (by simp) (by simp)
  have hu23 := hu22.grown hg (by simp) (by simp)
  have hv23 := hv22.grown hg (by simp) (by simp)
  have ht23 := ht22.grown hg (by simp) (by simp)
  have he23 := he22.grown hg (by simp) (by simp)
  have hg23 := Lib.hid (grownBy_trans hg22.out hg)
  clear hg hg22 hx22 hy22 hz22 hp22 hq22 hu22 hv22 ht22 he22
  go_wp2_with fail
  refine (same_b be we 50 bx wx 50 _ _ true _ he23 hx23 (sets_self X)).mono ?_
  rintro e w24 ⟨rfl, hg⟩
  have hx24 := hx23.grown hg (by simp) (by simp)
  have hy24 := hy23.grown hg (by simp) (by simp)
  have hz24 := hz23.grown hg (by simp) (by simp)
  have hp24 := hp23.grown hg (by simp) (by simp)
  have hq24 := hq23.grown hg (by simp) (by simp)
  have hu24 := hu23.grown hg (by simp) (by simp)
  have hv24 := hv23.grown hg (by simp) (by simp)
  have ht24 := ht23.grown hg (by simp) (by simp)
  have he24 := he23.grown hg (by simp) (by simp)
  have hg24 := Lib.hid (grownBy_trans hg23.out hg)
  clear hg hg23 hx23 hy23 hz23 hp23 hq23 hu23 hv23 ht23 he23
  go_wp2
  go_ret
  exact ⟨rfl, hg24.out⟩

set_option maxHeartbeats 2000000 in
theorem sets_out (p1 p2 p3 : Option Addr) (n1 n2 n3 c1 c2 c3 : Nat) (w : World) (h : 40 < n1 ∨ 40 < n2 ∨ 40 < n3) (ht : Tab w) :
    Calls Tryd.prog 4 #[.slice p1 n1 c1, .slice p2 n2 c2, .slice p3 n3 c3] w fun e w' => e = .returned (.bool true) ∧ w.grownBy w' none := by
  have HT := Lib.hid ht
  have H := Lib.hid h
  clear ht h
  by_cases d1 : 40 < n1
  · go_enter Tryd.func4, Tryd.ntmps4
    go_wp2_with fail
    refine (known_c _ HT.out).mono ?_
    rintro e w1 ⟨rfl, hg⟩
    have hg1 := Lib.hid hg
    clear hg HT
    go_wp2
    go_ret
    exact ⟨rfl, hg1.out⟩
  · have e1 : decide ((40 : Int) < (n1 : Int)) = false := by simp; omega
    by_cases d2 : 40 < n2
    · clear d1
      go_enter Tryd.func4, Tryd.ntmps4
      go_wp2_with fail
      refine (known_c _ HT.out).mono ?_
      rintro e w1 ⟨rfl, hg⟩
      have hg1 := Lib.hid hg
      clear hg HT
      go_wp2
      go_ret
      exact ⟨rfl, hg1.out⟩
    · have e2 : decide ((40 : Int) < (n2 : Int)) = false := by simp; omega
      have d3 : 40 < n3 := by have := H.out; omega
      clear d1 d2
      go_enter Tryd.func4, Tryd.ntmps4
      go_wp2_with fail
      refine (known_c _ HT.out).mono ?_
      rintro e w1 ⟨rfl, hg⟩
      have hg1 := Lib.hid hg
      clear hg HT
      go_wp2
      go_ret
      exact ⟨rfl, hg1.out⟩

end Go.Proofs.YtnbigkknabdnjaaDoor
