/- The walk of the statement RowLengths: at both bytes it answers true and leaves all that lay as it lay. Condition: the table of the lowest places is in memory. -/
import Derived.Test.YtnbigkknabdnjaaDoorPlaces
namespace Go.Proofs.YtnbigkknabdnjaaDoor
open Go.RowKit

/-- The places ahead of k. -/
def upS (k j : Nat) : Bool := decide (j < k)

theorem upS_put (k m j : Nat) (h : k < m) : putS (upS k) m (k : Int) true j = upS (k + 1) j := by
  unfold putS upS
  by_cases e : j = k
  · subst e; rw [if_pos ⟨rfl, h⟩]; simp
  · rw [if_neg (by omega)]
    by_cases h2 : j < k
    · simp [h2]; omega
    · simp [h2]; omega

theorem upS_zero (j : Nat) : upS 0 j = false := by unfold upS; simp

/-- What both rows have. -/
theorem both_cnt (n m : Nat) : (onL (fun i => (false || (upS m i && decide (i < n)))) n).length = min n m := by
  have e : onL (fun i => (false || (upS m i && decide (i < n)))) n = List.range (min n m) := by
    unfold onL
    rw [show List.range n = List.range (min n m + (n - min n m)) from by congr 1; omega, List.range_add, List.filter_append]
    have h1 : (List.range (min n m)).filter (fun i => (false || (upS m i && decide (i < n)))) = List.range (min n m) := by
      rw [List.filter_eq_self]
      intro a ha
      have : a < min n m := by simpa using ha
      unfold upS
      simp; omega
    have h2 : ((List.range (n - min n m)).map (fun x => min n m + x)).filter (fun i => (false || (upS m i && decide (i < n)))) = [] := by
      rw [List.filter_eq_nil_iff]
      intro a ha
      obtain ⟨x, hx, rfl⟩ := List.mem_map.1 ha
      have : x < n - min n m := by simpa using hx
      unfold upS
      simp; omega
    rw [h1, h2, List.append_nil]
  rw [e, List.length_range]

theorem both_grew (n m : Nat) : grewS n (fun _ => false) (upS m) = decide (0 < min n m) := by
  rw [Bool.eq_iff_iff, decide_eq_true_eq]
  unfold grewS upS
  rw [List.any_eq_true]
  constructor
  · rintro ⟨i, hi, h⟩
    have : i < n := by simpa using hi
    have : i < m := by simpa using h
    omega
  · intro h
    exact ⟨0, by simp; omega, by simp; omega⟩

theorem cut_same (n m : Nat) : sameS n n (fun i => (false || (upS m i && decide (i < n))) && upS m i) (fun i => (false || (upS m i && decide (i < n)))) = true := by
  unfold sameS
  simp only [decide_true, Bool.true_and, List.all_eq_true]
  intro i _
  cases upS m i <;> cases decide (i < n) <;> rfl

theorem rows_same (n m : Nat) : sameS n m (fun _ => false) (upS m) = (decide (n = 0) && decide (m = 0)) := by
  rw [Bool.eq_iff_iff]
  unfold sameS upS
  simp only [Bool.and_eq_true, decide_eq_true_eq, List.all_eq_true]
  constructor
  · rintro ⟨rfl, h⟩
    by_cases e : n = 0
    · exact ⟨e, e⟩
    · have := h 0 (by simp; omega)
      simp at this
      omega
  · rintro ⟨rfl, rfl⟩
    exact ⟨rfl, fun i hi => by simp at hi⟩

set_option maxHeartbeats 4000000 in
theorem lengths_le00 (n m : Nat) (w : World) (hn : n < 256) (hm : m < 256) (hnm : n ≤ m) (hn0 : n = 0) (hm0 : m = 0) (ht : Tab w) : Calls Tryd.prog 6 #[.int .u8 n, .int .u8 m] w fun e w' => e = .returned (.bool true) ∧ w.grownBy w' none := by
  have HT := Lib.hid ht
  have HMN := Lib.hid (show min n m = n by omega)
  have HG := Lib.hid (show decide (0 < min n m) = false by simp; omega)
  have HS := Lib.hid (show (decide (n = 0) && decide (m = 0)) = true by simp; omega)
  have hz1 : ((n : Int) == 0) = true := by simp; omega
  have hz6 : (n = 0) = True := by simp [hn0]
  have hz7 : decide (0 < n) = false := by simp; omega
  have hz2 : ((m : Int) == 0) = true := by simp; omega
  clear ht hn0 hm0
  go_enter Tryd.func6, Tryd.ntmps6
  go_wp2_with fail
  refine (known_c _ HT.out).mono ?_
  rintro e w1 ⟨rfl, hg⟩
  have hg1 := Lib.hid hg
  clear hg HT
  go_wp2_with fail
  refine (new_c n _).mono ?_
  rintro e w2 ⟨ba, wa, rfl, hba, hwa, ha2, hg⟩
  rw [clamp_nat n (by omega)] at ha2
  have hg2 := Lib.hid (grownBy_trans hg1.out hg)
  have hz1 := hg1.out.size
  clear hg hg1
  go_wp2_with fail
  refine (new_c m _).mono ?_
  rintro e w3 ⟨bb, wb, rfl, hbb, hwb, hb3, hg⟩
  rw [clamp_nat m (by omega)] at hb3
  have ha3 := ha2.grown hg (by simp) (by simp)
  have hg3 := Lib.hid (grownBy_trans hg2.out hg)
  have hl2 := ha2.lt
  have hz2 := hg2.out.size
  have hb3 := hb3.congr (fun j => (upS_zero j).symm)
  have HA3 := Lib.hid ha3
  have HB3 := Lib.hid hb3
  clear hg hg2 ha2 ha3 hb3
  go_wp2_with fail
  go_loopw [7] (fun i wr => ∃ k : Nat, k ≤ m ∧ i = .int .i64 k ∧ IsSet wr bb wb m (upS k) ∧ IsSet wr ba wa n (fun _ => false) ∧ w.grownBy wr none) (fun i _ => m - (intOf i).toNat)
  case atStart => exact ⟨0, Nat.zero_le _, rfl, HB3.out, HA3.out, hg3.out⟩
  case round =>
    obtain ⟨k, hk, rfl, hbr, har, hgr⟩ := hrel
    by_cases hkm : k < m
    · have HBR := Lib.hid hbr
      have HAR := Lib.hid har
      have HGR := Lib.hid hgr
      clear hbr har hgr
      go_wp2_with fail
      refine (put_c bb wb m k true _ _ HBR.out).mono ?_
      rintro e w5 ⟨⟨v5, rfl⟩, hb5, hg⟩
      have hb5 := hb5.congr (fun j => upS_put k m j hkm)
      have ha5 := HAR.out.grown hg (by simp; omega) (by simp; omega)
      have hg5 := grownBy_new HGR.out hg (by omega)
      go_wp2_with fail
      go_roundw
      case rel => exact ⟨k + 1, by omega, by go_num, hb5, ha5, hg5⟩
      case measure => simp [intOf]; omega
    · obtain rfl : k = m := by omega
      have HBR := Lib.hid hbr
      have HAR := Lib.hid har
      have HGR := Lib.hid hgr
      clear hbr har hgr
      go_wp2_with fail
      refine (copy_c ba wa n _ _ HAR.out).mono ?_
      rintro e w6 ⟨bc, wc, rfl, hbc, hwc, hc6, hg⟩
      have hb6 := HBR.out.grown hg (by simp) (by simp)
      have ha6 := HAR.out.grown hg (by simp) (by simp)
      have hg6 := Lib.hid (grownBy_trans HGR.out hg)
      have hlb := HBR.out.lt
      have hla := HAR.out.lt
      have hzr := HGR.out.size
      clear hg HBR HAR HGR
      go_wp2_with fail
      refine (or_c bc wc n k (some ⟨bb, 0, none⟩) _ (upS k) _ hc6 (.inr ⟨bb, wb, rfl, by omega, by omega, hb6⟩)).mono ?_
      rintro e w7 ⟨rfl, hc7, hg⟩
      rw [both_grew]
      have hb7 := hb6.grown hg (by simp; omega) (by simp; omega)
      have ha7 := ha6.grown hg (by simp; omega) (by simp; omega)
      have hg7 := Lib.hid (grownBy_new hg6.out hg (by omega))
      clear hg hg6 hb6 ha6 hc6
      rw [HG.out]
      go_wp2_with fail
      refine (copy_c bb wb k _ _ hb7).mono ?_
      rintro e w8 ⟨bd, wd, rfl, hbd, hwd, hd8, hg⟩
      have hb8 := hb7.grown hg (by simp) (by simp)
      have ha8 := ha7.grown hg (by simp) (by simp)
      have hc8 := hc7.grown hg (by simp) (by simp)
      have hg8 := Lib.hid (grownBy_trans hg7.out hg)
      have hl7a := ha7.lt
      have hl7b := hb7.lt
      have hl7c := hc7.lt
      have hz7 := hg7.out.size
      clear hg hg7 hb7 ha7 hc7
      go_wp2_with fail
      refine (and_c bd wd k n (some ⟨ba, 0, none⟩) _ (fun _ => false) _ hd8 (.inr ⟨ba, wa, rfl, by omega, by omega, ha8⟩)).mono ?_
      rintro e w9 ⟨⟨v9, rfl⟩, hd9, hg⟩
      have hb9 := hb8.grown hg (by simp; omega) (by simp; omega)
      have ha9 := ha8.grown hg (by simp; omega) (by simp; omega)
      have hc9 := hc8.grown hg (by simp; omega) (by simp; omega)
      have hg9 := Lib.hid (grownBy_new hg8.out hg (by omega))
      have hd9 : IsSet w9 bd wd k (fun _ => false) := hd9.congr (fun j => by cases upS k j <;> rfl)
      clear hg hg8 hb8 ha8 hc8 hd8
      go_wp2_with fail
      refine (copy_c bc wc n _ _ hc9).mono ?_
      rintro e w10 ⟨be, we, rfl, hbe, hwe, he10, hg⟩
      have hb10 := hb9.grown hg (by simp) (by simp)
      have ha10 := ha9.grown hg (by simp) (by simp)
      have hc10 := hc9.grown hg (by simp) (by simp)
      have hd10 := hd9.grown hg (by simp) (by simp)
      have hg10 := Lib.hid (grownBy_trans hg9.out hg)
      have hl9a := ha9.lt
      have hl9b := hb9.lt
      have hl9c := hc9.lt
      have hl9d := hd9.lt
      have hz9 := hg9.out.size
      clear hg hg9 hb9 ha9 hc9 hd9
      go_wp2_with fail
      refine (and_c be we n k (some ⟨bb, 0, none⟩) _ (upS k) _ he10 (.inr ⟨bb, wb, rfl, by omega, by omega, hb10⟩)).mono ?_
      rintro e w11 ⟨⟨v11, rfl⟩, he11, hg⟩
      have hb11 := hb10.grown hg (by simp; omega) (by simp; omega)
      have ha11 := ha10.grown hg (by simp; omega) (by simp; omega)
      have hc11 := hc10.grown hg (by simp; omega) (by simp; omega)
      have hd11 := hd10.grown hg (by simp; omega) (by simp; omega)
      have hg11 := Lib.hid (grownBy_new hg10.out hg (by omega))
      clear hg hg10 hb10 ha10 hc10 hd10 he10 hl7a hl7b hl7c hl9a hl9b hl9c hl9d hz7 hz9
      go_wp2_with fail
      refine (len_b bc wc n _ _ hc11).mono ?_
      rintro e w12 ⟨rfl, hg⟩
      have ha12 := ha11.grown hg (by simp) (by simp)
      have hb12 := hb11.grown hg (by simp) (by simp)
      have hc12 := hc11.grown hg (by simp) (by simp)
      have hd12 := hd11.grown hg (by simp) (by simp)
      have he12 := he11.grown hg (by simp) (by simp)
      have hg12 := Lib.hid (grownBy_trans hg11.out hg)
      clear hg hg11 ha11 hb11 hc11 hd11 he11
      go_wp2_with fail
      refine (count_b bc wc n n _ _ hc12 ((both_cnt n k).trans HMN.out)).mono ?_
      rintro e w13 ⟨rfl, hg⟩
      have ha13 := ha12.grown hg (by simp) (by simp)
      have hb13 := hb12.grown hg (by simp) (by simp)
      have hc13 := hc12.grown hg (by simp) (by simp)
      have hd13 := hd12.grown hg (by simp) (by simp)
      have he13 := he12.grown hg (by simp) (by simp)
      have hg13 := Lib.hid (grownBy_trans hg12.out hg)
      clear hg hg12 ha12 hb12 hc12 hd12 he12
      go_wp2_with fail
      refine (count_b bd wd k 0 _ _ hd13 (cnt_zero k)).mono ?_
      rintro e w14 ⟨rfl, hg⟩
      have ha14 := ha13.grown hg (by simp) (by simp)
      have hb14 := hb13.grown hg (by simp) (by simp)
      have hc14 := hc13.grown hg (by simp) (by simp)
      have hd14 := hd13.grown hg (by simp) (by simp)
      have he14 := he13.grown hg (by simp) (by simp)
      have hg14 := Lib.hid (grownBy_trans hg13.out hg)
      clear hg hg13 ha13 hb13 hc13 hd13 he13
      go_wp2_with fail
      refine (len_b bd wd k _ _ hd14).mono ?_
      rintro e w15 ⟨rfl, hg⟩
      have ha15 := ha14.grown hg (by simp) (by simp)
      have hb15 := hb14.grown hg (by simp) (by simp)
      have hc15 := hc14.grown hg (by simp) (by simp)
      have hd15 := hd14.grown hg (by simp) (by simp)
      have he15 := he14.grown hg (by simp) (by simp)
      have hg15 := Lib.hid (grownBy_trans hg14.out hg)
      clear hg hg14 ha14 hb14 hc14 hd14 he14
      go_wp2_with fail
      refine (same_b be we n bc wc n _ _ true _ he15 hc15 (cut_same n k)).mono ?_
      rintro e w16 ⟨rfl, hg⟩
      have ha16 := ha15.grown hg (by simp) (by simp)
      have hb16 := hb15.grown hg (by simp) (by simp)
      have hc16 := hc15.grown hg (by simp) (by simp)
      have hd16 := hd15.grown hg (by simp) (by simp)
      have he16 := he15.grown hg (by simp) (by simp)
      have hg16 := Lib.hid (grownBy_trans hg15.out hg)
      clear hg hg15 ha15 hb15 hc15 hd15 he15
      go_wp2_with fail
      refine (same_b ba wa n bb wb k _ _ true _ ha16 hb16 ((rows_same n k).trans HS.out)).mono ?_
      rintro e w17 ⟨rfl, hg⟩
      have hg17 := Lib.hid (grownBy_trans hg16.out hg)
      clear hg hg16 ha16 hb16 hc16 hd16 he16
      go_wp2
      go_ret
      exact ⟨rfl, hg17.out⟩
set_option maxHeartbeats 4000000 in
theorem lengths_le01 (n m : Nat) (w : World) (hn : n < 256) (hm : m < 256) (hnm : n ≤ m) (hn0 : n = 0) (hm0 : 0 < m) (ht : Tab w) : Calls Tryd.prog 6 #[.int .u8 n, .int .u8 m] w fun e w' => e = .returned (.bool true) ∧ w.grownBy w' none := by
  have HT := Lib.hid ht
  have HMN := Lib.hid (show min n m = n by omega)
  have HG := Lib.hid (show decide (0 < min n m) = false by simp; omega)
  have HS := Lib.hid (show (decide (n = 0) && decide (m = 0)) = false by simp; omega)
  have hz1 : ((n : Int) == 0) = true := by simp; omega
  have hz6 : (n = 0) = True := by simp [hn0]
  have hz7 : decide (0 < n) = false := by simp; omega
  have hz2 : ((m : Int) == 0) = false := by simp; omega
  clear ht hn0
  go_enter Tryd.func6, Tryd.ntmps6
  go_wp2_with fail
  refine (known_c _ HT.out).mono ?_
  rintro e w1 ⟨rfl, hg⟩
  have hg1 := Lib.hid hg
  clear hg HT
  go_wp2_with fail
  refine (new_c n _).mono ?_
  rintro e w2 ⟨ba, wa, rfl, hba, hwa, ha2, hg⟩
  rw [clamp_nat n (by omega)] at ha2
  have hg2 := Lib.hid (grownBy_trans hg1.out hg)
  have hz1 := hg1.out.size
  clear hg hg1
  go_wp2_with fail
  refine (new_c m _).mono ?_
  rintro e w3 ⟨bb, wb, rfl, hbb, hwb, hb3, hg⟩
  rw [clamp_nat m (by omega)] at hb3
  have ha3 := ha2.grown hg (by simp) (by simp)
  have hg3 := Lib.hid (grownBy_trans hg2.out hg)
  have hl2 := ha2.lt
  have hz2 := hg2.out.size
  have hb3 := hb3.congr (fun j => (upS_zero j).symm)
  have HA3 := Lib.hid ha3
  have HB3 := Lib.hid hb3
  clear hg hg2 ha2 ha3 hb3
  go_wp2_with fail
  go_loopw [7] (fun i wr => ∃ k : Nat, k ≤ m ∧ i = .int .i64 k ∧ IsSet wr bb wb m (upS k) ∧ IsSet wr ba wa n (fun _ => false) ∧ w.grownBy wr none) (fun i _ => m - (intOf i).toNat)
  case atStart => exact ⟨0, Nat.zero_le _, rfl, HB3.out, HA3.out, hg3.out⟩
  case round =>
    obtain ⟨k, hk, rfl, hbr, har, hgr⟩ := hrel
    by_cases hkm : k < m
    · have HBR := Lib.hid hbr
      have HAR := Lib.hid har
      have HGR := Lib.hid hgr
      clear hbr har hgr
      go_wp2_with fail
      refine (put_c bb wb m k true _ _ HBR.out).mono ?_
      rintro e w5 ⟨⟨v5, rfl⟩, hb5, hg⟩
      have hb5 := hb5.congr (fun j => upS_put k m j hkm)
      have ha5 := HAR.out.grown hg (by simp; omega) (by simp; omega)
      have hg5 := grownBy_new HGR.out hg (by omega)
      go_wp2_with fail
      go_roundw
      case rel => exact ⟨k + 1, by omega, by go_num, hb5, ha5, hg5⟩
      case measure => simp [intOf]; omega
    · obtain rfl : k = m := by omega
      have HBR := Lib.hid hbr
      have HAR := Lib.hid har
      have HGR := Lib.hid hgr
      clear hbr har hgr
      go_wp2_with fail
      refine (copy_c ba wa n _ _ HAR.out).mono ?_
      rintro e w6 ⟨bc, wc, rfl, hbc, hwc, hc6, hg⟩
      have hb6 := HBR.out.grown hg (by simp) (by simp)
      have ha6 := HAR.out.grown hg (by simp) (by simp)
      have hg6 := Lib.hid (grownBy_trans HGR.out hg)
      have hlb := HBR.out.lt
      have hla := HAR.out.lt
      have hzr := HGR.out.size
      clear hg HBR HAR HGR
      go_wp2_with fail
      refine (or_c bc wc n k (some ⟨bb, 0, none⟩) _ (upS k) _ hc6 (.inr ⟨bb, wb, rfl, by omega, by omega, hb6⟩)).mono ?_
      rintro e w7 ⟨rfl, hc7, hg⟩
      rw [both_grew]
      have hb7 := hb6.grown hg (by simp; omega) (by simp; omega)
      have ha7 := ha6.grown hg (by simp; omega) (by simp; omega)
      have hg7 := Lib.hid (grownBy_new hg6.out hg (by omega))
      clear hg hg6 hb6 ha6 hc6
      rw [HG.out]
      go_wp2_with fail
      refine (copy_c bb wb k _ _ hb7).mono ?_
      rintro e w8 ⟨bd, wd, rfl, hbd, hwd, hd8, hg⟩
      have hb8 := hb7.grown hg (by simp) (by simp)
      have ha8 := ha7.grown hg (by simp) (by simp)
      have hc8 := hc7.grown hg (by simp) (by simp)
      have hg8 := Lib.hid (grownBy_trans hg7.out hg)
      have hl7a := ha7.lt
      have hl7b := hb7.lt
      have hl7c := hc7.lt
      have hz7 := hg7.out.size
      clear hg hg7 hb7 ha7 hc7
      go_wp2_with fail
      refine (and_c bd wd k n (some ⟨ba, 0, none⟩) _ (fun _ => false) _ hd8 (.inr ⟨ba, wa, rfl, by omega, by omega, ha8⟩)).mono ?_
      rintro e w9 ⟨⟨v9, rfl⟩, hd9, hg⟩
      have hb9 := hb8.grown hg (by simp; omega) (by simp; omega)
      have ha9 := ha8.grown hg (by simp; omega) (by simp; omega)
      have hc9 := hc8.grown hg (by simp; omega) (by simp; omega)
      have hg9 := Lib.hid (grownBy_new hg8.out hg (by omega))
      have hd9 : IsSet w9 bd wd k (fun _ => false) := hd9.congr (fun j => by cases upS k j <;> rfl)
      clear hg hg8 hb8 ha8 hc8 hd8
      go_wp2_with fail
      refine (copy_c bc wc n _ _ hc9).mono ?_
      rintro e w10 ⟨be, we, rfl, hbe, hwe, he10, hg⟩
      have hb10 := hb9.grown hg (by simp) (by simp)
      have ha10 := ha9.grown hg (by simp) (by simp)
      have hc10 := hc9.grown hg (by simp) (by simp)
      have hd10 := hd9.grown hg (by simp) (by simp)
      have hg10 := Lib.hid (grownBy_trans hg9.out hg)
      have hl9a := ha9.lt
      have hl9b := hb9.lt
      have hl9c := hc9.lt
      have hl9d := hd9.lt
      have hz9 := hg9.out.size
      clear hg hg9 hb9 ha9 hc9 hd9
      go_wp2_with fail
      refine (and_c be we n k (some ⟨bb, 0, none⟩) _ (upS k) _ he10 (.inr ⟨bb, wb, rfl, by omega, by omega, hb10⟩)).mono ?_
      rintro e w11 ⟨⟨v11, rfl⟩, he11, hg⟩
      have hb11 := hb10.grown hg (by simp; omega) (by simp; omega)
      have ha11 := ha10.grown hg (by simp; omega) (by simp; omega)
      have hc11 := hc10.grown hg (by simp; omega) (by simp; omega)
      have hd11 := hd10.grown hg (by simp; omega) (by simp; omega)
      have hg11 := Lib.hid (grownBy_new hg10.out hg (by omega))
      clear hg hg10 hb10 ha10 hc10 hd10 he10 hl7a hl7b hl7c hl9a hl9b hl9c hl9d hz7 hz9
      go_wp2_with fail
      refine (len_b bc wc n _ _ hc11).mono ?_
      rintro e w12 ⟨rfl, hg⟩
      have ha12 := ha11.grown hg (by simp) (by simp)
      have hb12 := hb11.grown hg (by simp) (by simp)
      have hc12 := hc11.grown hg (by simp) (by simp)
      have hd12 := hd11.grown hg (by simp) (by simp)
      have he12 := he11.grown hg (by simp) (by simp)
      have hg12 := Lib.hid (grownBy_trans hg11.out hg)
      clear hg hg11 ha11 hb11 hc11 hd11 he11
      go_wp2_with fail
      refine (count_b bc wc n n _ _ hc12 ((both_cnt n k).trans HMN.out)).mono ?_
      rintro e w13 ⟨rfl, hg⟩
      have ha13 := ha12.grown hg (by simp) (by simp)
      have hb13 := hb12.grown hg (by simp) (by simp)
      have hc13 := hc12.grown hg (by simp) (by simp)
      have hd13 := hd12.grown hg (by simp) (by simp)
      have he13 := he12.grown hg (by simp) (by simp)
      have hg13 := Lib.hid (grownBy_trans hg12.out hg)
      clear hg hg12 ha12 hb12 hc12 hd12 he12
      go_wp2_with fail
      refine (count_b bd wd k 0 _ _ hd13 (cnt_zero k)).mono ?_
      rintro e w14 ⟨rfl, hg⟩
      have ha14 := ha13.grown hg (by simp) (by simp)
      have hb14 := hb13.grown hg (by simp) (by simp)
      have hc14 := hc13.grown hg (by simp) (by simp)
      have hd14 := hd13.grown hg (by simp) (by simp)
      have he14 := he13.grown hg (by simp) (by simp)
      have hg14 := Lib.hid (grownBy_trans hg13.out hg)
      clear hg hg13 ha13 hb13 hc13 hd13 he13
      go_wp2_with fail
      refine (len_b bd wd k _ _ hd14).mono ?_
      rintro e w15 ⟨rfl, hg⟩
      have ha15 := ha14.grown hg (by simp) (by simp)
      have hb15 := hb14.grown hg (by simp) (by simp)
      have hc15 := hc14.grown hg (by simp) (by simp)
      have hd15 := hd14.grown hg (by simp) (by simp)
      have he15 := he14.grown hg (by simp) (by simp)
      have hg15 := Lib.hid (grownBy_trans hg14.out hg)
      clear hg hg14 ha14 hb14 hc14 hd14 he14
      go_wp2_with fail
      refine (same_b be we n bc wc n _ _ true _ he15 hc15 (cut_same n k)).mono ?_
      rintro e w16 ⟨rfl, hg⟩
      have ha16 := ha15.grown hg (by simp) (by simp)
      have hb16 := hb15.grown hg (by simp) (by simp)
      have hc16 := hc15.grown hg (by simp) (by simp)
      have hd16 := hd15.grown hg (by simp) (by simp)
      have he16 := he15.grown hg (by simp) (by simp)
      have hg16 := Lib.hid (grownBy_trans hg15.out hg)
      clear hg hg15 ha15 hb15 hc15 hd15 he15
      go_wp2_with fail
      refine (same_b ba wa n bb wb k _ _ false _ ha16 hb16 ((rows_same n k).trans HS.out)).mono ?_
      rintro e w17 ⟨rfl, hg⟩
      have hg17 := Lib.hid (grownBy_trans hg16.out hg)
      clear hg hg16 ha16 hb16 hc16 hd16 he16
      go_wp2
      go_ret
      exact ⟨rfl, hg17.out⟩
set_option maxHeartbeats 4000000 in
theorem lengths_le1 (n m : Nat) (w : World) (hn : n < 256) (hm : m < 256) (hnm : n ≤ m) (hn0 : 0 < n) (ht : Tab w) : Calls Tryd.prog 6 #[.int .u8 n, .int .u8 m] w fun e w' => e = .returned (.bool true) ∧ w.grownBy w' none := by
  have HT := Lib.hid ht
  have HMN := Lib.hid (show min n m = n by omega)
  have HG := Lib.hid (show decide (0 < min n m) = true by simp; omega)
  have HS := Lib.hid (show (decide (n = 0) && decide (m = 0)) = false by simp; omega)
  have hz1 : ((n : Int) == 0) = false := by simp; omega
  clear ht
  go_enter Tryd.func6, Tryd.ntmps6
  go_wp2_with fail
  refine (known_c _ HT.out).mono ?_
  rintro e w1 ⟨rfl, hg⟩
  have hg1 := Lib.hid hg
  clear hg HT
  go_wp2_with fail
  refine (new_c n _).mono ?_
  rintro e w2 ⟨ba, wa, rfl, hba, hwa, ha2, hg⟩
  rw [clamp_nat n (by omega)] at ha2
  have hg2 := Lib.hid (grownBy_trans hg1.out hg)
  have hz1 := hg1.out.size
  clear hg hg1
  go_wp2_with fail
  refine (new_c m _).mono ?_
  rintro e w3 ⟨bb, wb, rfl, hbb, hwb, hb3, hg⟩
  rw [clamp_nat m (by omega)] at hb3
  have ha3 := ha2.grown hg (by simp) (by simp)
  have hg3 := Lib.hid (grownBy_trans hg2.out hg)
  have hl2 := ha2.lt
  have hz2 := hg2.out.size
  have hb3 := hb3.congr (fun j => (upS_zero j).symm)
  have HA3 := Lib.hid ha3
  have HB3 := Lib.hid hb3
  clear hg hg2 ha2 ha3 hb3
  go_wp2_with fail
  go_loopw [7] (fun i wr => ∃ k : Nat, k ≤ m ∧ i = .int .i64 k ∧ IsSet wr bb wb m (upS k) ∧ IsSet wr ba wa n (fun _ => false) ∧ w.grownBy wr none) (fun i _ => m - (intOf i).toNat)
  case atStart => exact ⟨0, Nat.zero_le _, rfl, HB3.out, HA3.out, hg3.out⟩
  case round =>
    obtain ⟨k, hk, rfl, hbr, har, hgr⟩ := hrel
    by_cases hkm : k < m
    · have HBR := Lib.hid hbr
      have HAR := Lib.hid har
      have HGR := Lib.hid hgr
      clear hbr har hgr
      go_wp2_with fail
      refine (put_c bb wb m k true _ _ HBR.out).mono ?_
      rintro e w5 ⟨⟨v5, rfl⟩, hb5, hg⟩
      have hb5 := hb5.congr (fun j => upS_put k m j hkm)
      have ha5 := HAR.out.grown hg (by simp; omega) (by simp; omega)
      have hg5 := grownBy_new HGR.out hg (by omega)
      go_wp2_with fail
      go_roundw
      case rel => exact ⟨k + 1, by omega, by go_num, hb5, ha5, hg5⟩
      case measure => simp [intOf]; omega
    · obtain rfl : k = m := by omega
      have HBR := Lib.hid hbr
      have HAR := Lib.hid har
      have HGR := Lib.hid hgr
      clear hbr har hgr
      go_wp2_with fail
      refine (copy_c ba wa n _ _ HAR.out).mono ?_
      rintro e w6 ⟨bc, wc, rfl, hbc, hwc, hc6, hg⟩
      have hb6 := HBR.out.grown hg (by simp) (by simp)
      have ha6 := HAR.out.grown hg (by simp) (by simp)
      have hg6 := Lib.hid (grownBy_trans HGR.out hg)
      have hlb := HBR.out.lt
      have hla := HAR.out.lt
      have hzr := HGR.out.size
      clear hg HBR HAR HGR
      go_wp2_with fail
      refine (or_c bc wc n k (some ⟨bb, 0, none⟩) _ (upS k) _ hc6 (.inr ⟨bb, wb, rfl, by omega, by omega, hb6⟩)).mono ?_
      rintro e w7 ⟨rfl, hc7, hg⟩
      rw [both_grew]
      have hb7 := hb6.grown hg (by simp; omega) (by simp; omega)
      have ha7 := ha6.grown hg (by simp; omega) (by simp; omega)
      have hg7 := Lib.hid (grownBy_new hg6.out hg (by omega))
      clear hg hg6 hb6 ha6 hc6
      rw [HG.out]
      go_wp2_with fail
      refine (copy_c bb wb k _ _ hb7).mono ?_
      rintro e w8 ⟨bd, wd, rfl, hbd, hwd, hd8, hg⟩
      have hb8 := hb7.grown hg (by simp) (by simp)
      have ha8 := ha7.grown hg (by simp) (by simp)
      have hc8 := hc7.grown hg (by simp) (by simp)
      have hg8 := Lib.hid (grownBy_trans hg7.out hg)
      have hl7a := ha7.lt
      have hl7b := hb7.lt
      have hl7c := hc7.lt
      have hz7 := hg7.out.size
      clear hg hg7 hb7 ha7 hc7
      go_wp2_with fail
      refine (and_c bd wd k n (some ⟨ba, 0, none⟩) _ (fun _ => false) _ hd8 (.inr ⟨ba, wa, rfl, by omega, by omega, ha8⟩)).mono ?_
      rintro e w9 ⟨⟨v9, rfl⟩, hd9, hg⟩
      have hb9 := hb8.grown hg (by simp; omega) (by simp; omega)
      have ha9 := ha8.grown hg (by simp; omega) (by simp; omega)
      have hc9 := hc8.grown hg (by simp; omega) (by simp; omega)
      have hg9 := Lib.hid (grownBy_new hg8.out hg (by omega))
      have hd9 : IsSet w9 bd wd k (fun _ => false) := hd9.congr (fun j => by cases upS k j <;> rfl)
      clear hg hg8 hb8 ha8 hc8 hd8
      go_wp2_with fail
      refine (copy_c bc wc n _ _ hc9).mono ?_
      rintro e w10 ⟨be, we, rfl, hbe, hwe, he10, hg⟩
      have hb10 := hb9.grown hg (by simp) (by simp)
      have ha10 := ha9.grown hg (by simp) (by simp)
      have hc10 := hc9.grown hg (by simp) (by simp)
      have hd10 := hd9.grown hg (by simp) (by simp)
      have hg10 := Lib.hid (grownBy_trans hg9.out hg)
      have hl9a := ha9.lt
      have hl9b := hb9.lt
      have hl9c := hc9.lt
      have hl9d := hd9.lt
      have hz9 := hg9.out.size
      clear hg hg9 hb9 ha9 hc9 hd9
      go_wp2_with fail
      refine (and_c be we n k (some ⟨bb, 0, none⟩) _ (upS k) _ he10 (.inr ⟨bb, wb, rfl, by omega, by omega, hb10⟩)).mono ?_
      rintro e w11 ⟨⟨v11, rfl⟩, he11, hg⟩
      have hb11 := hb10.grown hg (by simp; omega) (by simp; omega)
      have ha11 := ha10.grown hg (by simp; omega) (by simp; omega)
      have hc11 := hc10.grown hg (by simp; omega) (by simp; omega)
      have hd11 := hd10.grown hg (by simp; omega) (by simp; omega)
      have hg11 := Lib.hid (grownBy_new hg10.out hg (by omega))
      clear hg hg10 hb10 ha10 hc10 hd10 he10 hl7a hl7b hl7c hl9a hl9b hl9c hl9d hz7 hz9
      go_wp2_with fail
      refine (len_b bc wc n _ _ hc11).mono ?_
      rintro e w12 ⟨rfl, hg⟩
      have ha12 := ha11.grown hg (by simp) (by simp)
      have hb12 := hb11.grown hg (by simp) (by simp)
      have hc12 := hc11.grown hg (by simp) (by simp)
      have hd12 := hd11.grown hg (by simp) (by simp)
      have he12 := he11.grown hg (by simp) (by simp)
      have hg12 := Lib.hid (grownBy_trans hg11.out hg)
      clear hg hg11 ha11 hb11 hc11 hd11 he11
      go_wp2_with fail
      refine (count_b bc wc n n _ _ hc12 ((both_cnt n k).trans HMN.out)).mono ?_
      rintro e w13 ⟨rfl, hg⟩
      have ha13 := ha12.grown hg (by simp) (by simp)
      have hb13 := hb12.grown hg (by simp) (by simp)
      have hc13 := hc12.grown hg (by simp) (by simp)
      have hd13 := hd12.grown hg (by simp) (by simp)
      have he13 := he12.grown hg (by simp) (by simp)
      have hg13 := Lib.hid (grownBy_trans hg12.out hg)
      clear hg hg12 ha12 hb12 hc12 hd12 he12
      go_wp2_with fail
      refine (count_b bd wd k 0 _ _ hd13 (cnt_zero k)).mono ?_
      rintro e w14 ⟨rfl, hg⟩
      have ha14 := ha13.grown hg (by simp) (by simp)
      have hb14 := hb13.grown hg (by simp) (by simp)
      have hc14 := hc13.grown hg (by simp) (by simp)
      have hd14 := hd13.grown hg (by simp) (by simp)
      have he14 := he13.grown hg (by simp) (by simp)
      have hg14 := Lib.hid (grownBy_trans hg13.out hg)
      clear hg hg13 ha13 hb13 hc13 hd13 he13
      go_wp2_with fail
      refine (len_b bd wd k _ _ hd14).mono ?_
      rintro e w15 ⟨rfl, hg⟩
      have ha15 := ha14.grown hg (by simp) (by simp)
      have hb15 := hb14.grown hg (by simp) (by simp)
      have hc15 := hc14.grown hg (by simp) (by simp)
      have hd15 := hd14.grown hg (by simp) (by simp)
      have he15 := he14.grown hg (by simp) (by simp)
      have hg15 := Lib.hid (grownBy_trans hg14.out hg)
      clear hg hg14 ha14 hb14 hc14 hd14 he14
      go_wp2_with fail
      refine (same_b be we n bc wc n _ _ true _ he15 hc15 (cut_same n k)).mono ?_
      rintro e w16 ⟨rfl, hg⟩
      have ha16 := ha15.grown hg (by simp) (by simp)
      have hb16 := hb15.grown hg (by simp) (by simp)
      have hc16 := hc15.grown hg (by simp) (by simp)
      have hd16 := hd15.grown hg (by simp) (by simp)
      have he16 := he15.grown hg (by simp) (by simp)
      have hg16 := Lib.hid (grownBy_trans hg15.out hg)
      clear hg hg15 ha15 hb15 hc15 hd15 he15
      go_wp2_with fail
      refine (same_b ba wa n bb wb k _ _ false _ ha16 hb16 ((rows_same n k).trans HS.out)).mono ?_
      rintro e w17 ⟨rfl, hg⟩
      have hg17 := Lib.hid (grownBy_trans hg16.out hg)
      clear hg hg16 ha16 hb16 hc16 hd16 he16
      go_wp2
      go_ret
      exact ⟨rfl, hg17.out⟩
set_option maxHeartbeats 4000000 in
theorem lengths_lt0 (n m : Nat) (w : World) (hn : n < 256) (hm : m < 256) (hnm : m < n) (hm0 : m = 0) (ht : Tab w) : Calls Tryd.prog 6 #[.int .u8 n, .int .u8 m] w fun e w' => e = .returned (.bool true) ∧ w.grownBy w' none := by
  have HT := Lib.hid ht
  have HMN := Lib.hid (show min n m = m by omega)
  have HG := Lib.hid (show decide (0 < min n m) = false by simp; omega)
  have HS := Lib.hid (show (decide (n = 0) && decide (m = 0)) = false by simp; omega)
  have hz1 : ((n : Int) == 0) = false := by simp; omega
  have hz6 : (m = 0) = True := by simp [hm0]
  have hz7 : decide (0 < m) = false := by simp; omega
  clear ht hm0
  go_enter Tryd.func6, Tryd.ntmps6
  go_wp2_with fail
  refine (known_c _ HT.out).mono ?_
  rintro e w1 ⟨rfl, hg⟩
  have hg1 := Lib.hid hg
  clear hg HT
  go_wp2_with fail
  refine (new_c n _).mono ?_
  rintro e w2 ⟨ba, wa, rfl, hba, hwa, ha2, hg⟩
  rw [clamp_nat n (by omega)] at ha2
  have hg2 := Lib.hid (grownBy_trans hg1.out hg)
  have hz1 := hg1.out.size
  clear hg hg1
  go_wp2_with fail
  refine (new_c m _).mono ?_
  rintro e w3 ⟨bb, wb, rfl, hbb, hwb, hb3, hg⟩
  rw [clamp_nat m (by omega)] at hb3
  have ha3 := ha2.grown hg (by simp) (by simp)
  have hg3 := Lib.hid (grownBy_trans hg2.out hg)
  have hl2 := ha2.lt
  have hz2 := hg2.out.size
  have hb3 := hb3.congr (fun j => (upS_zero j).symm)
  have HA3 := Lib.hid ha3
  have HB3 := Lib.hid hb3
  clear hg hg2 ha2 ha3 hb3
  go_wp2_with fail
  go_loopw [7] (fun i wr => ∃ k : Nat, k ≤ m ∧ i = .int .i64 k ∧ IsSet wr bb wb m (upS k) ∧ IsSet wr ba wa n (fun _ => false) ∧ w.grownBy wr none) (fun i _ => m - (intOf i).toNat)
  case atStart => exact ⟨0, Nat.zero_le _, rfl, HB3.out, HA3.out, hg3.out⟩
  case round =>
    obtain ⟨k, hk, rfl, hbr, har, hgr⟩ := hrel
    by_cases hkm : k < m
    · have HBR := Lib.hid hbr
      have HAR := Lib.hid har
      have HGR := Lib.hid hgr
      clear hbr har hgr
      go_wp2_with fail
      refine (put_c bb wb m k true _ _ HBR.out).mono ?_
      rintro e w5 ⟨⟨v5, rfl⟩, hb5, hg⟩
      have hb5 := hb5.congr (fun j => upS_put k m j hkm)
      have ha5 := HAR.out.grown hg (by simp; omega) (by simp; omega)
      have hg5 := grownBy_new HGR.out hg (by omega)
      go_wp2_with fail
      go_roundw
      case rel => exact ⟨k + 1, by omega, by go_num, hb5, ha5, hg5⟩
      case measure => simp [intOf]; omega
    · obtain rfl : k = m := by omega
      have HBR := Lib.hid hbr
      have HAR := Lib.hid har
      have HGR := Lib.hid hgr
      clear hbr har hgr
      go_wp2_with fail
      refine (copy_c ba wa n _ _ HAR.out).mono ?_
      rintro e w6 ⟨bc, wc, rfl, hbc, hwc, hc6, hg⟩
      have hb6 := HBR.out.grown hg (by simp) (by simp)
      have ha6 := HAR.out.grown hg (by simp) (by simp)
      have hg6 := Lib.hid (grownBy_trans HGR.out hg)
      have hlb := HBR.out.lt
      have hla := HAR.out.lt
      have hzr := HGR.out.size
      clear hg HBR HAR HGR
      go_wp2_with fail
      refine (or_c bc wc n k (some ⟨bb, 0, none⟩) _ (upS k) _ hc6 (.inr ⟨bb, wb, rfl, by omega, by omega, hb6⟩)).mono ?_
      rintro e w7 ⟨rfl, hc7, hg⟩
      rw [both_grew]
      have hb7 := hb6.grown hg (by simp; omega) (by simp; omega)
      have ha7 := ha6.grown hg (by simp; omega) (by simp; omega)
      have hg7 := Lib.hid (grownBy_new hg6.out hg (by omega))
      clear hg hg6 hb6 ha6 hc6
      rw [HG.out]
      go_wp2_with fail
      refine (copy_c bb wb k _ _ hb7).mono ?_
      rintro e w8 ⟨bd, wd, rfl, hbd, hwd, hd8, hg⟩
      have hb8 := hb7.grown hg (by simp) (by simp)
      have ha8 := ha7.grown hg (by simp) (by simp)
      have hc8 := hc7.grown hg (by simp) (by simp)
      have hg8 := Lib.hid (grownBy_trans hg7.out hg)
      have hl7a := ha7.lt
      have hl7b := hb7.lt
      have hl7c := hc7.lt
      have hz7 := hg7.out.size
      clear hg hg7 hb7 ha7 hc7
      go_wp2_with fail
      refine (and_c bd wd k n (some ⟨ba, 0, none⟩) _ (fun _ => false) _ hd8 (.inr ⟨ba, wa, rfl, by omega, by omega, ha8⟩)).mono ?_
      rintro e w9 ⟨⟨v9, rfl⟩, hd9, hg⟩
      have hb9 := hb8.grown hg (by simp; omega) (by simp; omega)
      have ha9 := ha8.grown hg (by simp; omega) (by simp; omega)
      have hc9 := hc8.grown hg (by simp; omega) (by simp; omega)
      have hg9 := Lib.hid (grownBy_new hg8.out hg (by omega))
      have hd9 : IsSet w9 bd wd k (fun _ => false) := hd9.congr (fun j => by cases upS k j <;> rfl)
      clear hg hg8 hb8 ha8 hc8 hd8
      go_wp2_with fail
      refine (copy_c bc wc n _ _ hc9).mono ?_
      rintro e w10 ⟨be, we, rfl, hbe, hwe, he10, hg⟩
      have hb10 := hb9.grown hg (by simp) (by simp)
      have ha10 := ha9.grown hg (by simp) (by simp)
      have hc10 := hc9.grown hg (by simp) (by simp)
      have hd10 := hd9.grown hg (by simp) (by simp)
      have hg10 := Lib.hid (grownBy_trans hg9.out hg)
      have hl9a := ha9.lt
      have hl9b := hb9.lt
      have hl9c := hc9.lt
      have hl9d := hd9.lt
      have hz9 := hg9.out.size
      clear hg hg9 hb9 ha9 hc9 hd9
      go_wp2_with fail
      refine (and_c be we n k (some ⟨bb, 0, none⟩) _ (upS k) _ he10 (.inr ⟨bb, wb, rfl, by omega, by omega, hb10⟩)).mono ?_
      rintro e w11 ⟨⟨v11, rfl⟩, he11, hg⟩
      have hb11 := hb10.grown hg (by simp; omega) (by simp; omega)
      have ha11 := ha10.grown hg (by simp; omega) (by simp; omega)
      have hc11 := hc10.grown hg (by simp; omega) (by simp; omega)
      have hd11 := hd10.grown hg (by simp; omega) (by simp; omega)
      have hg11 := Lib.hid (grownBy_new hg10.out hg (by omega))
      clear hg hg10 hb10 ha10 hc10 hd10 he10 hl7a hl7b hl7c hl9a hl9b hl9c hl9d hz7 hz9
      go_wp2_with fail
      refine (len_b bc wc n _ _ hc11).mono ?_
      rintro e w12 ⟨rfl, hg⟩
      have ha12 := ha11.grown hg (by simp) (by simp)
      have hb12 := hb11.grown hg (by simp) (by simp)
      have hc12 := hc11.grown hg (by simp) (by simp)
      have hd12 := hd11.grown hg (by simp) (by simp)
      have he12 := he11.grown hg (by simp) (by simp)
      have hg12 := Lib.hid (grownBy_trans hg11.out hg)
      clear hg hg11 ha11 hb11 hc11 hd11 he11
      go_wp2_with fail
      refine (count_b bc wc n k _ _ hc12 ((both_cnt n k).trans HMN.out)).mono ?_
      rintro e w13 ⟨rfl, hg⟩
      have ha13 := ha12.grown hg (by simp) (by simp)
      have hb13 := hb12.grown hg (by simp) (by simp)
      have hc13 := hc12.grown hg (by simp) (by simp)
      have hd13 := hd12.grown hg (by simp) (by simp)
      have he13 := he12.grown hg (by simp) (by simp)
      have hg13 := Lib.hid (grownBy_trans hg12.out hg)
      clear hg hg12 ha12 hb12 hc12 hd12 he12
      go_wp2_with fail
      refine (count_b bd wd k 0 _ _ hd13 (cnt_zero k)).mono ?_
      rintro e w14 ⟨rfl, hg⟩
      have ha14 := ha13.grown hg (by simp) (by simp)
      have hb14 := hb13.grown hg (by simp) (by simp)
      have hc14 := hc13.grown hg (by simp) (by simp)
      have hd14 := hd13.grown hg (by simp) (by simp)
      have he14 := he13.grown hg (by simp) (by simp)
      have hg14 := Lib.hid (grownBy_trans hg13.out hg)
      clear hg hg13 ha13 hb13 hc13 hd13 he13
      go_wp2_with fail
      refine (len_b bd wd k _ _ hd14).mono ?_
      rintro e w15 ⟨rfl, hg⟩
      have ha15 := ha14.grown hg (by simp) (by simp)
      have hb15 := hb14.grown hg (by simp) (by simp)
      have hc15 := hc14.grown hg (by simp) (by simp)
      have hd15 := hd14.grown hg (by simp) (by simp)
      have he15 := he14.grown hg (by simp) (by simp)
      have hg15 := Lib.hid (grownBy_trans hg14.out hg)
      clear hg hg14 ha14 hb14 hc14 hd14 he14
      go_wp2_with fail
      refine (same_b be we n bc wc n _ _ true _ he15 hc15 (cut_same n k)).mono ?_
      rintro e w16 ⟨rfl, hg⟩
      have ha16 := ha15.grown hg (by simp) (by simp)
      have hb16 := hb15.grown hg (by simp) (by simp)
      have hc16 := hc15.grown hg (by simp) (by simp)
      have hd16 := hd15.grown hg (by simp) (by simp)
      have he16 := he15.grown hg (by simp) (by simp)
      have hg16 := Lib.hid (grownBy_trans hg15.out hg)
      clear hg hg15 ha15 hb15 hc15 hd15 he15
      go_wp2_with fail
      refine (same_b ba wa n bb wb k _ _ false _ ha16 hb16 ((rows_same n k).trans HS.out)).mono ?_
      rintro e w17 ⟨rfl, hg⟩
      have hg17 := Lib.hid (grownBy_trans hg16.out hg)
      clear hg hg16 ha16 hb16 hc16 hd16 he16
      go_wp2
      go_ret
      exact ⟨rfl, hg17.out⟩
set_option maxHeartbeats 4000000 in
theorem lengths_lt1 (n m : Nat) (w : World) (hn : n < 256) (hm : m < 256) (hnm : m < n) (hm0 : 0 < m) (ht : Tab w) : Calls Tryd.prog 6 #[.int .u8 n, .int .u8 m] w fun e w' => e = .returned (.bool true) ∧ w.grownBy w' none := by
  have HT := Lib.hid ht
  have HMN := Lib.hid (show min n m = m by omega)
  have HG := Lib.hid (show decide (0 < min n m) = true by simp; omega)
  have HS := Lib.hid (show (decide (n = 0) && decide (m = 0)) = false by simp; omega)
  have hz1 : ((n : Int) == 0) = false := by simp; omega
  clear ht
  go_enter Tryd.func6, Tryd.ntmps6
  go_wp2_with fail
  refine (known_c _ HT.out).mono ?_
  rintro e w1 ⟨rfl, hg⟩
  have hg1 := Lib.hid hg
  clear hg HT
  go_wp2_with fail
  refine (new_c n _).mono ?_
  rintro e w2 ⟨ba, wa, rfl, hba, hwa, ha2, hg⟩
  rw [clamp_nat n (by omega)] at ha2
  have hg2 := Lib.hid (grownBy_trans hg1.out hg)
  have hz1 := hg1.out.size
  clear hg hg1
  go_wp2_with fail
  refine (new_c m _).mono ?_
  rintro e w3 ⟨bb, wb, rfl, hbb, hwb, hb3, hg⟩
  rw [clamp_nat m (by omega)] at hb3
  have ha3 := ha2.grown hg (by simp) (by simp)
  have hg3 := Lib.hid (grownBy_trans hg2.out hg)
  have hl2 := ha2.lt
  have hz2 := hg2.out.size
  have hb3 := hb3.congr (fun j => (upS_zero j).symm)
  have HA3 := Lib.hid ha3
  have HB3 := Lib.hid hb3
  clear hg hg2 ha2 ha3 hb3
  go_wp2_with fail
  go_loopw [7] (fun i wr => ∃ k : Nat, k ≤ m ∧ i = .int .i64 k ∧ IsSet wr bb wb m (upS k) ∧ IsSet wr ba wa n (fun _ => false) ∧ w.grownBy wr none) (fun i _ => m - (intOf i).toNat)
  case atStart => exact ⟨0, Nat.zero_le _, rfl, HB3.out, HA3.out, hg3.out⟩
  case round =>
    obtain ⟨k, hk, rfl, hbr, har, hgr⟩ := hrel
    by_cases hkm : k < m
    · have HBR := Lib.hid hbr
      have HAR := Lib.hid har
      have HGR := Lib.hid hgr
      clear hbr har hgr
      go_wp2_with fail
      refine (put_c bb wb m k true _ _ HBR.out).mono ?_
      rintro e w5 ⟨⟨v5, rfl⟩, hb5, hg⟩
      have hb5 := hb5.congr (fun j => upS_put k m j hkm)
      have ha5 := HAR.out.grown hg (by simp; omega) (by simp; omega)
      have hg5 := grownBy_new HGR.out hg (by omega)
      go_wp2_with fail
      go_roundw
      case rel => exact ⟨k + 1, by omega, by go_num, hb5, ha5, hg5⟩
      case measure => simp [intOf]; omega
    · obtain rfl : k = m := by omega
      have HBR := Lib.hid hbr
      have HAR := Lib.hid har
      have HGR := Lib.hid hgr
      clear hbr har hgr
      go_wp2_with fail
      refine (copy_c ba wa n _ _ HAR.out).mono ?_
      rintro e w6 ⟨bc, wc, rfl, hbc, hwc, hc6, hg⟩
      have hb6 := HBR.out.grown hg (by simp) (by simp)
      have ha6 := HAR.out.grown hg (by simp) (by simp)
      have hg6 := Lib.hid (grownBy_trans HGR.out hg)
      have hlb := HBR.out.lt
      have hla := HAR.out.lt
      have hzr := HGR.out.size
      clear hg HBR HAR HGR
      go_wp2_with fail
      refine (or_c bc wc n k (some ⟨bb, 0, none⟩) _ (upS k) _ hc6 (.inr ⟨bb, wb, rfl, by omega, by omega, hb6⟩)).mono ?_
      rintro e w7 ⟨rfl, hc7, hg⟩
      rw [both_grew]
      have hb7 := hb6.grown hg (by simp; omega) (by simp; omega)
      have ha7 := ha6.grown hg (by simp; omega) (by simp; omega)
      have hg7 := Lib.hid (grownBy_new hg6.out hg (by omega))
      clear hg hg6 hb6 ha6 hc6
      rw [HG.out]
      go_wp2_with fail
      refine (copy_c bb wb k _ _ hb7).mono ?_
      rintro e w8 ⟨bd, wd, rfl, hbd, hwd, hd8, hg⟩
      have hb8 := hb7.grown hg (by simp) (by simp)
      have ha8 := ha7.grown hg (by simp) (by simp)
      have hc8 := hc7.grown hg (by simp) (by simp)
      have hg8 := Lib.hid (grownBy_trans hg7.out hg)
      have hl7a := ha7.lt
      have hl7b := hb7.lt
      have hl7c := hc7.lt
      have hz7 := hg7.out.size
      clear hg hg7 hb7 ha7 hc7
      go_wp2_with fail
      refine (and_c bd wd k n (some ⟨ba, 0, none⟩) _ (fun _ => false) _ hd8 (.inr ⟨ba, wa, rfl, by omega, by omega, ha8⟩)).mono ?_
      rintro e w9 ⟨⟨v9, rfl⟩, hd9, hg⟩
      have hb9 := hb8.grown hg (by simp; omega) (by simp; omega)
      have ha9 := ha8.grown hg (by simp; omega) (by simp; omega)
      have hc9 := hc8.grown hg (by simp; omega) (by simp; omega)
      have hg9 := Lib.hid (grownBy_new hg8.out hg (by omega))
      have hd9 : IsSet w9 bd wd k (fun _ => false) := hd9.congr (fun j => by cases upS k j <;> rfl)
      clear hg hg8 hb8 ha8 hc8 hd8
      go_wp2_with fail
      refine (copy_c bc wc n _ _ hc9).mono ?_
      rintro e w10 ⟨be, we, rfl, hbe, hwe, he10, hg⟩
      have hb10 := hb9.grown hg (by simp) (by simp)
      have ha10 := ha9.grown hg (by simp) (by simp)
      have hc10 := hc9.grown hg (by simp) (by simp)
      have hd10 := hd9.grown hg (by simp) (by simp)
      have hg10 := Lib.hid (grownBy_trans hg9.out hg)
      have hl9a := ha9.lt
      have hl9b := hb9.lt
      have hl9c := hc9.lt
      have hl9d := hd9.lt
      have hz9 := hg9.out.size
      clear hg hg9 hb9 ha9 hc9 hd9
      go_wp2_with fail
      refine (and_c be we n k (some ⟨bb, 0, none⟩) _ (upS k) _ he10 (.inr ⟨bb, wb, rfl, by omega, by omega, hb10⟩)).mono ?_
      rintro e w11 ⟨⟨v11, rfl⟩, he11, hg⟩
      have hb11 := hb10.grown hg (by simp; omega) (by simp; omega)
      have ha11 := ha10.grown hg (by simp; omega) (by simp; omega)
      have hc11 := hc10.grown hg (by simp; omega) (by simp; omega)
      have hd11 := hd10.grown hg (by simp; omega) (by simp; omega)
      have hg11 := Lib.hid (grownBy_new hg10.out hg (by omega))
      clear hg hg10 hb10 ha10 hc10 hd10 he10 hl7a hl7b hl7c hl9a hl9b hl9c hl9d hz7 hz9
      go_wp2_with fail
      refine (len_b bc wc n _ _ hc11).mono ?_
      rintro e w12 ⟨rfl, hg⟩
      have ha12 := ha11.grown hg (by simp) (by simp)
      have hb12 := hb11.grown hg (by simp) (by simp)
      have hc12 := hc11.grown hg (by simp) (by simp)
      have hd12 := hd11.grown hg (by simp) (by simp)
      have he12 := he11.grown hg (by simp) (by simp)
      have hg12 := Lib.hid (grownBy_trans hg11.out hg)
      clear hg hg11 ha11 hb11 hc11 hd11 he11
      go_wp2_with fail
      refine (count_b bc wc n k _ _ hc12 ((both_cnt n k).trans HMN.out)).mono ?_
      rintro e w13 ⟨rfl, hg⟩
      have ha13 := ha12.grown hg (by simp) (by simp)
      have hb13 := hb12.grown hg (by simp) (by simp)
      have hc13 := hc12.grown hg (by simp) (by simp)
      have hd13 := hd12.grown hg (by simp) (by simp)
      have he13 := he12.grown hg (by simp) (by simp)
      have hg13 := Lib.hid (grownBy_trans hg12.out hg)
      clear hg hg12 ha12 hb12 hc12 hd12 he12
      go_wp2_with fail
      refine (count_b bd wd k 0 _ _ hd13 (cnt_zero k)).mono ?_
      rintro e w14 ⟨rfl, hg⟩
      have ha14 := ha13.grown hg (by simp) (by simp)
      have hb14 := hb13.grown hg (by simp) (by simp)
      have hc14 := hc13.grown hg (by simp) (by simp)
      have hd14 := hd13.grown hg (by simp) (by simp)
      have he14 := he13.grown hg (by simp) (by simp)
      have hg14 := Lib.hid (grownBy_trans hg13.out hg)
      clear hg hg13 ha13 hb13 hc13 hd13 he13
      go_wp2_with fail
      refine (len_b bd wd k _ _ hd14).mono ?_
      rintro e w15 ⟨rfl, hg⟩
      have ha15 := ha14.grown hg (by simp) (by simp)
      have hb15 := hb14.grown hg (by simp) (by simp)
      have hc15 := hc14.grown hg (by simp) (by simp)
      have hd15 := hd14.grown hg (by simp) (by simp)
      have he15 := he14.grown hg (by simp) (by simp)
      have hg15 := Lib.hid (grownBy_trans hg14.out hg)
      clear hg hg14 ha14 hb14 hc14 hd14 he14
      go_wp2_with fail
      refine (same_b be we n bc wc n _ _ true _ he15 hc15 (cut_same n k)).mono ?_
      rintro e w16 ⟨rfl, hg⟩
      have ha16 := ha15.grown hg (by simp) (by simp)
      have hb16 := hb15.grown hg (by simp) (by simp)
      have hc16 := hc15.grown hg (by simp) (by simp)
      have hd16 := hd15.grown hg (by simp) (by simp)
      have he16 := he15.grown hg (by simp) (by simp)
      have hg16 := Lib.hid (grownBy_trans hg15.out hg)
      clear hg hg15 ha15 hb15 hc15 hd15 he15
      go_wp2_with fail
      refine (same_b ba wa n bb wb k _ _ false _ ha16 hb16 ((rows_same n k).trans HS.out)).mono ?_
      rintro e w17 ⟨rfl, hg⟩
      have hg17 := Lib.hid (grownBy_trans hg16.out hg)
      clear hg hg16 ha16 hb16 hc16 hd16 he16
      go_wp2
      go_ret
      exact ⟨rfl, hg17.out⟩

theorem lengths_law (n m : Nat) (w : World) (hn : n < 256) (hm : m < 256) (ht : Tab w) : Calls Tryd.prog 6 #[.int .u8 n, .int .u8 m] w fun e w' => e = .returned (.bool true) ∧ w.grownBy w' none := by
  by_cases h : n ≤ m
  · by_cases h0 : n = 0
    · by_cases h1 : m = 0
      · exact lengths_le00 n m w hn hm h h0 h1 ht
      · exact lengths_le01 n m w hn hm h h0 (by omega) ht
    · exact lengths_le1 n m w hn hm h (by omega) ht
  · by_cases h1 : m = 0
    · exact lengths_lt0 n m w hn hm (by omega) h1 ht
    · exact lengths_lt1 n m w hn hm (by omega) (by omega) ht

end Go.Proofs.YtnbigkknabdnjaaDoor
