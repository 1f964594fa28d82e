/- Package split: the contracts of Join and Is. -/
import Derived.Test.YtgmdkghggomloaaSplA
namespace Go.Proofs.Ytgmdkghggomloaa
open Go.RowKit Go.Shelf

theorem sjoin_c (p : Option Addr) (n c lo hi : Nat) (L : List ByteArray) (j : ByteArray) (w : World) (h : StrsAt w lo hi p n L) (hcap : n ≤ c) (hn : n ≤ 1000000) (hj : joinS L = j) (hl : j.size ≤ 1000000) :
    Calls Try.prog 18 #[.slice p n c, .string .empty] w fun e w' => e = .returned (.string j) ∧ w.grownBy w' none := by
  rcases Nat.eq_zero_or_pos n with rfl | h0
  · have hL : L = [] := List.eq_nil_of_length_eq_zero h.len
    subst hL
    subst hj
    exact (Try.strings_Join_none p c .empty w).mono fun e w' ⟨he, hw⟩ => ⟨he, hw ▸ grownBy_refl _ _⟩
  · obtain ⟨b, off, rfl, q1, q2, q3, hc⟩ := h.cell h0
    obtain rfl := h.len
    have hjl : Lib.join (L.map (·.data.toList)) (ByteArray.empty.data.toList) = bl j := by
      rw [← hj]
      exact join_empty _
    have hsz := bl_size j
    have := Try.strings_Join b off c L .empty w (fun k x hx => by
        have hk : k < L.length := (List.getElem?_eq_some_iff.1 hx).1
        have := hc k hk
        rw [hx] at this
        exact this) (by omega) (by omega) hcap (by rw [hjl, hsz]; omega)
    rw [hjl] at this
    exact this.mono fun e w' ⟨he, hw⟩ => ⟨by rw [he]; exact congrArg (fun x => Ending.returned (Value.string x)) (mk_bl j), below_grownBy hw⟩

theorem splitJoin_c (p : Option Addr) (n c lo hi : Nat) (L : List ByteArray) (j : ByteArray) (w : World) (h : StrsAt w lo hi p n L) (hcap : n ≤ c) (hn : n ≤ 1000000) (hj : joinS L = j) (hl : j.size ≤ 1000000) :
    Calls Try.prog 15 #[.slice p n c] w fun e w' => e = .returned (.string j) ∧ w.grownBy w' none := by
  have H := Lib.hid (fun w (h : StrsAt w lo hi p n L) => sjoin_c p n c lo hi L j w h hcap hn hj hl)
  have HS := Lib.hid h
  clear h hcap hn hj hl
  go_enter Try.func15, Try.ntmps15
  go_wp2_with (go_at_call 18; refine (H.out _ HS.out).mono ?_; rintro e w' ⟨rfl, hg⟩; have HG := Lib.hid hg; clear hg)
  go_ret
  exact ⟨rfl, HG.out⟩

/-- So far all are lines. -/
def isUp (L : List ByteArray) (k : Nat) : Bool := (List.range k).all fun i => goodB (decide (i + 1 = L.length)) (bl (L[i]?.getD .empty))
theorem isUp_all (L : List ByteArray) : isUp L L.length = isS L := by
  unfold isS isB isUp
  rw [List.length_map]
  congr 1
  funext i
  rw [List.getElem?_map]
  cases L[i]? <;> rfl
theorem isUp_succ (L : List ByteArray) (k : Nat) : isUp L (k + 1) = (isUp L k && goodB (decide (k + 1 = L.length)) (bl (L[k]?.getD .empty))) := by
  unfold isUp
  rw [List.range_succ, List.all_append]
  simp
theorem isUp_no {L : List ByteArray} {k : Nat} (hk : k < L.length) (h : goodB (decide (k + 1 = L.length)) (bl (L[k]?.getD .empty)) = false) : isS L = false := by
  rw [← isUp_all]
  unfold isUp
  rw [Bool.eq_false_iff]
  intro e
  have := List.all_eq_true.1 e k (List.mem_range.2 hk)
  rw [h] at this
  cases this

theorem last10 (s : ByteArray) (h : s.size - 1 < s.size) : decide ((bl s).getLast? = some 10) = !(((s[s.size - 1]'h).toNat : Int) != 10) := by
  have e : (bl s).getLast? = some (s[s.size - 1]'h) := by
    rw [List.getLast?_eq_getElem?, bl_size]
    exact Lib.data_getElem? s (s.size - 1) h
  rw [e]
  generalize s[s.size - 1]'h = x
  rw [Bool.eq_iff_iff, decide_eq_true_eq, Option.some.injEq]
  simp only [Bool.not_eq_true', bne_eq_false_iff_eq]
  constructor
  · rintro rfl; rfl
  · intro h
    exact UInt8.toNat_inj.1 (by show x.toNat = 10; omega)

set_option maxHeartbeats 2000000 in
theorem is_split_c (p : Option Addr) (n c lo hi : Nat) (L : List ByteArray) (r : Bool) (w : World) (h : StrsAt w lo hi p n L) (hn : n ≤ 1000000) (hsz : ∀ x ∈ L, x.size ≤ 1000000) (hr : isS L = r) :
    Calls Try.prog 13 #[.slice p n c] w fun e w' => e = .returned (.bool r) ∧ w' = w := by
  have HR := Lib.hid hr
  have H := Lib.hid h
  have HLEN := Lib.hid h.len
  have HSZ := Lib.hid hsz
  clear h hsz hr
  go_enter Try.func13, Try.ntmps13
  go_wp2
  go_loop [7] (fun i => ∃ k : Nat, k ≤ n ∧ i = .int .i64 k ∧ Hid (isUp L k = true)) (fun i => n - (intOf i).toNat)
  case atStart => exact ⟨0, Nat.zero_le _, rfl, Lib.hid rfl⟩
  case round =>
    obtain ⟨k, hk, rfl, HA⟩ := hrel
    by_cases hkn : k < n
    · obtain ⟨b, off, rfl, q1, q2, q3, hc⟩ := H.out.cell (by omega)
      have hck := hc k hkn
      clear hc
      have hkl : k < L.length := by rw [HLEN.out]; exact hkn
      have hs : (L[k]?.getD .empty).size ≤ 1000000 := by
        rw [List.getElem?_eq_getElem hkl]
        exact HSZ.out _ (List.getElem_mem hkl)
      have HSU := Lib.hid (isUp_succ L k)
      have HNO := Lib.hid (fun h => isUp_no (L := L) (k := k) hkl h)
      rw [HLEN.out] at HSU HNO
      generalize L[k]?.getD .empty = s at *
      by_cases h0 : s.size = 0
      · have he : s.toList.isEmpty = true := by rw [ByteArray.toList_eq, List.isEmpty_iff, ← List.length_eq_zero_iff, ← Lib.size_eq]; exact h0
        have hf : r = false := by
          rw [← HR.out]
          refine HNO.out ?_
          unfold goodB
          rw [show bl s = [] from List.length_eq_zero_iff.1 (by rw [bl_size, h0])]
          rfl
        subst hf
        go_wp2
        go_ret
        exact ⟨rfl, rfl⟩
      · have he : s.toList.isEmpty = false := by
          rw [ByteArray.toList_eq, List.isEmpty_eq_false_iff]
          intro e
          exact h0 (by rw [Lib.size_eq, e]; rfl)
        have hne : bl s ≠ [] := by
          intro e
          have := bl_size s
          rw [e] at this
          exact h0 this.symm
        obtain ⟨m, hm⟩ : ∃ m, firstL (bl s) = m := ⟨_, rfl⟩
        have hfc := Lib.hid (fun w => first_c s m w hs hm)
        have hmle : m ≤ s.size := by rw [← hm, ← bl_size]; exact firstL_le _
        by_cases h1 : m < s.size
        · have h1' : (m : Int) < s.size := by omega
          have hf : r = false := by
            rw [← HR.out]
            refine HNO.out ?_
            unfold goodB
            rw [decide_eq_false (p := firstL (bl s) = (bl s).length) (by rw [hm, bl_size]; omega), Bool.and_false, Bool.false_and]
          subst hf
          clear hm
          go_wp2_with (go_at_call 17; refine (hfc.out _).mono ?_; rintro e w' ⟨rfl, rfl⟩)
          go_ret
          exact ⟨rfl, rfl⟩
        · have h1' : ¬ ((m : Int) < s.size) := by omega
          have hG : goodB (decide (k + 1 = n)) (bl s) = (decide (k + 1 = n) || decide ((bl s).getLast? = some 10)) := by
            unfold goodB
            rw [decide_eq_true (p := firstL (bl s) = (bl s).length) (by rw [hm, bl_size]; omega), decide_eq_true hne]
            rfl
          have HG := Lib.hid hG
          clear hm hG hne
          by_cases h2 : k + 1 = n
          · have HN : Hid (isUp L (k + 1) = true) := Lib.hid (by rw [HSU.out, HA.out, HG.out, decide_eq_true h2]; rfl)
            have h2' : ¬ ((k : Int) < (n : Int) - 1) := by omega
            go_wp2_with (go_at_call 17; refine (hfc.out _).mono ?_; rintro e w' ⟨rfl, rfl⟩)
            go_round
            case rel => exact ⟨k + 1, by omega, by go_num, HN⟩
            case measure => simp [intOf]; omega
          · have h2' : ((k : Int) < (n : Int) - 1) := by omega
            go_wp2_with (go_at_call 17; refine (hfc.out _).mono ?_; rintro e w' ⟨rfl, rfl⟩)
            · rename_i hh
              have hf : r = false := by
                rw [← HR.out]
                refine HNO.out ?_
                rw [HG.out, decide_eq_false h2, last10 s (by omega), hh]
                rfl
              subst hf
              go_ret
              exact ⟨rfl, rfl⟩
            · rename_i hh
              have HN : Hid (isUp L (k + 1) = true) := Lib.hid (by rw [HSU.out, HA.out, HG.out, decide_eq_false h2, last10 s (by omega), hh]; rfl)
              go_round
              case rel => exact ⟨k + 1, by omega, by go_num, HN⟩
              case measure => simp [intOf]; omega
    · obtain rfl : k = n := by omega
      have hf : r = true := by
        rw [← HR.out, ← isUp_all, HLEN.out]
        exact HA.out
      subst hf
      go_wp2
      go_ret
      exact ⟨rfl, rfl⟩

end Go.Proofs.Ytgmdkghggomloaa
