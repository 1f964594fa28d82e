/- Package split: first, pieces, lines. -/
import Derived.Test.YtnknejokneddbaaGreatDoorPatP
import Derived.Test.YtnknejokneddbaaGreatDoorShelf
import Derived.Test.YtnknejokneddbaaGreatDoorArra
import Derived.Test.YtnknejokneddbaaGreatDoorApps
/-! SplA -/
/-! Package split: the contracts of first, of the iterator pieces. -/
namespace Go.Proofs.YtnknejokneddbaaGreatDoor
open Go.RowKit Go.Shelf
attribute [local go_sem] Oper.semAt_some

theorem index_c (s : ByteArray) (i : Int) (w : World) (hi : Lib.indexByte (bl s) 10 = i) :
  Calls Tryz.prog 207 #[.string s, .int .u8 10] w fun e w' => e = .returned (.int .i64 i) ∧ w' = w := by
 subst hi
 exact Tryz.strings_IndexByte s 10 w

theorem first_c (s : ByteArray) (n : Nat) (w : World) (hs : s.size ≤ 1000000) (hn : firstL (bl s) = n) :
  Calls Tryz.prog 201 #[.string s] w fun e w' => e = .returned (.int .i64 n) ∧ w' = w := by
 have hi := firstL_index (bl s)
 have hle := firstL_le (bl s)
 rw [hn, bl_size] at hi hle
 obtain ⟨i, hx⟩ : ∃ i : Int, Lib.indexByte (bl s) 10 = i := ⟨_, rfl⟩
 rw [hx] at hi
 have HX := Lib.hid hx
 clear hx hn
 rcases hi with ⟨rfl, rfl⟩ | ⟨rfl, h2⟩
 ·go_enter Tryz.func201, Tryz.ntmps201
  go_wp2_with (go_at_call 207; refine (index_c s _ _ HX.out).mono ?_; rintro e w' ⟨rfl, rfl⟩)
  go_ret
  exact ⟨rfl, rfl⟩
 ·have h3 : ¬ ((n : Int) - 1 < 0) := by omega
  have h4 : IntKind.i64.wrap ((n : Int) - 1 + 1) = n := by rw [IntWalk.i64_in _ (by omega)]; omega
  go_enter Tryz.func201, Tryz.ntmps201
  go_wp2_with (go_at_call 207; refine (index_c s _ _ HX.out).mono ?_; rintro e w' ⟨rfl, rfl⟩)
  go_ret
  exact ⟨by first | rfl | rw [h4], rfl⟩

end Go.Proofs.YtnknejokneddbaaGreatDoor
/-! Package split: the contracts of Join and Is. -/
namespace Go.Proofs.YtnknejokneddbaaGreatDoor
open Go.RowKit Go.Shelf

/-- So far all are lines. -/
def isUp (L : List ByteArray) (k : Nat) : Bool := (List.range k).all fun i => goodB (decide (i + 1 = L.length)) (bl (L[i]?.getD .empty))
theorem isUp_all (L : List ByteArray) : isUp L L.length = isS L := by
 unfold isS isB isUp
 rw [List.length_map]
 congr 1
 funext i
 rw [List.getElem?_map]
 cases L[i]? <;> rfl
theorem isUp_succ (L : List ByteArray) (k : Nat) : isUp L (k + 1) = (isUp L k && goodB (decide (k + 1 = L.length)) (bl (L[k]?.getD .empty))) := by
 unfold isUp
 rw [List.range_succ, List.all_append]
 simp
theorem isUp_no {L : List ByteArray} {k : Nat} (hk : k < L.length) (h : goodB (decide (k + 1 = L.length)) (bl (L[k]?.getD .empty)) = false) : isS L = false := by
 rw [← isUp_all]
 unfold isUp
 rw [Bool.eq_false_iff]
 intro e
 have := List.all_eq_true.1 e k (List.mem_range.2 hk)
 rw [h] at this
 cases this

theorem last10 (s : ByteArray) (h : s.size - 1 < s.size) : decide ((bl s).getLast? = some 10) = !(((s[s.size - 1]'h).toNat : Int) != 10) := by
 have e : (bl s).getLast? = some (s[s.size - 1]'h) := by
  rw [List.getLast?_eq_getElem?, bl_size]
  exact Lib.data_getElem? s (s.size - 1) h
 rw [e]
 generalize s[s.size - 1]'h = x
 rw [Bool.eq_iff_iff, decide_eq_true_eq, Option.some.injEq]
 simp only [Bool.not_eq_true', bne_eq_false_iff_eq]
 constructor
 ·rintro rfl; rfl
 ·intro h
  exact UInt8.toNat_inj.1 (by show x.toNat = 10; omega)

set_option maxHeartbeats 2000000 in
theorem is_split_c (p : Option Addr) (n c lo hi : Nat) (L : List ByteArray) (r : Bool) (w : World) (h : StrsAt w lo hi p n L) (hn : n ≤ 1000000) (hsz : ∀ x ∈ L, x.size ≤ 1000000) (hr : isS L = r) :
  Calls Tryz.prog 184 #[.slice p n c] w fun e w' => e = .returned (.bool r) ∧ w' = w := by
 have HR := Lib.hid hr
 have H := Lib.hid h
 have HLEN := Lib.hid h.len
 have HSZ := Lib.hid hsz
 clear h hsz hr
 go_enter Tryz.func184, Tryz.ntmps184
 go_wp2
 go_loop [7] (fun i => ∃ k : Nat, k ≤ n ∧ i = .int .i64 k ∧ Hid (isUp L k = true)) (fun i => n - (intOf i).toNat)
 case atStart => exact ⟨0, Nat.zero_le _, rfl, Lib.hid rfl⟩
 case round =>
  obtain ⟨k, hk, rfl, HA⟩ := hrel
  by_cases hkn : k < n
  ·obtain ⟨b, off, rfl, q1, q2, q3, hc⟩ := H.out.cell (by omega)
   have hck := hc k hkn
   clear hc
   have hkl : k < L.length := by rw [HLEN.out]; exact hkn
   have hs : (L[k]?.getD .empty).size ≤ 1000000 := by
    rw [List.getElem?_eq_getElem hkl]
    exact HSZ.out _ (List.getElem_mem hkl)
   have HSU := Lib.hid (isUp_succ L k)
   have HNO := Lib.hid (fun h => isUp_no (L := L) (k := k) hkl h)
   rw [HLEN.out] at HSU HNO
   generalize L[k]?.getD .empty = s at *
   by_cases h0 : s.size = 0
   ·have he : s.toList.isEmpty = true := by rw [ByteArray.toList_eq, List.isEmpty_iff, ← List.length_eq_zero_iff, ← Lib.size_eq]; exact h0
    have hf : r = false := by
     rw [← HR.out]
     refine HNO.out ?_
     unfold goodB
     rw [show bl s = [] from List.length_eq_zero_iff.1 (by rw [bl_size, h0])]
     rfl
    subst hf
    go_wp2
    go_ret
    exact ⟨rfl, rfl⟩
   ·have he : s.toList.isEmpty = false := by
     rw [ByteArray.toList_eq, List.isEmpty_eq_false_iff]
     intro e
     exact h0 (by rw [Lib.size_eq, e]; rfl)
    have hne : bl s ≠ [] := by
     intro e
     have := bl_size s
     rw [e] at this
     exact h0 this.symm
    obtain ⟨m, hm⟩ : ∃ m, firstL (bl s) = m := ⟨_, rfl⟩
    have hfc := Lib.hid (fun w => first_c s m w hs hm)
    have hmle : m ≤ s.size := by rw [← hm, ← bl_size]; exact firstL_le _
    by_cases h1 : m < s.size
    ·have h1' : (m : Int) < s.size := by omega
     have hf : r = false := by
      rw [← HR.out]
      refine HNO.out ?_
      unfold goodB
      rw [decide_eq_false (p := firstL (bl s) = (bl s).length) (by rw [hm, bl_size]; omega), Bool.and_false, Bool.false_and]
     subst hf
     clear hm
     go_wp2_with (go_at_call 201; refine (hfc.out _).mono ?_; rintro e w' ⟨rfl, rfl⟩)
     go_ret
     exact ⟨rfl, rfl⟩
    ·have h1' : ¬ ((m : Int) < s.size) := by omega
     have hG : goodB (decide (k + 1 = n)) (bl s) = (decide (k + 1 = n) || decide ((bl s).getLast? = some 10)) := by
      unfold goodB
      rw [decide_eq_true (p := firstL (bl s) = (bl s).length) (by rw [hm, bl_size]; omega), decide_eq_true hne]
      rfl
     have HG := Lib.hid hG
     clear hm hG hne
     by_cases h2 : k + 1 = n
     ·have HN : Hid (isUp L (k + 1) = true) := Lib.hid (by rw [HSU.out, HA.out, HG.out, decide_eq_true h2]; rfl)
      have h2' : ¬ ((k : Int) < (n : Int) - 1) := by omega
      go_wp2_with (go_at_call 201; refine (hfc.out _).mono ?_; rintro e w' ⟨rfl, rfl⟩)
      go_round
      case rel => exact ⟨k + 1, by omega, by go_num, HN⟩
      case measure => simp [intOf]; omega
     ·have h2' : ((k : Int) < (n : Int) - 1) := by omega
      go_wp2_with (go_at_call 201; refine (hfc.out _).mono ?_; rintro e w' ⟨rfl, rfl⟩)
      ·rename_i hh
       have hf : r = false := by
        rw [← HR.out]
        refine HNO.out ?_
        rw [HG.out, decide_eq_false h2, last10 s (by omega), hh]
        rfl
       subst hf
       go_ret
       exact ⟨rfl, rfl⟩
      ·rename_i hh
       have HN : Hid (isUp L (k + 1) = true) := Lib.hid (by rw [HSU.out, HA.out, HG.out, decide_eq_false h2, last10 s (by omega), hh]; rfl)
       go_round
       case rel => exact ⟨k + 1, by omega, by go_num, HN⟩
       case measure => simp [intOf]; omega
  ·obtain rfl : k = n := by omega
   have hf : r = true := by
    rw [← HR.out, ← isUp_all, HLEN.out]
    exact HA.out
   subst hf
   go_wp2
   go_ret
   exact ⟨rfl, rfl⟩

end Go.Proofs.YtnknejokneddbaaGreatDoor
/-! SplQ -/
namespace Go.Proofs.YtnknejokneddbaaGreatDoor

theorem cutL_split {a : List UInt8} (h : a = [] ∨ ∃ c, a = c ++ [10]) (b : List UInt8) : cutL (a ++ b) = cutL a ++ cutL b := by
 rcases h with rfl | ⟨c, rfl⟩
 ·rfl
 ·rw [List.append_assoc, List.singleton_append]
  exact cutL_append c b

/-- At place i, the last line's end at f: what has come. -/
structure RL (s : ByteArray) (f i : Nat) (pre : List ByteArray) : Prop where
 fi : f ≤ i
 il : i ≤ s.size
 ends : (bl s).take f = [] ∨ ∃ a, (bl s).take f = a ++ [10]
 pre' : pre = (cutL ((bl s).take f)).map mkB
 no : ∀ k, f ≤ k → k < i → (bl s)[k]? ≠ some 10

theorem extract_mk (s : ByteArray) (a b : Nat) : s.extract a b = mkB (((bl s).drop a).take (b - a)) := by
 apply bl_inj
 rw [bl_mk]
 exact Lib.extract_data s a b

theorem mid_no {s : ByteArray} {f i : Nat} (no : ∀ k, f ≤ k → k < i → (bl s)[k]? ≠ some 10) : ∀ x ∈ ((bl s).drop f).take (i - f), x ≠ 10 := by
 rintro x hx rfl
 obtain ⟨j, hj⟩ := List.mem_iff_getElem?.1 hx
 rw [List.getElem?_take] at hj
 split at hj
 ·rename_i hlt
  rw [List.getElem?_drop] at hj
  exact no (f + j) (by omega) (by omega) hj
 ·cases hj

theorem RL.last {s : ByteArray} {f : Nat} {pre : List ByteArray} (h : RL s f s.size pre) (hf : f < s.size) : linesS s = pre ++ [s.extract f s.size] := by
 have hm := mid_no h.no
 have hl : ((bl s).drop f).take (s.size - f) = (bl s).drop f := List.take_of_length_le (by rw [List.length_drop, bl_size]; exact Nat.le_refl _)
 rw [hl] at hm
 have hne : (bl s).drop f ≠ [] := by
  intro e
  have := congrArg List.length e
  rw [List.length_drop, bl_size] at this
  simp at this
  omega
 have e : cutL (bl s) = cutL ((bl s).take f) ++ [(bl s).drop f] := by
  rw [← cutL_one hne hm, ← cutL_split h.ends, List.take_append_drop]
 unfold linesS
 rw [e, List.map_append, ← h.pre', extract_mk, hl]
 rfl

theorem RL.none {s : ByteArray} {f : Nat} {pre : List ByteArray} (h : RL s f s.size pre) (hf : ¬ f < s.size) : linesS s = pre := by
 have hfe : f = s.size := by have := h.fi; omega
 unfold linesS
 rw [h.pre', hfe, List.take_of_length_le (by rw [bl_size]; exact Nat.le_refl _)]

theorem RL.len {s : ByteArray} {f i : Nat} {pre : List ByteArray} (h : RL s f i pre) : pre.length ≤ f := by
 rw [h.pre', List.length_map]
 have hk : ∀ l : List UInt8, (cutL l).length ≤ l.length := fun l => by
  have := linesS_len (mkB l)
  unfold linesS at this
  rw [List.length_map, bl_mk, ← bl_size, bl_mk] at this
  exact this
 exact Nat.le_trans (hk _) (by rw [List.length_take]; exact Nat.min_le_left _ _)

end Go.Proofs.YtnknejokneddbaaGreatDoor
/-! SplR -/
namespace Go.Proofs.YtnknejokneddbaaGreatDoor
open Go.RowKit

end Go.Proofs.YtnknejokneddbaaGreatDoor
