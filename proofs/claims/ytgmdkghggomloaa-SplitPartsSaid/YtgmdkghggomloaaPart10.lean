/- The walk of the statement SplitParts: at every input it answers true and leaves all that lay as it lay. -/
import Derived.Test.YtgmdkghggomloaaSplN
import Derived.Test.YtgmdkghggomloaaApps
namespace Go.Proofs.Ytgmdkghggomloaa
open Go.RowKit

set_option maxHeartbeats 4000000 in
theorem splitParts_w (a b : ByteArray) (w : World) :
    Calls Try.prog 6 #[.string a, .string b] w fun e w' => e = .returned (.bool true) ∧ Below w.heap.size w w' := by
  obtain ⟨i0, hi', hz0, hz1, hz2⟩ := info_parts Try.info9
  go_enter Try.func6, Try.ntmps6
  go_wp2_with fail
  refine (known10_c _).mono ?_
  rintro e w1 ⟨rfl, hg1⟩
  have HG1 := Lib.hid hg1
  clear hg1
  by_cases ha : 200 < a.size
  · have ha' : (200 : Int) < a.size := by omega
    go_wp2_with fail
    go_ret
    exact ⟨rfl, grownBy_below HG1.out⟩
  · have ha' : ¬ ((200 : Int) < a.size) := by omega
    by_cases hb : 200 < b.size
    · have hb' : (200 : Int) < b.size := by omega
      go_wp2_with fail
      go_ret
      exact ⟨rfl, grownBy_below HG1.out⟩
    · have hb' : ¬ ((200 : Int) < b.size) := by omega
      obtain ⟨X, hX⟩ : ∃ X, linesS (a ++ ⟨#[10]⟩) = X := ⟨_, rfl⟩
      obtain ⟨Y, hY⟩ : ∃ Y, linesS b = Y := ⟨_, rfl⟩
      obtain ⟨Z, hZ⟩ : ∃ Z, linesS a = Z := ⟨_, rfl⟩
      obtain ⟨nx, hnx⟩ : ∃ n, X.length = n := ⟨_, rfl⟩
      obtain ⟨ny, hny⟩ : ∃ n, Y.length = n := ⟨_, rfl⟩
      obtain ⟨nz, hnz⟩ : ∃ n, Z.length = n := ⟨_, rfl⟩
      have hT : linesS (a ++ ⟨#[10]⟩ ++ b) = X ++ Y := by rw [linesS_append a b _ rfl, hX, hY]
      have hnt : (X ++ Y).length = nx + ny := by rw [List.length_append, hnx, hny]
      have hmore := linesS_more a ⟨#[10]⟩ rfl
      rw [hX, hZ, hnx, hnz] at hmore
      have s1 : (a ++ ⟨#[10]⟩).size = a.size + 1 := by rw [ByteArray.size_append]; rfl
      have s2 : (a ++ ⟨#[10]⟩ ++ b).size = a.size + 1 + b.size := by rw [ByteArray.size_append, s1]
      have bx : nx ≤ 201 := by rw [← hnx, ← hX]; exact Nat.le_trans (linesS_len _) (by rw [s1]; omega)
      have byy : ny ≤ 200 := by rw [← hny, ← hY]; exact Nat.le_trans (linesS_len _) (by omega)
      have CX := Lib.hid (fun w => linesAt_c (a ++ ⟨#[10]⟩) X nx w (by rw [s1]; omega) hX hnx)
      have CY := Lib.hid (fun w => linesAt_c b Y ny w (by omega) hY hny)
      have CT := Lib.hid (fun w => linesAt_c (a ++ ⟨#[10]⟩ ++ b) (X ++ Y) (nx + ny) w (by rw [s2]; omega) hT hnt)
      have CZ := Lib.hid (fun w => linesAt_c a Z nz w (by omega) hZ hnz)
      have HNX := Lib.hid hnx
      have HNY := Lib.hid hny
      obtain ⟨m1, m2⟩ := hmore
      have m1' : (nz : Int) ≤ nx := by omega
      have m2' : (1 : Int) ≤ nx := by omega
      clear hX hY hZ hnx hny hnz hT hnt s1 s2
      go_wp2_with fail
      refine (CX.out _).mono ?_
      rintro e w2 ⟨px, cx, rfl, hx, hxn, _, hg⟩
      have H2 := Lib.hid hx
      have HXN := Lib.hid hxn
      have HG2 := Lib.hid (grownBy_trans HG1.out hg)
      clear hx hg hxn
      go_wp2_with fail
      refine (CY.out _).mono ?_
      rintro e w3 ⟨py, cy, rfl, hy, hyn, _, hg⟩
      have H3 := Lib.hid (H2.out.calm hg)
      have K3 := Lib.hid hy
      have HYN := Lib.hid hyn
      have HG3 := Lib.hid (grownBy_trans HG2.out hg)
      clear hy hg hyn
      go_wp2_with fail
      refine (CT.out _).mono ?_
      rintro e w4 ⟨pt, ct, rfl, ht, _, _, hg⟩
      have H4 := Lib.hid (H3.out.calm hg)
      have K4 := Lib.hid (K3.out.calm hg)
      have T4 := Lib.hid ht
      have HG4 := Lib.hid (grownBy_trans HG3.out hg)
      have SX := Lib.hid (src_strs H4.out HXN.out)
      have SXL : Hid ((scells X).length = nx * 1) := Lib.hid (by unfold scells; rw [List.length_map, HNX.out]; omega)
      have SYL : Hid ((scells Y).length = ny * 1) := Lib.hid (by unfold scells; rw [List.length_map, HNY.out]; omega)
      clear ht hg
      go_wp2_with (first
        | (at_builtin; refine wpList_append_src rfl _ _ 22 rfl w4.heap.size 9 i0 (.string .empty) 1 16 Try.underlying22 hi' hz0 hz1 hz2 rfl (by decide) (.slice none 0 0) 0 [] rfl (World.ownsRow_nil _ _ _ _) px nx cx (scells X) rfl SXL.out SX.out (scells_one _) (by unfold maxLen; omega) (by omega) (Nat.le_refl _) ?_; intro p5 c5 w5 hown5 hg5; rw [Nat.zero_add, List.nil_append] at hown5; rw [Nat.zero_add]; have HO5 := Lib.hid hown5; have G5 := Lib.hid (show w4.grownBy w5 none from hg5); clear hown5 hg5; have K5 := Lib.hid (K4.out.calm G5.out); have SY := Lib.hid (src_strs K5.out HYN.out))
        | (at_builtin; refine wpList_append_src rfl _ _ 22 rfl w4.heap.size 9 i0 (.string .empty) 1 16 Try.underlying22 hi' hz0 hz1 hz2 rfl (by decide) (.slice p5 nx c5) nx (scells X) rfl HO5.out py ny cy (scells Y) rfl SYL.out SY.out (scells_one _) (by unfold maxLen; omega) (by omega) G5.out.size ?_; intro p6 c6 w6 hown6 hg6; have HO6 := Lib.hid hown6; have G6 := Lib.hid (ownsRow_new G5.out HO5.out hg6); clear hown6 hg6; have HG6 := Lib.hid (grownBy_trans HG4.out G6.out))
        | fail)
      have hown6 := HO6.out
      rw [show scells X ++ scells Y = scells (X ++ Y) from by unfold scells; rw [List.map_append]] at hown6
      have hlen6 : nx + ny = (X ++ Y).length := by rw [List.length_append, HNX.out, HNY.out]
      rw [hlen6] at hown6
      obtain ⟨p7, c7, e7, h7, _⟩ := strsAt_ownC hown6
      rw [← hlen6] at e7 h7
      obtain ⟨rfl, _, rfl⟩ : p6 = p7 ∧ nx + ny = nx + ny ∧ c6 = c7 := by cases e7; exact ⟨rfl, rfl, rfl⟩
      have T6 := Lib.hid h7
      clear hown6 hlen6 h7 e7
      refine (same10_r _ _ _ _ _ _ _ _ _ _ _ _ true _ (T4.out.calm G6.out) T6.out (by omega) (decide_eq_true rfl)).mono ?_
      rintro e w8 ⟨rfl, hg⟩
      have HG8 := Lib.hid (grownBy_trans HG6.out hg)
      clear hg
      go_wp2_with fail
      refine (CZ.out _).mono ?_
      rintro e w9 ⟨pz, cz, rfl, _, _, _, hg⟩
      have HG9 := Lib.hid (grownBy_trans HG8.out hg)
      clear hg
      go_wp2
      go_ret
      exact ⟨rfl, grownBy_below HG9.out⟩

end Go.Proofs.Ytgmdkghggomloaa
