/- The walk of the statement SplitFits: at every input it answers true and leaves all that lay as it lay. -/
import Derived.Test.YtgmdkghggomloaaSplN
import Derived.Test.YtgmdkghggomloaaQuie
import Derived.Test.YtgmdkghggomloaaLawP
import Derived.Test.YtgmdkghggomloaaApps
namespace Go.Proofs.Ytgmdkghggomloaa
open Go.RowKit

def nlS (k : Nat) : ByteArray := mkB (List.replicate k 10)
theorem nlS_size (k : Nat) : (nlS k).size = k := by rw [← bl_size]; unfold nlS; rw [bl_mk, List.length_replicate]
theorem nlS_succ (k : Nat) : nlS k ++ ⟨#[10]⟩ = nlS (k + 1) := by
  apply bl_inj
  rw [bl_append]
  unfold nlS
  rw [bl_mk, bl_mk, List.replicate_succ']
  rfl
theorem nlS_zero : nlS 0 = ⟨#[]⟩ := rfl

/-- Whether a text fits, over its bytes. -/
def fitB (l : List UInt8) : Bool := decide ((cutL l).length ≤ 40) && (cutL l).all fun s => decide (s.length ≤ 60)
theorem fitsS_bl (s : ByteArray) : fitsS s = fitB (bl s) := by
  unfold fitsS fitL fitB linesS
  rw [List.length_map, List.all_map]
  congr 1
theorem fit_k : ∀ k, k < 40 → fitB (((List.replicate 40 10).take k ++ List.replicate 59 0) ++ (List.replicate 40 10).drop k) = true ∧
    fitB ((((List.replicate 40 10).take k ++ List.replicate 59 0) ++ [120]) ++ (List.replicate 40 10).drop k) = false := by decide +kernel
theorem fit_m : ∀ m, m < 61 → fitB (List.replicate m 0) = true := by decide +kernel
theorem fit_0 : fitB (List.replicate 40 10) = true ∧ fitB (List.replicate 40 10 ++ [120]) = false := by decide +kernel
theorem bl_extract (s : ByteArray) (a b : Nat) : bl (s.extract a b) = ((bl s).drop a).take (b - a) := Lib.extract_data s a b
theorem bl_front (s : ByteArray) (k : Nat) : bl (s.extract 0 k) = (bl s).take k := by rw [bl_extract]; simp
theorem bl_back (s : ByteArray) (k : Nat) : bl (s.extract k s.size) = (bl s).drop k := by
  rw [bl_extract, ← bl_size, List.take_of_length_le]
  rw [List.length_drop]
  exact Nat.le_refl _

theorem Try.infoU5 : (Try.prog.info? 5).map (fun i => (i.zero, i.size, i.bytes)) = some (some (.int .u8 0), 1, 1) := by kernel_rfl

/-- A text of zeros. -/
def zerS (m : Nat) : ByteArray := strOfNums (List.replicate m 0)
theorem bl_zerS (m : Nat) : bl (zerS m) = List.replicate m 0 := by
  unfold bl zerS
  rw [strOfNums_data, List.map_replicate]
  rfl
theorem zerS_size (m : Nat) : (zerS m).size = m := by rw [← bl_size, bl_zerS, List.length_replicate]
theorem conv_z (m : Nat) (w : World) : (convert 30 9 (.slice (some ⟨w.heap.size, 0, none⟩) m m)).run Try.prog (w.alloc (.cells (madeCells #[.int .u8 0] m) 5)) = .ok (.string (zerS m)) (w.alloc (.cells (madeCells #[.int .u8 0] m) 5)) := by
  refine run_convert_bytes_arg _ 30 5 Try.underlying30 Try.underlying5 w.heap.size 0 m m (List.replicate m 0) (List.length_replicate ..) (fun i hi => ?_) _ Try.underlying9
  have h := made_get (.int .u8 0) m i hi
  have e : (List.replicate m (0 : Int)).getD i 0 = 0 := by
    rw [List.getD_eq_getElem?_getD, List.getElem?_replicate_of_lt hi]
    rfl
  rw [e, Nat.zero_add]
  simpa using h
theorem make_z (m : Nat) (hm : m ≤ 1000) (w : World) : (Instr.makeSlice 30 (.int .i64 (m : Int)) (.int .i64 (m : Int))).run Try.prog w = .ok (.slice (some ⟨w.heap.size, 0, none⟩) m m) (w.alloc (.cells (madeCells #[.int .u8 0] m) 5)) := by
  obtain ⟨i0, hi', hz0, hz1, hz2⟩ := info_parts Try.infoU5
  have h := run_make (P := Try.prog) w 30 5 i0 (.int .u8 0) Try.underlying30 hi' hz0 .i64 .i64 (m : Int) (m : Int) (by omega) (by omega) (by rw [hz2]; omega) (by omega)
  rw [hz1, Int.toNat_natCast, Nat.mul_one] at h
  exact h

set_option maxHeartbeats 4000000 in
theorem splitFits_w (a0 a1 : Int) (w0 : (Lit.int .u8 a0).wf = true) (w1 : (Lit.int .u8 a1).wf = true) (w : World) :
    Calls Try.prog 5 #[.int .u8 a0, .int .u8 a1] w fun e w' => e = .returned (.bool true) ∧ Below w.heap.size w w' := by
  obtain ⟨x, rfl, hx⟩ := byte_of w0
  obtain ⟨y, rfl, hy⟩ := byte_of w1
  clear w0 w1
  go_enter Try.func5, Try.ntmps5
  go_wp2_with fail
  refine (known10_c _).mono ?_
  rintro e w1 ⟨rfl, hg1⟩
  have HG1 := Lib.hid hg1
  clear hg1
  go_wp2_with fail
  go_loop [5, 6] (fun s i => ∃ k : Nat, k ≤ 40 ∧ i = .int .i64 k ∧ s = .string (nlS k)) (fun _ i => 40 - (intOf i).toNat)
  case atStart => exact ⟨0, Nat.zero_le _, rfl, by rw [nlS_zero]⟩
  case round =>
    obtain ⟨k, hk, rfl, rfl⟩ := hrel
    by_cases hkn : k < 40
    · have HN := Lib.hid (nlS_succ k)
      have HZ := Lib.hid (nlS_size k)
      have hq1 : ¬ 9223372036854775807 < (nlS k).size + 1 := by rw [nlS_size]; omega
      have hk' : (k : Int) < 40 := by omega
      go_wp2_with fail
      go_round
      case rel => exact ⟨k + 1, by omega, by go_num, by rw [HN.out]⟩
      case measure => simp [intOf]; omega
    · obtain rfl : k = 40 := by omega
      have hmk : ∀ W : World, (Instr.makeSlice 30 (.int .i64 59) (.int .i64 59)).run Try.prog W = .ok (.slice (some ⟨W.heap.size, 0, none⟩) 59 59) (W.alloc (.cells (madeCells #[.int .u8 0] 59) 5)) := make_z 59 (by decide)
      have hcv : ∀ W : World, (convert 30 9 (.slice (some ⟨W.heap.size, 0, none⟩) 59 59)).run Try.prog (W.alloc (.cells (madeCells #[.int .u8 0] 59) 5)) = .ok (.string (zerS 59)) (W.alloc (.cells (madeCells #[.int .u8 0] 59) 5)) := conv_z 59
      go_wp2_with fail
      obtain ⟨k, hk⟩ : ∃ k : Nat, k = y % 40 := ⟨_, rfl⟩
      obtain ⟨m, hm⟩ : ∃ m : Nat, m = x % 61 := ⟨_, rfl⟩
      have hk1 : (y : Int) % 40 = (k : Int) := by omega
      have hm1 : (x : Int) % 61 = (m : Int) := by omega
      have hm2 : (x : Int).tmod 61 = (m : Int) := by rw [Int.tmod_eq_emod_of_nonneg (by omega)]; exact hm1
      have hxw : IntKind.i64.wrap (x : Int) = (x : Int) := IntWalk.i64_in _ (by omega)
      have hk40 : k < 40 := by omega
      have hm61 : m < 61 := by omega
      rw [hk1]
      clear hk1 hk hm hmk hcv
      have F1 : fitsS (nlS 40) = true := by rw [fitsS_bl]; exact fit_0.1
      have F2 : fitsS (nlS 40 ++ (⟨#[120]⟩ : ByteArray)) = false := by rw [fitsS_bl, bl_append]; exact fit_0.2
      have F3 : fitsS (((nlS 40).extract 0 k ++ zerS 59) ++ (nlS 40).extract k (nlS 40).size) = true := by
        rw [fitsS_bl, bl_append, bl_append, bl_front, bl_back, bl_zerS]
        exact (fit_k k hk40).1
      have F4 : fitsS ((((nlS 40).extract 0 k ++ zerS 59) ++ (⟨#[120]⟩ : ByteArray)) ++ (nlS 40).extract k (nlS 40).size) = false := by
        rw [fitsS_bl, bl_append, bl_append, bl_append, bl_front, bl_back, bl_zerS]
        exact (fit_k k hk40).2
      have F5 : fitsS (zerS m) = true := by rw [fitsS_bl, bl_zerS]; exact fit_m m hm61
      have z1 := nlS_size 40
      have z2 := zerS_size 59
      have z3 := zerS_size m
      generalize nlS 40 = S at *
      generalize zerS 59 = L at *
      have y1 : (S.extract 0 k).size = k := by rw [ByteArray.size_extract]; omega
      have y2 : (S.extract k S.size).size = 40 - k := by rw [ByteArray.size_extract]; omega
      have y3 : (S.extract 0 k ++ L).size = k + 59 := by rw [ByteArray.size_append]; omega
      have y4 : (S.extract 0 k ++ L ++ (⟨#[120]⟩ : ByteArray)).size = k + 60 := by rw [ByteArray.size_append, y3]; rfl
      have y5 : (S.extract 0 k ++ L ++ S.extract k S.size).size ≤ 1000000 := by rw [ByteArray.size_append, y3, y2]; omega
      have y6 : (S.extract 0 k ++ L ++ (⟨#[120]⟩ : ByteArray) ++ S.extract k S.size).size ≤ 1000000 := by rw [ByteArray.size_append, y4, y2]; omega
      have y7 : (S ++ (⟨#[120]⟩ : ByteArray)).size ≤ 1000000 := by rw [ByteArray.size_append, z1]; decide
      have C1 := Lib.hid (fun w => fits_c S true w (by omega) F1)
      have C2 := Lib.hid (fun w => fits_c (S ++ (⟨#[120]⟩ : ByteArray)) false w y7 F2)
      have C3 := Lib.hid (fun w => fits_c (S.extract 0 k ++ L ++ S.extract k S.size) true w y5 F3)
      have C4 := Lib.hid (fun w => fits_c (S.extract 0 k ++ L ++ (⟨#[120]⟩ : ByteArray) ++ S.extract k S.size) false w y6 F4)
      have C5 := Lib.hid (fun w => fits_c (zerS m) true w (by omega) F5)
      have hmk := make_z m (by omega)
      have hcv := conv_z m
      have o1 : ¬ 9223372036854775807 < S.size + 1 := by omega
      have o2 : ¬ 9223372036854775807 < (S.extract 0 k).size + L.size := by omega
      have o3 : ¬ 9223372036854775807 < (S.extract 0 k ++ L).size + (S.extract k S.size).size := by omega
      have o4 : ¬ 9223372036854775807 < (S.extract 0 k ++ L).size + 1 := by omega
      have o5 : ¬ 9223372036854775807 < (S.extract 0 k ++ L ++ (⟨#[120]⟩ : ByteArray)).size + (S.extract k S.size).size := by omega
      have o2' : ¬ 9223372036854775807 < min k S.size + L.size := by omega
      have o3' : ¬ 9223372036854775807 < min k S.size + L.size + (S.size - k) := by omega
      have o4' : ¬ 9223372036854775807 < min k S.size + L.size + 1 := by omega
      have o5' : ¬ 9223372036854775807 < min k S.size + L.size + 1 + (S.size - k) := by omega
      have k0 : (0 : Int) ≤ k := by omega
      have k1 : (k : Int) ≤ S.size := by omega
      have m0 : (0 : Int) ≤ m := by omega
      have HG2 := Lib.hid (grownBy_trans HG1.out (World.grownBy_alloc w1 (.cells (madeCells #[.int .u8 0] 59) 5) none))
      generalize w1.alloc (.cells (madeCells #[.int .u8 0] 59) 5) = W0 at *
      clear F1 F2 F3 F4 F5 z2 z3 y1 y2 y3 y4 y5 y6 y7 z1 hx hy hm1 HG1 hk40 hm61
      refine wp_region_held (S := fun _ => True) (by kernel_rfl) ?_
      have hgr := grownBy_trans HG2.out (grownBy_drewN W0 1 none)
      change wpAnyH _ _ _ _ _ _ _ _ (W0.drewN 1)
      generalize W0.drewN 1 = V0 at *
      refine wpAnyH_take (i := 0) (v := .string S) rfl (by kernel_rfl) (by kernel_rfl) (by kernel_rfl) (fun _ _ _ h => h) (.inl ⟨by rfl, ?_⟩) trivial ?_
      · rintro w' -
        go_simp
      simp only [Act.put, List.getElem_toArray, List.getElem_cons_zero, List.setIfInBounds_toArray, List.set_cons_zero, List.set_cons_succ]
      refine held_next 1 (by kernel_rfl) rfl ?_
      intro K hK
      go_simp
      refine (C1.out _).mono ?_
      rintro e V1 ⟨rfl, hg⟩
      have hgr := grownBy_trans hgr hg
      clear hg
      refine hK _ _ trivial ?_
      clear hK K
      refine wpAnyH_take (i := 2) (v := .bool true) rfl (by kernel_rfl) (by kernel_rfl) (by kernel_rfl) (fun _ _ _ h => h) (.inl ⟨by rfl, ?_⟩) trivial ?_
      · rintro w' -
        go_simp
      simp only [Act.put, List.getElem_toArray, List.getElem_cons_succ, List.getElem_cons_zero, List.setIfInBounds_toArray, List.set_cons_zero, List.set_cons_succ]
      refine wpAnyH_take (i := 3) (v := .string S) rfl (by kernel_rfl) (by kernel_rfl) (by kernel_rfl) (fun _ _ _ h => h) (.inl ⟨by rfl, ?_⟩) trivial ?_
      · rintro w' -
        go_simp
      simp only [Act.put, List.getElem_toArray, List.getElem_cons_succ, List.getElem_cons_zero, List.setIfInBounds_toArray, List.set_cons_zero, List.set_cons_succ]
      refine wpAnyH_take (i := 4) (v := .string (S ++ (⟨#[120]⟩ : ByteArray))) rfl (by kernel_rfl) (by kernel_rfl) (by kernel_rfl) (fun _ _ _ h => h) (.inl ⟨by rfl, ?_⟩) trivial ?_
      · rintro w' -
        go_simp
      simp only [Act.put, List.getElem_toArray, List.getElem_cons_succ, List.getElem_cons_zero, List.setIfInBounds_toArray, List.set_cons_zero, List.set_cons_succ]
      refine held_next 5 (by kernel_rfl) rfl ?_
      intro K hK
      go_simp
      refine (C2.out _).mono ?_
      rintro e V2 ⟨rfl, hg⟩
      have hgr := grownBy_trans hgr hg
      clear hg
      refine hK _ _ trivial ?_
      clear hK K
      refine wpAnyH_take (i := 6) (v := .bool true) rfl (by kernel_rfl) (by kernel_rfl) (by kernel_rfl) (fun _ _ _ h => h) (.inl ⟨by rfl, ?_⟩) trivial ?_
      · rintro w' -
        go_simp
      simp only [Act.put, List.getElem_toArray, List.getElem_cons_succ, List.getElem_cons_zero, List.setIfInBounds_toArray, List.set_cons_zero, List.set_cons_succ]
      refine wpAnyH_take (i := 7) (v := .bool true) rfl (by kernel_rfl) (by kernel_rfl) (by kernel_rfl) (fun _ _ _ h => h) (.inl ⟨by rfl, ?_⟩) trivial ?_
      · rintro w' -
        go_simp
      simp only [Act.put, List.getElem_toArray, List.getElem_cons_succ, List.getElem_cons_zero, List.setIfInBounds_toArray, List.set_cons_zero, List.set_cons_succ]
      refine wpAnyH_take (i := 8) (v := .bool true) rfl (by kernel_rfl) (by kernel_rfl) (by kernel_rfl) (fun _ _ _ h => h) (.inl ⟨by rfl, ?_⟩) trivial ?_
      · rintro w' -
        go_simp
      simp only [Act.put, List.getElem_toArray, List.getElem_cons_succ, List.getElem_cons_zero, List.setIfInBounds_toArray, List.set_cons_zero, List.set_cons_succ]
      refine wpAnyH_take (i := 9) (v := .string S) rfl (by kernel_rfl) (by kernel_rfl) (by kernel_rfl) (fun _ _ _ h => h) (.inl ⟨by rfl, ?_⟩) trivial ?_
      · rintro w' -
        go_simp
      simp only [Act.put, List.getElem_toArray, List.getElem_cons_succ, List.getElem_cons_zero, List.setIfInBounds_toArray, List.set_cons_zero, List.set_cons_succ]
      refine wpAnyH_take (i := 10) (v := .int .i64 (k : Int)) rfl (by kernel_rfl) (by kernel_rfl) (by kernel_rfl) (fun _ _ _ h => h) (.inl ⟨by rfl, ?_⟩) trivial ?_
      · rintro w' -
        go_simp
      simp only [Act.put, List.getElem_toArray, List.getElem_cons_succ, List.getElem_cons_zero, List.setIfInBounds_toArray, List.set_cons_zero, List.set_cons_succ]
      refine wpAnyH_take (i := 11) (v := .string (S.extract 0 k)) rfl (by kernel_rfl) (by kernel_rfl) (by kernel_rfl) (fun _ _ _ h => h) (.inl ⟨by rfl, ?_⟩) trivial ?_
      · rintro w' -
        go_simp
      simp only [Act.put, List.getElem_toArray, List.getElem_cons_succ, List.getElem_cons_zero, List.setIfInBounds_toArray, List.set_cons_zero, List.set_cons_succ]
      refine wpAnyH_take (i := 12) (v := .string L) rfl (by kernel_rfl) (by kernel_rfl) (by kernel_rfl) (fun _ _ _ h => h) (.inl ⟨by rfl, ?_⟩) trivial ?_
      · rintro w' -
        go_simp
      simp only [Act.put, List.getElem_toArray, List.getElem_cons_succ, List.getElem_cons_zero, List.setIfInBounds_toArray, List.set_cons_zero, List.set_cons_succ]
      refine wpAnyH_take (i := 13) (v := .string (S.extract 0 k ++ L)) rfl (by kernel_rfl) (by kernel_rfl) (by kernel_rfl) (fun _ _ _ h => h) (.inl ⟨by rfl, ?_⟩) trivial ?_
      · rintro w' -
        go_simp
      simp only [Act.put, List.getElem_toArray, List.getElem_cons_succ, List.getElem_cons_zero, List.setIfInBounds_toArray, List.set_cons_zero, List.set_cons_succ]
      refine wpAnyH_take (i := 14) (v := .string S) rfl (by kernel_rfl) (by kernel_rfl) (by kernel_rfl) (fun _ _ _ h => h) (.inl ⟨by rfl, ?_⟩) trivial ?_
      · rintro w' -
        go_simp
      simp only [Act.put, List.getElem_toArray, List.getElem_cons_succ, List.getElem_cons_zero, List.setIfInBounds_toArray, List.set_cons_zero, List.set_cons_succ]
      refine wpAnyH_take (i := 15) (v := .int .i64 (k : Int)) rfl (by kernel_rfl) (by kernel_rfl) (by kernel_rfl) (fun _ _ _ h => h) (.inl ⟨by rfl, ?_⟩) trivial ?_
      · rintro w' -
        go_simp
      simp only [Act.put, List.getElem_toArray, List.getElem_cons_succ, List.getElem_cons_zero, List.setIfInBounds_toArray, List.set_cons_zero, List.set_cons_succ]
      refine wpAnyH_take (i := 16) (v := .string (S.extract k S.size)) rfl (by kernel_rfl) (by kernel_rfl) (by kernel_rfl) (fun _ _ _ h => h) (.inl ⟨by rfl, ?_⟩) trivial ?_
      · rintro w' -
        go_simp
      simp only [Act.put, List.getElem_toArray, List.getElem_cons_succ, List.getElem_cons_zero, List.setIfInBounds_toArray, List.set_cons_zero, List.set_cons_succ]
      refine wpAnyH_take (i := 17) (v := .string (S.extract 0 k ++ L ++ S.extract k S.size)) rfl (by kernel_rfl) (by kernel_rfl) (by kernel_rfl) (fun _ _ _ h => h) (.inl ⟨by rfl, ?_⟩) trivial ?_
      · rintro w' -
        go_simp
      simp only [Act.put, List.getElem_toArray, List.getElem_cons_succ, List.getElem_cons_zero, List.setIfInBounds_toArray, List.set_cons_zero, List.set_cons_succ]
      refine held_next 18 (by kernel_rfl) rfl ?_
      intro K hK
      go_simp
      refine (C3.out _).mono ?_
      rintro e V3 ⟨rfl, hg⟩
      have hgr := grownBy_trans hgr hg
      clear hg
      refine hK _ _ trivial ?_
      clear hK K
      refine wpAnyH_take (i := 19) (v := .bool true) rfl (by kernel_rfl) (by kernel_rfl) (by kernel_rfl) (fun _ _ _ h => h) (.inl ⟨by rfl, ?_⟩) trivial ?_
      · rintro w' -
        go_simp
      simp only [Act.put, List.getElem_toArray, List.getElem_cons_succ, List.getElem_cons_zero, List.setIfInBounds_toArray, List.set_cons_zero, List.set_cons_succ]
      refine wpAnyH_take (i := 20) (v := .bool true) rfl (by kernel_rfl) (by kernel_rfl) (by kernel_rfl) (fun _ _ _ h => h) (.inl ⟨by rfl, ?_⟩) trivial ?_
      · rintro w' -
        go_simp
      simp only [Act.put, List.getElem_toArray, List.getElem_cons_succ, List.getElem_cons_zero, List.setIfInBounds_toArray, List.set_cons_zero, List.set_cons_succ]
      refine wpAnyH_take (i := 21) (v := .string S) rfl (by kernel_rfl) (by kernel_rfl) (by kernel_rfl) (fun _ _ _ h => h) (.inl ⟨by rfl, ?_⟩) trivial ?_
      · rintro w' -
        go_simp
      simp only [Act.put, List.getElem_toArray, List.getElem_cons_succ, List.getElem_cons_zero, List.setIfInBounds_toArray, List.set_cons_zero, List.set_cons_succ]
      refine wpAnyH_take (i := 22) (v := .int .i64 (k : Int)) rfl (by kernel_rfl) (by kernel_rfl) (by kernel_rfl) (fun _ _ _ h => h) (.inl ⟨by rfl, ?_⟩) trivial ?_
      · rintro w' -
        go_simp
      simp only [Act.put, List.getElem_toArray, List.getElem_cons_succ, List.getElem_cons_zero, List.setIfInBounds_toArray, List.set_cons_zero, List.set_cons_succ]
      refine wpAnyH_take (i := 23) (v := .string (S.extract 0 k)) rfl (by kernel_rfl) (by kernel_rfl) (by kernel_rfl) (fun _ _ _ h => h) (.inl ⟨by rfl, ?_⟩) trivial ?_
      · rintro w' -
        go_simp
      simp only [Act.put, List.getElem_toArray, List.getElem_cons_succ, List.getElem_cons_zero, List.setIfInBounds_toArray, List.set_cons_zero, List.set_cons_succ]
      refine wpAnyH_take (i := 24) (v := .string L) rfl (by kernel_rfl) (by kernel_rfl) (by kernel_rfl) (fun _ _ _ h => h) (.inl ⟨by rfl, ?_⟩) trivial ?_
      · rintro w' -
        go_simp
      simp only [Act.put, List.getElem_toArray, List.getElem_cons_succ, List.getElem_cons_zero, List.setIfInBounds_toArray, List.set_cons_zero, List.set_cons_succ]
      refine wpAnyH_take (i := 25) (v := .string (S.extract 0 k ++ L)) rfl (by kernel_rfl) (by kernel_rfl) (by kernel_rfl) (fun _ _ _ h => h) (.inl ⟨by rfl, ?_⟩) trivial ?_
      · rintro w' -
        go_simp
      simp only [Act.put, List.getElem_toArray, List.getElem_cons_succ, List.getElem_cons_zero, List.setIfInBounds_toArray, List.set_cons_zero, List.set_cons_succ]
      refine wpAnyH_take (i := 26) (v := .string (S.extract 0 k ++ L ++ (⟨#[120]⟩ : ByteArray))) rfl (by kernel_rfl) (by kernel_rfl) (by kernel_rfl) (fun _ _ _ h => h) (.inl ⟨by rfl, ?_⟩) trivial ?_
      · rintro w' -
        go_simp
      simp only [Act.put, List.getElem_toArray, List.getElem_cons_succ, List.getElem_cons_zero, List.setIfInBounds_toArray, List.set_cons_zero, List.set_cons_succ]
      refine wpAnyH_take (i := 27) (v := .string S) rfl (by kernel_rfl) (by kernel_rfl) (by kernel_rfl) (fun _ _ _ h => h) (.inl ⟨by rfl, ?_⟩) trivial ?_
      · rintro w' -
        go_simp
      simp only [Act.put, List.getElem_toArray, List.getElem_cons_succ, List.getElem_cons_zero, List.setIfInBounds_toArray, List.set_cons_zero, List.set_cons_succ]
      refine wpAnyH_take (i := 28) (v := .int .i64 (k : Int)) rfl (by kernel_rfl) (by kernel_rfl) (by kernel_rfl) (fun _ _ _ h => h) (.inl ⟨by rfl, ?_⟩) trivial ?_
      · rintro w' -
        go_simp
      simp only [Act.put, List.getElem_toArray, List.getElem_cons_succ, List.getElem_cons_zero, List.setIfInBounds_toArray, List.set_cons_zero, List.set_cons_succ]
      refine wpAnyH_take (i := 29) (v := .string (S.extract k S.size)) rfl (by kernel_rfl) (by kernel_rfl) (by kernel_rfl) (fun _ _ _ h => h) (.inl ⟨by rfl, ?_⟩) trivial ?_
      · rintro w' -
        go_simp
      simp only [Act.put, List.getElem_toArray, List.getElem_cons_succ, List.getElem_cons_zero, List.setIfInBounds_toArray, List.set_cons_zero, List.set_cons_succ]
      refine wpAnyH_take (i := 30) (v := .string (S.extract 0 k ++ L ++ (⟨#[120]⟩ : ByteArray) ++ S.extract k S.size)) rfl (by kernel_rfl) (by kernel_rfl) (by kernel_rfl) (fun _ _ _ h => h) (.inl ⟨by rfl, ?_⟩) trivial ?_
      · rintro w' -
        go_simp
      simp only [Act.put, List.getElem_toArray, List.getElem_cons_succ, List.getElem_cons_zero, List.setIfInBounds_toArray, List.set_cons_zero, List.set_cons_succ]
      refine held_next 31 (by kernel_rfl) rfl ?_
      intro K hK
      go_simp
      refine (C4.out _).mono ?_
      rintro e V4 ⟨rfl, hg⟩
      have hgr := grownBy_trans hgr hg
      clear hg
      refine hK _ _ trivial ?_
      clear hK K
      refine wpAnyH_take (i := 32) (v := .bool true) rfl (by kernel_rfl) (by kernel_rfl) (by kernel_rfl) (fun _ _ _ h => h) (.inl ⟨by rfl, ?_⟩) trivial ?_
      · rintro w' -
        go_simp
      simp only [Act.put, List.getElem_toArray, List.getElem_cons_succ, List.getElem_cons_zero, List.setIfInBounds_toArray, List.set_cons_zero, List.set_cons_succ]
      refine wpAnyH_take (i := 33) (v := .bool true) rfl (by kernel_rfl) (by kernel_rfl) (by kernel_rfl) (fun _ _ _ h => h) (.inl ⟨by rfl, ?_⟩) trivial ?_
      · rintro w' -
        go_simp
      simp only [Act.put, List.getElem_toArray, List.getElem_cons_succ, List.getElem_cons_zero, List.setIfInBounds_toArray, List.set_cons_zero, List.set_cons_succ]
      refine wpAnyH_take (i := 34) (v := .bool true) rfl (by kernel_rfl) (by kernel_rfl) (by kernel_rfl) (fun _ _ _ h => h) (.inl ⟨by rfl, ?_⟩) trivial ?_
      · rintro w' -
        go_simp
      simp only [Act.put, List.getElem_toArray, List.getElem_cons_succ, List.getElem_cons_zero, List.setIfInBounds_toArray, List.set_cons_zero, List.set_cons_succ]
      refine wpAnyH_take (i := 35) (v := .int .u8 (x : Int)) rfl (by kernel_rfl) (by kernel_rfl) (by kernel_rfl) (fun _ _ _ h => h) (.inl ⟨by rfl, ?_⟩) trivial ?_
      · rintro w' -
        go_simp
      simp only [Act.put, List.getElem_toArray, List.getElem_cons_succ, List.getElem_cons_zero, List.setIfInBounds_toArray, List.set_cons_zero, List.set_cons_succ]
      refine wpAnyH_take (i := 36) (v := .int .i64 (x : Int)) rfl (by kernel_rfl) (by kernel_rfl) (by kernel_rfl) (fun _ _ _ h => h) (.inl ⟨by rfl, ?_⟩) trivial ?_
      · rintro w' -
        go_simp
      simp only [Act.put, List.getElem_toArray, List.getElem_cons_succ, List.getElem_cons_zero, List.setIfInBounds_toArray, List.set_cons_zero, List.set_cons_succ]
      refine wpAnyH_take (i := 37) (v := .int .i64 (m : Int)) rfl (by kernel_rfl) (by kernel_rfl) (by kernel_rfl) (fun _ _ _ h => h) (.inl ⟨by rfl, ?_⟩) trivial ?_
      · rintro w' -
        go_simp
      simp only [Act.put, List.getElem_toArray, List.getElem_cons_succ, List.getElem_cons_zero, List.setIfInBounds_toArray, List.set_cons_zero, List.set_cons_succ]
      refine held_next 38 (by kernel_rfl) rfl ?_
      intro K hK
      go_simp
      have hgr := grownBy_trans hgr (World.grownBy_alloc V4 (.cells (madeCells #[.int .u8 0] m) 5) none)
      refine hK _ _ trivial ?_
      clear hK K
      refine held_next 39 (by kernel_rfl) rfl ?_
      intro K hK
      go_simp
      refine hK _ _ trivial ?_
      clear hK K
      refine held_next 40 (by kernel_rfl) rfl ?_
      intro K hK
      go_simp
      refine (C5.out _).mono ?_
      rintro e V5 ⟨rfl, hg⟩
      have hgr := grownBy_trans hgr hg
      clear hg
      refine hK _ _ trivial ?_
      clear hK K
      refine wpAnyH_take (i := 41) (v := .bool true) rfl (by kernel_rfl) (by kernel_rfl) (by kernel_rfl) (fun _ _ _ h => h) (.inl ⟨by rfl, ?_⟩) trivial ?_
      · rintro w' -
        go_simp
      simp only [Act.put, List.getElem_toArray, List.getElem_cons_succ, List.getElem_cons_zero, List.setIfInBounds_toArray, List.set_cons_zero, List.set_cons_succ]
      refine wpAnyH_take (i := 42) (v := .bool true) rfl (by kernel_rfl) (by kernel_rfl) (by kernel_rfl) (fun _ _ _ h => h) (.inl ⟨by rfl, ?_⟩) trivial ?_
      · rintro w' -
        go_simp
      simp only [Act.put, List.getElem_toArray, List.getElem_cons_succ, List.getElem_cons_zero, List.setIfInBounds_toArray, List.set_cons_zero, List.set_cons_succ]
      refine wpAnyH_done (by kernel_rfl) ?_ _
      have HG := Lib.hid hgr
      clear hgr
      go_wp2
      go_ret
      exact ⟨rfl, grownBy_below HG.out⟩

end Go.Proofs.Ytgmdkghggomloaa
