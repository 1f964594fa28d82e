/- Go's own slices.Sort over numbers. -/
import Derived.Test.YtcfhnfnhdhloiaaGreatSrtI
import Derived.Test.YtcfhnfnhdhloiaaGreatPur
namespace Go.Proofs.YtcfhnfnhdhloiaaGreat
open Go.RowKit Go.Sort

theorem insN_c (w : World) : Calls Tryz.prog 87 #[.slice none 0 0, .int .i64 0, .int .i64 0] w fun e w' => e = .returned (.tuple #[]) ∧ w' = w := by
  go_enter Tryz.func87, Tryz.ntmps87
  go_wp2
  go_loopw [6] (fun vi wr => vi = .int .i64 1 ∧ wr = w) (fun _ _ => 0)
  case atStart => exact ⟨rfl, rfl⟩
  case round =>
    obtain ⟨rfl, rfl⟩ := hrel
    go_wp2
    go_end0
    exact ⟨rfl, rfl⟩

theorem pdqN_c (w : World) : Calls Tryz.prog 68 #[.slice none 0 0, .int .i64 0, .int .i64 0, .int .i64 0] w fun e w' => e = .returned (.tuple #[]) ∧ w' = w := by
  go_enter Tryz.func68, Tryz.ntmps68
  go_wp2
  go_loopw [1, 2, 3, 8, 9, 10, 11, 12, 13, 14, 15, 16, 17, 18] (fun v1 v2 _ _ _ _ _ _ _ _ _ _ _ _ wr => v1 = .int .i64 0 ∧ v2 = .int .i64 0 ∧ wr = w) (fun _ _ _ _ _ _ _ _ _ _ _ _ _ _ _ => 0)
  case atStart => exact ⟨rfl, rfl, rfl⟩
  case round =>
    obtain ⟨rfl, rfl, rfl⟩ := hrel
    go_wp2_with fail
    refine (insN_c wr).mono ?_
    rintro e w5 ⟨rfl, h5⟩
    subst w5
    go_wp2
    try simp only [Exit.inBlock, Exit.then]
    refine bodyPost_ret (results_none rfl _ _ _) rfl ?_
    exact ⟨rfl, rfl⟩

theorem lenU_c (n : Nat) (hn : n ≤ 1000000) (W : World) : Calls Tryz.prog 69 #[.int .u64 (n : Int)] W fun e w' => e = .returned (.int .i64 (bitsLen n : Nat)) ∧ w' = W := by
  have h := Tryz.bits_Len (n : Int) W (by omega) (by omega)
  rwa [Int.toNat_natCast, bitLen_eq _ (by omega)] at h

theorem sortU_nil (w : World) : Calls Tryz.prog 34 #[.slice none 0 0] w fun e w' => e = .returned (.tuple #[]) ∧ w.grownBy w' none := by
  have HL := Lib.hid (lenU_c 0 (by omega) w)
  go_enter Tryz.func34, Tryz.ntmps34
  go_wp2_with fail
  refine HL.out.mono ?_
  rintro e w5 ⟨rfl, h5⟩
  subst w5
  go_wp2_with fail
  refine (pdqN_c w).mono ?_
  rintro e w5 ⟨rfl, h5⟩
  subst w5
  go_wp2
  go_end0
  exact ⟨rfl, World.grownBy.refl w none⟩

theorem sortU_row (blk cap : Nat) (zs : List Int) (w : World) (hH : Holds (Value.int .u32) w blk 0 zs.toArray) (_hlt : blk < w.heap.size) (hn : zs.length ≤ 1000000) (_hc : zs.length ≤ cap) :
    Calls Tryz.prog 34 #[.slice (some ⟨blk, 0, none⟩) zs.length cap] w fun e w' => e = .returned (.tuple #[]) ∧ ∃ ys : Array Int, Holds (Value.int .u32) w' blk 0 ys ∧ ys.size = zs.length ∧ ys.toList.Perm zs ∧
      (∀ i j, i < j → j < ys.size → ltI ys[j]! ys[i]! = false) ∧ w.grownBy w' (some blk) := by
  obtain ⟨n, hz⟩ : ∃ n, zs.length = n := ⟨_, rfl⟩
  have H : Hid (RowU w w blk n zs.toArray) := Lib.hid ⟨hH, by simp [hz], World.grownBy.refl w _⟩
  rw [hz] at hn ⊢
  have HL := Lib.hid (lenU_c n hn w)
  have hlim : bitsLen n ≤ 100 := Nat.le_trans ((bitsLen_le_iff n 20).2 (by omega)) (by omega)
  have wn : IntKind.u64.wrap (n : Int) = n := by rw [IntKind.wrap_u64]; omega
  have HP := Lib.hid (pdqU_c blk n cap hn (n - 0) 0 n (bitsLen n) zs.toArray w w rfl (Nat.zero_le _) (Nat.le_refl _) hlim H.out (Or.inl rfl))
  have HZ := Lib.hid hz
  generalize bitsLen n = k at *
  clear hH hz H hlim
  go_enter Tryz.func34, Tryz.ntmps34
  go_wp2_with fail
  refine HL.out.mono ?_
  rintro e w5 ⟨rfl, h5⟩
  subst w5
  go_wp2_with fail
  refine HP.out.mono ?_
  rintro e w6 ⟨rfl, R, hp, hs, h6⟩
  have H6 := Lib.hid h6
  have HPM := Lib.hid hp
  have HSO := Lib.hid hs
  clear h6 hp hs
  go_wp2
  go_end0
  have hsz := H6.out.size
  refine ⟨rfl, R, H6.out.holds, hsz, ?_, fun i j h1 h2 => HSO.out i j (Nat.zero_le _) h1 (by omega), H6.out.gr⟩
  have h := HPM.out.2.2
  rw [← HZ.out] at h hsz
  have e1 : R.extract 0 zs.length = R := by rw [← hsz]; simp
  have e2 : zs.toArray.extract 0 zs.length = zs.toArray := by simp
  rw [e1, e2] at h
  exact h

theorem sortU : SortU := ⟨sortU_row, sortU_nil⟩

end Go.Proofs.YtcfhnfnhdhloiaaGreat
