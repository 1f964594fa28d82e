/- The walk of the statement MatchFirst: at every input it answers true and leaves all that lay as it lay. -/
import Derived.Test.YtbobbpghdfhkgaaMatK
import Derived.Test.YtbobbpghdfhkgaaQuie
namespace Go.Proofs.Ytbobbpghdfhkgaa
open Go.RowKit

theorem repl_small (x : ByteArray) (h : x.size ≤ 1000000) (n : Nat) : smallT (List.replicate n x) := fun y hy => by rw [(List.mem_replicate.1 hy).2]; exact h
theorem diag_get (N k : Nat) (h : k < N) : ((((List.range N).map fun j => (j, j)).map intP)[k]?.getD (0, 0)) = ((k : Int), (k : Int)) := by
  rw [List.map_map, List.getElem?_map, List.getElem?_range h]
  rfl
theorem diag_len (N : Nat) : (((List.range N).map fun j => (j, j)).map intP).length = N := by simp

set_option maxHeartbeats 4000000 in
theorem matchFirst_w (n m : Nat) (w : World) (hn : n < 256) (hm : m < 256) :
    Calls Try.prog 7 #[.int .u8 n, .int .u8 m] w fun e w' => e = .returned (.bool true) ∧ Below w.heap.size w w' := by
  obtain ⟨i0, hi', hz0, hz1, hz2⟩ := info_parts Try.info9
  have n0 : (0 : Int) ≤ n := by omega
  have n1 : (n : Int) < 256 := by omega
  have m0 : (0 : Int) ≤ m := by omega
  have m1 : (m : Int) < 256 := by omega
  obtain ⟨x, hx⟩ : ∃ x, n % 20 + 1 = x := ⟨_, rfl⟩
  obtain ⟨y, hy⟩ : ∃ y, m % 20 + 1 = y := ⟨_, rfl⟩
  have HX := Lib.hid (show (n : Int) % 20 + 1 = (x : Int) by omega)
  have HY := Lib.hid (show (m : Int) % 20 + 1 = (y : Int) by omega)
  have x1 : x ≤ 20 := by omega
  have y1 : y ≤ 20 := by omega
  clear hx hy
  go_enter Try.func7, Try.ntmps7
  go_wp2_with fail
  refine (known11_c _).mono ?_
  rintro e w1 ⟨rfl, hg1⟩
  have HG1 := Lib.hid hg1
  clear hg1
  go_upto_region 4 with fail
  rw [HX.out, HY.out]
  go_wp2
  go_loopw [7, 9] (fun v i wr => ∃ k : Nat, k ≤ x ∧ i = .int .i64 k ∧ wr.ownsRow w1.heap.size 9 1 v k (scells (List.replicate k ⟨#[120]⟩)) ∧ w1.grownBy wr none) (fun _ i _ => x - (intOf i).toNat)
  case atStart => exact ⟨0, Nat.zero_le _, rfl, World.ownsRow_nil _ _ _ _, grownBy_refl _ _⟩
  case round =>
    obtain ⟨k, hk, rfl, hrow, hg⟩ := hrel
    have hsz := hg.size
    by_cases hkx : k < x
    · have k1 : (k : Int) < x := by omega
      go_wp2_with (at_builtin; refine wpList_append_own _ rfl _ _ 25 rfl w1.heap.size 9 i0 (.string .empty) 1 16 Try.underlying25 hi' hz0 hz1 hz2 rfl (by decide) _ _ _ rfl (hrow.alloc _) ⟨wr.heap.size, 0, none⟩ 1 1 [.string ⟨#[120]⟩] rfl rfl (cell_one_new _ _ _) (by simp [Value.oneCell']) (by unfold maxLen; omega) (by omega) (by simp; omega) ?_; intro v' w3 hown' hgrow _; obtain ⟨g', cap', rfl⟩ := ownsRow_succ hown'; have HO := Lib.hid hown'; have HG := Lib.hid (grownBy_app hg hrow hgrow); clear hown' hgrow)
      exact ⟨⟨k + 1, by omega, by go_num, by rw [List.replicate_succ', scells_snoc]; exact HO.out, HG.out⟩, by simp [intOf]; omega⟩
    · obtain rfl : k = x := by omega
      obtain ⟨p, c, rfl, ht⟩ := txt_own (by simp) (repl_small _ (by decide) _) hrow
      have HT := Lib.hid ht
      have HG := Lib.hid (grownBy_trans HG1.out hg)
      have k1 : ¬ ((k : Int) < k) := by omega
      clear hrow ht hg hsz hkx
      go_upto_region 10 with fail
      generalize wr = w2 at *
      go_loopw [8, 10] (fun v i wr => ∃ j : Nat, j ≤ y ∧ i = .int .i64 j ∧ wr.ownsRow w2.heap.size 9 1 v j (scells (List.replicate j ⟨#[120]⟩)) ∧ w2.grownBy wr none) (fun _ i _ => y - (intOf i).toNat)
      case atStart => exact ⟨0, Nat.zero_le _, rfl, World.ownsRow_nil _ _ _ _, grownBy_refl _ _⟩
      case round =>
        obtain ⟨j, hj, rfl, hrow, hg⟩ := hrel
        have hsz := hg.size
        by_cases hjy : j < y
        · have j1 : (j : Int) < y := by omega
          go_wp2_with (at_builtin; refine wpList_append_own _ rfl _ _ 25 rfl w2.heap.size 9 i0 (.string .empty) 1 16 Try.underlying25 hi' hz0 hz1 hz2 rfl (by decide) _ _ _ rfl (hrow.alloc _) ⟨wr.heap.size, 0, none⟩ 1 1 [.string ⟨#[120]⟩] rfl rfl (cell_one_new _ _ _) (by simp [Value.oneCell']) (by unfold maxLen; omega) (by omega) (by simp; omega) ?_; intro v' w3 hown' hgrow _; obtain ⟨g', cap', rfl⟩ := ownsRow_succ hown'; have HO := Lib.hid hown'; have HGO := Lib.hid (grownBy_app hg hrow hgrow); clear hown' hgrow)
          exact ⟨⟨j + 1, by omega, by go_num, by rw [List.replicate_succ', scells_snoc]; exact HO.out, HGO.out⟩, by simp [intOf]; omega⟩
        · obtain rfl : j = y := by omega
          obtain ⟨q, d, rfl, ht2⟩ := txt_own (by simp) (repl_small _ (by decide) _) hrow
          have HT2 := Lib.hid ht2
          have HT1 := Lib.hid (HT.out.calm hg)
          have HGG := Lib.hid (grownBy_trans HG.out hg)
          clear hrow ht2 hg hsz hjy HT
          obtain ⟨N, hN⟩ : ∃ N, min k j = N := ⟨_, rfl⟩
          have hLg := LgL_equal (⟨#[120]⟩ : ByteArray) k j
          rw [hN] at hLg
          have hN2 : (N = k ∧ k ≤ j) ∨ (N = j ∧ j < k) := by omega
          clear hN
          go_wp2_with fail
          refine (longest_m _ _ k j _ _ _ _ _ _ HT1.out HT2.out (by omega) (by omega) hLg).mono ?_
          rintro e w3 ⟨p3, c3, rfl, hat, hg⟩
          rw [diag_len] at hat ⊢
          have HAT := Lib.hid hat
          have HG3 := Lib.hid (grownBy_trans HGG.out hg)
          clear hat hg HT1 HT2 HGG
          go_wp2
          go_loop [12] (fun i => ∃ r : Nat, r ≤ N ∧ i = .int .i64 r) (fun i => N - (intOf i).toNat)
          case atStart => exact ⟨0, Nat.zero_le _, rfl⟩
          case round =>
            obtain ⟨r, hr, rfl⟩ := hrel
            by_cases hrN : r < N
            · obtain ⟨b, o, rfl, _, _, _, hc⟩ := HAT.out.cell (by omega)
              obtain ⟨c0, c1⟩ := hc r hrN
              rw [diag_get N r hrN] at c0 c1
              have hq := pair_neq (r : Int) r r r
              simp only [beq_self_eq_true, Bool.and_self, Bool.not_true] at hq
              have r0 : (0 : Int) ≤ r := by omega
              have r1 : (r : Int) < N := by omega
              have rN : N ≤ 20 := by omega
              clear hc hN2
              go_wp2
              exact ⟨⟨r + 1, by omega, by go_num⟩, by simp [intOf]; omega⟩
            · obtain rfl : r = N := by omega
              have r1 : ¬ ((r : Int) < r) := by omega
              rcases hN2 with ⟨rfl, hle⟩ | ⟨rfl, hlt⟩
              · have hle' : (r : Int) ≤ j := by omega
                go_wp2
                go_ret
                exact ⟨rfl, grownBy_below HG3.out⟩
              · have hlt' : (r : Int) < k := by omega
                go_wp2
                go_ret
                exact ⟨rfl, grownBy_below HG3.out⟩

end Go.Proofs.Ytbobbpghdfhkgaa
