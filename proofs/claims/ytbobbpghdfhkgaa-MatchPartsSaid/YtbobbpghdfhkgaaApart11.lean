/- The walk of the statement MatchApart: at every input it answers true and leaves all that lay as it lay. -/
import Derived.Test.YtbobbpghdfhkgaaMatK
import Derived.Test.YtbobbpghdfhkgaaFirst11
import Derived.Deep.DeepCutAuto
namespace Go.Proofs.Ytbobbpghdfhkgaa
open Go.RowKit

/-- The first letters. -/
def letL (n : Nat) : List ByteArray := (List.range n).map fun i => oneS ((97 + i : Nat) : Int)
theorem letL_len (n : Nat) : (letL n).length = n := by simp [letL]
theorem letL_succ (n : Nat) : letL (n + 1) = letL n ++ [oneS ((97 + n : Nat) : Int)] := by
  unfold letL
  rw [List.range_succ, List.map_append]
  rfl
theorem letL_get {n i : Nat} (h : i < n) : (letL n)[i]? = some (oneS ((97 + i : Nat) : Int)) := by
  unfold letL
  rw [List.getElem?_map, List.getElem?_range h]
  rfl
theorem letL_inj {n : Nat} (hn : n ≤ 20) : ∀ i j, i < (letL n).length → j < (letL n).length → (letL n)[i]? = (letL n)[j]? → i = j := by
  intro i j hi hj h
  rw [letL_len] at hi hj
  rw [letL_get hi, letL_get hj] at h
  have := oneS_inj (by omega) (by omega) (Option.some.inj h)
  omega
theorem letL_no {n : Nat} (hn : n ≤ 20) (z : Nat) (hz : z < 97) : oneS (z : Int) ∉ letL n := by
  intro h
  unfold letL at h
  obtain ⟨i, hi, e⟩ := List.mem_map.1 h
  have hi' := List.mem_range.1 hi
  have := oneS_inj (by omega) (by omega) e
  omega
theorem letL_small (n : Nat) : smallT (letL n) := by
  intro x hx
  unfold letL at hx
  obtain ⟨i, _, rfl⟩ := List.mem_map.1 hx
  rw [oneS_size]
  decide
theorem dash : (⟨#[45]⟩ : ByteArray) = oneS ((45 : Nat) : Int) := (oneS_lit 45).symm
theorem plus : (⟨#[43]⟩ : ByteArray) = oneS ((43 : Nat) : Int) := (oneS_lit 43).symm
/-- The letters in the middle. -/
def midL (n k : Nat) (j : Nat) : List ByteArray := List.replicate k ⟨#[45]⟩ ++ letL n ++ List.replicate j ⟨#[43]⟩
theorem midL_len (n k j : Nat) : (midL n k j).length = k + n + j := by simp [midL, letL_len, Nat.add_assoc]
theorem midL_small (n k j : Nat) : smallT (midL n k j) := by
  intro x hx
  unfold midL at hx
  rw [List.mem_append, List.mem_append] at hx
  rcases hx with (h | h) | h
  · exact repl_small _ (by decide) _ x h
  · exact letL_small n x h
  · exact repl_small _ (by decide) _ x h
theorem midL_lg {n : Nat} (hn : n ≤ 20) (k j : Nat) : LgL (letL n) (midL n k j) 0 0 ((List.range n).map fun i => (i, k + i)) := by
  have := LgL_middle (a := letL n) (u := ⟨#[45]⟩) (v := ⟨#[43]⟩) (letL_inj hn) (by rw [dash]; exact letL_no hn 45 (by decide)) (by rw [plus]; exact letL_no hn 43 (by decide)) k j
  rw [letL_len] at this
  exact this
theorem let_apart {n : Nat} (hn : n ≤ 20) : lcs (letL n) [⟨#[45]⟩, ⟨#[43]⟩] = 0 := lcs_apart fun x hx h => by
  simp only [List.mem_cons, List.not_mem_nil, or_false] at h
  rcases h with rfl | rfl
  · rw [dash] at hx; exact letL_no hn 45 (by decide) hx
  · rw [plus] at hx; exact letL_no hn 43 (by decide) hx
theorem shift_get (N k i : Nat) (h : i < N) : ((((List.range N).map fun j => (j, k + j)).map intP)[i]?.getD (0, 0)) = ((i : Int), (k : Int) + (i : Int)) := by
  rw [List.map_map, List.getElem?_map, List.getElem?_range h]
  show (((i : Nat) : Int), ((k + i : Nat) : Int)) = _
  rw [Int.natCast_add]
theorem shift_len (N k : Nat) : (((List.range N).map fun j => (j, k + j)).map intP).length = N := by simp

theorem strs_two11 (w : World) (x y : ByteArray) : StrsAt (w.alloc (.cells #[.string x, .string y] 9)) w.heap.size (w.heap.size + 1) (some ⟨w.heap.size, 0, none⟩) 2 [x, y] := by
  refine ⟨rfl, fun _ => ⟨_, 0, rfl, Nat.le_refl _, Nat.lt_succ_self _, by simp, fun k hk => ?_⟩⟩
  match k, hk with
  | 0, _ => simp
  | 1, _ => simp
theorem midL_succ (n k j : Nat) : midL n k (j + 1) = midL n k j ++ [⟨#[43]⟩] := by unfold midL; rw [List.replicate_succ']; simp only [List.append_assoc]
theorem two_small : smallT [⟨#[45]⟩, ⟨#[43]⟩] := by unfold smallT; decide +kernel
theorem scells_let (n : Nat) : (scells (letL n)).length = n := by unfold scells; rw [List.length_map, letL_len]
theorem scells_one11 (l : List ByteArray) : ∀ u ∈ scells l, u.oneCell' = true := by
  intro u hu
  unfold scells at hu
  obtain ⟨x, _, rfl⟩ := List.mem_map.1 hu
  rfl

set_option maxRecDepth 100000 in
set_option maxHeartbeats 8000000 in
theorem matchApart_w (n m t : Nat) (w : World) (hn : n < 256) (hm : m < 256) (ht : t < 256) :
    Calls Try.prog 6 #[.int .u8 n, .int .u8 m, .int .u8 t] w fun e w' => e = .returned (.bool true) ∧ Below w.heap.size w w' := by
  obtain ⟨i0, hi', hz0, hz1, hz2⟩ := info_parts Try.info9
  have n0 : (0 : Int) ≤ n := by omega
  have n1 : (n : Int) < 256 := by omega
  have m0 : (0 : Int) ≤ m := by omega
  have m1 : (m : Int) < 256 := by omega
  have t0 : (0 : Int) ≤ t := by omega
  have t1 : (t : Int) < 256 := by omega
  obtain ⟨x, hx⟩ : ∃ x, n % 20 + 1 = x := ⟨_, rfl⟩
  obtain ⟨y, hy⟩ : ∃ y, m % 20 = y := ⟨_, rfl⟩
  have HX := Lib.hid (show (n : Int) % 20 + 1 = (x : Int) by omega)
  have HY := Lib.hid (show (m : Int) % 20 = (y : Int) by omega)
  have x1 : x ≤ 20 := by omega
  have y1 : y ≤ 20 := by omega
  clear hx hy
  go_enter Try.func6, Try.ntmps6
  go_wp2_with fail
  refine (known11_c _).mono ?_
  rintro e w1 ⟨rfl, hg1⟩
  have HG1 := Lib.hid hg1
  clear hg1
  go_upto_region 4 with fail
  rw [HX.out, HY.out]
  go_wp2
  go_loopw [9, 11] (fun v i wr => ∃ k : Nat, k ≤ x ∧ i = .int .i64 k ∧ wr.ownsRow w1.heap.size 9 1 v k (scells (letL k)) ∧ w1.grownBy wr none) (fun _ i _ => x - (intOf i).toNat)
  case atStart => exact ⟨0, Nat.zero_le _, rfl, World.ownsRow_nil _ _ _ _, grownBy_refl _ _⟩
  case round =>
    obtain ⟨k, hk, rfl, hrow, hg⟩ := hrel
    have hsz := hg.size
    by_cases hkx : k < x
    · have k0 : (0 : Int) ≤ k := by omega
      have k1 : (k : Int) < x := by omega
      obtain ⟨z, hz⟩ : ∃ z, 97 + k = z := ⟨_, rfl⟩
      have hzi : (97 : Int) + (k : Int) = (z : Int) := by omega
      have HL : Hid (letL (k + 1) = letL k ++ [oneS (z : Int)]) := Lib.hid (by rw [letL_succ, hz])
      clear hz
      have hcv := conv_u8 (z : Int) wr
      go_wp2_with (at_builtin; refine wpList_append_own _ rfl _ _ 25 rfl w1.heap.size 9 i0 (.string .empty) 1 16 Try.underlying25 hi' hz0 hz1 hz2 rfl (by decide) _ _ _ rfl ((hrow.alloc _).alloc _) ⟨wr.heap.size + 1, 0, none⟩ 1 1 [.string (oneS (z : Int))] rfl rfl (cell_one_at11 _ _ _ _) (by simp [Value.oneCell']) (by unfold maxLen; omega) (by omega) (by simp; omega) ?_; intro v' w3 hown' hgrow _; obtain ⟨g', cap', rfl⟩ := ownsRow_succ hown'; have HO := Lib.hid hown'; have HG := Lib.hid (grownBy_app2 hg hrow hgrow); clear hown' hgrow)
      exact ⟨⟨k + 1, by omega, by go_num, by rw [HL.out, scells_snoc]; exact HO.out, HG.out⟩, by simp [intOf]; omega⟩
    · obtain rfl : k = x := by omega
      obtain ⟨p, c, rfl, htx⟩ := txt_own (letL_len k) (letL_small k) hrow
      have HT := Lib.hid htx
      have HG := Lib.hid (grownBy_trans HG1.out hg)
      have k1 : ¬ ((k : Int) < k) := by omega
      clear hrow htx hg hsz hkx
      generalize wr = w2 at *
      go_upto_if 40 with fail
      go_cut [12] (fun s12 wx => ∃ K : Nat, s12 = .int .i64 K ∧ K ≤ y ∧ wx = w2)
      case first =>
        by_cases hy0 : y = 0
        · subst hy0
          go_wp2
          go_meet
          exact ⟨0, rfl, Nat.le_refl _, rfl⟩
        · have y2 : (0 : Int) < y := by omega
          have hmod : (t : Int) % (y : Int) = ((t % y : Nat) : Int) := rfl
          have hlt : t % y < y := Nat.mod_lt _ (by omega)
          generalize t % y = K at *
          go_wp2
          go_meet
          exact ⟨K, rfl, by omega, rfl⟩
      case rest =>
        obtain ⟨K, rfl, hK, hwc⟩ := hcut
        subst hwc
        have K0 : (0 : Int) ≤ K := by omega
        go_wp2
        go_loopw [10, 13] (fun v i wr => ∃ j : Nat, j ≤ K ∧ i = .int .i64 j ∧ wr.ownsRow wc.heap.size 9 1 v j (scells (List.replicate j ⟨#[45]⟩)) ∧ wc.grownBy wr none) (fun _ i _ => K - (intOf i).toNat)
        case atStart => exact ⟨0, Nat.zero_le _, rfl, World.ownsRow_nil _ _ _ _, grownBy_refl _ _⟩
        case round =>
          obtain ⟨j, hj, rfl, hrow, hg⟩ := hrel
          have hsz := hg.size
          by_cases hjK : j < K
          · have j1 : (j : Int) < K := by omega
            go_wp2_with (at_builtin; refine wpList_append_own _ rfl _ _ 25 rfl wc.heap.size 9 i0 (.string .empty) 1 16 Try.underlying25 hi' hz0 hz1 hz2 rfl (by decide) _ _ _ rfl (hrow.alloc _) ⟨wr.heap.size, 0, none⟩ 1 1 [.string ⟨#[45]⟩] rfl rfl (cell_one_new _ _ _) (by simp [Value.oneCell']) (by unfold maxLen; omega) (by omega) (by simp; omega) ?_; intro v' w4 hown' hgrow _; obtain ⟨g', cap', rfl⟩ := ownsRow_succ hown'; have HO := Lib.hid hown'; have HGO := Lib.hid (grownBy_app hg hrow hgrow); clear hown' hgrow)
            exact ⟨⟨j + 1, by omega, by go_num, by rw [List.replicate_succ', scells_snoc]; exact HO.out, HGO.out⟩, by simp [intOf]; omega⟩
          · obtain rfl : j = K := by omega
            have j1 : ¬ ((j : Int) < j) := by omega
            have hT := HT.out.calm hg
            obtain ⟨lo, hi, hst⟩ := hT.at'
            have hx1 : 0 < k := by have := HX.out; omega
            obtain ⟨b, o, rfl, _⟩ := hst.cell hx1
            have HTA := Lib.hid hT
            have HNEW := Lib.hid (strs_news hst)
            clear hT hst hjK
            go_upto_region 16 with fail
            go_upto_region 17 with (at_builtin; refine wpList_append_own _ rfl _ _ 25 rfl wc.heap.size 9 i0 (.string .empty) 1 16 Try.underlying25 hi' hz0 hz1 hz2 rfl (by decide) _ _ _ rfl hrow ⟨b, o, none⟩ k c (scells (letL k)) rfl (by rw [scells_let, Nat.mul_one]) HNEW.out (scells_one11 _) (by unfold maxLen; omega) (by omega) hsz ?_; intro v' w4 hown' hgrow _; have HO := Lib.hid hown'; have HGO := Lib.hid (ownsRow_new hg hrow hgrow); clear hown' hgrow)
            have HR0 : Hid (w4.ownsRow wc.heap.size 9 1 v' (j + k + 0) (scells (midL k j 0))) := Lib.hid (by
              have e : scells (midL k j 0) = scells (List.replicate j ⟨#[45]⟩) ++ scells (letL k) := by unfold midL scells; simp
              rw [e]
              exact HO.out)
            have j0 : (0 : Int) ≤ j := by omega
            clear HO hrow hg hsz HNEW j1
            go_wp2
            go_loopw [10, 14] (fun v i wr => ∃ r : Nat, r ≤ y - j ∧ i = .int .i64 ((j + r : Nat) : Int) ∧ wr.ownsRow wc.heap.size 9 1 v (j + k + r) (scells (midL k j r)) ∧ wc.grownBy wr none) (fun _ i _ => y - (intOf i).toNat)
            case atStart => exact ⟨0, Nat.zero_le _, rfl, HR0.out, HGO.out⟩
            case round =>
              obtain ⟨r, hr, rfl, hrow, hg⟩ := hrel
              have hsz := hg.size
              clear HGO HR0
              by_cases hry : r < y - j
              · have r1 : ((j + r : Nat) : Int) < y := by omega
                go_wp2_with (at_builtin; refine wpList_append_own _ rfl _ _ 25 rfl wc.heap.size 9 i0 (.string .empty) 1 16 Try.underlying25 hi' hz0 hz1 hz2 rfl (by decide) _ _ _ rfl (hrow.alloc _) ⟨wr.heap.size, 0, none⟩ 1 1 [.string ⟨#[43]⟩] rfl rfl (cell_one_new _ _ _) (by simp [Value.oneCell']) (by unfold maxLen; omega) (by omega) (by simp; omega) ?_; intro v' w5 hown' hgrow _; obtain ⟨g', cap', rfl⟩ := ownsRow_succ hown'; have HO := Lib.hid hown'; have HGO := Lib.hid (grownBy_app hg hrow hgrow); clear hown' hgrow)
                exact ⟨⟨r + 1, by omega, by go_num, by rw [midL_succ, scells_snoc]; exact HO.out, HGO.out⟩, by simp [intOf]; omega⟩
              · obtain rfl : r = y - j := by omega
                have r1 : ¬ (((j + (y - j) : Nat) : Int) < y) := by omega
                have hyj : j + (y - j) = y := by omega
                obtain ⟨T, hT⟩ : ∃ T, j + k + (y - j) = T := ⟨_, rfl⟩
                obtain ⟨q, d, rfl, hb⟩ := txt_own (midL_len k j (y - j)) (midL_small k j (y - j)) hrow
                rw [hT] at hb ⊢
                have hT2 : T ≤ 60 := by omega
                have HB := Lib.hid hb
                have HA := Lib.hid (HT.out.calm hg)
                have HGG := Lib.hid (grownBy_trans HG.out hg)
                have HLG := Lib.hid (midL_lg x1 j (y - j))
                have HAP := Lib.hid (let_apart x1)
                clear hb hrow hg hsz hry hT
                go_wp2_with fail
                refine (longest_m _ _ k T _ _ _ _ _ _ HA.out HB.out (by omega) (by omega) HLG.out).mono ?_
                rintro e w6 ⟨p6, c6, rfl, hat, hg⟩
                rw [shift_len] at hat ⊢
                have HP := Lib.hid hat
                have HA6 := Lib.hid (HA.out.calm hg)
                have HG6 := Lib.hid (grownBy_trans HGG.out hg)
                clear hat hg HA HB HGG
                go_wp2_with fail
                have hga := World.grownBy_alloc w6 (.cells #[.string ⟨#[45]⟩, .string ⟨#[43]⟩] 9) none
                refine (length_m _ _ k 2 _ 2 0 _ _ _ (HA6.out.calm hga) ⟨⟨_, _, strs_two11 w6 ⟨#[45]⟩ ⟨#[43]⟩⟩, Nat.le_refl _, two_small⟩ (by omega) (by omega) HAP.out).mono ?_
                rintro e w7 ⟨rfl, hg⟩
                have HP7 := Lib.hid (HP.out.calm (grownBy_trans hga hg))
                have HG7 := Lib.hid (grownBy_trans HG6.out (grownBy_trans hga hg))
                clear hg hga HP HA6 HG6
                go_wp2
                go_loop [16] (fun i => ∃ s : Nat, s ≤ k ∧ i = .int .i64 s) (fun i => k - (intOf i).toNat)
                case atStart => exact ⟨0, Nat.zero_le _, rfl⟩
                case round =>
                  obtain ⟨s, hs, rfl⟩ := hrel
                  by_cases hsk : s < k
                  · obtain ⟨bp, op, rfl, _, _, _, hc⟩ := HP7.out.cell (by omega)
                    obtain ⟨d0, d1⟩ := hc s hsk
                    rw [shift_get k j s hsk] at d0 d1
                    have hq := pair_neq (s : Int) ((j : Int) + (s : Int)) s ((j : Int) + (s : Int))
                    simp only [beq_self_eq_true, Bool.and_self, Bool.not_true] at hq
                    have s0 : (0 : Int) ≤ s := by omega
                    have s1 : (s : Int) < k := by omega
                    clear hc
                    go_wp2
                    exact ⟨⟨s + 1, by omega, by go_num⟩, by simp [intOf]; omega⟩
                  · obtain rfl : s = k := by omega
                    have s1 : ¬ ((s : Int) < s) := by omega
                    go_wp2
                    go_ret
                    exact ⟨rfl, grownBy_below HG7.out⟩

end Go.Proofs.Ytbobbpghdfhkgaa
