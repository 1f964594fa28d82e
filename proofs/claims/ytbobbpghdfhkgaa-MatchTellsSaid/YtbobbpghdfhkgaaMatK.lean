/- The statements' own functions on matchings: known, texts, same. -/
import Derived.Test.YtbobbpghdfhkgaaMatL
import Derived.Test.YtbobbpghdfhkgaaConv
import Derived.Test.YtbobbpghdfhkgaaArgsU
namespace Go.Proofs.Ytbobbpghdfhkgaa
open Go.RowKit

theorem nextL_here {α : Type} [DecidableEq α] {a b : List α} {i k : Nat} (hi : i < a.length) (hk : k < b.length) (h : a[i]? = b[k]?) : nextL a b i k i k :=
  ⟨Nat.le_refl _, Nat.le_refl _, ⟨hi, hk, h, (tabL_same hi hk h).symm⟩, fun p' q' h5 h6 _ _ => absurd h5 (by omega), fun q' h5 h6 => absurd h5 (by omega)⟩
theorem LgL_here {α : Type} [DecidableEq α] {a b : List α} {i k : Nat} {l : List (Nat × Nat)} (hi : i < a.length) (hk : k < b.length) (h : a[i]? = b[k]?) (hl : LgL a b (i + 1) (k + 1) l) : LgL a b i k ((i, k) :: l) :=
  .more (by have := tabL_same hi hk h; omega) (nextL_here hi hk h) hl

def kA : List ByteArray := [⟨#[97]⟩, ⟨#[98]⟩, ⟨#[99]⟩]
def kB : List ByteArray := [⟨#[98]⟩, ⟨#[99]⟩, ⟨#[100]⟩]
theorem kLg : LgL kA kB 0 0 [(1, 0), (2, 1)] := by
  refine LgL_skip (by decide) (fun q _ hh => ?_) (LgL_here (by decide) (by decide) rfl (LgL_here (by decide) (by decide) rfl (.done (tabL_a (by decide)))))
  have h2 : q < 3 := hh.2.1
  have h3 : kA[0]? = kB[q]? := hh.2.2.1
  have : ∀ r, r < 3 → kA[0]? ≠ kB[r]? := by decide +kernel
  exact this q h2 h3
theorem kLen : lcs kA kB = 2 := kLg.len.symm
theorem kYes : isMB kA kB [(1, 0), (2, 1)] = true := isMB_first kLg
theorem kNo : isMB kA kB [(0, 0)] = false := by decide +kernel
theorem kSmall : smallT kA ∧ smallT kB := by
  unfold smallT
  exact ⟨by decide +kernel, by decide +kernel⟩

theorem strs_three (w : World) (x y z : ByteArray) : StrsAt (w.alloc (.cells #[.string x, .string y, .string z] 9)) w.heap.size (w.heap.size + 1) (some ⟨w.heap.size, 0, none⟩) 3 [x, y, z] := by
  refine ⟨rfl, fun _ => ⟨_, 0, rfl, Nat.le_refl _, Nat.lt_succ_self _, by simp, fun k hk => ?_⟩⟩
  match k, hk with
  | 0, _ => simp
  | 1, _ => simp
  | 2, _ => simp

theorem pair_eql (x y z t : Int) (w : World) : (binOp .eql 33 (.agg #[.int .i64 x, .int .i64 y]) (.agg #[.int .i64 z, .int .i64 t])).run Try.prog w = .ok (.bool (x == z && y == t)) w := by
  rw [run_eql_struct, run_equalIn_agg _ _ _ _ _ (by kernel_rfl) Try.stoodInHeld33]
  have e : (Try.prog.fieldsOf 33).toList = [{ name := "A", type := 3, offset := 0, embedded := false, tag := "", pkgPath := "", byteOffset := 0 }, { name := "B", type := 3, offset := 1, embedded := false, tag := "", pkgPath := "", byteOffset := 8 }] := by kernel_rfl
  rw [e]
  simp [Op.eqFields, part, go_sem]
  cases h : (x == z) <;> cases h' : (y == t) <;> simp_all

set_option maxHeartbeats 4000000 in
theorem known11_c (w : World) : Calls Try.prog 8 #[] w fun e w' => e = .returned (.bool true) ∧ w.grownBy w' none := by
  have E1 := fun w : World => pair_eql 1 0 1 0 w
  have E2 := fun w : World => pair_eql 2 1 2 1 w
  go_enter Try.func8, Try.ntmps8
  go_upto_region 2 with fail
  have ga := World.grownBy_alloc w (.cells #[.string ⟨#[97]⟩, .string ⟨#[98]⟩, .string ⟨#[99]⟩] 9) none
  have h1 := strs_three w ⟨#[97]⟩ ⟨#[98]⟩ ⟨#[99]⟩
  have h2 := strs_three (w.alloc (.cells #[.string ⟨#[97]⟩, .string ⟨#[98]⟩, .string ⟨#[99]⟩] 9)) ⟨#[98]⟩ ⟨#[99]⟩ ⟨#[100]⟩
  have gb := World.grownBy_alloc (w.alloc (.cells #[.string ⟨#[97]⟩, .string ⟨#[98]⟩, .string ⟨#[99]⟩] 9)) (.cells #[.string ⟨#[98]⟩, .string ⟨#[99]⟩, .string ⟨#[100]⟩] 9) none
  rw [World.size_alloc] at h2
  have H1 := Lib.hid (show TxtAt _ _ 3 3 kA from ⟨⟨_, _, h1.calm gb⟩, Nat.le_refl _, kSmall.1⟩)
  have H2 := Lib.hid (show TxtAt _ _ 3 3 kB from ⟨⟨_, _, h2⟩, Nat.le_refl _, kSmall.2⟩)
  have HG := Lib.hid (grownBy_trans ga gb)
  clear ga gb h1 h2
  generalize (w.alloc (.cells #[.string ⟨#[97]⟩, .string ⟨#[98]⟩, .string ⟨#[99]⟩] 9)).alloc (.cells #[.string ⟨#[98]⟩, .string ⟨#[99]⟩, .string ⟨#[100]⟩] 9) = W0 at *
  generalize w.heap.size + 1 = B at *
  generalize w.heap.size = A at *
  go_wp2_with fail
  refine (longest_m _ _ 3 3 3 3 kA kB [(1, 0), (2, 1)] _ H1.out H2.out (by decide) (by decide) kLg).mono ?_
  rintro e w1 ⟨p, c, rfl, hat, hg⟩
  have HP := Lib.hid (show PairsAt w1 _ _ p 2 [(1, 0), (2, 1)] from hat)
  have K1 := Lib.hid (H1.out.calm hg)
  have K2 := Lib.hid (H2.out.calm hg)
  have HG1 := Lib.hid (grownBy_trans HG.out hg)
  obtain ⟨b, o, rfl, q1, q2, q3, hc⟩ := HP.out.cell (by decide)
  obtain ⟨c0, c1⟩ := hc 0 (by decide)
  obtain ⟨c2, c3⟩ := hc 1 (by decide)
  clear hc hg hat H1 H2 q1 q2 q3
  simp only [List.getElem?_cons_zero, List.getElem?_cons_succ, Option.getD_some, Nat.zero_mul, Nat.add_zero, Nat.one_mul] at c0 c1 c2 c3
  have hlen : (List.map intP [(1, 0), (2, 1)]).length = 2 := rfl
  rw [hlen]
  clear hlen
  go_wp2_with fail
  refine (length_m _ _ 3 3 3 3 2 kA kB _ K1.out K2.out (by decide) (by decide) kLen).mono ?_
  rintro e w2 ⟨rfl, hg⟩
  have L1 := Lib.hid (K1.out.calm hg)
  have L2 := Lib.hid (K2.out.calm hg)
  have LP := Lib.hid (HP.out.calm hg)
  have HG2 := Lib.hid (grownBy_trans HG1.out hg)
  clear hg K1 K2 HP c0 c1 c2 c3
  go_wp2_with fail
  refine (is_m _ _ _ 3 3 2 3 3 c _ _ kA kB [(1, 0), (2, 1)] true _ L1.out L2.out LP.out (by decide) (by decide) (by decide) kYes).mono ?_
  rintro e w3 ⟨rfl, hg⟩
  have M1 := Lib.hid (L1.out.calm hg)
  have M2 := Lib.hid (L2.out.calm hg)
  have HG3 := Lib.hid (grownBy_trans HG2.out hg)
  clear hg L1 L2 LP
  go_wp2_with fail
  have hga := World.grownBy_alloc w3 (.cells #[.int .i64 0, .int .i64 0] 33) none
  refine (is_m _ _ _ 3 3 1 3 3 1 _ _ kA kB [(0, 0)] false _ (M1.out.calm hga) (M2.out.calm hga) (pairsAt_one w3 0 0) (by decide) (by decide) (by decide) kNo).mono ?_
  rintro e w4 ⟨rfl, hg⟩
  have HG4 := Lib.hid (grownBy_trans (grownBy_trans HG3.out hga) hg)
  clear hg hga M1 M2
  go_wp2
  go_ret
  exact ⟨rfl, HG4.out⟩

/-- The texts that bytes stand for. -/
def txL (l : List Nat) : List ByteArray := l.map fun x => oneS ((97 + x % 4 : Nat) : Int)
theorem txL_small (l : List Nat) : smallT (txL l) := by
  intro x hx
  unfold txL at hx
  obtain ⟨y, _, rfl⟩ := List.mem_map.1 hx
  rw [oneS_size]
  decide
theorem txL_len (l : List Nat) : (txL l).length = l.length := List.length_map _
theorem txL_take {l : List Nat} {k : Nat} (hk : k < l.length) : txL (l.take (k + 1)) = txL (l.take k) ++ [oneS ((97 + l[k]?.getD 0 % 4 : Nat) : Int)] := by
  rw [List.take_succ_eq_append_getElem hk, List.getElem?_eq_getElem hk]
  unfold txL
  rw [List.map_append]
  rfl

theorem cell_one_at11 (w : World) (o : Obj) (x : Value) (t : TypeId) : ∀ j u, [x][j]? = some u → ((w.alloc o).alloc (.cells #[x] t)).cell? ((⟨w.heap.size + 1, 0, none⟩ : Addr).add j) = some u := by
  have := cell_one_new (w.alloc o) x t
  rw [World.size_alloc] at this
  exact this
/-- A text more, made of one byte: what the row is behind it. -/
theorem grownBy_app2 {w wr w1 : World} {o o' : Obj} {size n : Nat} {e : TypeId} {v : Value} {xs : List Value} (hg : w.grownBy wr none) (hrow : wr.ownsRow w.heap.size e size v n xs) (hgrow : ((wr.alloc o).alloc o').grownBy w1 v.ownBlock) : w.grownBy w1 none :=
  grownBy_app (grownBy_trans hg (World.grownBy_alloc wr o none)) (hrow.alloc o) hgrow
theorem txt_own {w w' : World} {v : Value} {n : Nat} {l : List ByteArray} (hn : l.length = n) (hs : smallT l) (h : w'.ownsRow w.heap.size 9 1 v n (scells l)) : ∃ q d, v = .slice q n d ∧ TxtAt w' q n d l := by
  subst hn
  obtain ⟨q, d, rfl, h1, _, h3⟩ := strsAt_ownC h
  exact ⟨q, d, rfl, ⟨_, _, h1⟩, h3, hs⟩

set_option maxHeartbeats 4000000 in
theorem texts_c (p : Option Addr) (n c lo hi : Nat) (l : List Nat) (w : World) (h : UsAt w lo hi p n l) (hn : n ≤ 1000) :
    Calls Try.prog 9 #[.slice p n c] w fun e w' => ∃ q d, e = .returned (.slice q n d) ∧ TxtAt w' q n d (txL l) ∧ w.grownBy w' none := by
  obtain ⟨i0, hi', hz0, hz1, hz2⟩ := info_parts Try.info9
  have H := Lib.hid h
  clear h
  go_enter Try.func9, Try.ntmps9
  go_wp2
  go_loopw [3, 4] (fun v i wr => ∃ k : Nat, k ≤ n ∧ i = .int .i64 k ∧ wr.ownsRow w.heap.size 9 1 v k (scells (txL (l.take k))) ∧ w.grownBy wr none) (fun _ i _ => n - (intOf i).toNat)
  case atStart => exact ⟨0, Nat.zero_le _, rfl, World.ownsRow_nil _ _ _ _, grownBy_refl _ _⟩
  case round =>
    obtain ⟨k, hk, rfl, hrow, hg⟩ := hrel
    by_cases hkn : k < n
    · obtain ⟨b, off, rfl, q1, q2, q3, hc⟩ := (H.out.calm hg).cell (by omega)
      have hck := hc k hkn
      have hlt := H.out.lt hkn
      have HT := Lib.hid (txL_take (l := l) (k := k) (by rw [H.out.len]; exact hkn))
      clear hc
      have k0 : (0 : Int) ≤ k := by omega
      have k1 : (k : Int) < n := by omega
      generalize l[k]?.getD 0 = x at *
      have x0 : (0 : Int) ≤ x := by omega
      have x1 : (x : Int) < 256 := by omega
      have hsz := hg.size
      obtain ⟨z, hz⟩ : ∃ z, 97 + x % 4 = z := ⟨_, rfl⟩
      have hzi : (97 : Int) + (x : Int) % 4 = (z : Int) := by omega
      rw [hz] at HT
      have HZ := Lib.hid hz
      clear hz
      have hcv := conv_u8 (z : Int) wr
      go_wp2_with (at_builtin; refine wpList_append_own _ rfl _ _ 25 rfl w.heap.size 9 i0 (.string .empty) 1 16 Try.underlying25 hi' hz0 hz1 hz2 rfl (by decide) _ _ _ rfl ((hrow.alloc _).alloc _) ⟨wr.heap.size + 1, 0, none⟩ 1 1 [.string (oneS (z : Int))] rfl rfl (cell_one_at11 _ _ _ _) (by simp [Value.oneCell']) (by unfold maxLen; omega) (by omega) (by simp; omega) ?_; intro v' w1 hown' hgrow _; obtain ⟨g', cap', rfl⟩ := ownsRow_succ hown'; have HO := Lib.hid hown'; have HG := Lib.hid (grownBy_app2 hg hrow hgrow); clear hown' hgrow)
      exact ⟨⟨k + 1, by omega, by go_num, by rw [HT.out, scells_snoc]; exact HO.out, HG.out⟩, by simp [intOf]; omega⟩
    · obtain rfl : k = n := by omega
      have hl : l.take k = l := List.take_of_length_le (by rw [H.out.len]; exact Nat.le_refl _)
      rw [hl] at hrow
      obtain ⟨q, d, rfl, ht⟩ := txt_own (by rw [txL_len, H.out.len]) (txL_small l) hrow
      go_wp2
      go_ret
      exact ⟨q, d, rfl, ht, hg⟩

set_option maxHeartbeats 1000000 in
theorem same11_r (p1 p2 : Option Addr) (n1 n2 c1 c2 lo1 hi1 lo2 hi2 : Nat) (l1 l2 : List (Int × Int)) (r : Bool) (w : World) (h1 : PairsAt w lo1 hi1 p1 n1 l1) (h2 : PairsAt w lo2 hi2 p2 n2 l2) (hs : n1 ≤ 1000000) (hr : decide (l1 = l2) = r) :
    Calls Try.prog 10 #[.slice p1 n1 c1, .slice p2 n2 c2] w fun e w' => e = .returned (.bool r) ∧ w.grownBy w' none := by
  by_cases hl : n1 = n2
  · obtain rfl : n1 = n2 := hl
    have hb : ((n1 : Int) != (n1 : Int)) = false := by simp
    have H1 := Lib.hid h1
    have H2 := Lib.hid h2
    have HR := Lib.hid hr
    clear h1 h2 hr
    go_enter Try.func10, Try.ntmps10
    go_wp2
    go_loopw [5] (fun i wr => ∃ k : Nat, k ≤ n1 ∧ i = .int .i64 k ∧ Hid (l1.take k = l2.take k) ∧ w.grownBy wr none) (fun i _ => n1 - (intOf i).toNat)
    case atStart => exact ⟨0, Nat.zero_le _, rfl, Lib.hid rfl, grownBy_refl _ _⟩
    case round =>
      obtain ⟨k, hk, rfl, HT, hgr⟩ := hrel
      by_cases hkn : k < n1
      · obtain ⟨b1, o1, rfl, q1, q2, q3, hc1⟩ := (H1.out.calm hgr).cell (by omega)
        obtain ⟨b2, o2, rfl, r1, r2, r3, hc2⟩ := (H2.out.calm hgr).cell (by omega)
        obtain ⟨x1, x2⟩ := hc1 k hkn
        obtain ⟨y1, y2⟩ := hc2 k hkn
        clear hc1 hc2
        have k0 : (0 : Int) ≤ k := by omega
        have k1 : (k : Int) < n1 := by omega
        have hN := pair_neq (l1[k]?.getD (0, 0)).1 (l1[k]?.getD (0, 0)).2 (l2[k]?.getD (0, 0)).1 (l2[k]?.getD (0, 0)).2
        by_cases heq : l1[k]?.getD (0, 0) = l2[k]?.getD (0, 0)
        · have e1 : (!((l1[k]?.getD (0, 0)).1 == (l2[k]?.getD (0, 0)).1 && (l1[k]?.getD (0, 0)).2 == (l2[k]?.getD (0, 0)).2)) = false := by rw [heq]; simp
          rw [e1] at hN
          have HT2 := Lib.hid (take_eq_succ (by rw [H1.out.len]; exact hkn) (by rw [H2.out.len]; exact hkn) HT.out heq)
          clear heq e1
          generalize l1[k]?.getD (0, 0) = u at *
          generalize l2[k]?.getD (0, 0) = v at *
          go_wp2
          go_quiet (fail)
          go_wp2
          exact ⟨⟨k + 1, by omega, by go_num, HT2, grownBy_trans hgr (grownBy_drewN _ _ none)⟩, by simp [intOf]; omega⟩
        · have e1 : (!((l1[k]?.getD (0, 0)).1 == (l2[k]?.getD (0, 0)).1 && (l1[k]?.getD (0, 0)).2 == (l2[k]?.getD (0, 0)).2)) = true := by
            rw [Bool.not_eq_true', Bool.and_eq_false_iff, beq_eq_false_iff_ne, beq_eq_false_iff_ne]
            by_cases e0 : (l1[k]?.getD (0, 0)).1 = (l2[k]?.getD (0, 0)).1
            · exact .inr fun e2 => heq (Prod.ext e0 e2)
            · exact .inl e0
          rw [e1] at hN
          have hrf : r = false := by
            rw [← HR.out, decide_eq_false_iff_not]
            intro e
            exact heq (by rw [e])
          subst hrf
          clear heq e1
          generalize l1[k]?.getD (0, 0) = u at *
          generalize l2[k]?.getD (0, 0) = v at *
          go_wp2
          go_quiet (fail)
          go_wp2
          go_ret
          exact ⟨rfl, grownBy_trans hgr (grownBy_drewN _ _ none)⟩
      · obtain rfl : k = n1 := by omega
        have hrt : r = true := by
          have := HT.out
          rw [List.take_of_length_le (by rw [H1.out.len]; exact Nat.le_refl _), List.take_of_length_le (by rw [H2.out.len]; exact Nat.le_refl _)] at this
          rw [← HR.out]
          simpa using this
        subst hrt
        go_wp2
        go_ret
        exact ⟨rfl, hgr⟩
  · have hb : ((n1 : Int) != (n2 : Int)) = true := by simp; omega
    have hrf : r = false := by
      rw [← hr, decide_eq_false_iff_not]
      intro e
      exact hl (by rw [← h1.len, ← h2.len, e])
    subst hrf
    clear h1 h2 hl hr
    go_enter Try.func10, Try.ntmps10
    go_wp2
    go_ret
    exact ⟨rfl, grownBy_refl _ _⟩

end Go.Proofs.Ytbobbpghdfhkgaa
