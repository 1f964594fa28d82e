/- The contract of the iterator behind All: it hands over the places that are on, rising, to every loop body that keeps what lay before. -/
import Derived.RangeFuncBox
import Derived.RangeFuncNested
import Derived.RangeFuncBound
import Derived.RangeFuncCalls
import Derived.RangeFuncLeaves
import Derived.Shelf.Abstract
import Derived.Shelf.RegionOpen
import Derived.OwnWalkIn
import Derived.TacticsInMore
import Derived.LoopNIn
import Derived.LoopIn
import Derived.Maps.AppendAt
import Derived.Test.YtdolcdededmlhaaDoorTz
namespace Go.Proofs.YtdolcdededmlhaaDoor
open Go.RowKit Go.Shelf
attribute [local go_sem] Oper.semAt_some

/-- The places as ints. -/
def ints (l : List Nat) : List Int := l.map fun i : Nat => (i : Int)

theorem ints_snoc (l : List Nat) (i : Nat) : ints (l ++ [i]) = ints l ++ [(i : Int)] := by simp [ints]
theorem onL_zero (S : Nat → Bool) : ints (onL S 0) = [] := rfl

theorem Tab.below {n₀ : Nat} {w w' : World} (h : Tab w) (hb : Below n₀ w w') (hg : 0 < n₀) : Tab w' :=
  ⟨Nat.lt_of_lt_of_le h.1 hb.size, fun j hj => (hb.cell (p := ⟨0, j, none⟩) hg).trans (h.2 j hj)⟩

theorem lsf_zero (n : Nat) : ∀ off, Bw.lsf n off 0 = [] := by
  induction n with
  | zero => intro off; rfl
  | succ n ih => intro off; rw [Bw.lsf, if_neg (by omega)]; exact ih _

set_option maxRecDepth 100000 in
set_option maxHeartbeats 2000000 in
theorem each1_in (n : Nat) (hn : 1 ≤ n) (l Bn n₀ b wb len cap : Nat) (ws : List Nat) (hl : ws.length = len) (hl16 : len ≤ 16) (hlt : ∀ k : Nat, ws[k]?.getD 0 < 18446744073709551616) (hwb : wb < n₀) (hg : 0 < n₀)
    (J Jx : List Int → World → Prop)
    (hY : ∀ pre x W, J pre W → pre.length < (onL (onB ws) (64 * len)).length → YieldAt Fence.wide (n - 1) Tryd.prog l #[.int .i64 x] W fun e W' =>
      (e = .returned (.bool true) ∧ J (pre ++ [x]) W' ∧ Below n₀ W W') ∨ (e = .returned (.bool false) ∧ Jx (pre ++ [x]) W'))
    (W : World) (ht : Tab W) (hBn : W.cell? ⟨Bn, 0, none⟩ = some (.pointer (some ⟨b, 0, none⟩)))
    (hc1 : W.cell? ⟨b, 1, none⟩ = some (.slice (some ⟨wb, 0, none⟩) len cap)) (hc : ∀ k, k < len → W.cell? ⟨wb, k, none⟩ = some (.int .u64 (ws[k]?.getD 0 : Nat))) (h0 : J [] W) :
    CallsIn Fence.wide n Tryd.prog 66 #[.func (.yield l) #[] #[], .pointer (some ⟨Bn, 0, none⟩)] W fun e W' => (∃ v, e = .returned v) ∧
      ((∃ ys, ys = ints (onL (onB ws) (64 * len)) ∧ J ys W') ∨ (∃ pre, pre <+: ints (onL (onB ws) (64 * len)) ∧ Jx pre W')) := by
  have HY := Lib.hid hY
  have HC := Lib.hid hc
  have HLT := Lib.hid hlt
  have HT := Lib.hid ht
  clear hY hc hlt ht
  refine callsIn_of_wp Tryd.func66 rfl trivial ?_ rfl
  simp only [Tryd.ntmps66, List.size_toArray, List.length_cons, List.length_nil, Nat.reduceAdd, Nat.reduceSub, Array.replicate_succ, Array.replicate_zero, List.push_toArray, List.append_toArray, List.nil_append, List.cons_append]
  gi_wp2
  gi_loopw [10] (fun i wr => ∃ k : Nat, k ≤ len ∧ i = .int .i64 k ∧ J (ints (onL (onB ws) (64 * k))) wr ∧ Below n₀ W wr)
    (fun i _ => len - (intOf i).toNat)
  case atStart => exact ⟨0, Nat.zero_le _, rfl, by rw [Nat.mul_zero, onL_zero]; exact h0, Below.refl _ _⟩
  case round =>
    obtain ⟨k, hk, rfl, hJ, hnx⟩ := hrel
    by_cases hkl : k < len
    · have hcell := (hnx.cell (p := ⟨wb, k, none⟩) hwb).trans (HC.out k hkl)
      have hx := HLT.out k
      have hword := Lib.hid (onL_word ws k)
      generalize ws[k]?.getD 0 = x at *
      gi_wp2
      gi_loopw [4] (fun v wi => ∃ (y : Nat) (done : List Nat), v = .int .u64 (y : Nat) ∧ y < 18446744073709551616 ∧ Hid (Bw.lsf 64 (64 * k) x = done ++ Bw.lsf 64 (64 * k) y) ∧ J (ints (onL (onB ws) (64 * k) ++ done)) wi ∧ Below n₀ W wi)
        (fun v _ => (intOf v).toNat)
      case atStart => exact ⟨x, [], rfl, hx, rfl, by rw [List.append_nil]; exact hJ, hnx⟩
      case round =>
        obtain ⟨y, done, rfl, hy, hsplit, hJi, hni⟩ := hrel
        by_cases hy0 : y = 0
        · have hz : ((y : Int) != 0) = false := by simp [hy0]
          have hend : onL (onB ws) (64 * (k + 1)) = onL (onB ws) (64 * k) ++ done := by
            rw [hword.out, hsplit.out, hy0, lsf_zero, List.append_nil]
          have HE := Lib.hid hend
          clear hend hy0
          gi_wp2
          refine ⟨⟨k + 1, by omega, by go_num, by rw [HE.out]; exact hJi, hni⟩, by simp [intOf]; omega⟩
        · obtain ⟨t, m, hym⟩ := Bw.odd_part y (by omega)
          have hz : ((y : Int) != 0) = true := by simp; omega
          have ht : t < 64 := Bw.lt_of_part (m := m) (by rw [← hym]; simpa using hy)
          have hlow := Bw.lsf_low hym ht (64 * k)
          have hclr := Bw.low_clear hym
          have hlty : 2 ^ t * (2 * m) < y := by
            have hp := Nat.two_pow_pos t
            rw [hym, Nat.mul_add]; omega
          have hB2 := u64_and_nat y (y - 1) hy (by omega)
          rw [hclr, show ((y - 1 : Nat) : Int) = (y : Int) - 1 from by omega] at hB2
          have htz := Lib.hid (fun w1 (h1 : Tab w1) => tz_c y t m w1 hy hym h1)
          have htab := Lib.hid (HT.out.below hni hg)
          have hs2 : Bw.lsf 64 (64 * k) x = (done ++ [64 * k + t]) ++ Bw.lsf 64 (64 * k) (2 ^ t * (2 * m)) := by
            rw [hsplit.out, hlow]; simp
          have HS2 := Lib.hid hs2
          have hpre : onL (onB ws) (64 * (k + 1)) = onL (onB ws) (64 * k) ++ done ++ (64 * k + t) :: Bw.lsf 64 (64 * k) (2 ^ t * (2 * m)) := by
            rw [hword.out, hs2]; simp
          have hall : onL (onB ws) (64 * len) = onL (onB ws) (64 * k) ++ done ++ ([64 * k + t] ++ (Bw.lsf 64 (64 * k) (2 ^ t * (2 * m)) ++ (((List.range (64 * len - 64 * (k + 1))).map fun i => 64 * (k + 1) + i).filter (onB ws)))) := by
            have : onL (onB ws) (64 * len) = onL (onB ws) (64 * (k + 1)) ++ (((List.range (64 * len - 64 * (k + 1))).map fun i => 64 * (k + 1) + i).filter (onB ws)) := by
              unfold onL
              rw [← List.filter_append, ← List.range_add]
              congr 2
              omega
            rw [this, hpre]; simp
          have hlen : (ints (onL (onB ws) (64 * k) ++ done)).length < (onL (onB ws) (64 * len)).length := by
            rw [hall]; unfold ints; rw [List.length_map]; simp
          have hprefix : ints (onL (onB ws) (64 * k) ++ done) ++ [(k : Int) * 64 + (t : Int)] <+: ints (onL (onB ws) (64 * len)) := by
            rw [hall, show (k : Int) * 64 + (t : Int) = ((64 * k + t : Nat) : Int) from by omega, ← ints_snoc]
            unfold ints
            rw [← List.append_assoc, List.map_append (l₁ := onL (onB ws) (64 * k) ++ done ++ [64 * k + t])]
            exact List.prefix_append _ _
          have HPX := Lib.hid hprefix
          have hsn : ints (onL (onB ws) (64 * k) ++ (done ++ [64 * k + t])) = ints (onL (onB ws) (64 * k) ++ done) ++ [(k : Int) * 64 + (t : Int)] := by
            rw [show (k : Int) * 64 + (t : Int) = ((64 * k + t : Nat) : Int) from by omega, ← ints_snoc, List.append_assoc]
          have HSN := Lib.hid hsn
          obtain ⟨fn, tmps, assign, body, hyy, hR⟩ := HY.out (ints (onL (onB ws) (64 * k) ++ done)) ((k : Int) * 64 + (t : Int)) wr hJi hlen
          have HB2 := Lib.hid hB2
          generalize hQ : 2 ^ t * (2 * m) = y2 at *
          clear hQ hym hlow hclr hB2 hs2 hpre hall hlen hprefix hsn hy0
          gi_wp2_with (refine ⟨trivial, ?_⟩; gi_at_call 67; refine (callsIn_wide.2 (htz.out _ (by exact htab.out))).mono ?_; rintro e w9 ⟨rfl, h9⟩; subst w9)
          refine hR.mono ?_
          rintro e W3 (⟨rfl, hJ3, hk3⟩ | ⟨rfl, hJx3⟩)
          · gi_wp2
            rw [HB2.out]
            exact ⟨⟨y2, done ++ [64 * k + t], rfl, by omega, HS2.out, by rw [HSN.out]; exact hJ3, hni.trans hk3⟩, by simp [intOf]; omega⟩
          · gi_wp2
            refine bodyPost_ret (results_none rfl _ _ _) rfl ?_
            exact ⟨⟨_, rfl⟩, .inr ⟨_, HPX.out, hJx3⟩⟩
    · obtain rfl : k = len := by omega
      gi_wp2
      go_end0
      exact ⟨⟨_, rfl⟩, .inl ⟨_, rfl, hJ⟩⟩

set_option maxHeartbeats 1000000 in
theorem each_in (n : Nat) (p : Option Addr) (w : World) :
    CallsIn Fence.wide n Tryd.prog 62 #[.pointer p] w fun e w' => e = .returned (.func (.func 66) #[] #[.pointer (some ⟨w.heap.size, 0, none⟩)]) ∧ w' = w.alloc (.cells #[.pointer p] 62) := by
  refine callsIn_of_wp Tryd.func62 rfl trivial ?_ rfl
  simp only [Tryd.ntmps62, List.size_toArray, List.length_cons, List.length_nil, Nat.reduceAdd, Nat.reduceSub, Array.replicate_succ, Array.replicate_zero, List.push_toArray, List.append_toArray, List.nil_append, List.cons_append]
  gi_wp2
  go_ret
  exact ⟨rfl, rfl⟩

/-- The iterator hands over all places that are on, rising, or the first of them. -/
theorem each_stops (n : Nat) (hn : 1 ≤ n) (Bn n₀ b wb m : Nat) (ws : List Nat) (w : World) (hr : RowW w b wb m ws) (ht : Tab w) (hb : b < n₀) (hwb : wb < n₀) (hg : 0 < n₀) (hBn : Bn < w.heap.size) (hn₀ : n₀ ≤ w.heap.size)
    (hc : w.cell? ⟨Bn, 0, none⟩ = some (.pointer (some ⟨b, 0, none⟩))) :
    SeqStopsK Fence.wide n Tryd.prog 66 #[.pointer (some ⟨Bn, 0, none⟩)] (fun x : Int => #[Value.int .i64 x]) (Below n₀) (fun ys => ys = ints (onL (onB ws) (64 * ws.length))) (fun pre => pre <+: ints (onL (onB ws) (64 * ws.length))) (onL (onB ws) (64 * ws.length)).length w := fun l J Jx W hW _ _ hY h0 => by
  obtain ⟨cap, hc1⟩ := hr.c1
  have hW' := hW.mono hn₀
  exact each1_in n hn l Bn n₀ b wb ws.length cap ws rfl (by have := hr.words.len; have := hr.small; omega) hr.words.lt hwb hg J Jx hY W (ht.below hW' hg) ((hW.cell (p := ⟨Bn, 0, none⟩) hBn).trans hc)
    ((hW'.cell (p := ⟨b, 1, none⟩) hb).trans hc1) (fun k hk => (hW'.cell (p := ⟨wb, k, none⟩) hwb).trans (hr.mem.cell k hk)) h0

end Go.Proofs.YtdolcdededmlhaaDoor
