/- The contract of the iterator neighbours of package obj, which hands over each pair with the one behind it. -/
import Derived.OrdersIn
import Derived.RegionIn
import Derived.Stop.RegionWithIn
import Derived.Test.YtdolcdededmlhaaDoorStr
namespace Go.Proofs.YtdolcdededmlhaaDoor
open Go.RowKit Go.Shelf
attribute [local go_sem] Oper.semAt_some

abbrev PP := (Int × Int) × (Int × Int)
/-- Pairs with the ones behind them, the first k - 1 of them. -/
def nbr (l : List (Int × Int)) (k : Nat) : List PP := (List.range (k - 1)).map fun i => (l[i]?.getD (0, 0), l[i + 1]?.getD (0, 0))
def ltP (x : PP) : Bool := decide (x.1.1 < x.2.1) || (decide (x.1.1 = x.2.1) && decide (x.1.2 < x.2.2))
/-- Whether pairs rise. -/
def risesB (l : List (Int × Int)) : Bool := (nbr l l.length).all ltP
def encN (x : PP) : Array Value := #[.agg #[.int .i64 x.1.1, .int .i64 x.1.2], .agg #[.int .i64 x.2.1, .int .i64 x.2.2]]

theorem nbr_succ (l : List (Int × Int)) (k : Nat) : nbr l (k + 1 + 1) = nbr l (k + 1) ++ [(l[k]?.getD (0, 0), l[k + 1]?.getD (0, 0))] := by
  unfold nbr
  rw [Nat.add_sub_cancel, Nat.add_sub_cancel, List.range_succ, List.map_append]
  rfl
theorem nbr_split (l : List (Int × Int)) {k m : Nat} (hk : k + 1 < m) : ∃ rest, nbr l m = nbr l (k + 1) ++ ([(l[k]?.getD (0, 0), l[k + 1]?.getD (0, 0))] ++ rest) := by
  have h : ∃ r, nbr l m = nbr l (k + 1 + 1) ++ r := by
    unfold nbr
    refine ⟨((List.range (m - 1 - (k + 1))).map fun x => (k + 1) + x).map fun i => (l[i]?.getD (0, 0), l[i + 1]?.getD (0, 0)), ?_⟩
    rw [Nat.add_sub_cancel, ← List.map_append, ← List.range_add]
    congr 2
    omega
  obtain ⟨r, h⟩ := h
  exact ⟨r, by rw [h, nbr_succ, List.append_assoc]⟩

/-- A body's two ways, in one. -/
theorem yieldOr {e : Ending} {A B : Prop} (h : (e = .returned (.bool true) ∧ A) ∨ (e = .returned (.bool false) ∧ B)) : ∃ r : Bool, e = .returned (.bool r) ∧ ((r = true ∧ A) ∨ (r = false ∧ B)) := by
  rcases h with ⟨h, k⟩ | ⟨h, k⟩
  · exact ⟨true, h, .inl ⟨rfl, k⟩⟩
  · exact ⟨false, h, .inr ⟨rfl, k⟩⟩

set_option maxRecDepth 100000 in
set_option maxHeartbeats 4000000 in
theorem nbr1_in (n : Nat) (hn : 2 ≤ n) (l Bn n₀ m c lo hi : Nat) (p : Option Addr) (P : List (Int × Int)) (hBn : Bn < n₀) (hlo : hi ≤ n₀) (hm : m ≤ 1000000)
    (J Jx : List PP → World → Prop) (hab : ∀ s A B, J s A → A.grownBy B none → J s B)
    (hY : ∀ pre x W, J pre W → pre.length < (nbr P m).length → YieldAt Fence.wide (n - 1) Tryd.prog l (encN x) W fun e W' =>
      (e = .returned (.bool true) ∧ J (pre ++ [x]) W' ∧ Below n₀ W W') ∨ (e = .returned (.bool false) ∧ Jx (pre ++ [x]) W'))
    (W : World) (hc : W.cell? ⟨Bn, 0, none⟩ = some (.slice p m c)) (hn₀ : n₀ ≤ W.heap.size)
    (hP : PairsAt W lo hi p m P) (h0 : J [] W) :
    CallsIn Fence.wide n Tryd.prog 65 #[.func (.yield l) #[] #[], .pointer (some ⟨Bn, 0, none⟩)] W fun e W' => (∃ v, e = .returned v) ∧
      ((∃ ys, ys = nbr P m ∧ J ys W') ∨ (∃ pre, pre <+: nbr P m ∧ Jx pre W')) := by
  have HY := Lib.hid hY
  have HAB := Lib.hid hab
  have HP := Lib.hid hP
  have HC := Lib.hid hc
  clear hY hab hP hc
  refine callsIn_of_wp Tryd.func65 rfl trivial ?_ rfl
  simp only [Tryd.ntmps65, List.size_toArray, List.length_cons, List.length_nil, Nat.reduceAdd, Nat.reduceSub, Array.replicate_succ, Array.replicate_zero, List.push_toArray, List.append_toArray, List.nil_append, List.cons_append]
  gi_wp2
  gi_loopw [3] (fun i wr => ∃ k : Nat, (k + 1 ≤ m ∨ k = 0) ∧ i = .int .i64 ((k : Int) + 1) ∧ J (nbr P (k + 1)) wr ∧ Below n₀ W wr) (fun i _ => m + 1 - (intOf i).toNat)
  case atStart => exact ⟨0, .inr rfl, rfl, by simpa [nbr] using h0, Below.refl _ _⟩
  case round =>
    obtain ⟨k, hk, rfl, hJ, hB⟩ := hrel
    have hcb := (hB.cell (p := ⟨Bn, 0, none⟩) hBn).trans HC.out
    by_cases hkm : k + 1 < m
    · obtain ⟨b, off, rfl, q1, q2, q3, hcells⟩ := HP.out.cell (by omega)
      have hc0 := hcells k (by omega)
      have hc1 := hcells (k + 1) (by omega)
      have x1 := (hB.cell (p := ⟨b, off + k * 2, none⟩) (by show b < n₀; omega)).trans hc0.1
      have x2 := (hB.cell (p := ⟨b, off + k * 2 + 1, none⟩) (by show b < n₀; omega)).trans hc0.2
      have y1 := (hB.cell (p := ⟨b, off + (k + 1) * 2, none⟩) (by show b < n₀; omega)).trans hc1.1
      have y2 := (hB.cell (p := ⟨b, off + (k + 1) * 2 + 1, none⟩) (by show b < n₀; omega)).trans hc1.2
      clear hcells hc0 hc1
      have e0 : (k : Int) + 1 < m := by omega
      have e1 : IntKind.i64.wrap ((k : Int) + 1 - 1) = k := by rw [IntWalk.i64_in _ (by omega)]; omega
      have e7 : IntKind.i64.wrap (k : Int) = k := by rw [IntWalk.i64_in _ (by omega)]
      have e2 : (0 : Int) ≤ k := by omega
      have e3 : (k : Int) < m := by omega
      have e4 : (0 : Int) ≤ (k : Int) + 1 := by omega
      have e5 : k < m := by omega
      have e6 : ((k : Int) + 1).toNat = k + 1 := by omega
      obtain ⟨rest, hsp⟩ := nbr_split P hkm
      have hlen : (nbr P (k + 1)).length < (nbr P m).length := by rw [hsp]; simp
      have HPX : Hid (nbr P (k + 1) ++ [(P[k]?.getD (0, 0), P[k + 1]?.getD (0, 0))] <+: nbr P m) := by
        refine Lib.hid ?_
        rw [hsp, ← List.append_assoc]
        exact List.prefix_append _ _
      have HNX := Lib.hid (nbr_succ P k)
      have hJ1 : J (nbr P (k + 1)) wr.drew := HAB.out _ _ _ hJ (grownBy_drewN wr 1 none)
      obtain ⟨fn, tmps, assign, body, hyy, hR⟩ := HY.out _ (P[k]?.getD (0, 0), P[k + 1]?.getD (0, 0)) wr.drew hJ1 hlen
      have hB1 : Hid (Below n₀ W wr.drew) := Lib.hid (hB.trans (grownBy_below (grownBy_drewN wr 1 none) |>.mono (by have := hB.size; omega)))
      unfold encN at hyy
      simp only at hyy
      clear hsp hlen hJ1 hJ
      generalize P[k]?.getD (0, 0) = u at *
      generalize P[k + 1]?.getD (0, 0) = v at *
      gi_wp2
      gi_region_with (refine ⟨fun _ => by omega, hR.mono ?_⟩; rintro e W3 h9; obtain ⟨r9, rfl, h9'⟩ := yieldOr h9; clear h9)
      all_goals
        rcases h9' with ⟨rfl, hJ3, hk3⟩ | ⟨rfl, hJx3⟩
        · gi_wp2
          exact ⟨⟨k + 1, .inl (by omega), by go_num, by rw [HNX.out]; exact hJ3, hB1.out.trans hk3⟩, by simp [intOf]; omega⟩
        · gi_wp2
          refine bodyPost_ret (results_none rfl _ _ _) rfl ?_
          exact ⟨⟨_, rfl⟩, .inr ⟨_, HPX.out, hJx3⟩⟩
    · have e0 : ¬ ((k : Int) + 1 < m) := by omega
      have HE : Hid (nbr P (k + 1) = nbr P m) := by
        refine Lib.hid ?_
        unfold nbr
        rw [show k + 1 - 1 = m - 1 from by omega]
      gi_wp2
      go_end0
      exact ⟨⟨_, rfl⟩, .inl (by rw [HE.out] at hJ; first | exact hJ | exact ⟨_, rfl, hJ⟩)⟩

set_option maxHeartbeats 1000000 in
theorem nbr_in (n : Nat) (p : Option Addr) (m c : Nat) (w : World) :
    CallsIn Fence.wide n Tryd.prog 61 #[.slice p m c] w fun e w' => e = .returned (.func (.func 65) #[] #[.pointer (some ⟨w.heap.size, 0, none⟩)]) ∧ w' = w.alloc (.cells #[.slice p m c] 23) := by
  refine callsIn_of_wp Tryd.func61 rfl trivial ?_ rfl
  simp only [Tryd.ntmps61, List.size_toArray, List.length_cons, List.length_nil, Nat.reduceAdd, Nat.reduceSub, Array.replicate_succ, Array.replicate_zero, List.push_toArray, List.append_toArray, List.nil_append, List.cons_append]
  gi_wp2
  go_ret
  exact ⟨rfl, rfl⟩

/-- The iterator hands over all pairs of neighbours, or the first of them. -/
theorem nbr_stops (n : Nat) (hn : 2 ≤ n) (Bn n₀ m c lo hi : Nat) (p : Option Addr) (P : List (Int × Int)) (w : World) (hBn : Bn < n₀) (hlo : hi ≤ n₀) (hm : m ≤ 1000000) (hn₀ : n₀ ≤ w.heap.size) (hP : PairsAt w lo hi p m P)
    (hc : w.cell? ⟨Bn, 0, none⟩ = some (.slice p m c)) :
    SeqStopsK Fence.wide n Tryd.prog 65 #[.pointer (some ⟨Bn, 0, none⟩)] encN (Below n₀) (fun ys => ys = nbr P m) (fun pre => pre <+: nbr P m) (nbr P m).length w := fun l J Jx W hW hJ _ hY h0 =>
  nbr1_in n hn l Bn n₀ m c lo hi p P hBn hlo hm J Jx (fun s A B hs hg' => hJ s A B none hs hg' (by simp)) hY W ((hW.cell (p := ⟨Bn, 0, none⟩) (by show Bn < w.heap.size; omega)).trans hc) (Nat.le_trans hn₀ hW.size) (hP.calm (below_grownBy hW)) h0

end Go.Proofs.YtdolcdededmlhaaDoor
