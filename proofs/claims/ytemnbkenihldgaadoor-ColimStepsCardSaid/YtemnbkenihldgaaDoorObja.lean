/- Package obj: labels and pairs in memory, the contracts of all its functions. -/
import Derived.Test.YtemnbkenihldgaaDoorRelb
import Derived.Test.YtemnbkenihldgaaDoorMats
import Derived.OrdersIn
import Derived.RegionIn
import Derived.Stop.RegionWithIn
import Derived.Laws.AppendOwnNone
/-! Slices of strings in memory; the contract of checkLabels of package obj: whether there are too many labels, or one that is too long. -/
namespace Go.Proofs.YtemnbkenihldgaaDoor
open Go.RowKit

/-- A slice of strings that reads as l, in a block from lo to hi. -/
structure StrsAt (w : World) (lo hi : Nat) (p : Option Addr) (n : Nat) (l : List ByteArray) : Prop where
  len : l.length = n
  cell : 0 < n → ∃ b off, p = some ⟨b, off, none⟩ ∧ lo ≤ b ∧ b < hi ∧ hi ≤ w.heap.size ∧ ∀ k, k < n → w.cell? ⟨b, off + k, none⟩ = some (.string (l[k]?.getD .empty))

theorem StrsAt.calm {w w' : World} {lo hi : Nat} {p : Option Addr} {n : Nat} {l : List ByteArray} (h : StrsAt w lo hi p n l) (hg : w.grownBy w' none) : StrsAt w' lo hi p n l := by
  refine ⟨h.len, fun hn => ?_⟩
  obtain ⟨b, off, hp, h1, h2, h3, hc⟩ := h.cell hn
  have hb : w'.heap[b]? = w.heap[b]? := hg.block b (by omega) (by simp)
  exact ⟨b, off, hp, h1, h2, Nat.le_trans h3 hg.size, fun k hk => (World.cell?_of_block (a := ⟨b, off + k, none⟩) hb).trans (hc k hk)⟩

theorem StrsAt.apart {w w' : World} {lo hi lo' hi' : Nat} {p : Option Addr} {n : Nat} {l : List ByteArray} (h : StrsAt w lo hi p n l) (hg : Kept lo' hi' w w') (hd : hi ≤ lo' ∨ hi' ≤ lo) : StrsAt w' lo hi p n l := by
  refine ⟨h.len, fun hn => ?_⟩
  obtain ⟨b, off, hp, h1, h2, h3, hc⟩ := h.cell hn
  have hb : w'.heap[b]? = w.heap[b]? := hg.block b (by omega) (by omega)
  exact ⟨b, off, hp, h1, h2, Nat.le_trans h3 hg.size, fun k hk => (World.cell?_of_block (a := ⟨b, off + k, none⟩) hb).trans (hc k hk)⟩

theorem strsAt_nil (w : World) (lo hi : Nat) : StrsAt w lo hi none 0 [] := ⟨rfl, fun h => absurd h (by omega)⟩

/-- A label isn't too long. -/
def okS (s : ByteArray) : Bool := decide (s.size ≤ 60)
/-- What checkLabels answers. -/
def labErr (L : List ByteArray) : Int := if 40 < L.length then 11 else if L.all okS then 0 else 10

theorem all_take {L : List ByteArray} {k : Nat} (f : ByteArray → Bool) (hk : k < L.length) : (L.take (k + 1)).all f = ((L.take k).all f && f (L[k]?.getD .empty)) := by
  rw [List.take_succ_eq_append_getElem hk, List.getElem?_eq_getElem hk]
  simp only [List.all_append, List.all_cons, List.all_nil, Bool.and_true, Option.getD_some]

theorem all_out {L : List ByteArray} {k : Nat} (f : ByteArray → Bool) (hk : k < L.length) (h : f (L[k]?.getD .empty) = false) : L.all f = false := by
  rw [List.getElem?_eq_getElem hk] at h
  rw [Bool.eq_false_iff]
  intro e
  have := List.all_eq_true.1 e _ (List.getElem_mem hk)
  rw [show f L[k] = false from h] at this
  cases this

set_option maxHeartbeats 1000000 in
theorem checkLabels_c (p : Option Addr) (n c lo hi : Nat) (L : List ByteArray) (k9 : Int) (w : World) (h : StrsAt w lo hi p n L) (hk9 : labErr L = k9) :
    Calls Tryd.prog 64 #[.slice p n c] w fun e w' => e = .returned (.int .i64 k9) ∧ w' = w := by
  by_cases hn : 40 < n
  · have he : k9 = 11 := by rw [← hk9]; unfold labErr; rw [h.len, if_pos hn]
    subst he
    have h40 : (40 : Int) < n := by omega
    clear h hk9
    go_enter Tryd.func64, Tryd.ntmps64
    go_wp2
    go_ret
    exact ⟨rfl, rfl⟩
  · have h40 : (n : Int) ≤ 40 := by omega
    have HK : Hid ((if L.all okS then (0 : Int) else 10) = k9) := by
      refine Lib.hid ?_
      rw [← hk9]; unfold labErr; rw [h.len, if_neg hn]
    have H := Lib.hid h
    have HLEN := Lib.hid h.len
    clear h hk9
    go_enter Tryd.func64, Tryd.ntmps64
    go_wp2
    go_loop [10] (fun i => ∃ k : Nat, k ≤ n ∧ i = .int .i64 k ∧ Hid ((L.take k).all okS = true)) (fun i => n - (intOf i).toNat)
    case atStart => exact ⟨0, Nat.zero_le _, rfl, Lib.hid rfl⟩
    case round =>
      obtain ⟨k, hk, rfl, HA⟩ := hrel
      by_cases hkn : k < n
      · obtain ⟨b, off, rfl, q1, q2, q3, hc⟩ := H.out.cell (by omega)
        have hck := hc k hkn
        clear hc
        have HS := Lib.hid (all_take okS (L := L) (k := k) (by rw [HLEN.out]; exact hkn))
        have HO := Lib.hid (fun h => all_out okS (L := L) (k := k) (by rw [HLEN.out]; exact hkn) h)
        generalize L[k]?.getD .empty = s at *
        by_cases hs : s.size ≤ 60
        · have hs' : (s.size : Int) ≤ 60 := by omega
          have HN : Hid ((L.take (k + 1)).all okS = true) := Lib.hid (by rw [HS.out, HA.out]; simpa [okS] using hs)
          go_wp2
          go_round
          case rel => exact ⟨k + 1, by omega, by go_num, HN⟩
          case measure => simp [intOf]; omega
        · have hs' : (60 : Int) < s.size := by omega
          have hf : k9 = 10 := by
            rw [← HK.out, HO.out (by unfold okS; simpa using hs)]
            rfl
          subst hf
          go_wp2
          go_ret
          exact ⟨rfl, rfl⟩
      · obtain rfl : k = n := by omega
        have hf : k9 = 0 := by
          have := HA.out
          rw [List.take_of_length_le (by rw [HLEN.out]; exact Nat.le_refl _)] at this
          rw [← HK.out, this]
          rfl
        subst hf
        go_wp2
        go_ret
        exact ⟨rfl, rfl⟩

end Go.Proofs.YtemnbkenihldgaaDoor
/-! The contract of the iterator neighbours of package obj, which hands over each pair with the one behind it. -/
namespace Go.Proofs.YtemnbkenihldgaaDoor
open Go.RowKit Go.Shelf
attribute [local go_sem] Oper.semAt_some

abbrev PP := (Int × Int) × (Int × Int)
/-- Pairs with the ones behind them, the first k - 1 of them. -/
def nbr (l : List (Int × Int)) (k : Nat) : List PP := (List.range (k - 1)).map fun i => (l[i]?.getD (0, 0), l[i + 1]?.getD (0, 0))
def ltP (x : PP) : Bool := decide (x.1.1 < x.2.1) || (decide (x.1.1 = x.2.1) && decide (x.1.2 < x.2.2))
/-- Whether pairs rise. -/
def risesB (l : List (Int × Int)) : Bool := (nbr l l.length).all ltP
def encN (x : PP) : Array Value := #[.agg #[.int .i64 x.1.1, .int .i64 x.1.2], .agg #[.int .i64 x.2.1, .int .i64 x.2.2]]

theorem nbr_succ (l : List (Int × Int)) (k : Nat) : nbr l (k + 1 + 1) = nbr l (k + 1) ++ [(l[k]?.getD (0, 0), l[k + 1]?.getD (0, 0))] := by
  unfold nbr
  rw [Nat.add_sub_cancel, Nat.add_sub_cancel, List.range_succ, List.map_append]
  rfl
theorem nbr_split (l : List (Int × Int)) {k m : Nat} (hk : k + 1 < m) : ∃ rest, nbr l m = nbr l (k + 1) ++ ([(l[k]?.getD (0, 0), l[k + 1]?.getD (0, 0))] ++ rest) := by
  have h : ∃ r, nbr l m = nbr l (k + 1 + 1) ++ r := by
    unfold nbr
    refine ⟨((List.range (m - 1 - (k + 1))).map fun x => (k + 1) + x).map fun i => (l[i]?.getD (0, 0), l[i + 1]?.getD (0, 0)), ?_⟩
    rw [Nat.add_sub_cancel, ← List.map_append, ← List.range_add]
    congr 2
    omega
  obtain ⟨r, h⟩ := h
  exact ⟨r, by rw [h, nbr_succ, List.append_assoc]⟩

/-- A body's two ways, in one. -/
theorem yieldOr {e : Ending} {A B : Prop} (h : (e = .returned (.bool true) ∧ A) ∨ (e = .returned (.bool false) ∧ B)) : ∃ r : Bool, e = .returned (.bool r) ∧ ((r = true ∧ A) ∨ (r = false ∧ B)) := by
  rcases h with ⟨h, k⟩ | ⟨h, k⟩
  · exact ⟨true, h, .inl ⟨rfl, k⟩⟩
  · exact ⟨false, h, .inr ⟨rfl, k⟩⟩

set_option maxRecDepth 100000 in
set_option maxHeartbeats 4000000 in
theorem nbr1_in (n : Nat) (hn : 2 ≤ n) (l Bn n₀ m c lo hi : Nat) (p : Option Addr) (P : List (Int × Int)) (hBn : Bn < n₀) (hlo : hi ≤ n₀) (hm : m ≤ 1000000)
    (J Jx : List PP → World → Prop) (hab : ∀ s A B, J s A → A.grownBy B none → J s B)
    (hY : ∀ pre x W, J pre W → pre.length < (nbr P m).length → YieldAt Fence.wide (n - 1) Tryd.prog l (encN x) W fun e W' =>
      (e = .returned (.bool true) ∧ J (pre ++ [x]) W' ∧ Below n₀ W W') ∨ (e = .returned (.bool false) ∧ Jx (pre ++ [x]) W'))
    (W : World) (hc : W.cell? ⟨Bn, 0, none⟩ = some (.slice p m c)) (hn₀ : n₀ ≤ W.heap.size)
    (hP : PairsAt W lo hi p m P) (h0 : J [] W) :
    CallsIn Fence.wide n Tryd.prog 93 #[.func (.yield l) #[] #[], .pointer (some ⟨Bn, 0, none⟩)] W fun e W' => (∃ v, e = .returned v) ∧
      ((∃ ys, ys = nbr P m ∧ J ys W') ∨ (∃ pre, pre <+: nbr P m ∧ Jx pre W')) := by
  have HY := Lib.hid hY
  have HAB := Lib.hid hab
  have HP := Lib.hid hP
  have HC := Lib.hid hc
  clear hY hab hP hc
  refine callsIn_of_wp Tryd.func93 rfl trivial ?_ rfl
  simp only [Tryd.ntmps93, List.size_toArray, List.length_cons, List.length_nil, Nat.reduceAdd, Nat.reduceSub, Array.replicate_succ, Array.replicate_zero, List.push_toArray, List.append_toArray, List.nil_append, List.cons_append]
  gi_wp2
  gi_loopw [3] (fun i wr => ∃ k : Nat, (k + 1 ≤ m ∨ k = 0) ∧ i = .int .i64 ((k : Int) + 1) ∧ J (nbr P (k + 1)) wr ∧ Below n₀ W wr) (fun i _ => m + 1 - (intOf i).toNat)
  case atStart => exact ⟨0, .inr rfl, rfl, by simpa [nbr] using h0, Below.refl _ _⟩
  case round =>
    obtain ⟨k, hk, rfl, hJ, hB⟩ := hrel
    have hcb := (hB.cell (p := ⟨Bn, 0, none⟩) hBn).trans HC.out
    by_cases hkm : k + 1 < m
    · obtain ⟨b, off, rfl, q1, q2, q3, hcells⟩ := HP.out.cell (by omega)
      have hc0 := hcells k (by omega)
      have hc1 := hcells (k + 1) (by omega)
      have x1 := (hB.cell (p := ⟨b, off + k * 2, none⟩) (by show b < n₀; omega)).trans hc0.1
      have x2 := (hB.cell (p := ⟨b, off + k * 2 + 1, none⟩) (by show b < n₀; omega)).trans hc0.2
      have y1 := (hB.cell (p := ⟨b, off + (k + 1) * 2, none⟩) (by show b < n₀; omega)).trans hc1.1
      have y2 := (hB.cell (p := ⟨b, off + (k + 1) * 2 + 1, none⟩) (by show b < n₀; omega)).trans hc1.2
      clear hcells hc0 hc1
      have e0 : (k : Int) + 1 < m := by omega
      have e1 : IntKind.i64.wrap ((k : Int) + 1 - 1) = k := by rw [IntWalk.i64_in _ (by omega)]; omega
      have e7 : IntKind.i64.wrap (k : Int) = k := by rw [IntWalk.i64_in _ (by omega)]
      have e2 : (0 : Int) ≤ k := by omega
      have e3 : (k : Int) < m := by omega
      have e4 : (0 : Int) ≤ (k : Int) + 1 := by omega
      have e5 : k < m := by omega
      have e6 : ((k : Int) + 1).toNat = k + 1 := by omega
      obtain ⟨rest, hsp⟩ := nbr_split P hkm
      have hlen : (nbr P (k + 1)).length < (nbr P m).length := by rw [hsp]; simp
      have HPX : Hid (nbr P (k + 1) ++ [(P[k]?.getD (0, 0), P[k + 1]?.getD (0, 0))] <+: nbr P m) := by
        refine Lib.hid ?_
        rw [hsp, ← List.append_assoc]
        exact List.prefix_append _ _
      have HNX := Lib.hid (nbr_succ P k)
      have hJ1 : J (nbr P (k + 1)) wr.drew := HAB.out _ _ _ hJ (grownBy_drewN wr 1 none)
      obtain ⟨fn, tmps, assign, body, hyy, hR⟩ := HY.out _ (P[k]?.getD (0, 0), P[k + 1]?.getD (0, 0)) wr.drew hJ1 hlen
      have hB1 : Hid (Below n₀ W wr.drew) := Lib.hid (hB.trans (grownBy_below (grownBy_drewN wr 1 none) |>.mono (by have := hB.size; omega)))
      unfold encN at hyy
      simp only at hyy
      clear hsp hlen hJ1 hJ
      generalize P[k]?.getD (0, 0) = u at *
      generalize P[k + 1]?.getD (0, 0) = v at *
      gi_wp2
      gi_region_with (refine ⟨fun _ => by omega, hR.mono ?_⟩; rintro e W3 h9; obtain ⟨r9, rfl, h9'⟩ := yieldOr h9; clear h9)
      all_goals
        rcases h9' with ⟨rfl, hJ3, hk3⟩ | ⟨rfl, hJx3⟩
        · gi_wp2
          exact ⟨⟨k + 1, .inl (by omega), by go_num, by rw [HNX.out]; exact hJ3, hB1.out.trans hk3⟩, by simp [intOf]; omega⟩
        · gi_wp2
          refine bodyPost_ret (results_none rfl _ _ _) rfl ?_
          exact ⟨⟨_, rfl⟩, .inr ⟨_, HPX.out, hJx3⟩⟩
    · have e0 : ¬ ((k : Int) + 1 < m) := by omega
      have HE : Hid (nbr P (k + 1) = nbr P m) := by
        refine Lib.hid ?_
        unfold nbr
        rw [show k + 1 - 1 = m - 1 from by omega]
      gi_wp2
      go_end0
      exact ⟨⟨_, rfl⟩, .inl (by rw [HE.out] at hJ; first | exact hJ | exact ⟨_, rfl, hJ⟩)⟩

set_option maxHeartbeats 1000000 in
theorem nbr_in (n : Nat) (p : Option Addr) (m c : Nat) (w : World) :
    CallsIn Fence.wide n Tryd.prog 88 #[.slice p m c] w fun e w' => e = .returned (.func (.func 93) #[] #[.pointer (some ⟨w.heap.size, 0, none⟩)]) ∧ w' = w.alloc (.cells #[.slice p m c] 23) := by
  refine callsIn_of_wp Tryd.func88 rfl trivial ?_ rfl
  simp only [Tryd.ntmps88, List.size_toArray, List.length_cons, List.length_nil, Nat.reduceAdd, Nat.reduceSub, Array.replicate_succ, Array.replicate_zero, List.push_toArray, List.append_toArray, List.nil_append, List.cons_append]
  gi_wp2
  go_ret
  exact ⟨rfl, rfl⟩

/-- The iterator hands over all pairs of neighbours, or the first of them. -/
theorem nbr_stops (n : Nat) (hn : 2 ≤ n) (Bn n₀ m c lo hi : Nat) (p : Option Addr) (P : List (Int × Int)) (w : World) (hBn : Bn < n₀) (hlo : hi ≤ n₀) (hm : m ≤ 1000000) (hn₀ : n₀ ≤ w.heap.size) (hP : PairsAt w lo hi p m P)
    (hc : w.cell? ⟨Bn, 0, none⟩ = some (.slice p m c)) :
    SeqStopsK Fence.wide n Tryd.prog 93 #[.pointer (some ⟨Bn, 0, none⟩)] encN (Below n₀) (fun ys => ys = nbr P m) (fun pre => pre <+: nbr P m) (nbr P m).length w := fun l J Jx W hW hJ _ hY h0 =>
  nbr1_in n hn l Bn n₀ m c lo hi p P hBn hlo hm J Jx (fun s A B hs hg' => hJ s A B none hs hg' (by simp)) hY W ((hW.cell (p := ⟨Bn, 0, none⟩) (by show Bn < w.heap.size; omega)).trans hc) (Nat.le_trans hn₀ hW.size) (hP.calm (below_grownBy hW)) h0

end Go.Proofs.YtemnbkenihldgaaDoor
/-! The contract of rises of package obj: whether pairs rise. -/
namespace Go.Proofs.YtemnbkenihldgaaDoor
open Go.RowKit Go.Shelf
attribute [local go_sem] Oper.semAt_some

/-- So far all rise. -/
def upB (pre : List PP) : Bool := pre.all ltP
theorem upB_snoc (pre : List PP) (x : PP) : upB (pre ++ [x]) = (upB pre && ltP x) := by simp [upB]
theorem upB_not {pre l : List PP} (h : upB pre = false) (hp : pre <+: l) : upB l = false := by
  obtain ⟨t, rfl⟩ := hp
  unfold upB at *
  rw [List.all_append, h]
  rfl

set_option maxRecDepth 100000 in
set_option maxHeartbeats 4000000 in
theorem rises_in (n : Nat) (hn : 4 ≤ n) (p : Option Addr) (m c lo hi : Nat) (P : List (Int × Int)) (w : World) (hm : m ≤ 1000000) (hP : PairsAt w lo hi p m P) :
    CallsIn Fence.wide n Tryd.prog 80 #[.slice p m c] w fun e w' => e = .returned (.bool (risesB P)) ∧ w.grownBy w' none := by
  have h1 : 1 ≤ n := by omega
  have hro : Fence.wide.round = none := rfl
  have HP := Lib.hid hP
  clear hP
  refine callsIn_of_wp_marks Tryd.func80 rfl trivial ?_ hro
  simp only [Tryd.ntmps80, List.size_toArray, List.length_cons, List.length_nil, Nat.reduceAdd, Nat.reduceSub, Array.replicate_succ, Array.replicate_zero, List.push_toArray, List.append_toArray, List.nil_append, List.cons_append]
  gi_wp2_with (refine ⟨trivial, ?_⟩; gi_at_call 88; refine (nbr_in (n - 1) _ _ _ _).mono ?_; rintro e w9 ⟨rfl, rfl⟩)
  have bR := Boxed.new w 4 (.bool false)
  have bL := Boxed.new (w.alloc (.cells #[.bool false] 4)) 23 (.slice p m c)
  rw [World.size_alloc] at bL
  have hB0 : Below w.heap.size w ((w.alloc (.cells #[.bool false] 4)).alloc (.cells #[.slice p m c] 23)) :=
    ((Below.refl _ w).alloc (Nat.le_refl _) _).alloc (by simp) _
  have hP2 := HP.out.calm (below_grownBy hB0)
  have hP3 : PairsAt ((w.alloc (.cells #[.bool false] 4)).alloc (.cells #[.slice p m c] 23)) 0 (w.heap.size + 2) p m P := by
    refine ⟨hP2.len, fun h => ?_⟩
    obtain ⟨b, off, q0, q1, q2, q3, q4⟩ := HP.out.cell h
    obtain ⟨b', off', q0', _, _, _, q4'⟩ := hP2.cell h
    rw [q0] at q0'
    cases q0'
    exact ⟨b, off, q0, Nat.zero_le _, by omega, by simp, q4'⟩
  have HT := Lib.hid hP3.len
  refine wpIn_rangeFunc_ownH hro h1 (gf := 93) (lb := #[.pointer (some ⟨w.heap.size + 1, 0, none⟩)]) rfl trivial (enters_of Tryd.func93 (by kernel_rfl) rfl)
    (nbr_stops (n - 1) (by omega) (w.heap.size + 1) (w.heap.size + 2) m c 0 (w.heap.size + 2) p P _ (by omega) (Nat.le_refl _) hm (by simp) hP3 bL.cell) belowK_t (belowK_b (by simp)) (Below.refl _ _) (fun _ => rfl)
    (fun pre W => Boxed W w.heap.size 4 (.bool false) ∧ upB pre = true ∧ Below w.heap.size w W ∧ w.heap.size + 2 ≤ W.heap.size)
    (fun c pre W => c = .ret ∧ Boxed W w.heap.size 4 (.bool false) ∧ upB pre = false ∧ Below w.heap.size w W)
    (OwnFrom.and (Own.from (boxed_own w.heap.size 4 (fun _ => .bool false)) _) (OwnFrom.and (ownFrom_pure _ _) (OwnFrom.and (ownFrom_below (Nat.le_refl _) (by simp; omega)) (fun s A B row hs hg _ => Nat.le_trans hs hg.size))))
    (fun c => OwnFrom.and (ownFrom_pure _ _) (OwnFrom.and (Own.from (boxed_own w.heap.size 4 (fun _ => .bool false)) _) (OwnFrom.and (ownFrom_pure _ _) (ownFrom_below (Nat.le_refl _) (by simp; omega)))))
    ⟨bR.alloc _, rfl, hB0, by simp⟩
    (fun x a' W => ∃ B1 B2, PairBox x.1 B1 W ∧ PairBox x.2 B2 W ∧ w.heap.size < B1 ∧ w.heap.size < B2 ∧ a' = { tmps := #[.slice p m c, undef, .pointer (some ⟨w.heap.size, 0, none⟩), .pointer (some ⟨B1, 0, none⟩), .pointer (some ⟨B2, 0, none⟩), .slice p m c, .func (.func 93) #[] #[.pointer (some ⟨w.heap.size + 1, 0, none⟩)], .agg #[.int .i64 x.1.1, .int .i64 x.1.2], .agg #[.int .i64 x.2.1, .int .i64 x.2.2], undef, undef, undef, undef, undef, undef, undef, undef, undef, undef, undef, undef, undef, undef, undef, undef, undef, undef, undef], defers := [] })
    ?hAx ?assign ?body ?done ?stop
  case hAx =>
    rintro x a' _ A B row ⟨b1, b2, hb1, hb2, h3, h4, h5⟩ hg hrow
    refine ⟨b1, b2, ?_, ?_, h3, h4, h5⟩
    · refine (hg.block b1 (Array.getElem?_eq_some_iff.1 hb1).1 fun e => ?_).trans hb1
      obtain ⟨_, o, ho, hoc⟩ := hrow b1 e.symm
      rw [show A.heap[b1]? = _ from hb1] at ho
      cases ho
      cases hoc
    · refine (hg.block b2 (Array.getElem?_eq_some_iff.1 hb2).1 fun e => ?_).trans hb2
      obtain ⟨_, o, ho, hoc⟩ := hrow b2 e.symm
      rw [show A.heap[b2]? = _ from hb2] at ho
      cases ho
      cases hoc
  case assign =>
    intro l pre x W K hI hK
    have HK := Lib.hid hK
    clear hK
    unfold encN
    gi_wp2
    obtain ⟨hv, hall, hB, hsz⟩ := hI
    have g1 := World.grownBy_alloc W (.cells #[.int .i64 x.1.1, .int .i64 x.1.2] 74) none
    have g2 := World.grownBy_alloc (W.alloc (.cells #[.int .i64 x.1.1, .int .i64 x.1.2] 74)) (.cells #[.int .i64 x.2.1, .int .i64 x.2.2] 74) none
    have p1 := World.alloc_heap_new W (.cells #[.int .i64 x.1.1, .int .i64 x.1.2] 74)
    have p2 := World.alloc_heap_new (W.alloc (.cells #[.int .i64 x.1.1, .int .i64 x.1.2] 74)) (.cells #[.int .i64 x.2.1, .int .i64 x.2.2] 74)
    rw [World.size_alloc] at p2
    refine HK.out _ _ (((KeepsOthers.alloc W _).trans (KeepsOthers.alloc _ _)).from _) (((Below.refl _ W).alloc hsz _).alloc (by simp; omega) _) ⟨(hv.alloc _).alloc _, hall, (hB.alloc hB.size _).alloc (by simp; have := hB.size; omega) _, by simp; omega⟩
      ⟨W.heap.size, W.heap.size + 1, (g2.block W.heap.size (by simp) (by simp)).trans p1, p2, by omega, by omega, rfl⟩
  case body =>
    rintro l pre x a' W hl hlr ⟨hv, hall, hB, hsz⟩ ⟨b1, b2, hb1, hb2, hlt1, hlt2, rfl⟩ hlt
    have hx1 : W.cell? ⟨b1, 0, none⟩ = some (.int .i64 x.1.1) := by simp [World.cell?, show W.heap[b1]? = _ from hb1]
    have hx2 : W.cell? ⟨b1, 1, none⟩ = some (.int .i64 x.1.2) := by simp [World.cell?, show W.heap[b1]? = _ from hb1]
    have hy1 : W.cell? ⟨b2, 0, none⟩ = some (.int .i64 x.2.1) := by simp [World.cell?, show W.heap[b2]? = _ from hb2]
    have hy2 : W.cell? ⟨b2, 1, none⟩ = some (.int .i64 x.2.2) := by simp [World.cell?, show W.heap[b2]? = _ from hb2]
    have hcv := hv.cell
    have hfv := hv.frozen
    have HALL := Lib.hid hall
    clear hb1 hb2 hall
    by_cases c0 : ltP x = true
    · have goes : Below (w.heap.size + 2) W W ∧ (Boxed W w.heap.size 4 (.bool false) ∧ upB (pre ++ [x]) = true ∧ Below w.heap.size w W ∧ w.heap.size + 2 ≤ W.heap.size) :=
        ⟨Below.refl _ _, hv, by rw [upB_snoc, HALL.out, c0]; rfl, hB, hsz⟩
      have HG := Lib.hid goes
      clear goes
      unfold ltP at c0
      by_cases c1 : x.1.1 < x.2.1
      · have d1 : ¬ x.2.1 < x.1.1 := by omega
        have d2 : (x.1.1 == x.2.1) = false := by simp; omega
        clear c0
        gi_wp2
        exact ⟨KeepsFrom.refl _ _, HG.out⟩
      · have c2 : x.1.1 = x.2.1 ∧ x.1.2 < x.2.2 := by simpa [c1] using c0
        have d1 : ¬ x.2.1 < x.1.1 := by omega
        have d2 : (x.1.1 == x.2.1) = true := by simp; omega
        have d3 : ¬ x.2.2 ≤ x.1.2 := by omega
        clear c0 c2
        gi_wp2
        exact ⟨KeepsFrom.refl _ _, HG.out⟩
    · have c0' : ltP x = false := by simpa using c0
      have leaves : Boxed (W.setCell ⟨w.heap.size, 0, none⟩ (.bool false)) w.heap.size 4 (.bool false) ∧ upB (pre ++ [x]) = false ∧ Below w.heap.size w (W.setCell ⟨w.heap.size, 0, none⟩ (.bool false)) :=
        ⟨hv.set _, by rw [upB_snoc, HALL.out, c0']; rfl, hB.setCell (p := ⟨w.heap.size, 0, none⟩) (Nat.le_refl _) _⟩
      have HLV := Lib.hid leaves
      clear leaves c0'
      unfold ltP at c0
      by_cases c1 : x.2.1 < x.1.1
      · clear c0
        gi_wp2
        exact ⟨(KeepsOthers.setCell _ _ _).from _, rfl, HLV.out⟩
      · have c2 : x.1.1 = x.2.1 ∧ x.2.2 ≤ x.1.2 := by
          simp only [Bool.or_eq_true, Bool.and_eq_true, decide_eq_true_eq] at c0
          omega
        have d2 : (x.1.1 == x.2.1) = true := by simp; omega
        have d3 : x.2.2 ≤ x.1.2 := by omega
        clear c0 c2
        gi_wp2
        exact ⟨(KeepsOthers.setCell _ _ _).from _, rfl, HLV.out⟩
  case done =>
    rintro D ys W hD rfl ⟨hv, hall, hB, hsz⟩ hK
    have hcv := hv.cell
    have hfv := hv.frozen
    have hall' : risesB P = true := by rw [← hall]; unfold risesB upB; rw [HT.out]
    have HR := Lib.hid hall'
    clear hall' hall
    gi_wp2
    have hK' := (KeepsOthers.setCell W ⟨w.heap.size, 0, none⟩ (.bool true)).same D _ hK rfl
    refine ⟨by simp, .inl ⟨_, _, rfl, run_takeDeferred hK', ?_⟩⟩
    have hv5 := (hv.set (.bool true)).kept (grownBy_putObj' _ D (.deferred none)) (fun e => by cases e; rw [show (W.setCell _ _).heap[w.heap.size]? = _ from hv.set (.bool true)] at hK'; cases hK')
    have hc5 := hv5.cell
    refine ⟨.bool true, ?_, by rw [HR.out], ?_⟩
    · simp [results, Tryd.f80, go_sem, hc5]
    · exact below_grownBy ((hB.setCell (p := ⟨w.heap.size, 0, none⟩) (Nat.le_refl _) _).trans (belowK_b (w := w) (Nat.le_refl _) _ D _ _ (by simp at hD; omega) hK' rfl rfl))
  case stop =>
    rintro D c pre W hD hpre ⟨rfl, hv, hno, hB⟩ hK
    have hcv := hv.cell
    have hno' : risesB P = false := by unfold risesB; rw [HT.out]; exact upB_not hno hpre
    have HR := Lib.hid hno'
    clear hno' hno
    gi_wp2
    refine ⟨by simp, .inl ⟨_, _, rfl, run_takeDeferred hK, ?_⟩⟩
    have hv5 := hv.kept (grownBy_putObj' _ D (.deferred none)) (fun e => by cases e; rw [show W.heap[w.heap.size]? = _ from hv] at hK; cases hK)
    have hc5 := hv5.cell
    refine ⟨.bool false, ?_, by rw [HR.out], ?_⟩
    · simp [results, Tryd.f80, go_sem, hc5]
    · exact below_grownBy (hB.trans (belowK_b (w := w) (Nat.le_refl _) _ D _ _ (by simp at hD; omega) hK rfl rfl))

theorem rises_c (p : Option Addr) (m c lo hi : Nat) (P : List (Int × Int)) (r : Bool) (w : World) (hm : m ≤ 1000000) (hP : PairsAt w lo hi p m P) (hr : risesB P = r) :
    Calls Tryd.prog 80 #[.slice p m c] w fun e w' => e = .returned (.bool r) ∧ w.grownBy w' none := by
  rw [← hr]
  exact callsIn_wide.1 (rises_in 4 (Nat.le_refl _) p m c lo hi P w hm hP)

end Go.Proofs.YtemnbkenihldgaaDoor
/-! The contracts of read, Check, Is, Rel of package obj. -/
namespace Go.Proofs.YtemnbkenihldgaaDoor
open Go.RowKit

/-- Labels and pairs in memory. -/
structure ObjAt (w : World) (lo hi : Nat) (p : Option Addr) (n : Nat) (q : Option Addr) (m : Nat) (L : List ByteArray) (P : List (Int × Int)) : Prop where
  ls : StrsAt w lo hi p n L
  ps : PairsAt w lo hi q m P
theorem ObjAt.calm {w w' : World} {lo hi : Nat} {p : Option Addr} {n : Nat} {q : Option Addr} {m : Nat} {L : List ByteArray} {P : List (Int × Int)} (h : ObjAt w lo hi p n q m L P) (hg : w.grownBy w' none) : ObjAt w' lo hi p n q m L P := ⟨h.ls.calm hg, h.ps.calm hg⟩

/-- Whether labels and pairs are an object: what Check answers. -/
def chk (L : List ByteArray) (P : List (Int × Int)) : Int := if labErr L ≠ 0 then labErr L else if risesB P && (allIn L.length P && !grewC L.length (ofL L.length P) L.length) then 0 else 10

theorem box2 {w w1 : World} {x y : Value} {t : TypeId} (hg : (w.alloc (.cells #[x, y] t)).grownBy w1 none) : w1.cell? ⟨w.heap.size, 0, none⟩ = some x ∧ w1.cell? ⟨w.heap.size, 1, none⟩ = some y ∧ w.grownBy w1 none := by
  have hb : w1.heap[w.heap.size]? = (w.alloc (.cells #[x, y] t)).heap[w.heap.size]? := hg.block _ (by simp) (by simp)
  refine ⟨(World.cell?_of_block (a := ⟨w.heap.size, 0, none⟩) hb).trans ?_, (World.cell?_of_block (a := ⟨w.heap.size, 1, none⟩) hb).trans ?_, grownBy_trans (World.grownBy_alloc w _ none) hg⟩
  · simp
  · simp

theorem chk_lab {L : List ByteArray} {P : List (Int × Int)} {k : Int} (h : labErr L = k) (hk : k ≠ 0) : chk L P = k := by unfold chk; rw [h, if_pos hk]
theorem chk_no {L : List ByteArray} {P : List (Int × Int)} (h : labErr L = 0) (hk : (risesB P && (allIn L.length P && !grewC L.length (ofL L.length P) L.length)) = false) : chk L P = 10 := by unfold chk; rw [h, if_neg (by simp), hk]; rfl
theorem chk_ok {L : List ByteArray} {P : List (Int × Int)} (h : labErr L = 0) (hk : (risesB P && (allIn L.length P && !grewC L.length (ofL L.length P) L.length)) = true) : chk L P = 0 := by unfold chk; rw [h, if_neg (by simp), hk]; rfl
theorem lab_small {L : List ByteArray} (h : labErr L = 0) : L.length ≤ 40 := by
  unfold labErr at h
  by_cases e : 40 < L.length
  · rw [if_pos e] at h; cases h
  · omega

def ReadPost (L : List ByteArray) (P : List (Int × Int)) (w : World) (e : Ending) (w' : World) : Prop :=
  w.grownBy w' none ∧ ((chk L P = 0 ∧ ∃ r, e = .returned (.tuple #[.pointer (some ⟨r, 0, none⟩), .int .i64 0]) ∧ IsRel w' w.heap.size w'.heap.size r L.length (ofL L.length P)) ∨
    (chk L P ≠ 0 ∧ e = .returned (.tuple #[.pointer none, .int .i64 (chk L P)])))

set_option maxRecDepth 20000 in
set_option maxHeartbeats 1000000 in
theorem read_c (p q : Option Addr) (n c m d lo hi : Nat) (L : List ByteArray) (P : List (Int × Int)) (w : World) (h : ObjAt w lo hi p n q m L P) (hm : m ≤ 1000000) :
    Calls Tryd.prog 69 #[.agg #[.slice p n c, .slice q m d]] w (ReadPost L P w) := by
  have h1 := h.calm (World.grownBy_alloc w (.cells #[.slice p n c, .slice q m d] 25) none)
  have H1 := Lib.hid h1
  have HN := Lib.hid h.ls.len
  clear h h1
  by_cases hl : labErr L = 0
  · have hn := lab_small hl
    have HL := Lib.hid hl
    have HSM : n ≤ 40 := by rw [← HN.out]; exact hn
    clear hl hn
    go_enter Tryd.func69, Tryd.ntmps69
    go_wp2_with fail
    refine (checkLabels_c _ _ _ _ _ L 0 _ (by exact H1.out.ls) HL.out).mono ?_
    rintro e w1 ⟨rfl, h9⟩
    subst w1
    cases hr : risesB P
    · have HR := Lib.hid hr
      clear hr
      go_wp2_with fail
      refine (rises_c _ _ _ _ _ P false _ hm (by exact H1.out.ps) HR.out).mono ?_
      rintro e w1 ⟨rfl, hg⟩
      obtain ⟨b0, b1, hg1⟩ := box2 hg
      have HC := Lib.hid (chk_no HL.out (P := P) (by rw [HR.out]; rfl))
      go_wp2
      go_ret2
      exact ⟨hg1, .inr ⟨by rw [HC.out]; decide, by rw [HC.out]; rfl⟩⟩
    · have HR := Lib.hid hr
      clear hr
      go_wp2_with fail
      refine (rises_c _ _ _ _ _ P true _ hm (by exact H1.out.ps) HR.out).mono ?_
      rintro e w1 ⟨rfl, hg⟩
      obtain ⟨b0, b1, hg1⟩ := box2 hg
      have H2 := Lib.hid (H1.out.calm hg)
      have HG1 := Lib.hid hg1
      clear hg hg1
      cases ha : allIn n P
      · have HA := Lib.hid ha
        have HE : Hid (ofErr (n : Int) P = 10) := Lib.hid (by unfold ofErr; rw [if_neg (by omega), Int.toNat_natCast, HA.out]; rfl)
        have HC := Lib.hid (chk_no HL.out (P := P) (by rw [HR.out, HN.out, HA.out]; rfl))
        clear ha
        go_wp2_with fail
        refine (relOf_err n 10 _ _ _ _ _ P _ (by exact H2.out.ps) hm HE.out (by decide)).mono ?_
        rintro e w2 ⟨rfl, hg2⟩
        have hg3 := grownBy_trans HG1.out hg2
        go_wp2
        go_ret2
        exact ⟨hg3, .inr ⟨by rw [HC.out]; decide, by rw [HC.out]; rfl⟩⟩
      · have HA := Lib.hid ha
        have HE : Hid (ofErr (n : Int) P = 0) := Lib.hid (by unfold ofErr; rw [if_neg (by omega), Int.toNat_natCast, HA.out]; rfl)
        clear ha
        go_wp2_with fail
        refine (relOf_ok n _ _ _ _ _ P _ (by exact H2.out.ps) hm HE.out).mono ?_
        rintro e w2 ⟨r, rfl, hR, hg2⟩
        have hg3 := grownBy_trans HG1.out hg2
        have HR2 := Lib.hid (hR.outer (lo' := w.heap.size) HG1.out.size (Nat.le_refl _))
        have HG3 := Lib.hid hg3
        clear hR hg2 hg3
        cases ht : grewC n (ofL n P) n
        · have HT := Lib.hid ht
          have HC := Lib.hid (chk_ok HL.out (P := P) (by rw [HR.out, HN.out, HA.out, HT.out]; rfl))
          clear ht
          go_wp2_with fail
          refine (isTrans_b _ _ _ _ _ true _ (by exact HR2.out) (by rw [HT.out]; rfl)).mono ?_
          rintro e w3 ⟨rfl, hg4⟩
          have HR3 := Lib.hid (HR2.out.calm hg4)
          have hsz := hg4.size
          have HG4 := Lib.hid (grownBy_trans HG3.out hg4)
          clear hg4
          go_wp2
          go_ret2
          refine ⟨HG4.out, .inl ⟨HC.out, r, rfl, ?_⟩⟩
          rw [HN.out]
          exact HR3.out.wider hsz
        · have HT := Lib.hid ht
          have HC := Lib.hid (chk_no HL.out (P := P) (by rw [HR.out, HN.out, HA.out, HT.out]; rfl))
          clear ht
          go_wp2_with fail
          refine (isTrans_b _ _ _ _ _ false _ (by exact HR2.out) (by rw [HT.out]; rfl)).mono ?_
          rintro e w3 ⟨rfl, hg4⟩
          have HG4 := Lib.hid (grownBy_trans HG3.out hg4)
          clear hg4
          go_wp2
          go_ret2
          exact ⟨HG4.out, .inr ⟨by rw [HC.out]; decide, by rw [HC.out]; rfl⟩⟩
  · have HC := Lib.hid (chk_lab (P := P) rfl hl)
    have hb : (labErr L != 0) = true := by simpa using hl
    have HL := Lib.hid hl
    clear hl
    have hgr := World.grownBy_alloc w (.cells #[.slice p n c, .slice q m d] 25) none
    generalize hk : labErr L = k at *
    have HK := Lib.hid hk
    clear hk
    go_enter Tryd.func69, Tryd.ntmps69
    go_wp2_with fail
    refine (checkLabels_c _ _ _ _ _ L k _ (by exact H1.out.ls) HK.out).mono ?_
    rintro e w1 ⟨rfl, h9⟩
    subst w1
    go_wp2
    go_ret2
    exact ⟨hgr, .inr ⟨by rw [HC.out]; exact HL.out, by rw [HC.out]; rfl⟩⟩

set_option maxHeartbeats 1000000 in
theorem check_c (p q : Option Addr) (n c m d lo hi : Nat) (L : List ByteArray) (P : List (Int × Int)) (k : Int) (w : World) (h : ObjAt w lo hi p n q m L P) (hm : m ≤ 1000000) (hk : chk L P = k) :
    Calls Tryd.prog 49 #[.agg #[.slice p n c, .slice q m d]] w fun e w' => e = .returned (.int .i64 k) ∧ w.grownBy w' none := by
  have h1 := h.calm (World.grownBy_alloc w (.cells #[.slice p n c, .slice q m d] 25) none)
  have H1 := Lib.hid h1
  have HK := Lib.hid hk
  clear h h1 hk
  go_enter Tryd.func49, Tryd.ntmps49
  go_wp2_with fail
  refine (read_c _ _ _ _ _ _ _ _ L P _ (by exact H1.out) hm).mono ?_
  rintro e w1 ⟨hg, ⟨h0, r, rfl, _⟩ | ⟨h0, rfl⟩⟩
  · obtain rfl : k = 0 := by rw [← HK.out]; exact h0
    have HG := Lib.hid (box2 hg).2.2
    clear hg h0
    go_wp2
    go_ret
    exact ⟨rfl, HG.out⟩
  · rw [HK.out]
    have HG := Lib.hid (box2 hg).2.2
    clear hg h0
    go_wp2
    go_ret
    exact ⟨rfl, HG.out⟩

set_option maxHeartbeats 1000000 in
theorem is_c (p q : Option Addr) (n c m d lo hi : Nat) (L : List ByteArray) (P : List (Int × Int)) (r : Bool) (w : World) (h : ObjAt w lo hi p n q m L P) (hm : m ≤ 1000000) (hk : (chk L P == 0) = r) :
    Calls Tryd.prog 31 #[.agg #[.slice p n c, .slice q m d]] w fun e w' => e = .returned (.bool r) ∧ w.grownBy w' none := by
  have h1 := h.calm (World.grownBy_alloc w (.cells #[.slice p n c, .slice q m d] 25) none)
  have H1 := Lib.hid h1
  have HK := Lib.hid hk
  clear h h1 hk
  generalize hq : chk L P = k at *
  have HQ := Lib.hid hq
  clear hq
  go_enter Tryd.func31, Tryd.ntmps31
  go_wp2_with fail
  refine (check_c _ _ _ _ _ _ _ _ L P k _ (by exact H1.out) hm HQ.out).mono ?_
  rintro e w1 ⟨rfl, hg⟩
  have HG := Lib.hid (box2 hg).2.2
  clear hg
  go_wp2
  go_ret
  exact ⟨by rw [HK.out]; rfl, HG.out⟩

/-- The object's elements, its relation. -/
def objN (L : List ByteArray) (P : List (Int × Int)) : Nat := if chk L P = 0 then L.length else 0
def objR (L : List ByteArray) (P : List (Int × Int)) : Nat → Nat → Bool := if chk L P = 0 then ofL L.length P else fun _ _ => false

set_option maxHeartbeats 1000000 in
theorem objRel_c (p q : Option Addr) (n c m d lo hi : Nat) (L : List ByteArray) (P : List (Int × Int)) (w : World) (h : ObjAt w lo hi p n q m L P) (hm : m ≤ 1000000) :
    Calls Tryd.prog 70 #[.agg #[.slice p n c, .slice q m d]] w (MadePost (objN L P) (objR L P) w) := by
  have h1 := h.calm (World.grownBy_alloc w (.cells #[.slice p n c, .slice q m d] 25) none)
  have H1 := Lib.hid h1
  clear h h1
  go_enter Tryd.func70, Tryd.ntmps70
  go_wp2_with fail
  refine (read_c _ _ _ _ _ _ _ _ L P _ (by exact H1.out) hm).mono ?_
  rintro e w1 ⟨hg, ⟨h0, r, rfl, hR⟩ | ⟨h0, rfl⟩⟩
  · have HO : Hid (objN L P = L.length ∧ objR L P = ofL L.length P) := Lib.hid ⟨by unfold objN; rw [if_pos h0], by unfold objR; rw [if_pos h0]⟩
    have HG := Lib.hid (box2 hg).2.2
    have HR := Lib.hid hR
    clear hg h0 hR
    go_wp2
    go_ret
    refine ⟨r, rfl, ?_, HG.out⟩
    rw [HO.out.1, HO.out.2]
    exact HR.out.outer (by simp) (Nat.le_refl _)
  · have HO : Hid (objN L P = 0 ∧ objR L P = fun _ _ => false) := Lib.hid ⟨by unfold objN; rw [if_neg h0], by unfold objR; rw [if_neg h0]⟩
    have hb : (chk L P != 0) = true := by simpa using h0
    have HG := Lib.hid (box2 hg).2.2
    clear hg h0
    generalize chk L P = k at *
    go_wp2_with fail
    refine (relNew_mid 0 _ (by omega)).mono ?_
    rintro e w2 ⟨r, rfl, hR, hg2⟩
    have HG2 := Lib.hid (grownBy_trans HG.out hg2)
    have HR := Lib.hid hR
    have hsz := HG.out.size
    clear hg2 hR
    go_wp2
    go_ret
    refine ⟨r, rfl, ?_, HG2.out⟩
    rw [HO.out.1, HO.out.2]
    exact HR.out.outer hsz (Nat.le_refl _)

end Go.Proofs.YtemnbkenihldgaaDoor
/-! The contracts of fresh, Copy, Make, Same of package obj. -/
namespace Go.Proofs.YtemnbkenihldgaaDoor
open Go.RowKit

theorem Tryd.info9 : (Tryd.prog.info? 9).map (fun i => (i.zero, i.size, i.bytes)) = some (some (.string .empty), 1, 16) := by kernel_rfl

/-- The cells of strings. -/
def scells (l : List ByteArray) : List Value := l.map .string
theorem scells_get {l : List ByteArray} {k : Nat} (hk : k < l.length) : (scells l)[k]? = some (.string (l[k]?.getD .empty)) := by
  unfold scells
  rw [List.getElem?_map, List.getElem?_eq_getElem hk]
  rfl
theorem scells_one (l : List ByteArray) : ∀ u ∈ scells l, u.oneCell' = true := by
  intro u hu
  unfold scells at hu
  rw [List.mem_map] at hu
  obtain ⟨x, _, rfl⟩ := hu
  rfl
theorem pcells_one' (l : List (Int × Int)) : ∀ u ∈ pcells l, u.oneCell' = true := by
  intro u hu
  unfold pcells at hu
  rw [List.mem_flatMap] at hu
  obtain ⟨x, _, hx⟩ := hu
  simp only [List.mem_cons, List.not_mem_nil, or_false] at hx
  rcases hx with rfl | rfl <;> rfl

theorem add_off (b off j : Nat) : (⟨b, off, none⟩ : Addr).add j = ⟨b, off + j, none⟩ := by unfold Addr.add; split <;> simp_all

theorem strsAt_own {w : World} {base : Nat} {v : Value} {l : List ByteArray} (h : w.ownsRow base 9 1 v l.length (scells l)) :
    ∃ p c, v = .slice p l.length c ∧ StrsAt w base w.heap.size p l.length l := by
  rcases h.2 with ⟨rfl, h0⟩ | ⟨g, cap, cur, rfl, hb, hg, _⟩
  · rw [h0]; exact ⟨none, 0, rfl, h0, fun h => absurd h (by omega)⟩
  · refine ⟨_, cap, rfl, rfl, fun hn => ⟨g, 0, rfl, hb, (Array.getElem?_eq_some_iff.1 hg).1, Nat.le_refl _, fun k hk => ?_⟩⟩
    have hc := h.cells (g := g) rfl k _ (scells_get hk)
    rw [add_off] at hc
    exact hc

theorem strs_news {w : World} {lo hi n : Nat} {ad : Addr} {l : List ByteArray} (h : StrsAt w lo hi (some ad) n l) : ∀ j u, (scells l)[j]? = some u → w.cell? (ad.add j) = some u := by
  intro j u hu
  have hj : j < l.length := by
    rcases Nat.lt_or_ge j l.length with h | h
    · exact h
    · rw [List.getElem?_eq_none (by unfold scells; simpa using h)] at hu; cases hu
  rw [scells_get hj] at hu
  cases hu
  have hl := h.len
  obtain ⟨b', off', e, _, _, _, hc⟩ := h.cell (by omega)
  cases e
  rw [add_off]
  exact hc j (by omega)

theorem pairs_news {w : World} {lo hi n : Nat} {ad : Addr} {l : List (Int × Int)} (h : PairsAt w lo hi (some ad) n l) : ∀ j u, (pcells l)[j]? = some u → w.cell? (ad.add j) = some u := by
  intro j u hu
  have hj : j < l.length * 2 := by
    rcases Nat.lt_or_ge j (l.length * 2) with h | h
    · exact h
    · rw [List.getElem?_eq_none (by rw [pcells_len]; exact h)] at hu; cases hu
  have hl := h.len
  obtain ⟨b', off', e, _, _, _, hc⟩ := h.cell (by omega)
  cases e
  rw [add_off]
  have hk := pcells_get l (j / 2) (by omega)
  have hk2 := hc (j / 2) (by omega)
  rcases Nat.mod_two_eq_zero_or_one j with e | e
  · have ej : j = j / 2 * 2 := by omega
    rw [← ej] at hk
    rw [hk.1] at hu
    cases hu
    rw [← ej] at hk2
    exact hk2.1
  · have ej : j = j / 2 * 2 + 1 := by omega
    have h2 := hk.2
    rw [← ej] at h2
    rw [h2] at hu
    cases hu
    have h3 := hk2.2
    rw [Nat.add_assoc, ← ej] at h3
    exact h3

/-- What hands back a new slice of strings. -/
def StrsPost (l : List ByteArray) (w : World) (e : Ending) (w' : World) : Prop :=
  ∃ v, e = .returned v ∧ w'.ownsRow w.heap.size 9 1 v l.length (scells l) ∧ w.grownBy w' none

set_option maxHeartbeats 1000000 in
theorem freshS_c (p : Option Addr) (n c lo hi : Nat) (L : List ByteArray) (w : World) (h : StrsAt w lo hi p n L) (hn : n ≤ 1000000) (hc : p = none → c = 0) :
    Calls Tryd.prog 66 #[.slice p n c] w (StrsPost L w) := by
  obtain ⟨i0, hi', hz0, hz1, hz2⟩ := info_parts Tryd.info9
  have HLEN := Lib.hid h.len
  match p, h, hc with
  | none, h, hc =>
    have hn0 : n = 0 := by
      rcases Nat.eq_zero_or_pos n with e | e
      · exact e
      · obtain ⟨_, _, e, _⟩ := h.cell e; cases e
    obtain rfl := hc rfl
    subst hn0
    have hL : L = [] := List.eq_nil_of_length_eq_zero HLEN.out
    subst hL
    clear h hc HLEN
    go_enter Tryd.func66, Tryd.ntmps66
    go_wp2_with (at_builtin; refine wpList_append_own_none rfl _ _ 22 rfl w.heap.size 9 i0 1 Tryd.underlying22 hi' (.slice none 0 0) 0 [] rfl (World.ownsRow_nil _ _ _ _) rfl ?_)
    go_ret
    exact ⟨_, rfl, World.ownsRow_nil _ _ _ _, grownBy_refl _ _⟩
  | some ad, h, _ =>
    have hnews := Lib.hid (strs_news h)
    obtain rfl : L.length = n := HLEN.out
    clear h HLEN
    go_enter Tryd.func66, Tryd.ntmps66
    go_wp2_with (at_builtin; refine wpList_append_own _ rfl _ _ 22 rfl w.heap.size 9 i0 (.string .empty) 1 16 Tryd.underlying22 hi' hz0 hz1 hz2 rfl (by decide) (.slice none 0 0) 0 [] rfl (World.ownsRow_nil _ _ _ _) ad L.length c (scells L) rfl (by simp [scells]) hnews.out (scells_one L) (by unfold maxLen; omega) (by omega) (Nat.le_refl _) ?_; intro v' w1 hown hgrow _)
    have HO := Lib.hid hown
    have HG := Lib.hid hgrow
    clear hown hgrow
    go_ret
    exact ⟨_, rfl, by simpa using HO.out, by simpa [Value.ownBlock] using HG.out⟩

end Go.Proofs.YtemnbkenihldgaaDoor
/-! The contracts of slices.Equal over strings and pairs, Same of package obj. -/
namespace Go.Proofs.YtemnbkenihldgaaDoor
open Go.RowKit

theorem str_eq {a b : ByteArray} : (a.toList == b.toList) = decide (a = b) := by
  by_cases h : a = b
  · rw [h]; simp
  · rw [decide_eq_false h]
    rw [beq_eq_false_iff_ne]
    intro e
    rw [ByteArray.toList_eq, ByteArray.toList_eq] at e
    exact h (by cases a; cases b; simp at e; rw [e])

theorem take_eqS {l1 l2 : List ByteArray} {k : Nat} (h1 : k < l1.length) (h2 : k < l2.length) (h : l1.take k = l2.take k) (e : l1[k]?.getD .empty = l2[k]?.getD .empty) : l1.take (k + 1) = l2.take (k + 1) := by
  rw [List.getElem?_eq_getElem h1, List.getElem?_eq_getElem h2] at e
  simp only [Option.getD_some] at e
  rw [List.take_succ_eq_append_getElem h1, List.take_succ_eq_append_getElem h2, h, e]

/-- Two boxes laid by a call's beginning. -/
theorem box22 {w w1 : World} {x y x' y' : Value} {t : TypeId} (hg : ((w.alloc (.cells #[x, y] t)).alloc (.cells #[x', y'] t)).grownBy w1 none) :
    (w1.cell? ⟨w.heap.size, 0, none⟩ = some x ∧ w1.cell? ⟨w.heap.size, 1, none⟩ = some y) ∧ (w1.cell? ⟨w.heap.size + 1, 0, none⟩ = some x' ∧ w1.cell? ⟨w.heap.size + 1, 1, none⟩ = some y') ∧ w.grownBy w1 none := by
  have h2 := box2 hg
  have h1 := box2 h2.2.2
  rw [World.size_alloc] at h2
  exact ⟨⟨h1.1, h1.2.1⟩, ⟨h2.1, h2.2.1⟩, h1.2.2⟩

end Go.Proofs.YtemnbkenihldgaaDoor
/-! The contracts of Copy and Make of package obj. -/
namespace Go.Proofs.YtemnbkenihldgaaDoor
open Go.RowKit

/-- An object in rows of its own. -/
structure OwnObj (w : World) (base : Nat) (u v : Value) (L : List ByteArray) (P : List (Int × Int)) : Prop where
  ls : w.ownsRow base 9 1 u L.length (scells L)
  ps : w.ownsRow base 74 2 v P.length (pcells P)

theorem OwnObj.at {w : World} {base : Nat} {u v : Value} {L : List ByteArray} {P : List (Int × Int)} (h : OwnObj w base u v L P) : ∃ p c q d, u = .slice p L.length c ∧ v = .slice q P.length d ∧ ObjAt w base w.heap.size p L.length q P.length L P := by
  obtain ⟨p, c, rfl, hp⟩ := strsAt_own h.ls
  obtain ⟨q, d, rfl, hq⟩ := pairsAt_own h.ps
  exact ⟨p, c, q, d, rfl, rfl, hp, hq⟩

theorem ownsRow_calm {w w' : World} {base : Nat} {e : TypeId} {size n : Nat} {v : Value} {xs : List Value} (h : w.ownsRow base e size v n xs) (hg : w.grownBy w' none) : w'.ownsRow base e size v n xs := by
  refine ⟨h.1, ?_⟩
  rcases h.2 with ⟨rfl, h0⟩ | ⟨g, cap, cur, rfl, hb, hh, h1, h2, h3, h4⟩
  · exact .inl ⟨rfl, h0⟩
  · exact .inr ⟨g, cap, cur, rfl, hb, (hg.block g (Array.getElem?_eq_some_iff.1 hh).1 (by simp)).trans hh, h1, h2, h3, h4⟩
theorem ownsRow_down {w : World} {base base' : Nat} {e : TypeId} {size n : Nat} {v : Value} {xs : List Value} (h : w.ownsRow base e size v n xs) (hb' : base' ≤ base) : w.ownsRow base' e size v n xs := by
  refine ⟨h.1, ?_⟩
  rcases h.2 with ⟨rfl, h0⟩ | ⟨g, cap, cur, rfl, hb, hh, h1, h2, h3, h4⟩
  · exact .inl ⟨rfl, h0⟩
  · exact .inr ⟨g, cap, cur, rfl, Nat.le_trans hb' hb, hh, h1, h2, h3, h4⟩

def CopyPost' (L : List ByteArray) (P : List (Int × Int)) (w : World) (e : Ending) (w' : World) : Prop :=
  ∃ u v, e = .returned (.agg #[u, v]) ∧ OwnObj w' w.heap.size u v L P ∧ w.grownBy w' none

/-- The last block, laid by a call's beginning, can still be written. -/
theorem box2f {w w1 : World} {x y : Value} {t : TypeId} (hg : (w.alloc (.cells #[x, y] t)).grownBy w1 none) : w1.frozen? ⟨w.heap.size, 0, none⟩ = false ∧ w1.frozen? ⟨w.heap.size, 1, none⟩ = false := by
  have hb : w1.heap[w.heap.size]? = (w.alloc (.cells #[x, y] t)).heap[w.heap.size]? := hg.block _ (by simp) (by simp)
  refine ⟨(World.frozen?_of_block (a := ⟨w.heap.size, 0, none⟩) hb).trans ?_, (World.frozen?_of_block (a := ⟨w.heap.size, 1, none⟩) hb).trans ?_⟩
  · simp
  · simp

theorem grownBy_setCell_new {w w1 : World} {p : Addr} (v : Value) (hg : w.grownBy w1 none) (hp : w.heap.size ≤ p.block) : w.grownBy (w1.setCell p v) none := grownBy_new hg (grownBy_setCell w1 p v) hp

theorem OwnObj.set {w : World} {base : Nat} {u v : Value} {L : List ByteArray} {P : List (Int × Int)} (h : OwnObj w base u v L P) {p : Addr} (hp : p.block < base) (x : Value) : OwnObj (w.setCell p x) base u v L P := by
  have key : ∀ {e : TypeId} {size n : Nat} {v : Value} {xs : List Value}, w.ownsRow base e size v n xs → (w.setCell p x).ownsRow base e size v n xs := by
    intro e size n v xs h
    refine ⟨h.1, ?_⟩
    rcases h.2 with ⟨rfl, h0⟩ | ⟨g, cap, cur, rfl, hb, hh, h1, h2, h3, h4⟩
    · exact .inl ⟨rfl, h0⟩
    · exact .inr ⟨g, cap, cur, rfl, hb, (Below.heap_setCell _ _ _ _ (by omega)).trans hh, h1, h2, h3, h4⟩
  exact ⟨key h.ls, key h.ps⟩

def nilObj : Value := .agg #[.slice none 0 0, .slice none 0 0]

set_option maxHeartbeats 1000000 in
theorem make_lab (p : Option Addr) (n c lo hi : Nat) (L : List ByteArray) (k : Int) (pt : Option Addr) (w : World) (h : StrsAt w lo hi p n L) (hk : labErr L = k) (hk0 : k ≠ 0) :
    Calls Tryd.prog 48 #[.slice p n c, .pointer pt] w fun e w' => e = .returned (.tuple #[.agg #[.slice none 0 0, .slice none 0 0], .int .i64 k]) ∧ w.grownBy w' none := by
  have hg0 := World.grownBy_alloc w (.cells #[.slice none 0 0, .slice none 0 0] 25) none
  have H1 := Lib.hid (h.calm hg0)
  have HK := Lib.hid hk
  have hb : (k != 0) = true := by simpa using hk0
  have HG0 := Lib.hid hg0
  have hbf : (w.alloc (.cells #[.slice none 0 0, .slice none 0 0] 25)).frozen? ⟨w.heap.size, 0, none⟩ = false := by simp
  clear h hg0 hk hk0
  go_enter Tryd.func48, Tryd.ntmps48
  go_wp2_with fail
  refine (checkLabels_c _ _ _ _ _ L k _ (by exact H1.out) HK.out).mono ?_
  rintro e w1 ⟨rfl, h9⟩
  subst w1
  go_wp2
  refine bodyPost_ret (v := .tuple #[.agg #[.slice none 0 0, .slice none 0 0], .int .i64 k]) (by simp [results, Tryd.results48, go_sem]) rfl ⟨rfl, ?_⟩
  first | exact HG0.out | exact grownBy_setCell_new _ (grownBy_setCell_new _ HG0.out (Nat.le_refl _)) (Nat.le_refl _)

set_option maxHeartbeats 1000000 in
theorem make_no (p : Option Addr) (n c lo hi lo' hi' r k : Nat) (L : List ByteArray) (R : Nat → Nat → Bool) (w : World) (h : StrsAt w lo hi p n L) (hk : labErr L = 0) (hR : IsRel w lo' hi' r k R) (hne : k ≠ n) :
    Calls Tryd.prog 48 #[.slice p n c, .pointer (some ⟨r, 0, none⟩)] w fun e w' => e = .returned (.tuple #[.agg #[.slice none 0 0, .slice none 0 0], .int .i64 10]) ∧ w.grownBy w' none := by
  have hg0 := World.grownBy_alloc w (.cells #[.slice none 0 0, .slice none 0 0] 25) none
  have H1 := Lib.hid (h.calm hg0)
  have HR := Lib.hid (hR.calm hg0)
  have HK := Lib.hid hk
  have hb : ((k : Int) != (n : Int)) = true := by simp; omega
  have HG0 := Lib.hid hg0
  clear h hg0 hk hR hne
  go_enter Tryd.func48, Tryd.ntmps48
  go_wp2_with fail
  refine (checkLabels_c _ _ _ _ _ L 0 _ (by exact H1.out) HK.out).mono ?_
  rintro e w1 ⟨rfl, h9⟩
  subst w1
  go_wp2_with fail
  refine (relLen_c _ _ _ _ _ _ (by exact HR.out)).mono ?_
  rintro e w1 ⟨rfl, h9⟩
  subst w1
  go_wp2
  refine bodyPost_ret (v := .tuple #[.agg #[.slice none 0 0, .slice none 0 0], .int .i64 10]) (by simp [results, Tryd.results48, go_sem]) rfl ⟨rfl, ?_⟩
  first | exact HG0.out | exact grownBy_setCell_new _ (grownBy_setCell_new _ HG0.out (Nat.le_refl _)) (Nat.le_refl _)

set_option maxHeartbeats 1000000 in
theorem make_nil (p : Option Addr) (n c lo hi : Nat) (L : List ByteArray) (w : World) (h : StrsAt w lo hi p n L) (hk : labErr L = 0) (hne : n ≠ 0) :
    Calls Tryd.prog 48 #[.slice p n c, .pointer none] w fun e w' => e = .returned (.tuple #[.agg #[.slice none 0 0, .slice none 0 0], .int .i64 10]) ∧ w.grownBy w' none := by
  have hg0 := World.grownBy_alloc w (.cells #[.slice none 0 0, .slice none 0 0] 25) none
  have H1 := Lib.hid (h.calm hg0)
  have HK := Lib.hid hk
  have hb : (((0 : Nat) : Int) != (n : Int)) = true := by simp; omega
  have hb2 : ((0 : Int) != (n : Int)) = true := hb
  clear h hg0 hk hne
  go_enter Tryd.func48, Tryd.ntmps48
  go_wp2_with fail
  refine (checkLabels_c _ _ _ _ _ L 0 _ (by exact H1.out) HK.out).mono ?_
  rintro e w1 ⟨rfl, h9⟩
  subst w1
  go_wp2_with fail
  refine (relNew_mid 0 _ (by omega)).mono ?_
  rintro e w1 ⟨r, rfl, hR, hg1⟩
  have HR := Lib.hid hR
  have b0 := (box2 hg1).1
  have b1 := (box2 hg1).2.1
  have bf := (box2f hg1).1
  have bf1 := (box2f hg1).2
  have HG1 := Lib.hid (box2 hg1).2.2
  clear hR hg1
  go_wp2_with fail
  refine (relLen_c _ _ _ _ _ _ (by exact HR.out)).mono ?_
  rintro e w2 ⟨rfl, h9⟩
  subst w2
  go_wp2
  refine bodyPost_ret (v := .tuple #[.agg #[.slice none 0 0, .slice none 0 0], .int .i64 10]) (by simp [results, Tryd.results48, go_sem, b0, b1]) rfl ⟨rfl, ?_⟩
  exact grownBy_setCell_new _ (grownBy_setCell_new _ HG1.out (Nat.le_refl _)) (Nat.le_refl _)

def MakePost (L : List ByteArray) (P : List (Int × Int)) (w : World) (e : Ending) (w' : World) : Prop :=
  ∃ u v, e = .returned (.tuple #[.agg #[u, v], .int .i64 0]) ∧ OwnObj w' w.heap.size u v L P ∧ w.grownBy w' none

set_option maxHeartbeats 2000000 in
theorem make_ok (p : Option Addr) (n c lo hi lo' hi' r : Nat) (L : List ByteArray) (R : Nat → Nat → Bool) (w : World) (h : StrsAt w lo hi p n L) (hc : p = none → c = 0) (hk : labErr L = 0) (hR : IsRel w lo' hi' r n R) (ht : Tab w) :
    Calls Tryd.prog 48 #[.slice p n c, .pointer (some ⟨r, 0, none⟩)] w (MakePost L (pairsL n (clo n R) n) w) := by
  have hg0 := World.grownBy_alloc w (.cells #[.slice none 0 0, .slice none 0 0] 25) none
  have H1 := Lib.hid (h.calm hg0)
  have HR := Lib.hid (hR.calm hg0)
  have HT := Lib.hid (ht.grown hg0 (by simp))
  have HK := Lib.hid hk
  have HC := Lib.hid hc
  have hn : n ≤ 40 := by have := lab_small hk; rw [h.len] at this; exact this
  have hb : ((n : Int) != (n : Int)) = false := by simp
  clear h hg0 hk hR hc ht
  go_enter Tryd.func48, Tryd.ntmps48
  go_wp2_with fail
  refine (checkLabels_c _ _ _ _ _ L 0 _ (by exact H1.out) HK.out).mono ?_
  rintro e w1 ⟨rfl, h9⟩
  subst w1
  go_wp2_with fail
  refine (relLen_c _ _ _ _ _ _ (by exact HR.out)).mono ?_
  rintro e w1 ⟨rfl, h9⟩
  subst w1
  go_wp2_with fail
  refine (freshS_c _ _ _ _ _ L _ (by exact H1.out) (by omega) HC.out).mono ?_
  rintro e w1 ⟨u, rfl, hu, hg1⟩
  obtain ⟨pu, cu, rfl, _⟩ := strsAt_own hu
  have HU1 := Lib.hid hu
  have HG1 := Lib.hid hg1
  clear hu hg1
  go_wp2_with fail
  refine (closure_c _ _ _ _ R _ (by exact HR.out.calm HG1.out)).mono ?_
  rintro e w2 ⟨rc, rfl, hRC, hg2⟩
  have HU2 := Lib.hid (ownsRow_calm HU1.out hg2)
  have HG2 := Lib.hid (grownBy_trans HG1.out hg2)
  have HRC := Lib.hid hRC
  clear hg2 hRC
  go_wp2_with fail
  refine (relPairs_o _ _ _ _ (clo n R) _ (by exact HRC.out) (HT.out.grown HG2.out (by simp))).mono ?_
  rintro e w3 ⟨v, rfl, hv, hg3⟩
  obtain ⟨pv, cv, rfl, _⟩ := pairsAt_own hv
  have HU3 := Lib.hid (ownsRow_calm HU2.out hg3)
  have HV := Lib.hid hv
  have hg3' := grownBy_trans HG2.out hg3
  have b0 := (box2 hg3').1
  have b1 := (box2 hg3').2.1
  have bf := (box2f hg3').1
  have bf1 := (box2f hg3').2
  have HG3 := Lib.hid (box2 hg3').2.2
  have hz : w.heap.size + 1 ≤ w2.heap.size := by have := HG2.out.size; simp at this; omega
  clear hg3 hg3' hv
  generalize pairsL n (clo n R) n = P at *
  go_wp2
  refine bodyPost_ret (v := .tuple #[.agg #[.slice pu L.length cu, .slice pv P.length cv], .int .i64 0]) (by simp [results, Tryd.results48, go_sem, b0, b1]) rfl ⟨_, _, rfl, ?_, ?_⟩
  · have h0 : OwnObj w3 (w.heap.size + 1) (.slice pu L.length cu) (.slice pv P.length cv) L P := ⟨ownsRow_down HU3.out (by simp), ownsRow_down HV.out (by omega)⟩
    have h1 := (h0.set (p := ⟨w.heap.size, 0, none⟩) (by show w.heap.size < _; omega) (.slice pu L.length cu)).set (p := ⟨w.heap.size, 1, none⟩) (by show w.heap.size < _; omega) (.slice pv P.length cv)
    exact ⟨ownsRow_down h1.ls (by omega), ownsRow_down h1.ps (by omega)⟩
  · exact grownBy_setCell_new _ (grownBy_setCell_new _ HG3.out (Nat.le_refl _)) (Nat.le_refl _)

end Go.Proofs.YtemnbkenihldgaaDoor
