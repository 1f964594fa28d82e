/- The contract of the iterator behind Pairs of package rel: it hands over the pairs, rising. -/
import Derived.Test.YtdolcdededmlhaaDoorPairs
namespace Go.Proofs.YtdolcdededmlhaaDoor
open Go.RowKit Go.Shelf
attribute [local go_sem] Oper.semAt_some

/-- Rows of ints lie as they lay. -/
def KeepI (W W' : World) : Prop := ∀ (g : Nat) (cur : Array Value), W.heap[g]? = some (.cells cur 3 (0, 0)) → W'.heap[g]? = some (.cells cur 3 (0, 0))

theorem KeepI.calm {W W' : World} (h : W.grownBy W' none) : KeepI W W' := fun g cur hg => (h.block g (Array.getElem?_eq_some_iff.1 hg).1 (by simp)).trans hg
theorem KeepI.refl (W : World) : KeepI W W := fun _ _ h => h
theorem KeepI.trans {A B C : World} (h : KeepI A B) (k : KeepI B C) : KeepI A C := fun g cur hg => k g cur (h g cur hg)

/-- What a body keeps of what the iterator leans on. -/
def KeepP (n₀ : Nat) (W W' : World) : Prop := Below n₀ W W' ∧ KeepI W W'

theorem allS_in (n : Nat) (hn : 3 ≤ n) (b wb m : Nat) (S : Nat → Bool) (w : World) (h : IsSet w b wb m S) (ht : Tab w) :
    CallsIn Fence.wide n Tryd.prog 54 #[.pointer (some ⟨b, 0, none⟩)] w (AllPost (ints (onL S m)) w) := by
  obtain ⟨ws, hr, ho⟩ := h
  have e : onL (onB ws) (64 * ws.length) = onL S m := by rw [words_onL hr.words]; exact onL_congr fun i _ => ho i
  rw [← e]
  exact all_in n hn b wb m ws w hr ht

/-- A slice that All made, written out. -/
theorem allPost_row {l : List Nat} {w w' : World} {e : Ending} (h : AllPost (ints l) w e w') :
    ∃ g cap cur, e = .returned (.slice (some ⟨g, 0, none⟩) l.length cap) ∧ w.heap.size ≤ g ∧ w'.heap[g]? = some (.cells cur 3 (0, 0)) ∧ (∀ k, k < l.length → cur[k]? = some (.int .i64 (l[k]?.getD 0 : Nat))) ∧ w.grownBy w' none := by
  have hlen : (ints l).length = l.length := by simp [ints]
  obtain ⟨v, rfl, hrow, hnil, hg⟩ := h
  rw [hlen] at hrow
  rcases hrow.2 with ⟨rfl, _⟩ | ⟨g, cap, cur, rfl, hb, hh, h1, h2, h3, h4⟩
  · exact absurd rfl hnil
  · refine ⟨g, cap, cur, rfl, hb, hh, fun k hk => ?_, hg⟩
    have e : ((ints l).map (Value.int .i64))[k]? = some (.int .i64 (l[k]?.getD 0 : Nat)) := by
      unfold ints
      rw [List.getElem?_map, List.getElem?_map, List.getElem?_eq_getElem hk]; rfl
    rw [← h4, List.getElem?_take_of_lt (by omega), Array.getElem?_toList] at e
    exact e

theorem pairsL_split {n : Nat} {R : Nat → Nat → Bool} {m k j : Nat} (hk : k < m) (hj : j < (onL (R k) n).length) :
    ∃ rest, pairsL n R m = (pairsL n R k ++ ((onL (R k) n).take j).map fun b : Nat => ((k : Int), (b : Int))) ++ ([((k : Int), (((onL (R k) n)[j]?.getD 0 : Nat) : Int))] ++ rest) := by
  have h1 : ∃ r1, pairsL n R m = pairsL n R (k + 1) ++ r1 := by
    unfold pairsL
    refine ⟨((List.range (m - (k + 1))).map fun x => (k + 1) + x).flatMap fun a => (onL (R a) n).map fun b : Nat => ((a : Int), (b : Int)), ?_⟩
    rw [← List.flatMap_append, ← List.range_add]
    congr 2
    omega
  obtain ⟨r1, h1⟩ := h1
  refine ⟨((onL (R k) n).drop (j + 1)).map (fun b : Nat => ((k : Int), (b : Int))) ++ r1, ?_⟩
  rw [h1, pairsL_succ]
  have e : (onL (R k) n) = (onL (R k) n).take j ++ ([(onL (R k) n)[j]?.getD 0] ++ (onL (R k) n).drop (j + 1)) := by
    rw [List.getElem?_eq_getElem hj]
    simp
  generalize (onL (R k) n)[j]?.getD 0 = y at *
  generalize (onL (R k) n).drop (j + 1) = d at *
  generalize (onL (R k) n).take j = t at *
  rw [e]
  simp

set_option maxRecDepth 100000 in
set_option maxHeartbeats 4000000 in
theorem relEach1_in (n : Nat) (hn : 4 ≤ n) (l Bn n₀ lo hi p m : Nat) (R : Nat → Nat → Bool) (hg : 0 < n₀) (hlo : hi ≤ n₀)
    (J Jx : List (Int × Int) → World → Prop) (hab : ∀ s A B, J s A → A.grownBy B none → J s B)
    (hY : ∀ pre x W, J pre W → pre.length < (pairsL m R m).length → YieldAt Fence.wide (n - 1) Tryd.prog l #[.agg #[.int .i64 x.1, .int .i64 x.2]] W fun e W' =>
      (e = .returned (.bool true) ∧ J (pre ++ [x]) W' ∧ KeepP n₀ W W') ∨ (e = .returned (.bool false) ∧ Jx (pre ++ [x]) W'))
    (W : World) (ht : Tab W) (hBn : W.cell? ⟨Bn, 0, none⟩ = some (.pointer (some ⟨p, 0, none⟩))) (hn₀ : n₀ ≤ W.heap.size)
    (hR : IsRel W lo hi p m R) (h0 : J [] W) :
    CallsIn Fence.wide n Tryd.prog 53 #[.func (.yield l) #[] #[], .pointer (some ⟨Bn, 0, none⟩)] W fun e W' => (∃ v, e = .returned v) ∧
      ((∃ ys, ys = pairsL m R m ∧ J ys W') ∨ (∃ pre, pre <+: pairsL m R m ∧ Jx pre W')) := by
  have hm := hR.small
  obtain ⟨_, _, pb, bs, ws, h3⟩ := hR
  obtain ⟨cap, hc⟩ := h3.c0
  have HY := Lib.hid hY
  have HAB := Lib.hid hab
  have HT := Lib.hid ht
  have H3 := Lib.hid h3
  clear hY hab ht h3
  refine callsIn_of_wp Tryd.func53 rfl trivial ?_ rfl
  simp only [Tryd.ntmps53, List.size_toArray, List.length_cons, List.length_nil, Nat.reduceAdd, Nat.reduceSub, Array.replicate_succ, Array.replicate_zero, List.push_toArray, List.append_toArray, List.nil_append, List.cons_append]
  gi_wp2
  gi_loopw [12] (fun i wr => ∃ k : Nat, k ≤ m ∧ i = .int .i64 k ∧ J (pairsL m R k) wr ∧ Below n₀ W wr) (fun i _ => m - (intOf i).toNat)
  case atStart => exact ⟨0, Nat.zero_le _, rfl, h0, Below.refl _ _⟩
  case round =>
    obtain ⟨k, hk, rfl, hJ, hB⟩ := hrel
    by_cases hkm : k < m
    · have h3' : Rows' wr lo hi p pb m m bs ws R := H3.out.kept hB.size fun i _ h2 => hB.block i (by omega)
      have hcp := h3'.cp k hkm
      have hrow := Lib.hid (h3'.row k hkm)
      have htab := Lib.hid (HT.out.below hB hg)
      clear h3'
      gi_wp2_with fail
      refine ⟨trivial, fun _ => by omega, ?_⟩
      refine (allS_in (n - 1) (by omega) (bs k) (ws k) m (R k) _ (by exact hrow.out) (by exact htab.out)).mono ?_
      rintro e w9 h9
      obtain ⟨g, c, cur, rfl, hgb, hgc, hcur, hgr⟩ := allPost_row h9
      have HCUR := Lib.hid hcur
      have HGR := Lib.hid hgr
      have HGC := Lib.hid hgc
      clear h9 hcur hgr hgc
      gi_wp2
      have hJ9 := HAB.out _ _ _ hJ HGR.out
      have hB9 := hB.trans (grownBy_below HGR.out |>.mono (by have := hB.size; omega))
      have HSP := Lib.hid (fun j hj => pairsL_split (n := m) (R := R) (m := m) (k := k) (j := j) hkm hj)
      have HSU := Lib.hid (pairsL_succ m R k)
      have hL : (onL (R k) m).length ≤ 200 := Nat.le_trans (onL_le _ _) hm
      clear hJ hB
      generalize hO : onL (R k) m = os at *
      have HO := Lib.hid hO
      clear hO
      generalize hOL : os.length = L at *
      have HOL := Lib.hid hOL
      clear hOL
      gi_loopw [20] (fun i wi => ∃ j : Nat, j ≤ L ∧ i = .int .i64 j ∧ J (pairsL m R k ++ (os.take j).map fun b : Nat => ((k : Int), (b : Int))) wi ∧ Below n₀ W wi ∧ Hid (wi.heap[g]? = some (.cells cur 3 (0, 0)))) (fun i _ => L - (intOf i).toNat)
      case atStart => exact ⟨0, Nat.zero_le _, rfl, by simpa using hJ9, hB9, HGC⟩
      case round =>
        obtain ⟨j, hj, rfl, hJj, hBj, hGj⟩ := hrel
        by_cases hjl : j < L
        · have hcell : wr.cell? ⟨g, j, none⟩ = some (.int .i64 (os[j]?.getD 0 : Nat)) := by
            simp only [World.cell?, hGj.out]
            exact HCUR.out j hjl
          obtain ⟨rest, hsp⟩ := HSP.out j hjl
          have hlen : (pairsL m R k ++ (os.take j).map fun b : Nat => ((k : Int), (b : Int))).length < (pairsL m R m).length := by
            rw [hsp]; simp
          have hprefix : (pairsL m R k ++ (os.take j).map fun b : Nat => ((k : Int), (b : Int))) ++ [((k : Int), ((os[j]?.getD 0 : Nat) : Int))] <+: pairsL m R m := by
            rw [hsp, ← List.append_assoc]
            exact List.prefix_append _ _
          have HPX := Lib.hid hprefix
          have hnx : (pairsL m R k ++ (os.take (j + 1)).map fun b : Nat => ((k : Int), (b : Int))) = (pairsL m R k ++ (os.take j).map fun b : Nat => ((k : Int), (b : Int))) ++ [((k : Int), ((os[j]?.getD 0 : Nat) : Int))] := by
            rw [List.take_succ_eq_append_getElem (by rw [HOL.out]; exact hjl), List.getElem?_eq_getElem (by rw [HOL.out]; exact hjl), List.map_append, ← List.append_assoc]
            rfl
          have HNX := Lib.hid hnx
          obtain ⟨fn, tmps, assign, body, hyy, hR⟩ := HY.out _ ((k : Int), ((os[j]?.getD 0 : Nat) : Int)) wr hJj hlen
          clear hsp hlen hprefix hnx
          generalize os[j]?.getD 0 = y at *
          gi_wp2
          refine ⟨fun _ => by omega, hR.mono ?_⟩
          rintro e W3 (⟨rfl, hJ3, hk3⟩ | ⟨rfl, hJx3⟩)
          · gi_wp2
            exact ⟨⟨j + 1, by omega, by go_num, by rw [HNX.out]; exact hJ3, hBj.trans hk3.1, Lib.hid (hk3.2 _ _ hGj.out)⟩, by simp [intOf]; omega⟩
          · gi_wp2
            refine bodyPost_ret (results_none rfl _ _ _) rfl ?_
            exact ⟨⟨_, rfl⟩, .inr ⟨_, HPX.out, hJx3⟩⟩
        · obtain rfl : j = L := by omega
          rw [List.take_of_length_le (by rw [HOL.out]; exact Nat.le_refl _), ← HSU.out] at hJj
          gi_wp2
          exact ⟨⟨k + 1, by omega, by go_num, hJj, hBj⟩, by simp [intOf]; omega⟩
    · obtain rfl : k = m := by omega
      gi_wp2
      go_end0
      exact ⟨⟨_, rfl⟩, .inl ⟨_, rfl, hJ⟩⟩

set_option maxHeartbeats 1000000 in
theorem relEach_in (n : Nat) (p : Option Addr) (w : World) :
    CallsIn Fence.wide n Tryd.prog 32 #[.pointer p] w fun e w' => e = .returned (.func (.func 53) #[] #[.pointer (some ⟨w.heap.size, 0, none⟩)]) ∧ w' = w.alloc (.cells #[.pointer p] 28) := by
  refine callsIn_of_wp Tryd.func32 rfl trivial ?_ rfl
  simp only [Tryd.ntmps32, List.size_toArray, List.length_cons, List.length_nil, Nat.reduceAdd, Nat.reduceSub, Array.replicate_succ, Array.replicate_zero, List.push_toArray, List.append_toArray, List.nil_append, List.cons_append]
  gi_wp2
  go_ret
  exact ⟨rfl, rfl⟩

/-- A pair as a value. -/
def pairV (x : Int × Int) : Array Value := #[.agg #[.int .i64 x.1, .int .i64 x.2]]

/-- The iterator hands over all pairs, rising, or the first of them. -/
theorem relEach_stops (n : Nat) (hn : 4 ≤ n) (Bn n₀ lo hi p m : Nat) (R : Nat → Nat → Bool) (w : World) (hR : IsRel w lo hi p m R) (ht : Tab w) (hlo : hi ≤ n₀) (hg : 0 < n₀) (hBn : Bn < w.heap.size) (hn₀ : n₀ ≤ w.heap.size)
    (hc : w.cell? ⟨Bn, 0, none⟩ = some (.pointer (some ⟨p, 0, none⟩))) :
    SeqStopsK Fence.wide n Tryd.prog 53 #[.pointer (some ⟨Bn, 0, none⟩)] pairV (KeepP n₀) (fun ys => ys = pairsL m R m) (fun pre => pre <+: pairsL m R m) (pairsL m R m).length w := fun l J Jx W hW hJ _ hY h0 =>
  relEach1_in n hn l Bn n₀ lo hi p m R hg hlo J Jx (fun s A B hs hg' => hJ s A B none hs hg' (by simp)) hY W (ht.below (hW.mono hn₀) hg) ((hW.cell (p := ⟨Bn, 0, none⟩) hBn).trans hc) (Nat.le_trans hn₀ hW.size)
    (hR.kept hW.size fun i _ h2 => hW.block i (by omega)) h0

end Go.Proofs.YtdolcdededmlhaaDoor
