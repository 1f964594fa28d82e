/- Package cone: out, Cocone; the reference's Cocone. -/
import Derived.Test.YtgpcakcjiaoimaaDoorConP
namespace Go.Proofs.YtgpcakcjiaoimaaDoor
open Go.RowKit

/-- The row of out, its first k places led. -/
def outK (U : List Int) (k : Nat) : List Int := U.take k ++ List.replicate (U.length - k) 0
theorem outK_len {U : List Int} {k : Nat} (h : k ≤ U.length) : (outK U k).length = U.length := by simp [outK]; omega
theorem outK_zero (U : List Int) : outK U 0 = List.replicate U.length 0 := by simp [outK]
theorem outK_end (U : List Int) : outK U U.length = U := by simp [outK]
theorem outK_succ {U : List Int} {k : Nat} (h : k < U.length) : (outK U k).set k (U[k]?.getD 0) = outK U (k + 1) := by
  unfold outK
  rw [List.set_append_right _ _ (by rw [List.length_take]; omega), List.length_take, Nat.min_eq_left (by omega), Nat.sub_self, List.take_add_one, List.getElem?_eq_getElem h, show U.length - k = (U.length - (k + 1)) + 1 by omega, List.replicate_succ, List.set_cons_zero, Option.toList_some, List.append_assoc]
  rfl

/-- A leg in a box. -/
def LegO (w : World) (g : Nat) (u v : Value) : Prop := w.heap[g]? = some (.cells #[u, v] 51 (0, 0))
theorem LegO.new (w : World) (u v : Value) : LegO (w.alloc (.cells #[u, v] 51)) w.heap.size u v := heap_alloc_new w _
theorem LegO.c0 {w : World} {g : Nat} {u v : Value} (h : LegO w g u v) : w.cell? ⟨g, 0, none⟩ = some u := by
  have h' : w.heap[g]? = some (.cells #[u, v] 51 (0, 0)) := h
  simp [World.cell?, h']
theorem LegO.c1 {w : World} {g : Nat} {u v : Value} (h : LegO w g u v) : w.cell? ⟨g, 1, none⟩ = some v := by
  have h' : w.heap[g]? = some (.cells #[u, v] 51 (0, 0)) := h
  simp [World.cell?, h']

set_option maxRecDepth 20000 in
set_option maxHeartbeats 2000000 in
theorem out_c (pq qq : Option Addr) (N cN m0 d0 m b : Nat) (PP PT : Nat → Option Addr) (NN CC CT lo hi lo' hi' : Nat → Nat) (X : Nat → List Int) (U : List Int) (w : World) (hm : m ≤ 100)
    (hc : ∀ k, k < m → w.cell? ⟨b, k * 2, none⟩ = some (.slice (PP k) (NN k) (CC k)) ∧ w.cell? ⟨b, k * 2 + 1, none⟩ = some (.slice (PT k) (NN k) (CT k)))
    (hz : ∀ k, k < m → ZsAt w (lo k) (hi k) (PP k) (NN k) (X k) ∧ ZsAt w (lo' k) (hi' k) (PT k) (NN k) (thenL (X k) U) ∧ NN k ≤ 1000000)
    (hb : b < w.heap.size) (hU : U.length = N) (hr : ∀ e, e < N → ∃ k, k < m ∧ ∃ x, x < (X k).length ∧ (X k)[x]?.getD 0 = (e : Int)) (hN : N ≤ 1000000) :
    Calls Tryd.prog 23 #[.agg #[.slice pq N cN, .slice qq m0 d0], .slice (some ⟨b, 0, none⟩) m m] w (RowPost U w) := by
  have hmk := run_make_row' (P := Tryd.prog) 26 3 (.int .i64 0) 8 Tryd.underlying26 Tryd.infoZ3 rfl .i64 .i64 N (by omega) (by omega)
  have HC := Lib.hid hc
  have HZ := Lib.hid hz
  have HR := Lib.hid hr
  have HU := Lib.hid hU
  clear hc hz hr hU
  go_enter Tryd.func23, Tryd.ntmps23
  go_wp2
  go_step3
  go_wp2
  go_step3
  go_wp2
  go_loopw [17] (fun i wr => ∃ k : Nat, k ≤ N ∧ i = .int .i64 k ∧ RowZ wr (w.heap.size + 1) (outK U k) ∧ w.grownBy wr none) (fun i _ => N - (intOf i).toNat)
  case atStart =>
    refine ⟨0, Nat.zero_le _, rfl, ?_, grownBy_trans (World.grownBy_alloc _ _ none) (World.grownBy_alloc _ _ none)⟩
    have h9 := rowZ_made (w.alloc (.cells #[.slice pq N cN, .slice qq m0 d0] 25)) N
    rw [World.size_alloc] at h9
    rw [outK_zero, HU.out]
    exact h9
  case round =>
    obtain ⟨k, hk, rfl, hrow, hgr⟩ := hrel
    by_cases hkN : k < N
    · have k0 : (0 : Int) ≤ k := by omega
      have k1 : (k : Int) < N := by omega
      have HROW := Lib.hid hrow
      have HGR := Lib.hid hgr
      have HRK := Lib.hid (HR.out k hkN)
      clear hrow hgr
      go_wp2
      go_loopw [22] (fun i wi => ∃ j : Nat, j ≤ m ∧ i = .int .i64 j ∧ Hid (∀ q, q < j → ∀ x, x < (X q).length → (X q)[x]?.getD 0 ≠ (k : Int)) ∧ RowZ wi (w.heap.size + 1) (outK U k) ∧ w.grownBy wi none) (fun i _ => m - (intOf i).toNat)
      case atStart => exact ⟨0, Nat.zero_le _, rfl, Lib.hid (fun q hq => absurd hq (Nat.not_lt_zero _)), HROW.out, HGR.out⟩
      case round =>
        obtain ⟨j, hj, rfl, HNO, hrow, hgr⟩ := hrel
        by_cases hjm : j < m
        · have j0 : (0 : Int) ≤ j := by omega
          have j1 : (j : Int) < m := by omega
          obtain ⟨c0, c1⟩ := HC.out j hjm
          obtain ⟨z0, z1, z2⟩ := HZ.out j hjm
          have HX : Hid (thenL (X j) U = thenL (X j) U ∧ (∀ x, x < (X j).length → (X j)[x]?.getD 0 = (k : Int) → (thenL (X j) U)[x]?.getD 0 = U[k]?.getD 0)) := Lib.hid ⟨rfl, fun x hx e => by rw [thenL_get hx, e, Int.toNat_natCast]⟩
          have hbk : wr.heap[b]? = w.heap[b]? := hgr.block b hb (by simp)
          have d0 := (World.cell?_of_block (a := ⟨b, j * 2, none⟩) hbk).trans c0
          have d1 := (World.cell?_of_block (a := ⟨b, j * 2 + 1, none⟩) hbk).trans c1
          have ha := World.grownBy_alloc wr (.cells #[.slice (PP j) (NN j) (CC j), .slice (PT j) (NN j) (CT j)] 51) none
          have hl := LegO.new wr (.slice (PP j) (NN j) (CC j)) (.slice (PT j) (NN j) (CT j))
          have HX0 := Lib.hid ((z0.calm hgr).calm ha)
          have HX1 := Lib.hid ((z1.calm hgr).calm ha)
          have HXL := Lib.hid z0.len
          have HROW2 := Lib.hid (hrow.calm ha)
          have HGR2 := Lib.hid (grownBy_trans hgr ha)
          have l0 := hl.c0
          have l1 := hl.c1
          clear c0 c1 z0 z1 hbk ha hl hrow hgr HROW HGR
          generalize PP j = pp at *
          generalize NN j = nn at *
          generalize CC j = cc at *
          generalize PT j = pt at *
          generalize CT j = ct at *
          generalize hXj : X j = Xj at *
          have HXJ := Lib.hid hXj
          clear hXj
          go_wp2
          generalize wr.alloc (.cells #[.slice pp nn cc, .slice pt nn ct] 51) = wj at *
          generalize wr.heap.size = gl at *
          go_loopw [29] (fun i wx => ∃ x : Nat, x ≤ nn ∧ i = .int .i64 x ∧ Hid (∀ y, y < x → Xj[y]?.getD 0 ≠ (k : Int)) ∧ wx = wj) (fun i _ => nn - (intOf i).toNat)
          case atStart => exact ⟨0, Nat.zero_le _, rfl, Lib.hid (fun y hy => absurd hy (Nat.not_lt_zero _)), rfl⟩
          case round =>
            obtain ⟨x, hx, rfl, HNX, rfl⟩ := hrel
            by_cases hxn : x < nn
            · have x0 : (0 : Int) ≤ x := by omega
              have x1 : (x : Int) < nn := by omega
              obtain ⟨ba, oa, rfl, _, _, _, hca⟩ := HX0.out.cell (by omega)
              obtain ⟨bb, ob, rfl, _, _, _, hcb⟩ := HX1.out.cell (by omega)
              have ca := hca x hxn
              have cb := hcb x hxn
              by_cases hz : Xj[x]?.getD 0 = (k : Int)
              · rw [HX.out.2 x (by rw [HXL.out]; exact hxn) hz] at cb
                rw [hz] at ca
                have hfz := HROW2.out.free k
                have hck := HROW2.out.cell (k := k) (by rw [outK_len (by rw [HU.out]; exact hk), HU.out]; exact hkN)
                have HNEW := Lib.hid (HROW2.out.set (k := k) (U[k]?.getD 0))
                rw [outK_succ (by rw [HU.out]; exact hkN)] at HNEW
                have HGN := Lib.hid (grownBy_new HGR2.out (grownBy_setCell wr ⟨w.heap.size + 1, k, none⟩ (.int .i64 (U[k]?.getD 0))) (by show w.heap.size ≤ w.heap.size + 1; omega))
                clear hca hcb hz
                generalize U[k]?.getD 0 = y at *
                go_wp2
                exact ⟨⟨k + 1, by omega, by go_num, HNEW.out, HGN.out⟩, by simp [intOf]; omega⟩
              · have HZN := Lib.hid hz
                clear hca hcb hz cb
                have hne : ¬ (Xj[x]?.getD 0 = (k : Int)) := HZN.out
                have HN2 : Hid (∀ y, y < x + 1 → Xj[y]?.getD 0 ≠ (k : Int)) := Lib.hid (fun y hy => by
                  by_cases e : y = x
                  · subst e; exact HZN.out
                  · exact HNX.out y (by omega))
                generalize Xj[x]?.getD 0 = z at *
                go_wp2
                exact ⟨⟨x + 1, by omega, by go_num, HN2, trivial⟩, by simp [intOf]; omega⟩
            · obtain rfl : x = nn := by omega
              have x1 : ¬ ((x : Int) < x) := by omega
              have HN2 : Hid (∀ q, q < j + 1 → ∀ y, y < (X q).length → (X q)[y]?.getD 0 ≠ (k : Int)) := Lib.hid (fun q hq y hy => by
                by_cases e : q = j
                · subst e
                  rw [HXJ.out] at hy ⊢
                  rw [HXL.out] at hy
                  exact HNX.out y hy
                · exact HNO.out q (by omega) y hy)
              go_wp2
              exact ⟨⟨j + 1, by omega, by go_num, HN2, HROW2.out, HGR2.out⟩, by simp [intOf]; omega⟩
        · exfalso
          obtain ⟨q, hq, x, hx, e⟩ := HRK.out
          exact HNO.out q (by omega) x hx e
    · obtain rfl : k = N := by omega
      have k1 : ¬ ((k : Int) < k) := by omega
      have HROW := Lib.hid hrow
      have HGR := Lib.hid hgr
      clear hrow hgr
      go_wp2
      try rw [Exit.noGoto_ret]
      go_ret
      refine ⟨w.heap.size + 1, by rw [HU.out]; rfl, by omega, ?_, HGR.out⟩
      have := HROW.out
      rw [← HU.out, outK_end] at this
      exact this

end Go.Proofs.YtgpcakcjiaoimaaDoor
