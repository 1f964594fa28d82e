/- centolaw7: row: labels, each ahead of all behind it. -/
import Derived.Test.YtihkjgiaajgkpaaDoorLinP
import Derived.Test.YtihkjgiaajgkpaaDoorRef7d
namespace Go.Proofs.YtihkjgiaajgkpaaDoor
open Go.RowKit

/-- The pairs so far: a rows whole, of the next one those before b. -/
def rowK (n a b : Nat) : List (Int × Int) := pairsL n (rowR n) a ++ (onL (rowR n a) b).map fun j : Nat => ((a : Int), (j : Int))
theorem rowK_start (n a : Nat) : rowK n a (a + 1) = pairsL n (rowR n) a := by
  unfold rowK
  have : onL (rowR n a) (a + 1) = [] := by
    unfold onL
    rw [List.filter_eq_nil_iff]
    intro j hj h
    have := rowR_iff.1 h
    have := List.mem_range.1 hj
    omega
  rw [this]
  simp
theorem rowK_next {n a b : Nat} (h : a < b) (hb : b < n) : rowK n a (b + 1) = rowK n a b ++ [((a : Int), (b : Int))] := by
  unfold rowK
  rw [onL_succ, rowR_iff.2 ⟨h, hb⟩, List.append_assoc]
  simp
theorem rowK_end (n a : Nat) : rowK n a n = pairsL n (rowR n) (a + 1) := by unfold rowK; rw [pairsL_succ]

/-- What lies while a row is made. -/
structure RB (w W : World) (p : Option Addr) (n c : Nat) (q : Option Addr) (m d : Nat) (P : List (Int × Int)) : Prop where
  gr : w.grownBy W none
  b0 : BoxO W w.heap.size (.slice none 0 0) (.slice none 0 0)
  b1 : BoxO W (w.heap.size + 1) (.slice p n c) (.slice q m d)
  rp : W.ownsRow (w.heap.size + 2) 56 2 (.slice q m d) m (pcells P)
theorem RB.start (w : World) (p : Option Addr) (n c : Nat) : RB w ((w.alloc (.cells #[.slice none 0 0, .slice none 0 0] 25)).alloc (.cells #[.slice p n c, .slice none 0 0] 25)) p n c none 0 0 [] := by
  have h1 := BoxO.new (w.alloc (.cells #[.slice none 0 0, .slice none 0 0] 25)) (.slice p n c) (.slice none 0 0)
  rw [World.size_alloc] at h1
  have g2 := World.grownBy_alloc (w.alloc (.cells #[.slice none 0 0, .slice none 0 0] 25)) (.cells #[.slice p n c, .slice none 0 0] 25) none
  exact ⟨grownBy_trans (World.grownBy_alloc w _ none) g2, (BoxO.new w _ _).calm g2, h1, World.ownsRow_nil _ _ _ _⟩
theorem RB.calm {w W W' : World} {p q : Option Addr} {n c m d : Nat} {P : List (Int × Int)} (h : RB w W p n c q m d P) (hg : W.grownBy W' none) : RB w W' p n c q m d P :=
  ⟨grownBy_trans h.gr hg, h.b0.calm hg, h.b1.calm hg, ownsRow_calm h.rp hg⟩
theorem RB.next {w W W' : World} {p q q' : Option Addr} {n c m d d' : Nat} {P : List (Int × Int)} {x : Int × Int} (h : RB w W p n c q m d P) (ho : W'.ownsRow (w.heap.size + 2) 56 2 (.slice q' (m + 1) d') (m + 1) (pcells P ++ [.int .i64 x.1, .int .i64 x.2])) (hg : W.grownBy W' (Value.slice q m d).ownBlock) :
    RB w (W'.setCell ⟨w.heap.size + 1, 1, none⟩ (.slice q' (m + 1) d')) p n c q' (m + 1) d' (P ++ [x]) ∧ W'.cell? ⟨w.heap.size + 1, 1, none⟩ = some (.slice q m d) ∧ W'.frozen? ⟨w.heap.size + 1, 1, none⟩ = false := by
  have hb1 := h.b1.other hg (ne_own h.rp h.b1 (by decide))
  have hb0 := h.b0.other hg (ne_own h.rp h.b0 (by decide))
  have hgr : w.grownBy W' none := by
    have h9 : (w.heap.size : Nat) ≤ w.heap.size + 2 := by omega
    rcases h.rp.2 with ⟨h5, _⟩ | ⟨g, cap, cur, h5, h6, _⟩
    · rw [h5] at hg
      exact grownBy_trans h.gr hg
    · rw [h5] at hg
      have hg' : W.grownBy W' (some g) := hg
      exact Kept.new h.gr (Kept.row (lo := w.heap.size) (hi := g + 1) hg' (by omega) (by omega)) (Nat.le_refl _)
  have q2 := grownBy_setCell W' ⟨w.heap.size + 1, 1, none⟩ (.slice q' (m + 1) d')
  have ho2 := ho.kept q2 (.inr (ne_own ho hb1 (by decide)).symm)
  exact ⟨⟨grownBy_setCell_new _ hgr (by show w.heap.size ≤ w.heap.size + 1; omega), hb0.other q2 (by simp), hb1.set1 _, by rw [pcells_snoc]; exact ho2⟩, hb1.c1, hb1.free 1⟩

/-- What row hands back. -/
def RowObj (n : Nat) (L : List ByteArray) (p : Option Addr) (c : Nat) (w : World) (e : Ending) (w' : World) : Prop :=
  ∃ q d, e = .returned (.agg #[.slice p n c, .slice q (rowP n).length d]) ∧ ObjAt w' 0 w'.heap.size p n q (rowP n).length L (rowP n) ∧ (q = none → d = 0) ∧ w.grownBy w' none

set_option maxRecDepth 20000 in
set_option maxHeartbeats 2000000 in
theorem row7_c (p : Option Addr) (n c lo hi : Nat) (L : List ByteArray) (w : World) (h : StrsAt w lo hi p n L) (hn : n ≤ 20) :
    Calls Tryd.prog 27 #[.slice p n c] w (RowObj n L p c w) := by
  obtain ⟨j0, jn, jz0, jz1, jz2⟩ := info_parts Tryd.info56
  have H := Lib.hid h
  have HB := Lib.hid (RB.start w p n c)
  clear h
  go_enter Tryd.func27, Tryd.ntmps27
  go_wp2
  go_loopw [4] (fun i wr => ∃ (a : Nat) (q : Option Addr) (m d : Nat), a ≤ n ∧ i = .int .i64 a ∧ m ≤ 20 * a ∧ m = (pairsL n (rowR n) a).length ∧ RB w wr p n c q m d (pairsL n (rowR n) a)) (fun i _ => n - (intOf i).toNat)
  case atStart => exact ⟨0, none, 0, 0, Nat.zero_le _, rfl, Nat.le_refl _, rfl, HB.out⟩
  case round =>
    obtain ⟨a, q, m, d, ha, rfl, hm, hml, hb⟩ := hrel
    by_cases han : a < n
    · have a0 : (0 : Int) ≤ a := by omega
      have a1 : (a : Int) < n := by omega
      have HB1 := Lib.hid hb
      have HML := Lib.hid hml
      clear hb hml
      generalize wr = wo at *
      go_wp2
      go_loopw [5] (fun i wr => ∃ (b : Nat) (q : Option Addr) (m d : Nat), a + 1 ≤ b ∧ b ≤ n ∧ i = .int .i64 b ∧ m ≤ 20 * a + b ∧ m = (rowK n a b).length ∧ RB w wr p n c q m d (rowK n a b)) (fun i _ => n - (intOf i).toNat)
      case atStart => exact ⟨a + 1, q, m, d, Nat.le_refl _, by omega, by go_num, by omega, by rw [rowK_start]; exact HML.out, by rw [rowK_start]; exact HB1.out⟩
      case round =>
        obtain ⟨b, q, m, d, hab, hbn, rfl, hm, hml, hb⟩ := hrel
        by_cases hb2 : b < n
        · have b0 : (0 : Int) ≤ b := by omega
          have b1 : (b : Int) < n := by omega
          have HRK := Lib.hid (rowK_next (n := n) (a := a) (b := b) (by omega) hb2)
          have hgN := World.grownBy_alloc wr (.cells #[.int .i64 (a : Int), .int .i64 (b : Int)] 56) none
          have HBN := Lib.hid (hb.calm hgN)
          have x1 := (hb.calm hgN).b1.c1
          have y1 := hb.b1.c1
          have hsz : w.heap.size + 2 ≤ wr.heap.size := hb.b1.lt
          have HML := Lib.hid hml
          clear hgN hb hml
          go_wp2_with (at_builtin; refine wpList_append_own _ rfl _ _ 23 rfl (w.heap.size + 2) 56 j0 (.agg #[.int .i64 0, .int .i64 0]) 2 16 Tryd.underlying23 jn jz0 jz1 jz2 rfl (by decide) (.slice q m d) m (pcells (rowK n a b)) rfl HBN.out.rp ⟨wr.heap.size, 0, none⟩ 1 1 [.int .i64 (a : Int), .int .i64 (b : Int)] rfl rfl (cell_two_new _ _ _ _) (by simp [Value.oneCell']) (by unfold maxLen; omega) (by omega) (by simp; omega) ?_; intro v' w2 hown' hgrow _; obtain ⟨g', cap', rfl⟩ := ownsRow_succ hown'; have hnx := HBN.out.next (x := ((a : Int), (b : Int))) hown' hgrow; have HNX := Lib.hid hnx.1; have x9 := hnx.2.1; have f9 := hnx.2.2; clear hown' hgrow hnx)
          go_wp2
          exact ⟨⟨b + 1, _, m + 1, _, by omega, by omega, by go_num, by omega, by rw [HRK.out, List.length_append, ← HML.out]; rfl, by rw [HRK.out]; exact HNX.out⟩, by simp [intOf]; omega⟩
        · obtain rfl : b = n := by omega
          have b1 : ¬ ((b : Int) < b) := by omega
          rw [rowK_end] at hml hb
          have HML := Lib.hid hml
          have HB2 := Lib.hid hb
          clear hml hb
          go_wp2
          exact ⟨⟨a + 1, q, m, d, by omega, by go_num, by omega, HML.out, HB2.out⟩, by simp [intOf]; omega⟩
    · obtain rfl : a = n := by omega
      have a1 : ¬ ((a : Int) < a) := by omega
      have y0 := hb.b1.c0
      have y1 := hb.b1.c1
      have z0 := hb.b0.c0
      have z1 := hb.b0.c1
      have fz0 := hb.b0.free 0
      have fz1 := hb.b0.free 1
      have hfin : ∀ W9, W9 = (wr.setCell ⟨w.heap.size, 0, none⟩ (.slice p a c)).setCell ⟨w.heap.size, 1, none⟩ (.slice q m d) → W9.cell? ⟨w.heap.size, 0, none⟩ = some (.slice p a c) ∧ W9.cell? ⟨w.heap.size, 1, none⟩ = some (.slice q m d) ∧ RowObj a L p c w (.returned (.agg #[.slice p a c, .slice q m d])) W9 := by
        rintro W9 rfl
        have hbb := (hb.b0.set0 (.slice p a c)).set1 (.slice q m d)
        have q1 := grownBy_setCell wr ⟨w.heap.size, 0, none⟩ (.slice p a c)
        have q2 := grownBy_setCell (wr.setCell ⟨w.heap.size, 0, none⟩ (.slice p a c)) ⟨w.heap.size, 1, none⟩ (.slice q m d)
        have r1 := hb.rp.kept q1 (.inr (ne_own hb.rp hb.b0 (by decide)).symm)
        have r2 := r1.kept q2 (.inr (ne_own r1 (hb.b0.set0 (.slice p a c)) (by decide)).symm)
        have hgr := grownBy_setCell_new (.slice q m d) (p := ⟨w.heap.size, 1, none⟩) (grownBy_setCell_new (.slice p a c) (p := ⟨w.heap.size, 0, none⟩) hb.gr (Nat.le_refl _)) (Nat.le_refl _)
        have hst := H.out.calm hgr
        have hnil : q = none → d = 0 := by
          rintro rfl
          rcases hb.rp.2 with ⟨h5, _⟩ | ⟨g', cap, cur, h5, _⟩
          · injection h5
          · injection h5 with h6; cases h6
        subst hml
        obtain ⟨q9, d9, e9, hp9⟩ := pairsAt_own r2
        injection e9 with e1 e2 e3
        subst e1
        refine ⟨hbb.c0, hbb.c1, q, d, rfl, (show ObjAt _ 0 _ p a q _ L (rowP a) from ⟨⟨hst.len, fun h0 => ?_⟩, ⟨rfl, fun h0 => ?_⟩⟩), hnil, hgr⟩
        · obtain ⟨b, off, e, k1, k2, k3, hc⟩ := hst.cell h0
          exact ⟨b, off, e, Nat.zero_le _, by omega, Nat.le_refl _, hc⟩
        · obtain ⟨b, off, e, k1, k2, k3, hc⟩ := hp9.cell h0
          exact ⟨b, off, e, Nat.zero_le _, by omega, Nat.le_refl _, hc⟩
      have HFIN := Lib.hid hfin
      clear hfin hb hml
      go_wp2
      obtain ⟨y8, y9, hres⟩ := HFIN.out _ rfl
      refine bodyPost_ret (v := .agg #[.slice p a c, .slice q m d]) ?_ rfl hres
      simp [results, Tryd.results27, go_sem, y8, y9]

end Go.Proofs.YtihkjgiaajgkpaaDoor
