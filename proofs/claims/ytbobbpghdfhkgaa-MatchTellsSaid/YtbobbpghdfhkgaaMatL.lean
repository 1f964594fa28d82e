/- Package match: front, Length, Longest, Is. -/
import Derived.Test.YtbobbpghdfhkgaaMatT
namespace Go.Proofs.Ytbobbpghdfhkgaa
open Go.RowKit

/-- A slice of texts in memory, no longer than it may be, none too long. -/
structure TxtAt (w : World) (p : Option Addr) (n c : Nat) (l : List ByteArray) : Prop where
  at' : ∃ lo hi, StrsAt w lo hi p n l
  cap : n ≤ c
  small : smallT l
theorem TxtAt.calm {w w' : World} {p : Option Addr} {n c : Nat} {l : List ByteArray} (h : TxtAt w p n c l) (hg : w.grownBy w' none) : TxtAt w' p n c l := by
  obtain ⟨lo, hi, h1⟩ := h.at'
  exact ⟨⟨lo, hi, h1.calm hg⟩, h.cap, h.small⟩
theorem TxtAt.len {w : World} {p : Option Addr} {n c : Nat} {l : List ByteArray} (h : TxtAt w p n c l) : l.length = n := by
  obtain ⟨lo, hi, h1⟩ := h.at'
  exact h1.len

set_option maxHeartbeats 1000000 in
theorem front_c (p : Option Addr) (n c : Nat) (l : List ByteArray) (w : World) (h : TxtAt w p n c l) (hn : n ≤ 200) :
    Calls Try.prog 17 #[.slice p n c] w fun e w' => e = .returned (.slice p n c) ∧ w' = w := by
  have hc := h.cap
  clear h
  go_enter Try.func17, Try.ntmps17
  go_wp2
  go_ret
  exact ⟨rfl, rfl⟩

theorem tableT_c (p1 p2 : Option Addr) (n m c1 c2 : Nat) (a b : List ByteArray) (w : World) (h1 : TxtAt w p1 n c1 a) (h2 : TxtAt w p2 m c2 b) (hn : n ≤ 1000) (hm : m ≤ 1000) :
    Calls Try.prog 18 #[.slice p1 n c1, .slice p2 m c2] w fun e w' => ∃ mb rb, e = .returned (.slice (some ⟨mb, 0, none⟩) (n + 1) (n + 1)) ∧
      Grid 41 42 w' w.heap.size mb (n + 1) (m + 1) ((m + 1) * 2) 0 rb (cellF a b) ∧ w.grownBy w' none := by
  obtain ⟨lo1, hi1, k1⟩ := h1.at'
  obtain ⟨lo2, hi2, k2⟩ := h2.at'
  exact table_c p1 p2 n m c1 c2 lo1 hi1 lo2 hi2 a b w k1 k2 hn hm h1.small h2.small

set_option maxHeartbeats 1000000 in
theorem length_m (p1 p2 : Option Addr) (n m c1 c2 r : Nat) (a b : List ByteArray) (w : World) (h1 : TxtAt w p1 n c1 a) (h2 : TxtAt w p2 m c2 b) (hn : n ≤ 200) (hm : m ≤ 200) (hr : lcs a b = r) :
    Calls Try.prog 13 #[.slice p1 n c1, .slice p2 m c2] w fun e w' => e = .returned (.int .i64 r) ∧ w.grownBy w' none := by
  have H1 := Lib.hid h1
  have H2 := Lib.hid h2
  have HR := Lib.hid hr
  clear h1 h2 hr
  go_enter Try.func13, Try.ntmps13
  go_wp2_with fail
  refine (front_c _ _ _ _ _ H1.out hn).mono ?_
  rintro e w1 ⟨rfl, h9⟩
  subst w1
  go_wp2_with fail
  refine (front_c _ _ _ _ _ H2.out hm).mono ?_
  rintro e w1 ⟨rfl, h9⟩
  subst w1
  go_wp2_with fail
  refine (tableT_c _ _ _ _ _ _ _ _ _ H1.out H2.out (by omega) (by omega)).mono ?_
  rintro e w2 ⟨mb, rb, rfl, hg, hx⟩
  have c0 := hg.hcell (i := 0) (Nat.le_refl _) (by omega)
  have c1 := hg.cell (i := 0) (k := 0) (Nat.le_refl _) (by omega) (by omega)
  have hv : cellF a b 0 0 = (r : Int) := by rw [← HR.out]; exact cellF_even a b 0 0
  rw [hv] at c1
  have HX := Lib.hid hx
  generalize rb 0 = rz at *
  clear hg hx hv
  have hn0 : (0 : Int) < (n : Int) + 1 := by omega
  have hm0 : (0 : Int) < (m : Int) + 1 := by omega
  go_wp2
  go_ret
  exact ⟨rfl, HX.out⟩

theorem PairsAt.lower {w : World} {lo lo' hi : Nat} {p : Option Addr} {n : Nat} {l : List (Int × Int)} (h : PairsAt w lo hi p n l) (hl : lo' ≤ lo) : PairsAt w lo' hi p n l :=
  ⟨h.len, fun hn => by
    obtain ⟨b, off, hp, h1, h2, h3, hc⟩ := h.cell hn
    exact ⟨b, off, hp, by omega, h2, h3, hc⟩⟩

theorem natPairs_snoc (l : List (Nat × Nat)) (x : Nat × Nat) : pcells ((l ++ [x]).map intP) = pcells (l.map intP) ++ [.int .i64 x.1, .int .i64 x.2] := by
  rw [List.map_append, List.map_cons, List.map_nil, pcells_snoc]
  rfl

set_option maxHeartbeats 4000000 in
theorem longest_m (p1 p2 : Option Addr) (n m c1 c2 : Nat) (a b : List ByteArray) (l : List (Nat × Nat)) (w : World) (h1 : TxtAt w p1 n c1 a) (h2 : TxtAt w p2 m c2 b) (hn : n ≤ 200) (hm : m ≤ 200) (hl : LgL a b 0 0 l) :
    Calls Try.prog 11 #[.slice p1 n c1, .slice p2 m c2] w (PairsPost (l.map intP) w) := by
  obtain ⟨i0, hi0, hz0, hz1, hz2⟩ := info_parts Try.info33
  have H1 := Lib.hid h1
  have H2 := Lib.hid h2
  have HL := Lib.hid hl
  clear h1 h2 hl
  go_enter Try.func11, Try.ntmps11
  go_wp2_with fail
  refine (front_c _ _ _ _ _ H1.out hn).mono ?_
  rintro e w1 ⟨rfl, h9⟩
  subst w1
  go_wp2_with fail
  refine (front_c _ _ _ _ _ H2.out hm).mono ?_
  rintro e w1 ⟨rfl, h9⟩
  subst w1
  go_wp2_with fail
  refine (tableT_c _ _ _ _ _ _ _ _ _ H1.out H2.out (by omega) (by omega)).mono ?_
  rintro e w2 ⟨mb, rb, rfl, hg, hx⟩
  have HG := Lib.hid hg
  have HX := Lib.hid hx
  have HAL := Lib.hid H1.out.len
  have HBL := Lib.hid H2.out.len
  clear hg hx
  go_wp2
  go_loopw [6, 7, 19] (fun v kk i wr => ∃ (I K : Nat) (pre : List (Nat × Nat)), I ≤ n ∧ K ≤ m ∧ i = .int .i64 I ∧ kk = .int .i64 K ∧ pre.length ≤ I ∧ Hid (∀ rest, LgL a b I K rest → LgL a b 0 0 (pre ++ rest)) ∧
      wr.ownsRow w2.heap.size 33 2 v pre.length (pcells (pre.map intP)) ∧ w2.grownBy wr none) (fun _ _ i _ => n - (intOf i).toNat)
  case atStart => exact ⟨0, 0, [], Nat.zero_le _, Nat.zero_le _, rfl, rfl, Nat.le_refl _, Lib.hid fun _ h => h, World.ownsRow_nil _ _ _ _, grownBy_refl _ _⟩
  case round =>
    obtain ⟨I, K, pre, hI, hK, rfl, rfl, hpre, HLG, hrow, hgr⟩ := hrel
    by_cases hIn : I < n
    · have hbs := hgr.size
      have I0 : (0 : Int) ≤ I := by omega
      have I1 : (I : Int) < (n : Int) + 1 := by omega
      have I2 : (I : Int) < (n : Int) := by omega
      have K0 : (0 : Int) ≤ K := by omega
      have K1 : (K : Int) < (m : Int) + 1 := by omega
      have g0 := (HG.out.calm hgr).hcell (i := I) (Nat.zero_le _) (by omega)
      have g1 := (HG.out.calm hgr).cell (i := I) (k := K * 2 + 1) (Nat.zero_le _) (by omega) (by omega)
      rw [cellF_odd (by rw [HAL.out]; exact hIn)] at g1
      have HROW := Lib.hid hrow
      have HGR := Lib.hid hgr
      generalize rb I = ri at *
      clear hrow hgr
      rcases placeL_cases a b I K with ⟨hp, hno⟩ | ⟨p, hp, hnx⟩
      · rw [hp] at g1
        have HLG2 : Hid (∀ rest, LgL a b (I + 1) K rest → LgL a b 0 0 (pre ++ rest)) := Lib.hid fun rest h => HLG.out rest (LgL_skip (by rw [HAL.out]; exact hIn) hno h)
        clear hp hno
        go_wp2
        exact ⟨⟨I + 1, K, pre, by omega, hK, by go_num, rfl, by omega, HLG2, HROW.out, HGR.out⟩, by simp [intOf]; omega⟩
      · rw [hp] at g1
        have hpm : p < m := by rw [← HBL.out]; exact hnx.hit.2.1
        have HLG2 : Hid (∀ rest, LgL a b (I + 1) (p + 1) rest → LgL a b 0 0 ((pre ++ [(I, p)]) ++ rest)) := Lib.hid fun rest h => by
          rw [List.append_assoc]
          exact HLG.out _ (.more (by have := hnx.hit.2.2.2; omega) hnx h)
        have p0 : ((p : Int) != -1) = true := by simp
        clear hp hnx
        go_wp2_with (at_builtin; refine wpList_append_own _ rfl _ _ 23 rfl w2.heap.size 33 i0 (.agg #[.int .i64 0, .int .i64 0]) 2 16 Try.underlying23 hi0 hz0 hz1 hz2 rfl (by decide) _ _ _ rfl (HROW.out.alloc _) ⟨wr.heap.size, 0, none⟩ 1 1 [.int .i64 I, .int .i64 p] rfl rfl (cell_two_new _ _ _ _) (by simp [Value.oneCell']) (by unfold maxLen; omega) (by omega) (by simp; omega) ?_; intro v' w3 hown' hgrow _; obtain ⟨g', cap', rfl⟩ := ownsRow_succ hown'; have HO := Lib.hid hown'; have HGA := Lib.hid (grownBy_app HGR.out HROW.out hgrow); clear hown' hgrow)
        exact ⟨⟨I + 1, p + 1, pre ++ [(I, p)], by omega, by omega, by go_num, by go_num, by simp; omega, HLG2, by rw [natPairs_snoc]; simpa using HO.out, HGA.out⟩, by simp [intOf]; omega⟩
    · obtain rfl : I = n := by omega
      go_wp2
      go_ret
      have hfin := HLG.out [] (.done (tabL_a (by rw [HAL.out]; exact Nat.le_refl _)))
      rw [List.append_nil] at hfin
      obtain rfl := hfin.uniq HL.out
      obtain ⟨p, c, rfl, hat⟩ := pairsAt_own (l := pre.map intP) (by rw [List.length_map]; exact hrow)
      exact ⟨p, c, rfl, hat.lower HX.out.size, grownBy_trans HX.out hgr⟩

/-- A pair in a box. -/
def PairB (w : World) (g : Nat) (u v : Int) : Prop := w.heap[g]? = some (.cells #[.int .i64 u, .int .i64 v] 33 (0, 0))
theorem PairB.new (w : World) (u v : Int) : PairB (w.alloc (.cells #[.int .i64 u, .int .i64 v] 33)) w.heap.size u v := heap_alloc_new w _
theorem PairB.c0 {w : World} {g : Nat} {u v : Int} (h : PairB w g u v) : w.cell? ⟨g, 0, none⟩ = some (.int .i64 u) := by
  have h' : w.heap[g]? = _ := h
  simp [World.cell?, h']
theorem PairB.c1 {w : World} {g : Nat} {u v : Int} (h : PairB w g u v) : w.cell? ⟨g, 1, none⟩ = some (.int .i64 v) := by
  have h' : w.heap[g]? = _ := h
  simp [World.cell?, h']
theorem PairB.free {w : World} {g : Nat} {u v : Int} (h : PairB w g u v) (k : Nat) : w.frozen? ⟨g, k, none⟩ = false := by
  have h' : w.heap[g]? = _ := h
  simp [World.frozen?, h']
theorem PairB.calm {w w' : World} {g : Nat} {u v : Int} (h : PairB w g u v) (hg : w.grownBy w' none) : PairB w' g u v :=
  (hg.block g (Array.getElem?_eq_some_iff.1 h).1 (by simp)).trans h
theorem PairB.put {w : World} {g : Nat} {u v : Int} (h : PairB w g u v) (x y : Int) : PairB ((w.setCell ⟨g, 0, none⟩ (.int .i64 x)).setCell ⟨g, 1, none⟩ (.int .i64 y)) g x y := by
  have h1 := heap_setCell_same w g 0 _ _ (.int .i64 x) h
  have h2 := heap_setCell_same _ g 1 _ _ (.int .i64 y) h1
  exact h2
theorem PairB.new2 {w w0 : World} {g : Nat} {x y : Int} (h : w0.grownBy w none) (hg : w0.heap.size ≤ g) : w0.grownBy ((w.setCell ⟨g, 0, none⟩ (.int .i64 x)).setCell ⟨g, 1, none⟩ (.int .i64 y)) none :=
  grownBy_new (grownBy_new h (grownBy_setCell w ⟨g, 0, none⟩ (.int .i64 x)) hg) (grownBy_setCell _ ⟨g, 1, none⟩ (.int .i64 y)) hg

theorem ahead_succ (l : List (Int × Int)) (k : Nat) : ahead l (k + 1) = l[k]?.getD (0, 0) := by
  unfold ahead
  rw [if_neg (by omega), Nat.add_sub_cancel]
theorem okP_no {a b : List ByteArray} {prev p : Int × Int} (h : ¬ (0 ≤ p.1 ∧ 0 ≤ p.2 ∧ p.1 < a.length ∧ p.2 < b.length ∧ a[p.1.toNat]? = b[p.2.toNat]? ∧ prev.1 < p.1 ∧ prev.2 < p.2)) : okP a b prev p = false := by
  cases e : okP a b prev p
  · rfl
  · exact absurd (okP_spec e) h
theorem toList_eq {x y : ByteArray} (h : x = y) : (x.toList == y.toList) = true := by subst h; simp
theorem toList_ne {x y : ByteArray} (h : x ≠ y) : (x.toList == y.toList) = false := by
  rw [beq_eq_false_iff_ne]
  intro e
  exact h (by rw [ByteArray.toList_eq, ByteArray.toList_eq] at e; cases x; cases y; exact congrArg ByteArray.mk (Array.toList_inj.1 e))

set_option maxRecDepth 100000 in
set_option maxHeartbeats 4000000 in
theorem is_m (p1 p2 p3 : Option Addr) (n m L c1 c2 c3 lo hi : Nat) (a b : List ByteArray) (l : List (Int × Int)) (r : Bool) (w : World) (h1 : TxtAt w p1 n c1 a) (h2 : TxtAt w p2 m c2 b) (h3 : PairsAt w lo hi p3 L l) (hn : n ≤ 200) (hm : m ≤ 200) (hL : L ≤ 1000000) (hr : isMB a b l = r) :
    Calls Try.prog 15 #[.slice p1 n c1, .slice p2 m c2, .slice p3 L c3] w fun e w' => e = .returned (.bool r) ∧ w.grownBy w' none := by
  have H1 := Lib.hid h1
  have H2 := Lib.hid h2
  have H3 := Lib.hid h3
  have HR := Lib.hid hr
  clear h1 h2 h3 hr
  go_enter Try.func15, Try.ntmps15
  go_wp2_with fail
  refine (front_c _ _ _ _ _ H1.out hn).mono ?_
  rintro e w1 ⟨rfl, h9⟩
  subst w1
  go_wp2_with fail
  refine (front_c _ _ _ _ _ H2.out hm).mono ?_
  rintro e w1 ⟨rfl, h9⟩
  subst w1
  go_wp2
  go_loopw [9, 16] (fun _ i wr => ∃ (k : Nat) (x y : Int), k ≤ L ∧ i = .int .i64 k ∧ Hid (upM a b l k = true) ∧ Hid (ahead l k = (x, y)) ∧ -1 ≤ x ∧ x < 200 ∧ -1 ≤ y ∧ y < 200 ∧ Hid (PairB wr w.heap.size (x + 1) (y + 1)) ∧ w.grownBy wr none) (fun _ i _ => L - (intOf i).toNat)
  case atStart => exact ⟨0, -1, -1, Nat.zero_le _, rfl, Lib.hid rfl, Lib.hid rfl, by omega, by omega, by omega, by omega, Lib.hid (PairB.new w 0 0), World.grownBy_alloc _ _ none⟩
  case round =>
    obtain ⟨k, x, y, hk, rfl, HUP, HAH, x0, x1, y0, y1, HB, hgr⟩ := hrel
    by_cases hkL : k < L
    · obtain ⟨b3, o3, rfl, z1, z2, z3, hc⟩ := (H3.out.calm hgr).cell (by omega)
      obtain ⟨d1, d2⟩ := hc k hkL
      have hlen : l.length = L := H3.out.len
      have HNO := Lib.hid (isMB_no (a := a) (b := b) (l := l) (n := k) (by omega))
      have HYES := Lib.hid (upM_succ a b l k)
      rw [HAH.out] at HNO HYES
      have HAS := Lib.hid (ahead_succ l k)
      have HLEN := Lib.hid hlen
      clear hc hlen
      generalize l[k]?.getD (0, 0) = pr at *
      obtain ⟨u, v⟩ := pr
      have k0 : (0 : Int) ≤ k := by omega
      have k1 : (k : Int) < L := by omega
      obtain ⟨X, hX⟩ : ∃ X, X = x + 1 := ⟨_, rfl⟩
      obtain ⟨Y, hY⟩ : ∃ Y, Y = y + 1 := ⟨_, rfl⟩
      have HBX : Hid (PairB wr w.heap.size X Y) := Lib.hid (by rw [hX, hY]; exact HB.out)
      have X0 : 0 ≤ X := by omega
      have Y0 : 0 ≤ Y := by omega
      have HXE := Lib.hid hX
      have HYE := Lib.hid hY
      clear HB hX hY
      have HAL := Lib.hid H1.out.len
      have HBL := Lib.hid H2.out.len
      go_upto_region 6 with fail
      have ha := World.grownBy_alloc wr (.cells #[.int .i64 u, .int .i64 v] 33) none
      have HN5 := Lib.hid (PairB.new wr u v)
      have HB5 := Lib.hid (HBX.out.calm ha)
      have HG5 := Lib.hid (grownBy_trans hgr ha)
      have hne : w.heap.size ≠ wr.heap.size := by
        have := (Array.getElem?_eq_some_iff.1 HBX.out).1
        omega
      clear ha hgr d1 d2
      generalize wr.alloc (.cells #[.int .i64 u, .int .i64 v] 33) = W5 at *
      generalize wr.heap.size = g at *
      have p0 := HN5.out.c0
      have p1' := HN5.out.c1
      have q0 := HB5.out.c0
      have q1 := HB5.out.c1
      have HF : Hid (¬ (0 ≤ u ∧ 0 ≤ v ∧ u < a.length ∧ v < b.length ∧ a[u.toNat]? = b[v.toNat]? ∧ x < u ∧ y < v) → r = false) := Lib.hid fun h => by
        rw [← HR.out]
        exact HNO.out (okP_no h)
      by_cases t1 : u < X
      · have e1 : decide (u < X) = true := decide_eq_true t1
        go_wp2
        go_quiet (fail)
        go_wp2
        obtain rfl : r = false := HF.out (by rintro ⟨_, _, _, _, _, h, _⟩; have := HXE.out; omega)
        go_ret
        exact ⟨rfl, grownBy_trans HG5.out (grownBy_drewN _ _ none)⟩
      · have e1 : decide (u < X) = false := decide_eq_false t1
        by_cases t2 : (n : Int) ≤ u
        · have e2 : decide ((n : Int) ≤ u) = true := decide_eq_true t2
          go_wp2
          go_quiet (fail)
          go_wp2
          obtain rfl : r = false := HF.out (by rintro ⟨_, _, h, _⟩; rw [HAL.out] at h; omega)
          go_ret
          exact ⟨rfl, grownBy_trans HG5.out (grownBy_drewN _ _ none)⟩
        · have e2 : decide ((n : Int) ≤ u) = false := decide_eq_false t2
          by_cases t3 : v < Y
          · have e3 : decide (v < Y) = true := decide_eq_true t3
            go_wp2
            go_quiet (fail)
            go_wp2
            obtain rfl : r = false := HF.out (by rintro ⟨_, _, _, _, _, _, h⟩; have := HYE.out; omega)
            go_ret
            exact ⟨rfl, grownBy_trans HG5.out (grownBy_drewN _ _ none)⟩
          · have e3 : decide (v < Y) = false := decide_eq_false t3
            by_cases t4 : (m : Int) ≤ v
            · have e4 : decide ((m : Int) ≤ v) = true := decide_eq_true t4
              go_wp2
              go_quiet (fail)
              go_wp2
              obtain rfl : r = false := HF.out (by rintro ⟨_, _, _, h, _⟩; rw [HBL.out] at h; omega)
              go_ret
              exact ⟨rfl, grownBy_trans HG5.out (grownBy_drewN _ _ none)⟩
            · have e4 : decide ((m : Int) ≤ v) = false := decide_eq_false t4
              obtain ⟨U, rfl⟩ : ∃ U : Nat, u = (U : Int) := ⟨u.toNat, by omega⟩
              obtain ⟨V, rfl⟩ : ∃ V : Nat, v = (V : Int) := ⟨v.toNat, by omega⟩
              have hU : U < n := by omega
              have hV : V < m := by omega
              have u0 : (0 : Int) ≤ U := by omega
              have v0 : (0 : Int) ≤ V := by omega
              have u1 : (U : Int) < n := by omega
              have v1 : (V : Int) < m := by omega
              obtain ⟨loa, hia, HA⟩ := (H1.out.calm HG5.out).at'
              obtain ⟨lob, hib, HBB⟩ := (H2.out.calm HG5.out).at'
              obtain ⟨ba, oa, rfl, _, _, _, hca⟩ := HA.cell (by omega)
              obtain ⟨bb, ob, rfl, _, _, _, hcb⟩ := HBB.cell (by omega)
              have ca := hca U hU
              have cb := hcb V hV
              have HEQ : Hid (a[((U : Nat) : Int).toNat]? = b[((V : Nat) : Int).toNat]? ↔ a[U]?.getD .empty = b[V]?.getD .empty) := Lib.hid (by
                rw [Int.toNat_natCast, Int.toNat_natCast, List.getElem?_eq_getElem (by rw [HAL.out]; exact hU), List.getElem?_eq_getElem (by rw [HBL.out]; exact hV)]
                simp)
              clear hca hcb HA HBB
              generalize a[U]?.getD .empty = s at *
              generalize b[V]?.getD .empty = t at *
              have d2 : ¬ n ≤ U := by omega
              have d4 : ¬ m ≤ V := by omega
              by_cases t5 : s = t
              · have e5 := toList_eq t5
                have HT5 := Lib.hid t5
                clear t5
                go_wp2
                go_quiet (fail)
                have hg6 := grownBy_trans HG5.out (grownBy_drewN W5 nq none)
                have hb6 := HB5.out.calm (grownBy_drewN W5 nq none)
                have hn6 := HN5.out.calm (grownBy_drewN W5 nq none)
                clear p0 p1' q0 q1 ca cb
                generalize W5.drewN nq = W6 at *
                have p0 := hn6.c0
                have p1' := hn6.c1
                have q0 := hb6.c0
                have q1 := hb6.c1
                have f0 := hb6.free 0
                have f1 := hb6.free 1
                have HG7 := Lib.hid (PairB.new2 (x := (U : Int) + 1) (y := (V : Int) + 1) hg6 (Nat.le_refl _))
                have HB7 := Lib.hid (hb6.put ((U : Int) + 1) ((V : Int) + 1))
                have HUP2 : Hid (upM a b l (k + 1) = true) := Lib.hid (by
                  rw [HYES.out, HUP.out, okP_mk ⟨u0, v0, by rw [HAL.out]; exact u1, by rw [HBL.out]; exact v1, HEQ.out.2 HT5.out, by have := HXE.out; show x < (U : Int); omega, by have := HYE.out; show y < (V : Int); omega⟩]
                  rfl)
                clear hg6 hb6 hn6
                go_wp2
                exact ⟨⟨k + 1, U, V, by omega, by go_num, HUP2, HAS, by omega, by omega, by omega, by omega, HB7, HG7⟩, by simp [intOf]; omega⟩
              · have e5 := toList_ne t5
                have HT5 := Lib.hid t5
                clear t5
                go_wp2
                go_quiet (fail)
                go_wp2
                obtain rfl : r = false := HF.out (by rintro ⟨_, _, _, _, h, _⟩; exact HT5.out (HEQ.out.1 h))
                go_ret
                exact ⟨rfl, grownBy_trans HG5.out (grownBy_drewN _ _ none)⟩
    · obtain rfl : k = L := by omega
      have hf : r = true := by
        rw [← HR.out]
        unfold isMB
        rw [H3.out.len]
        exact HUP.out
      subst hf
      go_wp2
      go_ret
      exact ⟨rfl, hgr⟩

end Go.Proofs.Ytbobbpghdfhkgaa
