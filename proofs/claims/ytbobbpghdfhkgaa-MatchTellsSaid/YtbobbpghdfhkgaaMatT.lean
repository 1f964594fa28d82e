/- Package match: the table. -/
import Derived.Test.YtbobbpghdfhkgaaMatP
import Derived.Test.YtbobbpghdfhkgaaGrid
import Derived.Test.YtbobbpghdfhkgaaApps
import Derived.Test.YtbobbpghdfhkgaaArra
import Derived.Maps.OwnRows
import Derived.Maps.GroupsBeside
import Derived.Maps.Views
import Derived.Maps.Keyed
namespace Go.Proofs.Ytbobbpghdfhkgaa
open Go.RowKit Go.WideMaps Go.Maps Go.ChangeShapes

theorem law11 : Keyed Try.prog 9 := string_keyed Try.underlying9
theorem zero11 (w : World) : (zeroValue 45).run Try.prog w = .ok (.slice none 0 0) w := by kernel_rfl

/-- What a text reads as. -/
def litS (x : ByteArray) : Lit := .string x.data.toList
theorem litS_inj {x y : ByteArray} (h : litS x = litS y) : x = y := by
  unfold litS at h
  have h2 := Lit.string.inj h
  cases x with | mk x => cases y with | mk y => exact congrArg ByteArray.mk (Array.toList_inj.1 h2)
theorem litS_lit (x : ByteArray) : WideAt.IsKeyLit (litS x) := by unfold litS; simp [WideAt.IsKeyLit]
theorem litS_key (x : ByteArray) (h : x.size ≤ maxLen) : keyOf Try.prog 9 (.string x) = some (litS x) := keyOf_string_mk Try.underlying9 h

/-- The map of places, of the first k texts. -/
def GrD (b : List ByteArray) (k : Nat) (D : DataW Unit) : Prop :=
  IsMap D ∧ ∀ x : ByteArray, D.atKey (litS x) .nil = if plcL b x k = [] then .nil else .slice (lits .i64 ((plcL b x k).map Int.ofNat)) []
theorem grD_zero (b : List ByteArray) : GrD b 0 (.map []) := ⟨isMap_empty, fun _ => rfl⟩
theorem lits_inj {zs ys : List Int} (h : lits (H := Unit) .i64 zs = lits .i64 ys) : zs = ys := by
  unfold lits at h
  exact (List.map_inj_right (fun _ _ hab => by cases hab; rfl)).1 h
/-- What lies there is the places. -/
theorem GrD.zs {b : List ByteArray} {k : Nat} {D : DataW Unit} {w : World} {base : Nat} {v : Value} {zs : List Int} {x : ByteArray} (h : GrD b k D) (ho : w.ownsInts base 3 .i64 v zs) (hat : D.atKey (litS x) .nil = rowDatum .i64 v zs) : zs = (plcL b x k).map Int.ofNat := by
  have h1 := h.2 x
  rw [hat] at h1
  rcases ho.datum (H := Unit) with ⟨h2, h3⟩ | h2
  · rw [h2] at h1
    by_cases e : plcL b x k = []
    · rw [e, h3]; rfl
    · rw [if_neg e] at h1; cases h1
  · rw [h2] at h1
    by_cases e : plcL b x k = []
    · rw [if_pos e] at h1; cases h1
    · rw [if_neg e] at h1
      exact lits_inj (DataW.slice.inj h1).1
theorem GrD.step {b : List ByteArray} {k : Nat} {D : DataW Unit} {x : ByteArray} {d : DataW Unit} (h : GrD b k D) (hx : b[k]? = some x) (hd : d = .slice (lits .i64 ((plcL b x k).map Int.ofNat ++ [(k : Int)])) []) : GrD b (k + 1) (D.put (litS x) d) := by
  subst hd
  refine ⟨h.1.put _ _, fun y => ?_⟩
  rw [plcL_succ]
  by_cases e : y = x
  · subst e
    rw [atKey_put_same h.1 (litS_lit y), if_pos hx, if_neg (by simp), List.map_append]
    rfl
  · have e3 : ¬ (b[k]? = some y) := fun e2 => e (by rw [hx] at e2; exact (Option.some.inj e2).symm)
    rw [atKey_put_other (fun e2 => e (litS_inj e2)), h.2 y, if_neg e3, List.append_nil]

/-- Texts of some length at most. -/
def smallT (l : List ByteArray) : Prop := ∀ x ∈ l, x.size ≤ 1000000
theorem smallT.get {l : List ByteArray} (h : smallT l) (k : Nat) : (l[k]?.getD .empty).size ≤ 1000000 := by
  by_cases hk : k < l.length
  · rw [List.getElem?_eq_getElem hk]
    exact h _ (List.getElem_mem hk)
  · rw [List.getElem?_eq_none (by omega)]
    exact Nat.zero_le _

/-- The map of places as it lies when it is whole. -/
def MapP (w : World) (B : Nat) (b : List ByteArray) : Prop := ∃ D : DataW Unit, w.ownsGroups Try.prog 9 (B + 1) 3 .i64 B b.length D ∧ GrD b b.length D ∧ b.length ≤ 1000
theorem MapP.calm {w w' : World} {B : Nat} {b : List ByteArray} (h : MapP w B b) (hg : w.grownBy w' none) : MapP w' B b := by
  obtain ⟨D, h1, h2, h3⟩ := h
  exact ⟨D, h1.kept hg (by simp) (h1.rowsAbove (by simp)), h2, h3⟩
/-- The places of a text. -/
def plcZ (b : List ByteArray) (x : ByteArray) : List Int := (plcL b x b.length).map Int.ofNat
theorem MapP.look {w : World} {B : Nat} {b : List ByteArray} (h : MapP w B b) (x : ByteArray) (hx : x.size ≤ 1000000) :
    ∃ p L c, (Instr.lookup 48 (.map (some B)) (.string x) false).run Try.prog w = .ok (.slice p L c) w ∧ ZsAt w (B + 1) w.heap.size p L (plcZ b x) ∧ L ≤ 1000 := by
  obtain ⟨D, h1, h2, h3⟩ := h
  obtain ⟨v, zs, hrun, hat, ho, hl, _⟩ := h1.at law11 Try.underlying48 (zero11 w) (by unfold maxLen; omega) (litS_key x (by unfold maxLen; omega))
  have hz := h2.zs ho hat
  obtain ⟨p, c, rfl, hc⟩ := zsAt_own (l := zs) ho.1
  rw [hz] at hc hrun
  have hlen : (plcZ b x).length ≤ 1000 := by unfold plcZ; rw [List.length_map]; exact Nat.le_trans (plcL_len _ _ _) h3
  exact ⟨p, _, c, hrun, hc, hlen⟩

theorem infoCell11 : (Try.prog.info? 41).map (fun i => (i.zero, i.size, i.bytes)) = some (some (.agg #[.int .i64 0, .int .i64 0]), 2, 16) := by kernel_rfl
theorem infoHead11 : (Try.prog.info? 42).map (fun i => (i.zero, i.size, i.bytes)) = some (some (.slice none 0 0), 1, 24) := by kernel_rfl
/-- n ints of value 0. -/
def zero2 (n : Nat) : Array Value := madeCells #[.int .i64 0, .int .i64 0] n
theorem make_cells11 (m : Nat) (hm : m ≤ 100000) (w : World) : (Instr.makeSlice 42 (.int .i64 m) (.int .i64 m)).run Try.prog w = .ok (.slice (some ⟨w.heap.size, 0, none⟩) m m) (w.alloc (.cells (zero2 (m * 2)) 41)) := by
  obtain ⟨i0, hi, hz0, hz1, hz2⟩ := info_parts infoCell11
  have h := run_make (P := Try.prog) w 42 41 i0 (.agg #[.int .i64 0, .int .i64 0]) Try.underlying42 hi hz0 .i64 .i64 m m (by omega) (by omega) (by rw [hz2]; omega) (by omega)
  rw [hz1, Int.toNat_natCast] at h
  exact h

/-- A row in the making. -/
noncomputable def rowK (a b : List ByteArray) (i k j : Nat) : Int := if j < k * 2 then cellF a b i j else 0
noncomputable def gridK (a b : List ByteArray) (i k x : Nat) : Nat → Int := if x = i then rowK a b i k else cellF a b x

/-- .. with one cell of it as x, y. -/
noncomputable def gridI (a b : List ByteArray) (i k : Nat) (x y : Int) (r j : Nat) : Int := if r = i ∧ j = k * 2 + 1 then y else if r = i ∧ j = k * 2 then x else gridK a b i k r j
theorem gridI_put (a b : List ByteArray) (i k : Nat) (x y x' y' : Int) (r j : Nat) : (if r = i ∧ j = k * 2 + 1 then y' else if r = i ∧ j = k * 2 then x' else gridI a b i k x y r j) = gridI a b i k x' y' r j := by
  unfold gridI
  split
  · rfl
  · split
    · rfl
    · rfl
theorem gridI_end {a b : List ByteArray} {i k : Nat} (hi : i < a.length) {x y : Int} (hx : x = (tabL a b i k : Int)) (hy : y = placeL a b i k) (r j : Nat) : gridI a b i k x y r j = gridK a b i (k + 1) r j := by
  subst hx hy
  unfold gridI gridK rowK
  by_cases e : r = i
  · subst e
    by_cases e1 : j = k * 2 + 1
    · subst e1
      simp only [true_and, if_true, cellF_odd hi, if_pos (by omega : k * 2 + 1 < (k + 1) * 2)]
    · by_cases e2 : j = k * 2
      · subst e2
        simp only [true_and, if_neg e1, if_true, cellF_even, if_pos (by omega : k * 2 < (k + 1) * 2)]
      · simp only [true_and, if_neg e1, if_neg e2, if_true]
        by_cases e3 : j < k * 2
        · rw [if_pos e3, if_pos (by omega)]
        · rw [if_neg e3, if_neg (by omega)]
  · simp only [e, false_and, if_false]
/-- One row more. -/
theorem tab_row {wr wx : World} {mb N M s : Nat} {rb : Nat → Nat} {f : Nat → Nat → Int} (hmb : wr.heap.size = mb) (hg : Grid 41 42 wx mb mb N M (M * 2) (s + 1) rb f) (hgr : wr.grownBy wx none) :
    ∃ rb' : Nat → Nat, Grid 41 42 ((wx.alloc (.cells (zero2 (M * 2)) 41)).setCell ⟨mb, s, none⟩ (.slice (some ⟨wx.heap.size, 0, none⟩) M M)) mb mb N M (M * 2) s rb' (fun i => if i = s then fun _ => 0 else f i) ∧
      wr.grownBy ((wx.alloc (.cells (zero2 (M * 2)) 41)).setCell ⟨mb, s, none⟩ (.slice (some ⟨wx.heap.size, 0, none⟩) M M)) none := by
  subst hmb
  exact ⟨_, hg.more (fun k hk => made_two _ k hk) (by decide) hgr.size, hg.more_new hgr _ _ _⟩
/-- A cell put. -/
theorem tab_put {wr wx : World} {mb N M s i k : Nat} {rb : Nat → Nat} {f g : Nat → Nat → Int} {x y : Int} (hmb : wr.heap.size = mb) (hg : Grid 41 42 wx mb mb N M (M * 2) s rb f) (hgr : wr.grownBy wx none)
    (h1 : s ≤ i) (h2 : i < N) (h3 : k < M) (h4 : ∀ r j, s ≤ r → j < M * 2 → (if r = i ∧ j = k * 2 + 1 then y else if r = i ∧ j = k * 2 then x else f r j) = g r j) :
    Grid 41 42 ((wx.setCell ⟨rb i, k * 2, none⟩ (.int .i64 x)).setCell ⟨rb i, k * 2 + 1, none⟩ (.int .i64 y)) mb mb N M (M * 2) s rb g ∧
      wr.grownBy ((wx.setCell ⟨rb i, k * 2, none⟩ (.int .i64 x)).setCell ⟨rb i, k * 2 + 1, none⟩ (.int .i64 y)) none := by
  subst hmb
  have a1 := hg.put (by decide) h1 h2 (by omega : k * 2 < M * 2) x
  have a2 := hg.put_new hgr h1 h2 (k := k * 2) (.int .i64 x)
  exact ⟨(a1.put (by decide) h1 h2 (by omega : k * 2 + 1 < M * 2) y).congr fun r j h5 _ h7 => h4 r j h5 h7, a1.put_new a2 h1 h2 _⟩

set_option maxRecDepth 100000 in
set_option maxHeartbeats 4000000 in
theorem table_c (p1 p2 : Option Addr) (n m c1 c2 lo1 hi1 lo2 hi2 : Nat) (a b : List ByteArray) (w : World) (h1 : StrsAt w lo1 hi1 p1 n a) (h2 : StrsAt w lo2 hi2 p2 m b) (hn : n ≤ 1000) (hm : m ≤ 1000) (ha : smallT a) (hb : smallT b) :
    Calls Try.prog 18 #[.slice p1 n c1, .slice p2 m c2] w fun e w' => ∃ mb rb, e = .returned (.slice (some ⟨mb, 0, none⟩) (n + 1) (n + 1)) ∧
      Grid 41 42 w' w.heap.size mb (n + 1) (m + 1) ((m + 1) * 2) 0 rb (cellF a b) ∧ w.grownBy w' none := by
  obtain ⟨i0, hi, hz0, hz1, hz2⟩ := info_parts Try.info3
  have hmm := @run_makeMap Try.prog
  have H1 := Lib.hid h1
  have H2 := Lib.hid h2
  have HA := Lib.hid ha
  have HB := Lib.hid hb
  clear h1 h2 ha hb
  go_enter Try.func18, Try.ntmps18
  go_wp2
  go_loopw [17] (fun i wr => ∃ (k : Nat) (D : DataW Unit), k ≤ m ∧ i = .int .i64 k ∧ wr.ownsGroups Try.prog 9 (w.heap.size + 1) 3 .i64 w.heap.size k D ∧ GrD b k D ∧ Below w.heap.size w wr ∧ w.heap.size + 1 ≤ wr.heap.size)
    (fun i _ => m - (intOf i).toNat)
  case atStart => exact ⟨0, .map [], Nat.zero_le _, rfl, World.ownsGroups_made _ _ _ _ _, grD_zero b, (Below.refl _ _).alloc (Nat.le_refl _) _, by simp⟩
  case round =>
    obtain ⟨k, D, hk, rfl, hown, hgr, hnx, hws⟩ := hrel
    by_cases hkm : k < m
    · have h2 := H2.out.calm (below_grownBy hnx)
      obtain ⟨b2, o2, rfl, q1, q2, q3, hc⟩ := h2.cell (by omega)
      have hck := hc k hkm
      have HBL := Lib.hid h2.len
      clear hc h2
      have hxs := HB.out.get k
      have HX : Hid (b[k]? = some (b[k]?.getD .empty)) := Lib.hid (by rw [List.getElem?_eq_getElem (by rw [HBL.out]; exact hkm)]; rfl)
      generalize b[k]?.getD .empty = x at *
      have hkey := litS_key x (by unfold maxLen; omega)
      have hk' : (k : Int) < m := by omega
      have k0 : (0 : Int) ≤ k := by omega
      have HGR := Lib.hid hgr
      clear hgr
      go_wp2_with (first
        | (at_lookup; refine wpList_lookup_groups _ rfl _ _ 48 rfl 9 45 3 .i64 law11 Try.underlying48 (zero11 _) (w.heap.size + 1) w.heap.size k _ rfl hown (by unfold maxLen; omega) _ _ rfl hkey ?_; intro v zs hat hoi hzl hback)
        | (at_builtin; refine wpList_append_own_at _ rfl _ _ 45 rfl (w.heap.size + 1) 3 i0 (.int .i64 0) 1 8 Try.underlying45 hi hz0 hz1 hz2 rfl (by decide) _ _ _ rfl (hoi.1.alloc _) ⟨wr.heap.size, 0, none⟩ 1 1 [.int .i64 k] rfl rfl (cell_one_new _ _ _) (ints_oneCell .i64 [(k : Int)]) (by unfold maxLen; omega) (by omega) (by simp; omega) ?_; intro v' w1 hown' hgrow hnil hloc)
        | (at_mapUpdate; refine wpList_mapUpdate_back _ rfl _ _ _ 48 rfl hback rfl rfl rfl ((World.grownBy_alloc _ _ _).trans hgrow) (hoi.appended hown' (WalkArith.wf_i64 (by omega))) (by simp; omega) (hloc.imp id (fun h => ⟨_, h, by simp⟩)) ?_; intro w2 hown2 hgrow2)
        | go_in)
      have hall := (World.grownBy_alloc wr _ _).trans hgrow
      go_roundw
      case rel =>
        refine ⟨k + 1, _, by omega, by go_num, hown2, ?_, hnx.groups hoi hall hgrow2 hnx.size (Nat.le_succ _) (Nat.le_refl _), Nat.le_trans hws (Nat.le_trans hall.size hgrow2.size)⟩
        refine HGR.out.step HX.out ?_
        show rowDatum .i64 v' (zs ++ [(k : Int)]) = _
        rw [(hoi.appended hown' (WalkArith.wf_i64 (by omega))).datum_pos (by simp), HGR.out.zs hoi hat]
      case measure => simp [intOf]; omega
    · obtain rfl : k = m := by omega
      have HM := Lib.hid (show MapP wr w.heap.size b from ⟨D, by rw [H2.out.len]; exact hown, by rw [H2.out.len]; exact hgr, by rw [H2.out.len]; exact hm⟩)
      have HW := Lib.hid (below_grownBy hnx)
      have K1 := Lib.hid (H1.out.calm (below_grownBy hnx))
      clear hown hgr hnx hmm
      generalize wr = Wm at *
      obtain ⟨N, hN⟩ : ∃ N, N = n + 1 := ⟨_, rfl⟩
      obtain ⟨M, hM⟩ : ∃ M, M = k + 1 := ⟨_, rfl⟩
      have hNw : IntKind.i64.wrap ((n : Int) + 1) = (N : Int) := by rw [IntWalk.i64_in _ (by omega)]; omega
      have hMw : IntKind.i64.wrap ((k : Int) + 1) = (M : Int) := by rw [IntWalk.i64_in _ (by omega)]; omega
      have eN : (N : Int) = (n : Int) + 1 := by omega
      have eM : (M : Int) = (k : Int) + 1 := by omega
      have hmk1 := fun (w : World) => run_make_row' (P := Try.prog) 38 42 (.slice none 0 0) 24 Try.underlying38 infoHead11 rfl .i64 .i64 N (by omega) (by omega) w
      have hmk2 := make_cells11 M (by omega)
      rw [eN] at hmk1
      rw [eM] at hmk2
      have HN := Lib.hid hN
      have HMM := Lib.hid hM
      have hM2 : M ≤ 1001 := by omega
      have hN2 : N ≤ 1001 := by omega
      clear eN eM hNw hMw hN hM
      go_upto_region 8 with fail
      have hg0 := grid_new 41 42 Wm N M (M * 2) (fun _ => 0) (fun _ _ => 0)
      have hw1 := World.grownBy_alloc Wm (.cells (madeCells #[.slice none 0 0] N) 42) none
      obtain ⟨mb, hmb⟩ : ∃ mb, Wm.heap.size = mb := ⟨_, rfl⟩
      have HMB := Lib.hid hmb
      rw [hmb] at hg0 ⊢
      clear hmb
      generalize Wm.alloc (.cells (madeCells #[.slice none 0 0] N) 42) = W1 at *
      obtain ⟨v0, hv, hf⟩ := hg0.pre (i := n) (by rw [HN.out]; omega) (.cells (zero2 (M * 2)) 41)
      have hn1 : (n : Int) < (N : Int) := by have := HN.out; omega
      have n0 : (0 : Int) ≤ n := by omega
      obtain ⟨rb0, hg1, hw2⟩ := tab_row (s := n) HMB.out (by rw [← HN.out]; exact hg0) hw1
      have HG1 := Lib.hid hg1
      have HW2 := Lib.hid hw2
      clear hg0 hw1 hg1 hw2
      go_upto_region 9 with fail
      clear hv hf v0 hn1
      generalize (W1.alloc (.cells (zero2 (M * 2)) 41)).setCell ⟨mb, n, none⟩ (.slice (some ⟨W1.heap.size, 0, none⟩) M M) = W2 at *
      clear hmk1
      go_wp2
      go_loopw [9] (fun i wx => ∃ (s : Nat) (rb : Nat → Nat), s ≤ n ∧ i = .int .i64 ((s : Int) - 1) ∧ Hid (Grid 41 42 wx mb mb N M (M * 2) s rb (cellF a b)) ∧ Hid (Wm.grownBy wx none)) (fun i _ => (intOf i + 1).toNat)
      case atStart =>
        refine ⟨n, rb0, Nat.le_refl _, rfl, Lib.hid (HG1.out.congr fun i j h1 h2 h3 => ?_), HW2⟩
        obtain rfl : i = n := by have := HN.out; omega
        rw [if_pos rfl, ← H1.out.len, cellF_last]
      case round =>
        obtain ⟨s, rb, hs, rfl, HGR, HGX⟩ := hrel
        cases s with
        | zero =>
          have e0 : ¬ ((0 : Int) ≤ ((0 : Nat) : Int) - 1) := by omega
          go_wp2
          go_ret
          rw [← HN.out, ← HMM.out]
          exact ⟨mb, rfl, ⟨rb, HGR.out.lower (by have := HMB.out; omega)⟩, grownBy_trans HW.out HGX.out⟩
        | succ s =>
          have e0 : (((s + 1 : Nat) : Int) - 1) = (s : Int) := by omega
          rw [e0]
          clear e0
          have s0 : (0 : Int) ≤ s := by omega
          have s1 : (s : Int) < N := by have := HN.out; omega
          have s2 : s < N := by omega
          obtain ⟨v0, hv, hf⟩ := HGR.out.pre (i := s) s2 (.cells (zero2 (M * 2)) 41)
          obtain ⟨R, hg1, hw2⟩ := tab_row (s := s) HMB.out HGR.out HGX.out
          have HG1 := Lib.hid hg1
          have HX1 := Lib.hid hw2
          clear hg1 hw2
          go_wp2
          go_step3
          go_wp2
          clear hv hf v0
          generalize (wr.alloc (.cells (zero2 (M * 2)) 41)).setCell ⟨mb, s, none⟩ (.slice (some ⟨wr.heap.size, 0, none⟩) M M) = W3 at *
          have hc0 := HG1.out.hcell (i := s) (Nat.le_refl _) s2
          obtain ⟨rs, hrs⟩ : ∃ rs, R s = rs := ⟨_, rfl⟩
          obtain ⟨rt, hrt⟩ : ∃ rt, R (s + 1) = rt := ⟨_, rfl⟩
          rw [hrs] at hc0
          have HRS := Lib.hid hrs
          have HRT := Lib.hid hrt
          have HS1 := Lib.hid s2
          clear hrs hrt s2
          have hgk : Grid 41 42 W3 mb mb N M (M * 2) s R (gridK a b s 0) := HG1.out.congr fun i j _ _ _ => by
            unfold gridK rowK
            by_cases e : i = s
            · simp only [if_pos e, if_neg (by omega : ¬ j < 0 * 2)]
            · simp only [if_neg e]
          have HGK := Lib.hid hgk
          clear hgk HG1
          go_step3
          go_wp2
          clear hc0
          generalize W3 = W4 at *
          go_loopw [62] (fun i wx => ∃ q : Nat, q ≤ M ∧ i = .int .i64 q ∧ Hid (Grid 41 42 wx mb mb N M (M * 2) s R (gridK a b s q)) ∧ Hid (Wm.grownBy wx none)) (fun i _ => M - (intOf i).toNat)
          case atStart => exact ⟨0, Nat.zero_le _, rfl, HGK, HX1⟩
          case round =>
            obtain ⟨q, hq, rfl, HG, HX⟩ := hrel
            clear HGK HX1
            by_cases hqM : q < M
            · have q0 : (0 : Int) ≤ q := by omega
              have q1 : (q : Int) < M := by omega
              obtain ⟨S, hS⟩ : ∃ S, S = s + 1 := ⟨_, rfl⟩
              have hSw : IntKind.i64.wrap ((s : Int) + 1) = (S : Int) := by rw [IntWalk.i64_in _ (by omega)]; omega
              have hSN : S < N := by have := HN.out; omega
              have hSN' : (S : Int) < N := by omega
              have S0 : (0 : Int) ≤ S := by omega
              have hSM := HS1.out
              have g0 := HG.out.hcell (i := s) (Nat.le_refl _) hSM
              have g1 := HG.out.hcell (i := S) (by omega) hSN
              have d0 := HG.out.cell (i := S) (k := q * 2) (by omega) hSN (by omega)
              have e0 := HG.out.cell (i := s) (k := q * 2) (Nat.le_refl _) hSM (by omega)
              have e1 := HG.out.cell (i := s) (k := q * 2 + 1) (Nat.le_refl _) hSM (by omega)
              have f0 := HG.out.free (i := s) (Nat.le_refl _) hSM (q * 2)
              have f1 := HG.out.free (i := s) (Nat.le_refl _) hSM (q * 2 + 1)
              have hval : gridK a b s q S (q * 2) = (tabL a b (s + 1) q : Int) := by unfold gridK; rw [if_neg (by omega), hS, cellF_even]
              rw [hval] at d0
              have hRT : R S = rt := by rw [hS]; exact HRT.out
              obtain ⟨x, hx⟩ : ∃ x, tabL a b (s + 1) q = x := ⟨_, rfl⟩
              rw [hx] at d0
              have HXX := Lib.hid hx
              have hput := tab_put (i := s) (k := q) (x := (x : Int)) (y := -1) (g := gridI a b s q x (-1)) HMB.out HG.out HX.out (Nat.le_refl _) hSM hqM (fun r j _ _ => rfl)
              rw [HRS.out] at g0 e0 e1 f0 f1 hput
              rw [hRT] at g1 d0
              have HG5 := Lib.hid (hput.1.calm (grownBy_drewN _ 1 none))
              have HX5 := Lib.hid (grownBy_trans hput.2 (grownBy_drewN _ 1 none))
              have HSS := Lib.hid hS
              generalize gridK a b s q s (q * 2) = y0 at *
              generalize gridK a b s q s (q * 2 + 1) = y1 at *
              clear hval hRT hS hx hput HG HX
              go_upto_region 16 with fail
              refine wp_region_still_tail 16 (by kernel_rfl) (by kernel_rfl) ?_
              simp only [List.take_succ_cons, List.take_zero, List.drop_succ_cons, List.drop_zero]
              repeat still_step
              refine wpStill_nil ?_
              change wpList _ _ _ _ _ wr.drew
              go_upto_region 17 with fail
              clear g0 g1 d0 e0 e1 f0 f1
              generalize hW5 : ((wr.setCell ⟨rs, q * 2, none⟩ (.int .i64 x)).setCell ⟨rs, q * 2 + 1, none⟩ (.int .i64 (-1))).drew = W5
              have HG6 : Hid (Grid 41 42 W5 mb mb N M (M * 2) s R (gridI a b s q x (-1))) := Lib.hid (by rw [← hW5]; exact HG5.out)
              have HX6 : Hid (Wm.grownBy W5 none) := Lib.hid (by rw [← hW5]; exact HX5.out)
              clear hW5 HG5 HX5
              have h1 := K1.out.calm HX6.out
              have HAL := Lib.hid h1.len
              have hsn : s < n := by have := HN.out; have := HSS.out; omega
              obtain ⟨b1, o1, rfl, z1, z2, z3, hc⟩ := h1.cell (by omega)
              have hck := hc s hsn
              clear hc h1
              have HY : Hid (a[s]? = some (a[s]?.getD .empty)) := Lib.hid (by rw [List.getElem?_eq_getElem (by rw [HAL.out]; exact hsn)]; rfl)
              have hys := HA.out.get s
              generalize a[s]?.getD .empty = y at *
              obtain ⟨pp, L, cp, hlook, hzs, hL⟩ := (HM.out.calm HX6.out).look y hys
              have HZS := Lib.hid hzs
              have hsn' : (s : Int) < n := by omega
              clear hzs
              go_upto_region 18 with fail
              clear hck hSw hSN hSN' S0
              have HLE : Hid ((plcL b y b.length).length = L) := Lib.hid (by have := HZS.out.len; unfold plcZ at this; rwa [List.length_map] at this)
              have hBL : b.length = k := H2.out.len
              have HBL := Lib.hid hBL
              clear hBL
              go_loopw [12, 13, 88] (fun _ _ i wy => ∃ j : Nat, j ≤ L ∧ i = .int .i64 j ∧ wy = W5 ∧ Hid (∀ r, r < j → (plcL b y b.length)[r]?.getD 0 < q)) (fun _ _ i _ => L - (intOf i).toNat)
              case atStart => exact ⟨0, Nat.zero_le _, rfl, rfl, Lib.hid (fun r hr => absurd hr (Nat.not_lt_zero _))⟩
              case round =>
                obtain ⟨j, hj, rfl, rfl, HLOW⟩ := hrel
                by_cases hjL : j < L
                · obtain ⟨b9, o9, rfl, z4, z5, z6, hc⟩ := HZS.out.cell (by omega)
                  have hcj := hc j hjL
                  clear hc
                  have hpl : (plcZ b y)[j]?.getD 0 = (((plcL b y b.length)[j]?.getD 0 : Nat) : Int) := by
                    have : j < (plcL b y b.length).length := by rw [HLE.out]; exact hjL
                    unfold plcZ
                    rw [List.getElem?_map, List.getElem?_eq_getElem this]
                    rfl
                  rw [hpl] at hcj
                  have hget := plcL_get (b := b) (x := y) (n := b.length) (j := j) (by rw [HLE.out]; exact hjL)
                  have HLEAST := Lib.hid (plcL_least (k := q) (b := b) (x := y) (n := b.length) (j := j) (by rw [HLE.out]; exact hjL) HLOW.out)
                  obtain ⟨p, hp⟩ : ∃ p, (plcL b y b.length)[j]?.getD 0 = p := ⟨_, rfl⟩
                  rw [hp] at hcj hget HLEAST
                  have HP := Lib.hid hp
                  have hp1 := hget.1
                  rw [HBL.out] at hp1
                  have HPG := Lib.hid hget.2
                  clear hpl hget hp
                  have j0 : (0 : Int) ≤ j := by omega
                  have j1 : (j : Int) < L := by omega
                  by_cases hpq : p < q
                  · have hpq' : (p : Int) < q := by omega
                    go_wp2
                    refine ⟨⟨j + 1, by omega, by go_num, trivial, Lib.hid (fun r hr => ?_)⟩, by simp [intOf]; omega⟩
                    by_cases e : r < j
                    · exact HLOW.out r e
                    · obtain rfl : r = j := by omega
                      rw [HP.out]
                      exact hpq
                  · have hpq' : ¬ ((p : Int) < q) := by omega
                    have p0 : (0 : Int) ≤ p := by omega
                    have p1' : (p : Int) + 1 < M := by have := HMM.out; omega
                    have p2' : p + 1 < M := by have := HMM.out; omega
                    have s3 : (s : Int) + 1 < N := by have := HN.out; omega
                    have s4 : s + 1 < N := by have := HN.out; omega
                    have hSM := HS1.out
                    have g0 := HG6.out.hcell (i := s) (Nat.le_refl _) hSM
                    have g1 := HG6.out.hcell (i := s + 1) (by omega) s4
                    have d0 := HG6.out.cell (i := s + 1) (k := (p + 1) * 2) (by omega) s4 (by omega)
                    have e0 := HG6.out.cell (i := s) (k := q * 2) (Nat.le_refl _) hSM (by omega)
                    have e1 := HG6.out.cell (i := s) (k := q * 2 + 1) (Nat.le_refl _) hSM (by omega)
                    have f0 := HG6.out.free (i := s) (Nat.le_refl _) hSM (q * 2)
                    have f1 := HG6.out.free (i := s) (Nat.le_refl _) hSM (q * 2 + 1)
                    have v1 : gridI a b s q x (-1) (s + 1) ((p + 1) * 2) = (tabL a b (s + 1) (p + 1) : Int) := by unfold gridI gridK; rw [if_neg (by omega), if_neg (by omega), if_neg (by omega), cellF_even]
                    have v2 : gridI a b s q x (-1) s (q * 2) = (x : Int) := by unfold gridI; rw [if_neg (by omega), if_pos ⟨rfl, rfl⟩]
                    have v3 : gridI a b s q x (-1) s (q * 2 + 1) = -1 := by unfold gridI; rw [if_pos ⟨rfl, rfl⟩]
                    rw [v1] at d0
                    rw [v2] at e0
                    rw [v3] at e1
                    obtain ⟨y2, hy2⟩ : ∃ y2, tabL a b (s + 1) (p + 1) = y2 := ⟨_, rfl⟩
                    rw [hy2] at d0
                    have ysm := (tabL_small a b (s + 1) (p + 1)).2
                    rw [hy2, HBL.out] at ysm
                    have hrow := row_some (a := a) (b := b) (i := s) (k := q) (p := p) (by rw [HAL.out]; exact hsn) (by omega) (by rw [HBL.out]; exact hp1) (by rw [HPG.out, HY.out]) (fun r h5 h6 => by rw [HY.out]; exact HLEAST.out r h5 h6)
                    rw [hy2, HXX.out] at hrow
                    have HROW := Lib.hid hrow
                    have hput := tab_put (i := s) (k := q) (x := 1 + (y2 : Int)) (y := (p : Int)) (g := gridI a b s q (1 + (y2 : Int)) p) HMB.out HG6.out HX6.out (Nat.le_refl _) hSM hqM (fun r j _ _ => gridI_put a b s q _ _ _ _ r j)
                    rw [HRS.out] at g0 e0 e1 f0 f1 hput
                    rw [HRT.out] at g1 d0
                    have HPUT := Lib.hid hput
                    have HAS : Hid (s < a.length) := Lib.hid (by rw [HAL.out]; exact hsn)
                    clear v1 v2 v3 hy2 hrow hput hlook
                    by_cases hle : x ≤ 1 + y2
                    · have hle' : (x : Int) ≤ 1 + (y2 : Int) := by omega
                      have h9 := HROW.out.1 hle
                      have HEND := Lib.hid (HPUT.out.1.congr fun r j _ _ _ => gridI_end HAS.out (by rw [h9.1]; omega) h9.2.symm r j)
                      have HEX := Lib.hid HPUT.out.2
                      clear h9
                      go_wp2
                      exact ⟨⟨q + 1, by omega, by go_num, HEND, HEX⟩, by simp [intOf]; omega⟩
                    · have hle' : ¬ ((x : Int) ≤ 1 + (y2 : Int)) := by omega
                      have h9 := HROW.out.2 (by omega)
                      have HEND := Lib.hid (HG6.out.congr fun r j _ _ _ => gridI_end HAS.out (by rw [h9.1]) h9.2.symm r j)
                      clear h9
                      go_wp2
                      exact ⟨⟨q + 1, by omega, by go_num, HEND, HX6⟩, by simp [intOf]; omega⟩
                · obtain rfl : j = L := by omega
                  have h9 := row_none (a := a) (b := b) (i := s) (k := q) (by rw [HAL.out]; exact hsn) (by rw [HBL.out]; have := HMM.out; omega) (fun r h5 h6 => by rw [HY.out]; exact plcL_none (by rw [HLE.out]; exact HLOW.out) r h5 h6)
                  have HEND := Lib.hid (HG6.out.congr fun r j _ _ _ => gridI_end (by rw [HAL.out]; exact hsn) (by rw [h9.1, HXX.out]) h9.2.symm r j)
                  clear h9
                  go_wp2
                  exact ⟨⟨q + 1, by omega, by go_num, HEND, HX6⟩, by simp [intOf]; omega⟩
            · obtain rfl : q = M := by omega
              have HEND := Lib.hid (HG.out.congr fun r j _ _ h7 => show gridK a b s q r j = cellF a b r j by
                unfold gridK rowK
                by_cases e : r = s
                · rw [if_pos e, if_pos h7, e]
                · rw [if_neg e])
              go_wp2
              rw [Exit.noGoto_normal]
              go_wp2
              exact ⟨⟨s, R, by omega, by go_num, HEND, HX⟩, by simp [intOf]⟩

end Go.Proofs.Ytbobbpghdfhkgaa
