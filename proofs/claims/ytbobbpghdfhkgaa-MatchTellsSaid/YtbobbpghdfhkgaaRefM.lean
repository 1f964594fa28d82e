/- The reference's first and table of matchings. -/
import Derived.Test.YtbobbpghdfhkgaaMatL
namespace Go.Proofs.Ytbobbpghdfhkgaa
open Go.RowKit

set_option maxHeartbeats 1000000 in
theorem refFirst_c (p : Option Addr) (n c : Nat) (l : List ByteArray) (w : World) (h : TxtAt w p n c l) (hn : n ≤ 200) :
    Calls Try.prog 19 #[.slice p n c] w fun e w' => e = .returned (.slice p n c) ∧ w' = w := by
  have hc := h.cap
  clear h
  go_enter Try.func19, Try.ntmps19
  go_wp2
  go_ret
  exact ⟨rfl, rfl⟩

theorem infoRowM : (Try.prog.info? 45).map (fun i => (i.zero, i.size, i.bytes)) = some (some (.slice none 0 0), 1, 24) := by kernel_rfl
theorem infoIntM : (Try.prog.info? 3).map (fun i => (i.zero, i.size, i.bytes)) = some (some (.int .i64 0), 1, 8) := by kernel_rfl

/-- A table of ints. -/
abbrev GridM (w : World) (lo mb n m s : Nat) (rb : Nat → Nat) (f : Nat → Nat → Int) : Prop := Grid 3 45 w lo mb n m m s rb f
/-- A row in the making, from place k on. -/
def rowM (a b : List ByteArray) (i k j : Nat) : Int := if k ≤ j then (tabL a b i j : Int) else 0
def tabM (a b : List ByteArray) (i k x : Nat) : Nat → Int := if x = i then rowM a b i k else fun j => (tabL a b x j : Int)
theorem tabM_put {a b : List ByteArray} {i k : Nat} {v : Int} (hv : v = (tabL a b i k : Int)) (r j : Nat) : (if r = i ∧ j = k then v else tabM a b i (k + 1) r j) = tabM a b i k r j := by
  subst hv
  unfold tabM rowM
  by_cases e : r = i
  · subst e
    by_cases e1 : j = k
    · subst e1
      simp
    · simp only [e1, and_false, if_false, if_true]
      by_cases e2 : k ≤ j
      · rw [if_pos e2, if_pos (by omega)]
      · rw [if_neg e2, if_neg (by omega)]
  · simp only [e, false_and, if_false]

/-- One row more. -/
theorem mat_row {wr wx : World} {mb N M s : Nat} {rb : Nat → Nat} {f : Nat → Nat → Int} (hmb : wr.heap.size = mb) (hg : GridM wx mb mb N M (s + 1) rb f) (hgr : wr.grownBy wx none) :
    ∃ rb' : Nat → Nat, GridM ((wx.alloc (.cells (madeCells #[.int .i64 0] M) 3)).setCell ⟨mb, s, none⟩ (.slice (some ⟨wx.heap.size, 0, none⟩) M M)) mb mb N M s rb' (fun i => if i = s then fun _ => 0 else f i) ∧
      wr.grownBy ((wx.alloc (.cells (madeCells #[.int .i64 0] M) 3)).setCell ⟨mb, s, none⟩ (.slice (some ⟨wx.heap.size, 0, none⟩) M M)) none := by
  subst hmb
  exact ⟨_, hg.more (fun k hk => made_get _ _ k hk) (by decide) hgr.size, hg.more_new hgr _ _ _⟩
/-- An entry put. -/
theorem mat_put {wr wx : World} {mb N M s i k : Nat} {rb : Nat → Nat} {f g : Nat → Nat → Int} {x : Int} (hmb : wr.heap.size = mb) (hg : GridM wx mb mb N M s rb f) (hgr : wr.grownBy wx none)
    (h1 : s ≤ i) (h2 : i < N) (h3 : k < M) (h4 : ∀ r j, (if r = i ∧ j = k then x else f r j) = g r j) :
    GridM (wx.setCell ⟨rb i, k, none⟩ (.int .i64 x)) mb mb N M s rb g ∧ wr.grownBy (wx.setCell ⟨rb i, k, none⟩ (.int .i64 x)) none := by
  subst hmb
  exact ⟨(hg.put (by decide) h1 h2 h3 x).congr fun r j _ _ _ => h4 r j, hg.put_new hgr h1 h2 _⟩

set_option maxRecDepth 100000 in
set_option maxHeartbeats 4000000 in
theorem refTable_c (p1 p2 : Option Addr) (n m c1 c2 : Nat) (a b : List ByteArray) (w : World) (h1 : TxtAt w p1 n c1 a) (h2 : TxtAt w p2 m c2 b) (hn : n ≤ 1000) (hm : m ≤ 1000) :
    Calls Try.prog 20 #[.slice p1 n c1, .slice p2 m c2] w fun e w' => ∃ mb rb, e = .returned (.slice (some ⟨mb, 0, none⟩) (n + 1) (n + 1)) ∧
      GridM w' w.heap.size mb (n + 1) (m + 1) 0 rb (fun i k => (tabL a b i k : Int)) ∧ w.grownBy w' none := by
  have H1 := Lib.hid h1
  have H2 := Lib.hid h2
  have HAL := Lib.hid h1.len
  have HBL := Lib.hid h2.len
  clear h1 h2
  obtain ⟨N, hN⟩ : ∃ N, N = n + 1 := ⟨_, rfl⟩
  obtain ⟨M, hM⟩ : ∃ M, M = m + 1 := ⟨_, rfl⟩
  have eN : (N : Int) = (n : Int) + 1 := by omega
  have eM : (M : Int) = (m : Int) + 1 := by omega
  have hM2 : M ≤ 1001 := by omega
  have hN2 : N ≤ 1001 := by omega
  have hmk1 := fun (w : World) => run_make_row' (P := Try.prog) 43 45 (.slice none 0 0) 24 Try.underlying43 infoRowM rfl .i64 .i64 N (by omega) (by omega) w
  have hmk2 := fun (w : World) => run_make_row' (P := Try.prog) 45 3 (.int .i64 0) 8 Try.underlying45 infoIntM rfl .i64 .i64 M (by omega) (by omega) w
  rw [eN] at hmk1
  rw [eM] at hmk2
  have HN := Lib.hid hN
  have HMM := Lib.hid hM
  clear eN eM hN hM
  go_enter Try.func20, Try.ntmps20
  go_upto_region 2 with fail
  have hg0 := grid_new 3 45 w N M M (fun _ => 0) (fun _ _ => 0)
  have hw1 := World.grownBy_alloc w (.cells (madeCells #[.slice none 0 0] N) 45) none
  obtain ⟨mb, hmb⟩ : ∃ mb, w.heap.size = mb := ⟨_, rfl⟩
  have HMB := Lib.hid hmb
  rw [hmb] at hg0 ⊢
  clear hmb
  generalize w.alloc (.cells (madeCells #[.slice none 0 0] N) 45) = W1 at *
  obtain ⟨v0, hv, hf⟩ := hg0.pre (i := n) (by rw [HN.out]; omega) (.cells (madeCells #[.int .i64 0] M) 3)
  have hn1 : (n : Int) < (N : Int) := by have := HN.out; omega
  have n0 : (0 : Int) ≤ n := by omega
  obtain ⟨rb0, hg1, hw2⟩ := mat_row (s := n) HMB.out (by rw [← HN.out]; exact hg0) hw1
  have HG1 := Lib.hid hg1
  have HW2 := Lib.hid hw2
  clear hg0 hw1 hg1 hw2
  go_upto_region 3 with fail
  clear hv hf v0 hn1 hmk1
  generalize (W1.alloc (.cells (madeCells #[.int .i64 0] M) 3)).setCell ⟨mb, n, none⟩ (.slice (some ⟨W1.heap.size, 0, none⟩) M M) = W2 at *
  go_wp2
  go_loopw [6] (fun i wx => ∃ (s : Nat) (rb : Nat → Nat), s ≤ n ∧ i = .int .i64 ((s : Int) - 1) ∧ Hid (GridM wx mb mb N M s rb (fun i k => (tabL a b i k : Int))) ∧ Hid (w.grownBy wx none)) (fun i _ => (intOf i + 1).toNat)
  case atStart =>
    refine ⟨n, rb0, Nat.le_refl _, rfl, Lib.hid (HG1.out.congr fun i j h1 h2 h3 => ?_), HW2⟩
    obtain rfl : i = n := by have := HN.out; omega
    rw [if_pos rfl, tabL_a (by rw [HAL.out]; exact Nat.le_refl _)]
    rfl
  case round =>
    obtain ⟨s, rb, hs, rfl, HGR, HGX⟩ := hrel
    cases s with
    | zero =>
      have e0 : ¬ ((0 : Int) ≤ ((0 : Nat) : Int) - 1) := by omega
      go_wp2
      go_ret
      rw [← HN.out, ← HMM.out]
      exact ⟨mb, rfl, ⟨rb, HGR.out.lower (by rw [HMB.out]; exact Nat.le_refl _)⟩, HGX.out⟩
    | succ s =>
      have e0 : (((s + 1 : Nat) : Int) - 1) = (s : Int) := by omega
      rw [e0]
      clear e0
      have s0 : (0 : Int) ≤ s := by omega
      have s1 : (s : Int) < N := by have := HN.out; omega
      have s2 : s < N := by omega
      obtain ⟨v0, hv, hf⟩ := HGR.out.pre (i := s) s2 (.cells (madeCells #[.int .i64 0] M) 3)
      obtain ⟨R, hg1, hw2⟩ := mat_row (s := s) HMB.out HGR.out HGX.out
      have HG3 := Lib.hid (hg1.congr (g := tabM a b s m) fun i j h1 h2 h3 => by
        unfold tabM rowM
        by_cases e : i = s
        · simp only [if_pos e]
          by_cases e2 : m ≤ j
          · rw [if_pos e2, tabL_b (by rw [HBL.out]; exact e2)]; rfl
          · rw [if_neg e2]
        · simp only [if_neg e])
      have HX3 := Lib.hid hw2
      clear hg1 hw2
      go_upto_region 8 with fail
      clear hv hf v0 HGR HGX HG1 HW2
      generalize (wr.alloc (.cells (madeCells #[.int .i64 0] M) 3)).setCell ⟨mb, s, none⟩ (.slice (some ⟨wr.heap.size, 0, none⟩) M M) = W3 at *
      generalize wr = wo at *
      go_loopw [7] (fun i wx => ∃ q : Nat, q ≤ m ∧ i = .int .i64 ((q : Int) - 1) ∧ Hid (GridM wx mb mb N M s R (tabM a b s q)) ∧ Hid (w.grownBy wx none)) (fun i _ => (intOf i + 1).toNat)
      case atStart => exact ⟨m, Nat.le_refl _, rfl, HG3, HX3⟩
      case round =>
        obtain ⟨q, hq, rfl, HG, HX⟩ := hrel
        clear HG3 HX3
        cases q with
        | zero =>
          have e0 : ¬ ((0 : Int) ≤ ((0 : Nat) : Int) - 1) := by omega
          have HG9 := Lib.hid (HG.out.congr (g := fun i k => (tabL a b i k : Int)) fun i j h1 h2 h3 => by
            unfold tabM rowM
            by_cases e : i = s
            · subst e
              rw [if_pos rfl, if_pos (Nat.zero_le _)]
            · rw [if_neg e])
          go_wp2
          exact ⟨⟨s, R, by omega, by go_num, HG9, HX⟩, by simp [intOf]⟩
        | succ q =>
          have e0 : (((q + 1 : Nat) : Int) - 1) = (q : Int) := by omega
          rw [e0]
          clear e0
          have q0 : (0 : Int) ≤ q := by omega
          have q1 : (q : Int) + 1 < M := by have := HMM.out; omega
          obtain ⟨S, hS⟩ : ∃ S, S = s + 1 := ⟨_, rfl⟩
          obtain ⟨Q, hQ⟩ : ∃ Q, Q = q + 1 := ⟨_, rfl⟩
          have hSw : IntKind.i64.wrap ((s : Int) + 1) = (S : Int) := by rw [IntWalk.i64_in _ (by omega)]; omega
          have hQw : IntKind.i64.wrap ((q : Int) + 1) = (Q : Int) := by rw [IntWalk.i64_in _ (by omega)]; omega
          have hSN : S < N := by have := HN.out; omega
          have hQM : Q < M := by omega
          have hqM : q < M := by omega
          have hSN' : (S : Int) < N := by omega
          have hQM' : (Q : Int) < M := by omega
          have hqM' : (q : Int) < M := by omega
          have S0 : (0 : Int) ≤ S := by omega
          have Q0 : (0 : Int) ≤ Q := by omega
          obtain ⟨rs, hrs⟩ : ∃ rs, R s = rs := ⟨_, rfl⟩
          obtain ⟨rt, hrt⟩ : ∃ rt, R S = rt := ⟨_, rfl⟩
          have hne : rs ≠ rt := by rw [← hrs, ← hrt]; exact HG.out.inj s S (Nat.le_refl _) s2 (by omega) hSN (by omega)
          have hnm : rs ≠ mb := by rw [← hrs]; exact HG.out.apart (by decide) (Nat.le_refl _) s2
          have g0 := HG.out.hcell (i := s) (Nat.le_refl _) s2
          have g1 := HG.out.hcell (i := S) (by omega) hSN
          have d0 := HG.out.cell (i := S) (k := q) (by omega) hSN hqM
          have dw := HG.out.cell (i := S) (k := Q) (by omega) hSN hQM
          have d1 := HG.out.cell (i := s) (k := Q) (Nat.le_refl _) s2 hQM
          have e0 := HG.out.cell (i := s) (k := q) (Nat.le_refl _) s2 hqM
          have f0 := HG.out.free (i := s) (Nat.le_refl _) s2 q
          have v1 : tabM a b s (q + 1) S q = (tabL a b (s + 1) q : Int) := by unfold tabM; rw [if_neg (by omega), hS]
          have v2 : tabM a b s (q + 1) s Q = (tabL a b s (q + 1) : Int) := by unfold tabM rowM; rw [if_pos rfl, if_pos (by omega), hQ]
          have v3 : tabM a b s (q + 1) S Q = (tabL a b (s + 1) (q + 1) : Int) := by unfold tabM; rw [if_neg (by omega), hS, hQ]
          rw [v1] at d0
          rw [v2] at d1
          rw [v3] at dw
          have htm := tabL_max (a := a) (b := b) (i := s) (k := q) (by rw [HAL.out]; have := HN.out; omega) (by rw [HBL.out]; omega)
          obtain ⟨x, hx⟩ : ∃ x, tabL a b (s + 1) q = x := ⟨_, rfl⟩
          obtain ⟨y, hy⟩ : ∃ y, tabL a b s (q + 1) = y := ⟨_, rfl⟩
          obtain ⟨z, hz⟩ : ∃ z, tabL a b (s + 1) (q + 1) = z := ⟨_, rfl⟩
          have hzs := (tabL_small a b (s + 1) (q + 1)).1
          rw [hz, HAL.out] at hzs
          rw [hx] at d0 htm
          rw [hy] at d1 htm
          rw [hz] at dw htm
          rw [hrs] at g0 d1 e0 f0
          rw [hrt] at g1 d0 dw
          have HTM := Lib.hid htm
          have HRS := Lib.hid hrs
          generalize tabM a b s (q + 1) s q = y0 at *
          have HZE := Lib.hid v3
          rw [hz] at HZE
          have HRT := Lib.hid hrt
          clear v1 v2 v3 hx hy hz htm hrs hrt
          have HSE := Lib.hid hS
          have HQE := Lib.hid hQ
          clear hS hQ
          go_upto_region 10 with fail
          obtain ⟨v, hv⟩ : ∃ v, max x y = v := ⟨_, rfl⟩
          have hmx : (if x < y then (y : Int) else (x : Int)) = (v : Int) := by split <;> omega
          have hput := mat_put (i := s) (k := q) (x := (v : Int)) (g := fun r j => if r = s ∧ j = q then (v : Int) else tabM a b s (q + 1) r j) HMB.out HG.out HX.out (Nat.le_refl _) s2 hqM (fun r j => rfl)
          rw [HRS.out] at hput
          have HG5 := Lib.hid (hput.1.calm (grownBy_drewN _ 1 none))
          have HX5 := Lib.hid (grownBy_trans hput.2 (grownBy_drewN _ 1 none))
          have HVE := Lib.hid hv
          clear hput hv
          refine wp_region_still_tail 23 (by kernel_rfl) (by kernel_rfl) ?_
          simp only [List.take_succ_cons, List.take_zero, List.drop_succ_cons, List.drop_zero]
          repeat still_step
          refine wpStill_nil ?_
          change wpList _ _ _ _ _ wr.drew
          go_upto_region 11 with fail
          clear g0 g1 d0 d1 dw e0 f0 hmx
          generalize hW5 : (wr.setCell ⟨rs, q, none⟩ (.int .i64 v)).drew = W5
          have HG6 : Hid (GridM W5 mb mb N M s R (fun r j => if r = s ∧ j = q then (v : Int) else tabM a b s (q + 1) r j)) := Lib.hid (by rw [← hW5]; exact HG5.out)
          have HX6 : Hid (w.grownBy W5 none) := Lib.hid (by rw [← hW5]; exact HX5.out)
          clear hW5 HG5 HX5
          obtain ⟨loa, hia, hsa⟩ := (H1.out.calm HX6.out).at'
          obtain ⟨lob, hib, hsb⟩ := (H2.out.calm HX6.out).at'
          have hsn : s < n := by have := HN.out; omega
          have hqm : q < m := by omega
          obtain ⟨ba, oa, rfl, _, _, _, hca⟩ := hsa.cell (by omega)
          obtain ⟨bb, ob, rfl, _, _, _, hcb⟩ := hsb.cell (by omega)
          have ca := hca s hsn
          have cb := hcb q hqm
          have HEQ : Hid (a[s]? = b[q]? ↔ a[s]?.getD .empty = b[q]?.getD .empty) := Lib.hid (by
            rw [List.getElem?_eq_getElem (by rw [HAL.out]; exact hsn), List.getElem?_eq_getElem (by rw [HBL.out]; exact hqm)]
            simp)
          clear hca hcb hsa hsb
          have hsn' : (s : Int) < n := by omega
          have hqm' : (q : Int) < m := by omega
          generalize a[s]?.getD .empty = ta at *
          generalize b[q]?.getD .empty = tb at *
          by_cases heq : ta = tb
          · have e5 := toList_eq heq
            have HU : Hid (tabL a b s q = max v (z + 1)) := Lib.hid (by
              have := HTM.out
              rw [if_pos (HEQ.out.2 heq), HVE.out] at this
              exact this)
            clear heq
            go_quiet (fail)
            have hd := grownBy_drewN W5 nq none
            have HG7 := Lib.hid (HG6.out.calm hd)
            have HX7 := Lib.hid (grownBy_trans HX6.out hd)
            clear hd ca cb e5
            generalize W5.drewN nq = W7 at *
            have g0 := HG7.out.hcell (i := s) (Nat.le_refl _) s2
            have g1 := HG7.out.hcell (i := S) (by have := HSE.out; omega) hSN
            have dw := HG7.out.cell (i := S) (k := Q) (by have := HSE.out; omega) hSN hQM
            have e0 := HG7.out.cell (i := s) (k := q) (Nat.le_refl _) s2 hqM
            have f0 := HG7.out.free (i := s) (Nat.le_refl _) s2 q
            rw [if_neg (fun h => by have := HSE.out; omega), HZE.out] at dw
            rw [if_pos ⟨rfl, rfl⟩] at e0
            have hput := mat_put (i := s) (k := q) (x := ((tabL a b s q : Nat) : Int)) (g := tabM a b s q) HMB.out HG7.out HX7.out (Nat.le_refl _) s2 hqM (fun r j => by
              rw [← tabM_put (a := a) (b := b) (i := s) (k := q) rfl r j]
              by_cases e : r = s ∧ j = q
              · simp only [if_pos e]
              · simp only [if_neg e])
            rw [HRS.out] at g0 e0 f0 hput
            rw [HRT.out] at g1 dw
            obtain ⟨u, hu⟩ : ∃ u, tabL a b s q = u := ⟨_, rfl⟩
            rw [hu] at hput HU
            have HG8 := Lib.hid (hput.1.calm (grownBy_drewN _ 1 none))
            have HX8 := Lib.hid (grownBy_trans hput.2 (grownBy_drewN _ 1 none))
            clear hput hu
            go_upto_region 12 with fail
            refine wp_region_still_tail 24 (by kernel_rfl) (by kernel_rfl) ?_
            simp only [List.take_succ_cons, List.take_zero, List.drop_succ_cons, List.drop_zero]
            repeat still_step
            refine wpStill_nil ?_
            change wpList _ _ _ _ _ W7.drew
            go_wp2
            have hif : (if (v : Int) < (z : Int) + 1 then (z : Int) + 1 else (v : Int)) = (u : Int) := by have := HU.out; split <;> omega
            rw [hif]
            exact ⟨⟨q, by omega, by go_num, HG8, HX8⟩, by simp [intOf]⟩
          · have e5 := toList_ne heq
            have HU : Hid (tabL a b s q = v) := Lib.hid (by
              have := HTM.out
              rw [if_neg (fun h => heq (HEQ.out.1 h)), HVE.out] at this
              exact this)
            clear heq
            go_quiet (fail)
            have hd := grownBy_drewN W5 nq none
            have HG7 := Lib.hid ((HG6.out.calm hd).congr (g := tabM a b s q) fun r j _ _ _ => tabM_put (by rw [HU.out]) r j)
            have HX7 := Lib.hid (grownBy_trans HX6.out hd)
            clear hd ca cb
            go_wp2
            exact ⟨⟨q, by omega, by go_num, HG7, HX7⟩, by simp [intOf]⟩

set_option maxHeartbeats 1000000 in
theorem refLength_c (p1 p2 : Option Addr) (n m c1 c2 r : Nat) (a b : List ByteArray) (w : World) (h1 : TxtAt w p1 n c1 a) (h2 : TxtAt w p2 m c2 b) (hn : n ≤ 200) (hm : m ≤ 200) (hr : lcs a b = r) :
    Calls Try.prog 14 #[.slice p1 n c1, .slice p2 m c2] w fun e w' => e = .returned (.int .i64 r) ∧ w.grownBy w' none := by
  have H1 := Lib.hid h1
  have H2 := Lib.hid h2
  have HR := Lib.hid hr
  clear h1 h2 hr
  go_enter Try.func14, Try.ntmps14
  go_wp2_with fail
  refine (refFirst_c _ _ _ _ _ H1.out hn).mono ?_
  rintro e w1 ⟨rfl, h9⟩
  subst w1
  go_wp2_with fail
  refine (refFirst_c _ _ _ _ _ H2.out hm).mono ?_
  rintro e w1 ⟨rfl, h9⟩
  subst w1
  go_wp2_with fail
  refine (refTable_c _ _ _ _ _ _ _ _ _ H1.out H2.out (by omega) (by omega)).mono ?_
  rintro e w2 ⟨mb, rb, rfl, hg, hx⟩
  have c0 := hg.hcell (i := 0) (Nat.le_refl _) (by omega)
  have c1 := hg.cell (i := 0) (k := 0) (Nat.le_refl _) (by omega) (by omega)
  rw [tabL_zero, HR.out] at c1
  have HX := Lib.hid hx
  generalize rb 0 = rz at *
  clear hg hx
  have hn0 : (0 : Int) < (n : Int) + 1 := by omega
  have hm0 : (0 : Int) < (m : Int) + 1 := by omega
  go_wp2
  go_ret
  exact ⟨rfl, HX.out⟩

end Go.Proofs.Ytbobbpghdfhkgaa
