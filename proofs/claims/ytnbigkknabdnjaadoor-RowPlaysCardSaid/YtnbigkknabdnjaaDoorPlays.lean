/- The walk of the statement RowPlays: at every row of steps it answers true and leaves all that lay as it lay. Condition: the table of the lowest places is in memory. -/
import Derived.Deep.CutBlock
import Derived.Test.YtnbigkknabdnjaaDoorPlay
namespace Go.Proofs.YtnbigkknabdnjaaDoor
open Go.RowKit

theorem Tryd.info4 : (Tryd.prog.info? 4).map (fun i => (i.zero, i.size, i.bytes)) = some (some (.bool false), 1, 1) := by kernel_rfl

/-- One step as it lies in memory. -/
structure Stp where
  what : Int
  at_ : Int
  on : Bool
  p : Option Addr
  n : Nat
  c : Nat
  xs : List Int

/-- The steps in block B from off on. -/
def StepsAt (w : World) (B off L : Nat) (f : Nat → Stp) : Prop :=
  ∀ i, i < L → w.cell? ⟨B, off + i * 4, none⟩ = some (.int .i64 (f i).what) ∧ w.cell? ⟨B, off + i * 4 + 1, none⟩ = some (.int .i64 (f i).at_) ∧ w.cell? ⟨B, off + i * 4 + 2, none⟩ = some (.bool (f i).on) ∧
    w.cell? ⟨B, off + i * 4 + 3, none⟩ = some (.slice (f i).p (f i).n (f i).c) ∧ Its w (f i).p (f i).n (f i).xs

theorem StepsAt.grown {w w' : World} {B off L : Nat} {f : Nat → Stp} (h : StepsAt w B off L f) (hB : B < w.heap.size) (hg : w.grownBy w' none) : StepsAt w' B off L f := fun i hi => by
  obtain ⟨h1, h2, h3, h4, h5⟩ := h i hi
  have e := hg.block B hB (by simp)
  exact ⟨(World.cell?_of_block (a := ⟨B, _, none⟩) e).trans h1, (World.cell?_of_block (a := ⟨B, _, none⟩) e).trans h2, (World.cell?_of_block (a := ⟨B, _, none⟩) e).trans h3, (World.cell?_of_block (a := ⟨B, _, none⟩) e).trans h4, h5.grown hg⟩

/-- The steps behind a slice value. -/
def StepsP (w : World) (p : Option Addr) (L : Nat) (f : Nat → Stp) : Prop := 0 < L → ∃ B off, p = some ⟨B, off, none⟩ ∧ B < w.heap.size ∧ StepsAt w B off L f

theorem marks_new (w : World) (N : Nat) : Marks (w.alloc (.cells (madeCells #[.bool false] N) 4)) w.heap.size N (fun _ => false) :=
  ⟨by simp, fun j hj => by rw [World.cell?_alloc_new, made_get _ _ _ hj], fun j _ => by rw [World.frozen?_alloc_new]⟩

theorem cl_hi (n : Int) (h : 1000 < n) : Value.int .i64 1000 = .int .i64 (clampN n : Nat) := by
  have : ((clampN n : Nat) : Int) = 1000 := by unfold clampN; omega
  rw [this]
theorem cl_mid (n : Int) (h : 0 < if 1000 < n then 1000 else n) (h2 : n ≤ 1000) : Value.int .i64 n = .int .i64 (clampN n : Nat) := by
  have : ((clampN n : Nat) : Int) = n := by unfold clampN; split at h <;> omega
  rw [this]
theorem cl_low (n : Int) (h : (if 1000 < n then 1000 else n) ≤ 0) : Value.int .i64 0 = .int .i64 (clampN n : Nat) := by
  have : ((clampN n : Nat) : Int) = 0 := by unfold clampN; split at h <;> omega
  rw [this]

theorem sameS_refl (n : Nat) (S : Nat → Bool) : sameS n n S S = true := by
  unfold sameS; simp

theorem or_step (S T : Nat → Bool) (j : Nat) (v : Bool) (hv : v = (S j || T j)) (i : Nat) : updS (fun i => S i || (decide (i < j) && T i)) j v i = (S i || (decide (i < j + 1) && T i)) := by
  unfold updS
  by_cases e : i = j
  · subst e; rw [if_pos rfl, hv]; simp
  · rw [if_neg e]
    have h : decide (i < j + 1) = decide (i < j) := by rw [decide_eq_decide]; omega
    rw [h]
theorem and_step (S T : Nat → Bool) (j : Nat) (v : Bool) (hv : v = (S j && T j)) (i : Nat) : updS (fun i => S i && (decide (j ≤ i) || T i)) j v i = (S i && (decide (j + 1 ≤ i) || T i)) := by
  unfold updS
  by_cases e : i = j
  · subst e
    have h : decide (i + 1 ≤ i) = false := by simp
    rw [if_pos rfl, hv, h, Bool.false_or]
  · rw [if_neg e]
    have h : decide (j + 1 ≤ i) = decide (j ≤ i) := by rw [decide_eq_decide]; omega
    rw [h]
theorem or_end (S T : Nat → Bool) (N i : Nat) (_ : i < N) : (S i || (decide (i < N) && T i)) = (S i || (T i && decide (i < N))) := by rw [Bool.and_comm]
theorem and_end (S T : Nat → Bool) (N i : Nat) (h : i < N) : (S i && (decide (N ≤ i) || T i)) = (S i && T i) := by
  have : decide (N ≤ i) = false := by simp; omega
  rw [this, Bool.false_or]
theorem put_out (S : Nat → Bool) (N : Nat) (sa : Int) (so : Bool) (h : ¬ (0 ≤ sa ∧ sa < N)) (j : Nat) (_ : j < N) : S j = putS S N sa so j := by unfold putS; rw [if_neg (by omega)]

/-- A step in a box of its own. -/
structure Box (w : World) (b : Nat) (sw sa : Int) (so : Bool) (sp : Option Addr) (sn sc : Nat) : Prop where
  lt : b < w.heap.size
  c0 : w.cell? ⟨b, 0, none⟩ = some (.int .i64 sw)
  c1 : w.cell? ⟨b, 1, none⟩ = some (.int .i64 sa)
  c2 : w.cell? ⟨b, 2, none⟩ = some (.bool so)
  c3 : w.cell? ⟨b, 3, none⟩ = some (.slice sp sn sc)

theorem Box.new (w : World) (sw sa : Int) (so : Bool) (sp : Option Addr) (sn sc : Nat) (t : TypeId) : Box (w.alloc (.cells #[.int .i64 sw, .int .i64 sa, .bool so, .slice sp sn sc] t)) w.heap.size sw sa so sp sn sc :=
  ⟨by simp, by simp, by simp, by simp, by simp⟩
theorem Box.grown {w w' : World} {b : Nat} {sw sa : Int} {so : Bool} {sp : Option Addr} {sn sc : Nat} {row : Option Nat} (h : Box w b sw sa so sp sn sc) (hg : w.grownBy w' row) (hr : some b ≠ row) : Box w' b sw sa so sp sn sc := by
  have e := hg.block b h.lt hr
  exact ⟨Nat.lt_of_lt_of_le h.lt hg.size, (World.cell?_of_block (a := ⟨b, _, none⟩) e).trans h.c0, (World.cell?_of_block (a := ⟨b, _, none⟩) e).trans h.c1, (World.cell?_of_block (a := ⟨b, _, none⟩) e).trans h.c2, (World.cell?_of_block (a := ⟨b, _, none⟩) e).trans h.c3⟩

theorem ofS_skip (m : Nat) (xs : List Int) (k j : Nat) (hk : k < xs.length) (h : ¬ (0 ≤ xs[k]?.getD 0 ∧ xs[k]?.getD 0 < m)) : ofS m xs k j = ofS m xs (k + 1) j := by
  rw [← ofS_put m xs k j hk]
  unfold putS
  rw [if_neg (by omega)]
theorem ofS_hit (m : Nat) (xs : List Int) (k j y : Nat) (hk : k < xs.length) (h : xs[k]?.getD 0 = (y : Int)) (hy : y < m) : updS (ofS m xs k) y true j = ofS m xs (k + 1) j := by
  rw [← ofS_put m xs k j hk, h, putS_upd _ _ _ _ hy]

/-- A world that came of w by new memory and draws alone. -/
structure Later (w : World) where
  at_ : World
  ok : w.grownBy at_ none

theorem region_quiet_in {P : Program} {C : World → Prop} {id : Nat} {Q : Exit → Act → World → Prop} {a : Act} {w : World} {l : List Oper} (hm : P.follows .mixedOrders = true) (hB : Region.lexB .any l.toArray = true) (hC : C { w with drawn := w.drawn + 1 })
    (h : wpQuiet P l.toArray C (fun a' => ∀ w', C w' → Q .normal a' w') l a) : (Code.region id l.toArray true).wp P Q a w :=
  wp_region_quiet hm hB hC (by simpa using h)

theorem told_z (br wb N gi c : Nat) (S : Nat → Bool) (w : World) (h : IsSet w br wb N S) (hm : Marks w gi N S) (hN : N ≤ 1000) (ht : Tab w) (z : Later w) :
    Calls Tryd.prog 14 #[.pointer (some ⟨br, 0, none⟩), .slice (some ⟨gi, 0, none⟩) N c] z.at_ fun e w' => e = .returned (.bool true) ∧ ∃ z' : Later w, w' = z'.at_ := by
  refine (told_c br wb N gi c S z.at_ (h.grown z.ok (by simp) (by simp)) (hm.grown z.ok (by simp)) hN (ht.grown z.ok (by simp))).mono ?_
  rintro e w' ⟨rfl, hg⟩
  exact ⟨rfl, ⟨w', grownBy_trans z.ok hg⟩, rfl⟩

theorem has_z (br wb N : Nat) (i : Int) (S : Nat → Bool) (r : Bool) (w : World) (h : IsSet w br wb N S) (hr : hasS S N i = r) (z : Later w) :
    Calls Tryd.prog 15 #[.pointer (some ⟨br, 0, none⟩), .int .i64 i] z.at_ fun e w' => e = .returned (.bool r) ∧ ∃ z' : Later w, w' = z'.at_ := by
  refine (has_b br wb N i S r z.at_ (h.grown z.ok (by simp) (by simp)) hr).mono ?_
  rintro e w' ⟨rfl, hg⟩
  exact ⟨rfl, ⟨w', grownBy_trans z.ok hg⟩, rfl⟩

theorem later_cell {w : World} {b o : Nat} {v : Value} (hb : b < w.heap.size) (h : w.cell? ⟨b, o, none⟩ = some v) (z : Later w) : z.at_.cell? ⟨b, o, none⟩ = some v :=
  (World.cell?_of_block (a := ⟨b, o, none⟩) (z.ok.block b hb (by simp))).trans h

theorem hasS_out (S : Nat → Bool) (N : Nat) (i : Int) (h : ¬ (0 ≤ i ∧ i < N)) : hasS S N i = false := by
  unfold hasS
  by_cases h0 : 0 ≤ i
  · have : ¬ i < N := by omega
    simp [this]
  · simp [h0]

set_option maxHeartbeats 8000000 in
set_option maxRecDepth 100000 in
theorem plays_in (n m : Int) (p : Option Addr) (L c : Nat) (f : Nat → Stp) (w : World) (hS : StepsP w p L f) (hL : L ≤ 40) (hn : n ≤ 300 ∨ 1000 < n) (hm : m ≤ 300 ∨ 1000 < m) (ht : Tab w) :
    Calls Tryd.prog 3 #[.int .i64 n, .slice p L c, .int .i64 m] w fun e w' => e = .returned (.bool true) ∧ w.grownBy w' none := by
  have HT := Lib.hid ht
  have HS := Lib.hid hS
  have HN := Lib.hid hn
  have HM := Lib.hid hm
  have dL : decide ((40 : Int) < (L : Int)) = false := by simp; omega
  clear ht hS hn hm
  go_enter Tryd.func3, Tryd.ntmps3
  go_wp2_with fail
  refine (known_c _ HT.out).mono ?_
  rintro e w1 ⟨rfl, hg⟩
  have hg1 := Lib.hid hg
  clear hg
  go_upto_region 3 with fail
  go_cut [40] (fun s wx => s = .bool false ∧ wx = w1)
  case first =>
    by_cases a1 : n ≤ 300
    · have e1 : decide ((300 : Int) < n) = false := by simp; omega
      by_cases a2 : m ≤ 300
      · have e2 : decide ((300 : Int) < m) = false := by simp; omega
        clear a1 a2
        as_aux_lemma =>
          go_wp2_with fail
          go_meet
          exact ⟨rfl, rfl⟩
      · have e2 : decide ((300 : Int) < m) = true := by simp; omega
        have e3 : decide (m ≤ (1000 : Int)) = false := by have := HM.out; simp; omega
        clear a1 a2
        as_aux_lemma =>
          go_wp2_with fail
          go_meet
          exact ⟨rfl, rfl⟩
    · have e1 : decide ((300 : Int) < n) = true := by simp; omega
      have e4 : decide (n ≤ (1000 : Int)) = false := by have := HN.out; simp; omega
      by_cases a2 : m ≤ 300
      · have e2 : decide ((300 : Int) < m) = false := by simp; omega
        clear a1 a2
        as_aux_lemma =>
          go_wp2_with fail
          go_meet
          exact ⟨rfl, rfl⟩
      · have e2 : decide ((300 : Int) < m) = true := by simp; omega
        have e3 : decide (m ≤ (1000 : Int)) = false := by have := HM.out; simp; omega
        clear a1 a2
        as_aux_lemma =>
          go_wp2_with fail
          go_meet
          exact ⟨rfl, rfl⟩
  case rest =>
    obtain ⟨rfl, hwc⟩ := hcut
    subst wc
    clear HN HM
    go_upto_region 5 with fail
    go_cut [7, 8] (fun s7 s8 wx => s7 = .int .i64 (clampN n : Nat) ∧ s8 = .int .i64 (clampN m : Nat) ∧ wx = w1)
    case first =>
      as_aux_lemma =>
        go_wp2_with fail
        all_goals
          go_meet
          refine ⟨?_, ?_, rfl⟩
          · first | exact cl_hi _ (by assumption) | exact cl_mid _ (by assumption) (by assumption) | exact cl_low _ (by assumption)
          · first | exact cl_hi _ (by assumption) | exact cl_mid _ (by assumption) (by assumption) | exact cl_low _ (by assumption)
    case rest =>
      obtain ⟨rfl, rfl, hwc⟩ := hcut
      subst wc
      have hN : clampN n ≤ 1000 := by unfold clampN; omega
      have hM : clampN m ≤ 1000 := by unfold clampN; omega
      obtain ⟨N, HNe⟩ : ∃ N, Hid (clampN n = N) := ⟨_, rfl⟩
      obtain ⟨M, HMe⟩ : ∃ M, Hid (clampN m = M) := ⟨_, rfl⟩
      rw [HNe.out] at hN ⊢
      rw [HMe.out] at hM ⊢
      have hmk := run_make_row' (P := Tryd.prog) 26 4 (.bool false) 1 Tryd.underlying26 Tryd.info4 rfl .i64 .i64
      have HMK := Lib.hid hmk
      have hmkN := hmk N (by omega) (by omega)
      clear hmk
      go_wp2_with fail
      refine (new_c n _).mono ?_
      rintro e w2 ⟨br, wb, rfl, hbr, hwb, hr2, hg⟩
      rw [HNe.out] at hr2
      have hg2 := Lib.hid (grownBy_trans hg1.out hg)
      have hz1 := hg1.out.size
      clear hg hg1
      go_wp2_with fail
      have hgA := World.grownBy_alloc w2 (.cells (madeCells #[.bool false] N) 4) none
      have hr3 := Lib.hid (hr2.grown hgA (by simp) (by simp))
      have hm3 := Lib.hid (marks_new w2 N)
      have hg3 := Lib.hid (grownBy_trans hg2.out hgA)
      have hl2 := hr2.lt
      have hz2 := hg2.out.size
      obtain ⟨gi, hgi⟩ : ∃ gi, w2.heap.size = gi := ⟨_, rfl⟩
      rw [hgi] at hm3 hl2 hz2 ⊢
      clear hr2 hgA hg2 hgi
      go_loopw [11] (fun ii wr => ∃ (i : Nat) (S : Nat → Bool), i ≤ L ∧ ii = .int .i64 i ∧ IsSet wr br wb N S ∧ Marks wr gi N S ∧ w.grownBy wr none) (fun ii _ => L - (intOf ii).toNat)
      case atStart => exact ⟨0, _, Nat.zero_le _, rfl, hr3.out, hm3.out, hg3.out⟩
      case round =>
        as_aux_lemma =>
          obtain ⟨i, S, hi, rfl, hr, hmk1, hg⟩ := hrel
          have HR := Lib.hid hr
          have HK := Lib.hid hmk1
          have HG := Lib.hid hg
          clear hr hmk1 hg
          by_cases hiL : i < L
          · obtain ⟨B, off, hpe, hB, hSt⟩ := HS.out (by omega)
            obtain ⟨c1, c2, c3, c4, hits⟩ := (hSt.grown hB HG.out) i hiL
            subst hpe
            clear hSt
            have HI := Lib.hid hits
            clear hits
            generalize f i = s at *
            obtain ⟨sw, sa, so, sp, sn, sc, sx⟩ := s
            simp only at c1 c2 c3 c4 HI
            by_cases h40 : sn ≤ 40
            · have d40 : decide ((40 : Int) < (sn : Int)) = false := by simp; omega
              go_upto_region 14 with fail
              have hgA := World.grownBy_alloc wr (.cells #[.int .i64 sw, .int .i64 sa, .bool so, .slice sp sn sc] 29) none
              have hbox0 := Box.new wr sw sa so sp sn sc 29
              have hr0 := HR.out.grown hgA (by simp) (by simp)
              have hk0 := HK.out.grown hgA (by simp)
              have hi0 := HI.out.grown hgA
              have hg0 := Lib.hid (grownBy_trans HG.out hgA)
              have hglt := HK.out.lt
              have hzr := HG.out.size
              have hzA := hgA.size
              have hlr := hr0.lt
              generalize hW0 : wr.alloc (.cells #[.int .i64 sw, .int .i64 sa, .bool so, .slice sp sn sc] 29) = W0 at *
              obtain ⟨bx, hbx⟩ : ∃ bx, wr.heap.size = bx := ⟨_, rfl⟩
              have hW0s : W0.heap.size = bx + 1 := by rw [← hW0, ← hbx]; simp
              have HW0s := Lib.hid hW0s
              rw [hbx] at hbox0 hglt hzr hzA ⊢
              have hx1 : bx < W0.heap.size := by omega
              clear hgA HR HK HG HI c1 c2 c3 c4 hW0 hW0s hbx
              go_wp2_with fail
              refine (copy_c br wb N S _ hr0).mono ?_
              rintro e w4 ⟨bc, wcb, rfl, hbc, hwcb, hc4, hg⟩
              have hr4 := hr0.grown hg (by simp) (by simp)
              have hk4 := hk0.grown hg (by simp)
              have hi4 := hi0.grown hg
              have hbox4 := hbox0.grown hg (by simp)
              have hg4 := Lib.hid (grownBy_trans hg0.out hg)
              have hz4 := hg.size
              have hlc := hc4.lt
              clear hg hg0 hr0 hk0 hi0 hbox0
              have q1 := hbox4.c3
              go_wp2_with fail
              refine (of_c m sp sn sc sx _ hi4 h40).mono ?_
              rintro e w5 ⟨bo, wo, rfl, hbo, hwo, ho5, hg⟩
              rw [HMe.out] at ho5
              have hr5 := hr4.grown hg (by simp) (by simp)
              have hc5 := hc4.grown hg (by simp) (by simp)
              have hk5 := hk4.grown hg (by simp)
              have hi5 := hi4.grown hg
              have hbox5 := hbox4.grown hg (by simp)
              have hg5 := Lib.hid (grownBy_trans hg4.out hg)
              have hz5 := hg.size
              have hlo := ho5.lt
              clear hg hg4 hr4 hk4 hi4 hbox4 hc4 q1
              have hmkM := HMK.out M (by omega) (by omega)
              go_upto_region 16 with fail
              go_cut [15] (fun s15 wx => s15 = .slice (some ⟨w5.heap.size, 0, none⟩) (max N M) (max N M) ∧ wx = w5.alloc (.cells (madeCells #[.bool false] (max N M)) 4))
              case first =>
                as_aux_lemma =>
                  by_cases hNM : N < M
                  · have HX := Lib.hid (show max N M = M by omega)
                    go_wp2_with fail
                    go_meet
                    rw [HX.out]
                    exact ⟨rfl, rfl⟩
                  · have HX := Lib.hid (show max N M = N by omega)
                    have hNM' : M ≤ N := by omega
                    clear hNM
                    go_wp2_with fail
                    go_meet
                    rw [HX.out]
                    exact ⟨rfl, rfl⟩
              case rest =>
                obtain ⟨rfl, hwc⟩ := hcut
                subst wc
                have hgA := World.grownBy_alloc w5 (.cells (madeCells #[.bool false] (max N M)) 4) none
                have hm6 := marks_new w5 (max N M)
                have hr6 := hr5.grown hgA (by simp) (by simp)
                have hc6 := hc5.grown hgA (by simp) (by simp)
                have ho6 := ho5.grown hgA (by simp) (by simp)
                have hk6 := hk5.grown hgA (by simp)
                have hbox6 := hbox5.grown hgA (by simp)
                have hg6 := Lib.hid (grownBy_trans hg5.out hgA)
                have hX1 : N ≤ max N M := by omega
                have hX2 : M ≤ max N M := by omega
                have hX3 : max N M ≤ 1000 := by omega
                have hgA2 := Lib.hid hgA
                generalize hW6 : w5.alloc (.cells (madeCells #[.bool false] (max N M)) 4) = w6 at *
                generalize hXe : max N M = X at *
                have hz6 : w5.heap.size ≤ w6.heap.size := hgA.size
                obtain ⟨g2, hg2⟩ : ∃ g2, w5.heap.size = g2 := ⟨_, rfl⟩
                have HI5 := Lib.hid hi5
                have HG2 := Lib.hid hg2
                rw [hg2] at hm6 hlo hz5 hz6 ⊢
                have hbw5 : bx < g2 := by omega
                have hm6 := hm6.congr (fun j _ => (ofS_zero M sx j).symm)
                have HM6 := Lib.hid hm6
                have HR6 := Lib.hid hr6
                have HC6 := Lib.hid hc6
                have HO6 := Lib.hid ho6
                have HK6 := Lib.hid hk6
                have HB6 := Lib.hid hbox6
                clear hgA hm6 hr6 hc6 ho6 hk6 hbox6 hr5 hc5 ho5 hk5 hi5 hbox5 hg5 hW6 hXe hg2 hmkM
                go_wp2_with fail
                go_loopw [16] (fun kk wl => ∃ k : Nat, k ≤ sn ∧ kk = .int .i64 k ∧ Marks wl g2 X (ofS M sx k) ∧ w6.grownBy wl (some g2)) (fun kk _ => sn - (intOf kk).toNat)
                case atStart => exact ⟨0, Nat.zero_le _, rfl, HM6.out, grownBy_refl _ _⟩
                case round =>
                  obtain ⟨k, hk, rfl, hml, hgl⟩ := hrel
                  by_cases hks : k < sn
                  · as_aux_lemma =>
                      have qb := (HB6.out.grown hgl (by simp; omega)).c3
                      obtain ⟨bi, oi, hsp, hbi, hci⟩ := HI5.out.cell (by omega)
                      rw [HG2.out] at hbi
                      subst hsp
                      have hcx := (World.cell?_of_block (a := ⟨bi, oi + k, none⟩) ((hgl.block bi (by omega) (by simp; omega)).trans (hgA2.out.block bi (by rw [HG2.out]; exact hbi) (by simp)))).trans (hci k hks)
                      have hlen := Lib.hid HI5.out.len
                      by_cases hx : 0 ≤ sx[k]?.getD 0 ∧ sx[k]?.getD 0 < M
                      · obtain ⟨y, hy⟩ := Int.eq_ofNat_of_zero_le hx.1
                        have hyM : y < M := by have := hx.2; omega
                        have HH := Lib.hid (fun j => ofS_hit M sx k j y (by rw [hlen.out]; exact hks) hy hyM)
                        rw [hy] at hcx
                        have hset := Lib.hid (hml.set (k := y) (by omega) true)
                        have f1 := hml.cell y (by omega)
                        have f2 := hml.free y (by omega)
                        have hyX : y < X := by omega
                        have HGL := Lib.hid hgl
                        clear hx hy hml hgl hci
                        go_wp2_with fail
                        refine ⟨⟨k + 1, by omega, by go_num, hset.out.congr (fun j _ => HH.out j), grownBy_trans HGL.out (grownBy_setCell _ ⟨g2, y, none⟩ _)⟩, by simp [intOf]; omega⟩
                      · have HH := Lib.hid (fun j => ofS_skip M sx k j (by rw [hlen.out]; exact hks) hx)
                        have HML := Lib.hid hml
                        have HGL := Lib.hid hgl
                        generalize sx[k]?.getD 0 = x at *
                        by_cases hx0 : 0 ≤ x
                        · have e1 : decide ((0 : Int) ≤ x) = true := by simp; omega
                          have e2 : decide (x < (M : Int)) = false := by simp; omega
                          clear hx hml hgl hci hx0
                          go_wp2_with fail
                          refine ⟨⟨k + 1, by omega, by go_num, HML.out.congr (fun j _ => HH.out j), HGL.out⟩, by simp [intOf]; omega⟩
                        · have e1 : decide ((0 : Int) ≤ x) = false := by simp; omega
                          clear hx hml hgl hci hx0
                          go_wp2_with fail
                          refine ⟨⟨k + 1, by omega, by go_num, HML.out.congr (fun j _ => HH.out j), HGL.out⟩, by simp [intOf]; omega⟩
                  · obtain rfl : k = sn := by omega
                    obtain ⟨w7, hw7⟩ : ∃ x, x = wr := ⟨_, rfl⟩
                    subst hw7
                    have hbox7 := HB6.out.grown hgl (by simp; omega)
                    have hr7 := HR6.out.grown hgl (by simp; omega) (by simp; omega)
                    have hc7 := HC6.out.grown hgl (by simp; omega) (by simp; omega)
                    have ho7 := HO6.out.grown hgl (by simp; omega) (by simp; omega)
                    have hk7 := HK6.out.grown hgl (by simp; omega)
                    have hg7 := Lib.hid (grownBy_new hg6.out hgl (by omega))
                    have hz7 := hgl.size
                    have qb := hbox7.c3
                    clear HB6 HR6 HC6 HO6 HK6 HM6 HI5 HG2 hg6 hgA2 hgl
                    go_upto_block 4 with fail
                    go_cut [125] (fun _ wx => ∃ S' : Nat → Bool, IsSet wx br wb N S' ∧ Marks wx gi N S' ∧ Box wx bx sw sa so sp k sc ∧ IsSet wx bc wcb N S ∧ w.grownBy wx none)
                    case first =>
                      have HR7 := Lib.hid hr7
                      have HC7 := Lib.hid hc7
                      have HO7 := Lib.hid ho7
                      have HK7 := Lib.hid hk7
                      have HB7 := Lib.hid hbox7
                      have HM7 := Lib.hid hml
                      have q0 := hbox7.c0
                      have q1 := hbox7.c1
                      have q2 := hbox7.c2
                      have hlr7 := hr7.lt
                      have hlc7 := hc7.lt
                      have hlo7 := ho7.lt
                      clear hr7 hc7 ho7 hk7 hbox7 hml qb
                      generalize ofS M sx k = T at *
                      by_cases hs2 : sw ≤ 2
                      · as_aux_lemma =>
                          go_wp2_with fail
                          refine (put_c br wb N sa so S _ HR7.out).mono ?_
                          rintro e w8 ⟨⟨v8, rfl⟩, hr8, hg⟩
                          have hk8 := HK7.out.grown hg (by simp; omega)
                          have hbox8 := HB7.out.grown hg (by simp; omega)
                          have hc8 := HC7.out.grown hg (by simp; omega) (by simp; omega)
                          have hg8 := Lib.hid (grownBy_new hg7.out hg (by omega))
                          have p1 := hbox8.c1
                          have p2 := hbox8.c2
                          clear q0 q1 q2 hg
                          by_cases hin : 0 ≤ sa ∧ sa < N
                          · obtain ⟨y, rfl⟩ := Int.eq_ofNat_of_zero_le hin.1
                            have hyN : y < N := by omega
                            have f1 := hk8.cell y hyN
                            have f2 := hk8.free y hyN
                            have hset := Lib.hid (hk8.set hyN so)
                            have HR8 := Lib.hid hr8
                            have HB8 := Lib.hid hbox8
                            have HC8 := Lib.hid hc8
                            have hsz8 := hr8.lt
                            clear hin hr8 hbox8 hc8 hk8
                            go_wp2_with fail
                            go_meet
                            have hgs := grownBy_setCell w8 ⟨gi, y, none⟩ (.bool so)
                            exact ⟨_, HR8.out.grown hgs (by simp; omega) (by simp; omega), hset.out.congr (fun j _ => (putS_upd S N y so hyN j).symm), HB8.out.grown hgs (by simp; omega), HC8.out.grown hgs (by simp; omega) (by simp; omega), grownBy_new hg8.out hgs (by simp; omega)⟩
                          · have HK8 := Lib.hid (hk8.congr (put_out S N sa so hin))
                            have HR8 := Lib.hid hr8
                            have HB8 := Lib.hid hbox8
                            have HC8 := Lib.hid hc8
                            clear hr8 hbox8 hc8 hk8
                            by_cases hs0 : 0 ≤ sa
                            · have e1 : decide ((0 : Int) ≤ sa) = true := by simp; omega
                              have e2 : decide (sa < (N : Int)) = false := by simp; omega
                              clear hin hs0
                              go_wp2_with fail
                              go_meet
                              exact ⟨_, HR8.out, HK8.out, HB8.out, HC8.out, hg8.out⟩
                            · have e1 : decide ((0 : Int) ≤ sa) = false := by simp; omega
                              clear hin hs0
                              go_wp2_with fail
                              go_meet
                              exact ⟨_, HR8.out, HK8.out, HB8.out, HC8.out, hg8.out⟩
                      · have e1 : decide (sw ≤ 2) = false := by simp; omega
                        by_cases hs3 : sw = 3
                        · as_aux_lemma =>
                            have e2 : (sw == 3) = true := by simp [hs3]
                            clear hs2 hs3
                            go_wp2_with fail
                            go_loopw [17, 18] (fun gg kk wl => ∃ j : Nat, j ≤ N ∧ kk = .int .i64 j ∧ gg = .bool (grewS j S T) ∧ Marks wl gi N (fun i => S i || (decide (i < j) && T i)) ∧ w7.grownBy wl (some gi)) (fun _ kk _ => N - (intOf kk).toNat)
                            case atStart => exact ⟨0, Nat.zero_le _, rfl, rfl, HK7.out.congr (fun j _ => by simp), grownBy_refl _ _⟩
                            case round =>
                              obtain ⟨j, hj, rfl, rfl, hmj, hgj⟩ := hrel
                              by_cases hjN : j < N
                              · have f1 := hmj.cell j hjN
                                have f2 := hmj.free j hjN
                                have f3 := (HM7.out.grown hgj (by simp; omega)).cell j (by omega)
                                have f1' : wr.cell? ⟨gi, j, none⟩ = some (.bool (S j)) := by rw [f1]; simp
                                have HGR := Lib.hid (show grewS (j + 1) S T = (grewS j S T || (T j && !S j)) by unfold grewS; rw [List.range_succ, List.any_append]; simp)
                                have HST := Lib.hid (fun v (hv : v = (S j || T j)) => (hmj.set hjN v).congr (fun i _ => or_step S T j v hv i))
                                have HGJ := Lib.hid hgj
                                clear f1 hmj hgj
                                generalize grewS j S T = g0 at *
                                generalize S j = s0 at *
                                generalize T j = t0 at *
                                cases s0 <;> cases t0 <;> cases g0
                                all_goals
                                  go_wp2_with fail
                                  refine ⟨⟨j + 1, by omega, by go_num, by rw [HGR.out]; rfl, HST.out _ rfl, grownBy_trans HGJ.out (grownBy_setCell _ ⟨gi, j, none⟩ _)⟩, by simp [intOf]; omega⟩
                              · obtain rfl : j = N := by omega
                                have hr8 := HR7.out.grown hgj (by simp; omega) (by simp; omega)
                                have ho8 := HO7.out.grown hgj (by simp; omega) (by simp; omega)
                                have hc8 := HC7.out.grown hgj (by simp; omega) (by simp; omega)
                                have hbox8 := HB7.out.grown hgj (by simp; omega)
                                have hg8 := Lib.hid (grownBy_new hg7.out hgj (by omega))
                                have HMJ := Lib.hid hmj
                                clear hmj hgj q0 q1 q2
                                go_wp2_with fail
                                refine (or_c br wb j M (some ⟨bo, 0, none⟩) S T _ hr8 (.inr ⟨bo, wo, rfl, by omega, by omega, ho8⟩)).mono ?_
                                rintro e w9 ⟨rfl, hr9, hg⟩
                                have hm9 := HMJ.out.grown hg (by simp; omega)
                                have hc9 := hc8.grown hg (by simp; omega) (by simp; omega)
                                have hbox9 := hbox8.grown hg (by simp; omega)
                                have hg9 := Lib.hid (grownBy_new hg8.out hg (by omega))
                                have HR9 := Lib.hid hr9
                                have HM9 := Lib.hid hm9
                                have HC9 := Lib.hid hc9
                                have HB9 := Lib.hid hbox9
                                clear hr8 ho8 hc8 hbox8 hg hr9 hm9 hc9 hbox9
                                generalize grewS j S T = g0 at *
                                cases g0
                                all_goals
                                  go_wp2_with fail
                                  go_meet
                                  exact ⟨_, HR9.out, HM9.out.congr (fun i hi => or_end S T j i hi), HB9.out, HC9.out, hg9.out⟩
                        · as_aux_lemma =>
                            have e2 : (sw == 3) = false := by simp [hs3]
                            clear hs2 hs3
                            go_wp2_with fail
                            refine (and_c br wb N M (some ⟨bo, 0, none⟩) S T _ HR7.out (.inr ⟨bo, wo, rfl, by omega, by omega, HO7.out⟩)).mono ?_
                            rintro e w8 ⟨⟨v8, rfl⟩, hr8, hg⟩
                            have hk8 := HK7.out.grown hg (by simp; omega)
                            have hm8 := HM7.out.grown hg (by simp; omega)
                            have hc8 := HC7.out.grown hg (by simp; omega) (by simp; omega)
                            have hbox8 := HB7.out.grown hg (by simp; omega)
                            have hg8 := Lib.hid (grownBy_new hg7.out hg (by omega))
                            have HR8 := Lib.hid hr8
                            have HK8 := Lib.hid hk8
                            have HM8 := Lib.hid hm8
                            have HC8 := Lib.hid hc8
                            have HB8 := Lib.hid hbox8
                            have hz8 := hg.size
                            clear hg hr8 hk8 hm8 hc8 hbox8 q0 q1 q2 HK7 HM7 HC7 HB7 HR7 HO7
                            go_wp2_with fail
                            go_loopw [19] (fun kk wl => ∃ j : Nat, j ≤ N ∧ kk = .int .i64 j ∧ Marks wl gi N (fun i => S i && (decide (j ≤ i) || T i)) ∧ w8.grownBy wl (some gi)) (fun kk _ => N - (intOf kk).toNat)
                            case atStart => exact ⟨0, Nat.zero_le _, rfl, HK8.out.congr (fun j _ => by simp), grownBy_refl _ _⟩
                            case round =>
                              obtain ⟨j, hj, rfl, hmj, hgj⟩ := hrel
                              by_cases hjN : j < N
                              · have f1 := hmj.cell j hjN
                                have f2 := hmj.free j hjN
                                have f3 := (HM8.out.grown hgj (by simp; omega)).cell j (by omega)
                                have f1' : wr.cell? ⟨gi, j, none⟩ = some (.bool (S j)) := by rw [f1]; simp
                                have HST := Lib.hid (fun v (hv : v = (S j && T j)) => (hmj.set hjN v).congr (fun i _ => and_step S T j v hv i))
                                have HGJ := Lib.hid hgj
                                clear f1 hmj hgj
                                generalize S j = s0 at *
                                generalize T j = t0 at *
                                cases s0 <;> cases t0
                                all_goals
                                  go_wp2_with fail
                                  refine ⟨⟨j + 1, by omega, by go_num, HST.out _ rfl, grownBy_trans HGJ.out (grownBy_setCell _ ⟨gi, j, none⟩ _)⟩, by simp [intOf]; omega⟩
                              · obtain rfl : j = N := by omega
                                have hr9 := HR8.out.grown hgj (by simp; omega) (by simp; omega)
                                have hc9 := HC8.out.grown hgj (by simp; omega) (by simp; omega)
                                have hbox9 := HB8.out.grown hgj (by simp; omega)
                                have hg9 := Lib.hid (grownBy_new hg8.out hgj (by omega))
                                have HMJ := Lib.hid hmj
                                clear hmj hgj
                                go_wp2_with fail
                                go_meet
                                exact ⟨_, hr9, HMJ.out.congr (fun i hi => and_end S T j i hi), hbox9, hc9, hg9.out⟩
                    case rest =>
                      obtain ⟨S', hr8, hk8, hbox8, hc8, hg8⟩ := hcut
                      obtain ⟨w8, hw8⟩ : ∃ x, x = wc := ⟨_, rfl⟩
                      subst hw8
                      have hlc8 := hc8.lt
                      have hlr8 := hr8.lt
                      have hlk8 := hk8.lt
                      have hlb8 := hbox8.lt
                      have hg8' := Lib.hid hg8
                      clear hr7 hc7 ho7 hk7 hbox7 hml qb hg7 hg8
                      as_aux_lemma =>
                        go_wp2_with fail
                        refine (put_c bc wcb N 0 true _ _ hc8).mono ?_
                        rintro e w9 ⟨⟨v9, rfl⟩, _, hg⟩
                        have hr9 := Lib.hid (hr8.grown hg (by simp; omega) (by simp; omega))
                        have hk9 := Lib.hid (hk8.grown hg (by simp; omega))
                        have hbox9 := Lib.hid (hbox8.grown hg (by simp; omega))
                        have hg9 := Lib.hid (grownBy_new hg8'.out hg (by omega))
                        have ht9 := Lib.hid (HT.out.grown hg9.out (by simp))
                        clear hg hr8 hk8 hbox8 hc8 hg8'
                        go_upto_region 41 with fail
                        go_cut [219] (fun s wx => s = .bool false ∧ w9.grownBy wx none)
                        case first =>
                          have hT := Lib.hid (fun z : Later w9 => told_z br wb N gi N S' w9 hr9.out hk9.out hN ht9.out z)
                          have hne : Nonempty (Later w9) := ⟨⟨w9, grownBy_refl w9 none⟩⟩
                          have qz := fun z : Later w9 => later_cell hbox9.out.lt hbox9.out.c1 z
                          by_cases hin : 0 ≤ sa ∧ sa < N
                          · obtain ⟨y, rfl⟩ := Int.eq_ofNat_of_zero_le hin.1
                            have hyN : y < N := by omega
                            have hH := Lib.hid (fun z : Later w9 => has_z br wb N (y : Int) S' (S' y) w9 hr9.out (hasS_in S' N y hyN) z)
                            have qy := fun z : Later w9 => later_cell hk9.out.lt (hk9.out.cell y hyN) z
                            have HH := Lib.hid hH
                            clear hin
                            generalize S' y = vy at *
                            cases vy
                            all_goals
                              as_aux_lemma =>
                                refine region_quiet_in (C := fun x => ∃ z : Later w9, x = z.at_) (by kernel_rfl) (by kernel_rfl) ⟨⟨_, grownBy_drewN w9 1 none⟩, rfl⟩ ?_
                                repeat (go_big_quiet_step ((first | (go_at_call 14; exact hT.out _) | (go_at_call 15; exact hH.out _))))
                                refine wpQuiet_nil ?_
                                intro w' hw'
                                obtain ⟨z, hz⟩ := hw'
                                subst hz
                                go_wp2_with fail
                                go_meet
                                exact ⟨rfl, z.ok⟩
                          · have hH := Lib.hid (fun z : Later w9 => has_z br wb N sa S' false w9 hr9.out (hasS_out S' N sa hin) z)
                            by_cases hs0 : 0 ≤ sa
                            · have e1 : decide ((0 : Int) ≤ sa) = true := by simp; omega
                              have e2 : decide (sa < (N : Int)) = false := by simp; omega
                              clear hin hs0
                              as_aux_lemma =>
                                refine region_quiet_in (C := fun x => ∃ z : Later w9, x = z.at_) (by kernel_rfl) (by kernel_rfl) ⟨⟨_, grownBy_drewN w9 1 none⟩, rfl⟩ ?_
                                repeat (go_big_quiet_step ((first | (go_at_call 14; exact hT.out _) | (go_at_call 15; exact hH.out _))))
                                refine wpQuiet_nil ?_
                                intro w' hw'
                                obtain ⟨z, hz⟩ := hw'
                                subst hz
                                go_wp2_with fail
                                go_meet
                                exact ⟨rfl, z.ok⟩
                            · have e1 : decide ((0 : Int) ≤ sa) = false := by simp; omega
                              clear hin hs0
                              as_aux_lemma =>
                                refine region_quiet_in (C := fun x => ∃ z : Later w9, x = z.at_) (by kernel_rfl) (by kernel_rfl) ⟨⟨_, grownBy_drewN w9 1 none⟩, rfl⟩ ?_
                                repeat (go_big_quiet_step ((first | (go_at_call 14; exact hT.out _) | (go_at_call 15; exact hH.out _))))
                                refine wpQuiet_nil ?_
                                intro w' hw'
                                obtain ⟨z, hz⟩ := hw'
                                subst hz
                                go_wp2_with fail
                                go_meet
                                exact ⟨rfl, z.ok⟩
                        case rest =>
                          obtain ⟨rfl, hgc⟩ := hcut
                          have hr10 := hr9.out.grown hgc (by simp) (by simp)
                          have hk10 := hk9.out.grown hgc (by simp)
                          have hg10 := grownBy_trans hg9.out hgc
                          clear hgc
                          go_wp2_with fail
                          go_roundw
                          case rel => exact ⟨i + 1, S', by omega, by go_num, hr10, hk10, hg10⟩
                          case measure => simp [intOf]; omega
            · as_aux_lemma =>
                have d40 : decide ((40 : Int) < (sn : Int)) = true := by simp; omega
                have hgA := World.grownBy_alloc wr (.cells #[.int .i64 sw, .int .i64 sa, .bool so, .slice sp sn sc] 29) none
                have hg0 := Lib.hid (grownBy_trans HG.out hgA)
                clear hgA
                go_wp2
                go_ret
                exact ⟨rfl, hg0.out⟩
          · obtain rfl : i = L := by omega
            go_wp2_with fail
            refine (copy_c br wb N S _ HR.out).mono ?_
            rintro e w4 ⟨bc, wc, rfl, hbc, hwc, hc4, hg⟩
            have hr4 := HR.out.grown hg (by simp) (by simp)
            have hg4 := Lib.hid (grownBy_trans HG.out hg)
            clear hg
            go_wp2_with fail
            refine (same_b br wb N bc wc N S S true _ hr4 hc4 (sameS_refl N S)).mono ?_
            rintro e w5 ⟨rfl, hg⟩
            have hg5 := Lib.hid (grownBy_trans hg4.out hg)
            clear hg
            go_wp2
            go_ret
            exact ⟨rfl, hg5.out⟩

end Go.Proofs.YtnbigkknabdnjaaDoor
