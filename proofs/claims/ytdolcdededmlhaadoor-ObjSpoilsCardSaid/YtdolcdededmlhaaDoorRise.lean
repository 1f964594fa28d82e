/- The contract of rises of package obj: whether pairs rise. -/
import Derived.Test.YtdolcdededmlhaaDoorNbr
namespace Go.Proofs.YtdolcdededmlhaaDoor
open Go.RowKit Go.Shelf
attribute [local go_sem] Oper.semAt_some

/-- So far all rise. -/
def upB (pre : List PP) : Bool := pre.all ltP
theorem upB_snoc (pre : List PP) (x : PP) : upB (pre ++ [x]) = (upB pre && ltP x) := by simp [upB]
theorem upB_not {pre l : List PP} (h : upB pre = false) (hp : pre <+: l) : upB l = false := by
  obtain ⟨t, rfl⟩ := hp
  unfold upB at *
  rw [List.all_append, h]
  rfl

set_option maxRecDepth 100000 in
set_option maxHeartbeats 4000000 in
theorem rises_in (n : Nat) (hn : 4 ≤ n) (p : Option Addr) (m c lo hi : Nat) (P : List (Int × Int)) (w : World) (hm : m ≤ 1000000) (hP : PairsAt w lo hi p m P) :
    CallsIn Fence.wide n Tryd.prog 50 #[.slice p m c] w fun e w' => e = .returned (.bool (risesB P)) ∧ w.grownBy w' none := by
  have h1 : 1 ≤ n := by omega
  have hro : Fence.wide.round = none := rfl
  have HP := Lib.hid hP
  clear hP
  refine callsIn_of_wp_marks Tryd.func50 rfl trivial ?_ hro
  simp only [Tryd.ntmps50, List.size_toArray, List.length_cons, List.length_nil, Nat.reduceAdd, Nat.reduceSub, Array.replicate_succ, Array.replicate_zero, List.push_toArray, List.append_toArray, List.nil_append, List.cons_append]
  gi_wp2_with (refine ⟨trivial, ?_⟩; gi_at_call 61; refine (nbr_in (n - 1) _ _ _ _).mono ?_; rintro e w9 ⟨rfl, rfl⟩)
  have bR := Boxed.new w 4 (.bool false)
  have bL := Boxed.new (w.alloc (.cells #[.bool false] 4)) 23 (.slice p m c)
  rw [World.size_alloc] at bL
  have hB0 : Below w.heap.size w ((w.alloc (.cells #[.bool false] 4)).alloc (.cells #[.slice p m c] 23)) :=
    ((Below.refl _ w).alloc (Nat.le_refl _) _).alloc (by simp) _
  have hP2 := HP.out.calm (below_grownBy hB0)
  have hP3 : PairsAt ((w.alloc (.cells #[.bool false] 4)).alloc (.cells #[.slice p m c] 23)) 0 (w.heap.size + 2) p m P := by
    refine ⟨hP2.len, fun h => ?_⟩
    obtain ⟨b, off, q0, q1, q2, q3, q4⟩ := HP.out.cell h
    obtain ⟨b', off', q0', _, _, _, q4'⟩ := hP2.cell h
    rw [q0] at q0'
    cases q0'
    exact ⟨b, off, q0, Nat.zero_le _, by omega, by simp, q4'⟩
  have HT := Lib.hid hP3.len
  refine wpIn_rangeFunc_ownH hro h1 (gf := 65) (lb := #[.pointer (some ⟨w.heap.size + 1, 0, none⟩)]) rfl trivial (enters_of Tryd.func65 (by kernel_rfl) rfl)
    (nbr_stops (n - 1) (by omega) (w.heap.size + 1) (w.heap.size + 2) m c 0 (w.heap.size + 2) p P _ (by omega) (Nat.le_refl _) hm (by simp) hP3 bL.cell) belowK_t (belowK_b (by simp)) (Below.refl _ _) (fun _ => rfl)
    (fun pre W => Boxed W w.heap.size 4 (.bool false) ∧ upB pre = true ∧ Below w.heap.size w W ∧ w.heap.size + 2 ≤ W.heap.size)
    (fun c pre W => c = .ret ∧ Boxed W w.heap.size 4 (.bool false) ∧ upB pre = false ∧ Below w.heap.size w W)
    (OwnFrom.and (Own.from (boxed_own w.heap.size 4 (fun _ => .bool false)) _) (OwnFrom.and (ownFrom_pure _ _) (OwnFrom.and (ownFrom_below (Nat.le_refl _) (by simp; omega)) (fun s A B row hs hg _ => Nat.le_trans hs hg.size))))
    (fun c => OwnFrom.and (ownFrom_pure _ _) (OwnFrom.and (Own.from (boxed_own w.heap.size 4 (fun _ => .bool false)) _) (OwnFrom.and (ownFrom_pure _ _) (ownFrom_below (Nat.le_refl _) (by simp; omega)))))
    ⟨bR.alloc _, rfl, hB0, by simp⟩
    (fun x a' W => ∃ B1 B2, PairBox x.1 B1 W ∧ PairBox x.2 B2 W ∧ w.heap.size < B1 ∧ w.heap.size < B2 ∧ a' = { tmps := #[.slice p m c, undef, .pointer (some ⟨w.heap.size, 0, none⟩), .pointer (some ⟨B1, 0, none⟩), .pointer (some ⟨B2, 0, none⟩), .slice p m c, .func (.func 65) #[] #[.pointer (some ⟨w.heap.size + 1, 0, none⟩)], .agg #[.int .i64 x.1.1, .int .i64 x.1.2], .agg #[.int .i64 x.2.1, .int .i64 x.2.2], undef, undef, undef, undef, undef, undef, undef, undef, undef, undef, undef, undef, undef, undef, undef, undef, undef, undef, undef], defers := [] })
    ?hAx ?assign ?body ?done ?stop
  case hAx =>
    rintro x a' _ A B row ⟨b1, b2, hb1, hb2, h3, h4, h5⟩ hg hrow
    refine ⟨b1, b2, ?_, ?_, h3, h4, h5⟩
    · refine (hg.block b1 (Array.getElem?_eq_some_iff.1 hb1).1 fun e => ?_).trans hb1
      obtain ⟨_, o, ho, hoc⟩ := hrow b1 e.symm
      rw [show A.heap[b1]? = _ from hb1] at ho
      cases ho
      cases hoc
    · refine (hg.block b2 (Array.getElem?_eq_some_iff.1 hb2).1 fun e => ?_).trans hb2
      obtain ⟨_, o, ho, hoc⟩ := hrow b2 e.symm
      rw [show A.heap[b2]? = _ from hb2] at ho
      cases ho
      cases hoc
  case assign =>
    intro l pre x W K hI hK
    have HK := Lib.hid hK
    clear hK
    unfold encN
    gi_wp2
    obtain ⟨hv, hall, hB, hsz⟩ := hI
    have g1 := World.grownBy_alloc W (.cells #[.int .i64 x.1.1, .int .i64 x.1.2] 38) none
    have g2 := World.grownBy_alloc (W.alloc (.cells #[.int .i64 x.1.1, .int .i64 x.1.2] 38)) (.cells #[.int .i64 x.2.1, .int .i64 x.2.2] 38) none
    have p1 := World.alloc_heap_new W (.cells #[.int .i64 x.1.1, .int .i64 x.1.2] 38)
    have p2 := World.alloc_heap_new (W.alloc (.cells #[.int .i64 x.1.1, .int .i64 x.1.2] 38)) (.cells #[.int .i64 x.2.1, .int .i64 x.2.2] 38)
    rw [World.size_alloc] at p2
    refine HK.out _ _ (((KeepsOthers.alloc W _).trans (KeepsOthers.alloc _ _)).from _) (((Below.refl _ W).alloc hsz _).alloc (by simp; omega) _) ⟨(hv.alloc _).alloc _, hall, (hB.alloc hB.size _).alloc (by simp; have := hB.size; omega) _, by simp; omega⟩
      ⟨W.heap.size, W.heap.size + 1, (g2.block W.heap.size (by simp) (by simp)).trans p1, p2, by omega, by omega, rfl⟩
  case body =>
    rintro l pre x a' W hl hlr ⟨hv, hall, hB, hsz⟩ ⟨b1, b2, hb1, hb2, hlt1, hlt2, rfl⟩ hlt
    have hx1 : W.cell? ⟨b1, 0, none⟩ = some (.int .i64 x.1.1) := by simp [World.cell?, show W.heap[b1]? = _ from hb1]
    have hx2 : W.cell? ⟨b1, 1, none⟩ = some (.int .i64 x.1.2) := by simp [World.cell?, show W.heap[b1]? = _ from hb1]
    have hy1 : W.cell? ⟨b2, 0, none⟩ = some (.int .i64 x.2.1) := by simp [World.cell?, show W.heap[b2]? = _ from hb2]
    have hy2 : W.cell? ⟨b2, 1, none⟩ = some (.int .i64 x.2.2) := by simp [World.cell?, show W.heap[b2]? = _ from hb2]
    have hcv := hv.cell
    have hfv := hv.frozen
    have HALL := Lib.hid hall
    clear hb1 hb2 hall
    by_cases c0 : ltP x = true
    · have goes : Below (w.heap.size + 2) W W ∧ (Boxed W w.heap.size 4 (.bool false) ∧ upB (pre ++ [x]) = true ∧ Below w.heap.size w W ∧ w.heap.size + 2 ≤ W.heap.size) :=
        ⟨Below.refl _ _, hv, by rw [upB_snoc, HALL.out, c0]; rfl, hB, hsz⟩
      have HG := Lib.hid goes
      clear goes
      unfold ltP at c0
      by_cases c1 : x.1.1 < x.2.1
      · have d1 : ¬ x.2.1 < x.1.1 := by omega
        have d2 : (x.1.1 == x.2.1) = false := by simp; omega
        clear c0
        gi_wp2
        exact ⟨KeepsFrom.refl _ _, HG.out⟩
      · have c2 : x.1.1 = x.2.1 ∧ x.1.2 < x.2.2 := by simpa [c1] using c0
        have d1 : ¬ x.2.1 < x.1.1 := by omega
        have d2 : (x.1.1 == x.2.1) = true := by simp; omega
        have d3 : ¬ x.2.2 ≤ x.1.2 := by omega
        clear c0 c2
        gi_wp2
        exact ⟨KeepsFrom.refl _ _, HG.out⟩
    · have c0' : ltP x = false := by simpa using c0
      have leaves : Boxed (W.setCell ⟨w.heap.size, 0, none⟩ (.bool false)) w.heap.size 4 (.bool false) ∧ upB (pre ++ [x]) = false ∧ Below w.heap.size w (W.setCell ⟨w.heap.size, 0, none⟩ (.bool false)) :=
        ⟨hv.set _, by rw [upB_snoc, HALL.out, c0']; rfl, hB.setCell (p := ⟨w.heap.size, 0, none⟩) (Nat.le_refl _) _⟩
      have HLV := Lib.hid leaves
      clear leaves c0'
      unfold ltP at c0
      by_cases c1 : x.2.1 < x.1.1
      · clear c0
        gi_wp2
        exact ⟨(KeepsOthers.setCell _ _ _).from _, rfl, HLV.out⟩
      · have c2 : x.1.1 = x.2.1 ∧ x.2.2 ≤ x.1.2 := by
          simp only [Bool.or_eq_true, Bool.and_eq_true, decide_eq_true_eq] at c0
          omega
        have d2 : (x.1.1 == x.2.1) = true := by simp; omega
        have d3 : x.2.2 ≤ x.1.2 := by omega
        clear c0 c2
        gi_wp2
        exact ⟨(KeepsOthers.setCell _ _ _).from _, rfl, HLV.out⟩
  case done =>
    rintro D ys W hD rfl ⟨hv, hall, hB, hsz⟩ hK
    have hcv := hv.cell
    have hfv := hv.frozen
    have hall' : risesB P = true := by rw [← hall]; unfold risesB upB; rw [HT.out]
    have HR := Lib.hid hall'
    clear hall' hall
    gi_wp2
    have hK' := (KeepsOthers.setCell W ⟨w.heap.size, 0, none⟩ (.bool true)).same D _ hK rfl
    refine ⟨by simp, .inl ⟨_, _, rfl, run_takeDeferred hK', ?_⟩⟩
    have hv5 := (hv.set (.bool true)).kept (grownBy_putObj' _ D (.deferred none)) (fun e => by cases e; rw [show (W.setCell _ _).heap[w.heap.size]? = _ from hv.set (.bool true)] at hK'; cases hK')
    have hc5 := hv5.cell
    refine ⟨.bool true, ?_, by rw [HR.out], ?_⟩
    · simp [results, Tryd.f50, go_sem, hc5]
    · exact below_grownBy ((hB.setCell (p := ⟨w.heap.size, 0, none⟩) (Nat.le_refl _) _).trans (belowK_b (w := w) (Nat.le_refl _) _ D _ _ (by simp at hD; omega) hK' rfl rfl))
  case stop =>
    rintro D c pre W hD hpre ⟨rfl, hv, hno, hB⟩ hK
    have hcv := hv.cell
    have hno' : risesB P = false := by unfold risesB; rw [HT.out]; exact upB_not hno hpre
    have HR := Lib.hid hno'
    clear hno' hno
    gi_wp2
    refine ⟨by simp, .inl ⟨_, _, rfl, run_takeDeferred hK, ?_⟩⟩
    have hv5 := hv.kept (grownBy_putObj' _ D (.deferred none)) (fun e => by cases e; rw [show W.heap[w.heap.size]? = _ from hv] at hK; cases hK)
    have hc5 := hv5.cell
    refine ⟨.bool false, ?_, by rw [HR.out], ?_⟩
    · simp [results, Tryd.f50, go_sem, hc5]
    · exact below_grownBy (hB.trans (belowK_b (w := w) (Nat.le_refl _) _ D _ _ (by simp at hD; omega) hK rfl rfl))

theorem rises_c (p : Option Addr) (m c lo hi : Nat) (P : List (Int × Int)) (r : Bool) (w : World) (hm : m ≤ 1000000) (hP : PairsAt w lo hi p m P) (hr : risesB P = r) :
    Calls Tryd.prog 50 #[.slice p m c] w fun e w' => e = .returned (.bool r) ∧ w.grownBy w' none := by
  rw [← hr]
  exact callsIn_wide.1 (rises_in 4 (Nat.le_refl _) p m c lo hi P w hm hP)

end Go.Proofs.YtdolcdededmlhaaDoor
