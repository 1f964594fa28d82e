/- RowPlays: at every input the call answers true, and each argument reads behind the call as it read before; tied: the table that math/bits reads is what the program's text lays. -/
import Derived.Test.YtnbigkknabdnjaaDoorPlaysOut
import Derived.Test.YtnbigkknabdnjaaDoorPlays
namespace Go.Proofs.YtnbigkknabdnjaaDoor.rowPlays
open Go.ChangeShapes Go.WideShapes Go.ChangeAt Go.WideMaps Go.WideElems Go.RowKit Go.Deep

theorem laidOut : laidOutB Tryd.prog = true := by kernel_rfl
theorem cInt : Tryd.prog.cellsOf 3 = 1 := by kernel_rfl
theorem cBool : Tryd.prog.cellsOf 4 = 1 := by kernel_rfl
theorem cInts : Tryd.prog.cellsOf 27 = 1 := by kernel_rfl
theorem cStep : Tryd.prog.cellsOf 29 = 4 := by kernel_rfl

theorem add_zero (a : Addr) : a.add 0 = a := by unfold Addr.add; simp
theorem cell_plain {w : World} {a : Addr} {v : Value} (h : w.cell? a = some v) : ∃ b off, a = ⟨b, off, none⟩ := by
  have := World.cell?_spot h
  obtain ⟨b, off, sp⟩ := a
  simp only at this
  exact ⟨b, off, by rw [this]⟩

/-- A slice of ints that a step holds. -/
theorem its_of {H : Type} {enc : TypeId × Value → H} {W : World} {fuel : Nat} {v : Value} {x : DataW H × List MemPlace}
    (h : DataW.trod enc Tryd.prog W 0 (fun _ => true) true fuel 27 [v] = some x) : ∃ p n c xs, v = .slice p n c ∧ Its W p n xs := by
  rcases open_ints Tryd.underlying27 Tryd.underlying3 cInt h with ⟨hcs, _⟩ | ⟨a, len, cap, zs, hcs, _, hl, hm, hz, _, hcell, _⟩
  · simp only [List.cons.injEq, and_true] at hcs
    exact ⟨none, 0, 0, [], hcs, rfl, fun h => absurd h (by omega)⟩
  · simp only [List.cons.injEq, and_true] at hcs
    simp only [if_true] at hz
    refine ⟨some a, len, cap, zs.take len, hcs, by simp; omega, fun hn => ?_⟩
    have hc0 := hcell 0 (by omega)
    rw [add_zero] at hc0
    obtain ⟨b, off, rfl⟩ := cell_plain hc0
    refine ⟨b, off, rfl, cell_lt hc0, fun k hk => ?_⟩
    have := hcell k (by omega)
    rw [add_plain] at this
    rw [this, List.getElem?_take_of_lt hk, List.getD_eq_getElem?_getD]

/-- One step. -/
theorem step_of {H : Type} {enc : TypeId × Value → H} {W : World} {fuel : Nat} {cs : List Value} {x : DataW H × List MemPlace} (h : DataW.trod enc Tryd.prog W 0 (fun _ => true) true fuel 29 cs = some x) :
    ∃ s : Stp, cs = [.int .i64 s.what, .int .i64 s.at_, .bool s.on, .slice s.p s.n s.c] ∧ Its W s.p s.n s.xs := by
  obtain ⟨ys, n, _, _, hlen, hyl, hf⟩ := DataW.trod_struct Tryd.underlying29 h
  rw [cStep] at hlen
  match cs, hlen with
  | [v0, v1, v2, v3], _ =>
    have hys : ys.length = 4 := hyl
    match ys, hys with
    | [y0, y1, y2, y3], _ =>
      have f0 : DataW.trod enc Tryd.prog W 0 (fun _ => true) true n 3 (List.take (Tryd.prog.cellsOf 3) (List.drop 0 [v0, v1, v2, v3])) = some y0 := hf 0 _ rfl
      have f1 : DataW.trod enc Tryd.prog W 0 (fun _ => true) true n 3 (List.take (Tryd.prog.cellsOf 3) (List.drop 1 [v0, v1, v2, v3])) = some y1 := hf 1 _ rfl
      have f2 : DataW.trod enc Tryd.prog W 0 (fun _ => true) true n 4 (List.take (Tryd.prog.cellsOf 4) (List.drop 2 [v0, v1, v2, v3])) = some y2 := hf 2 _ rfl
      have f3 : DataW.trod enc Tryd.prog W 0 (fun _ => true) true n 27 (List.take (Tryd.prog.cellsOf 27) (List.drop 3 [v0, v1, v2, v3])) = some y3 := hf 3 _ rfl
      rw [cInt] at f0 f1
      rw [cBool] at f2
      rw [cInts] at f3
      have g0 : DataW.trod enc Tryd.prog W 0 (fun _ => true) true n 3 [v0] = some y0 := f0
      have g1 : DataW.trod enc Tryd.prog W 0 (fun _ => true) true n 3 [v1] = some y1 := f1
      have g2 : DataW.trod enc Tryd.prog W 0 (fun _ => true) true n 4 [v2] = some y2 := f2
      have g3 : DataW.trod enc Tryd.prog W 0 (fun _ => true) true n 27 [v3] = some y3 := f3
      obtain ⟨a, e0, _⟩ := DataW.trod_int Tryd.underlying3 g0
      obtain ⟨b, e1, _⟩ := DataW.trod_int Tryd.underlying3 g1
      obtain ⟨c, e2, _⟩ := DataW.trod_bool Tryd.underlying4 g2
      obtain ⟨p, m, cc, xs, e3, hits⟩ := its_of g3
      simp only [List.cons.injEq, and_true] at e0 e1 e2
      exact ⟨⟨a, b, c, p, m, cc, xs⟩, by rw [e0, e1, e2, e3], hits⟩

/-- The steps that came in. -/
theorem steps_of {H : Type} {enc : TypeId × Value → H} {W : World} {base : Nat} {v : Value} {d : DataW H} {ps : List MemPlace} (hok : Value.okWide Tryd.prog W .any base 22 v)
    (h : DataW.Trod enc Tryd.prog W 0 (fun _ => true) true 22 v d ps) : ∃ p L c f, v = .slice p L c ∧ StepsP W p L f := by
  obtain ⟨a0, len, cap, rfl⟩ := okWide_slice Tryd.underlying22 hok
  obtain ⟨fuel, hf⟩ := h
  rcases open_slice Tryd.underlying22 hf with ⟨hcs, _⟩ | ⟨a, len', cap', m, n, D, Pl, hcs, _, hl, hm, hmm, _, hi⟩
  · simp [Value.cells] at hcs
    obtain ⟨rfl, rfl, rfl⟩ := hcs
    exact ⟨none, 0, 0, fun _ => ⟨0, 0, false, none, 0, 0, []⟩, rfl, fun h => absurd h (by omega)⟩
  · simp [Value.cells] at hcs
    obtain ⟨rfl, rfl, rfl⟩ := hcs
    simp only [if_true] at hmm
    have key : ∀ i, i < len → ∃ s : Stp, W.cell? (a.add (i * 4)) = some (.int .i64 s.what) ∧ W.cell? ((a.add (i * 4)).add 1) = some (.int .i64 s.at_) ∧ W.cell? ((a.add (i * 4)).add 2) = some (.bool s.on) ∧
        W.cell? ((a.add (i * 4)).add 3) = some (.slice s.p s.n s.c) ∧ Its W s.p s.n s.xs := by
      intro i hil
      obtain ⟨cs', hc, ht⟩ := hi i (by omega)
      rw [cStep] at hc
      obtain ⟨_, hcl, hat⟩ := World.cells?_some hc
      obtain ⟨s, rfl, hits⟩ := step_of ht
      have g0 := hat 0 (by omega)
      have g1 := hat 1 (by omega)
      have g2 := hat 2 (by omega)
      have g3 := hat 3 (by omega)
      rw [add_zero] at g0
      exact ⟨s, g0, g1, g2, g3, hits⟩
    refine ⟨some a, len, cap, fun i => if hil : i < len then Classical.choose (key i hil) else ⟨0, 0, false, none, 0, 0, []⟩, rfl, fun hn => ?_⟩
    obtain ⟨s0, hc0, _⟩ := key 0 hn
    rw [Nat.zero_mul, add_zero] at hc0
    obtain ⟨b, off, rfl⟩ := cell_plain hc0
    refine ⟨b, off, rfl, cell_lt hc0, fun i hil => ?_⟩
    have hs := Classical.choose_spec (key i hil)
    simp only [dif_pos hil]
    simpa only [add_plain] using hs

theorem walk (n m : Int) (p : Option Addr) (L c : Nat) (f : Nat → Stp) (w : World) (hS : StepsP w p L f) (ht : Tab w) :
    Calls Tryd.prog 3 #[.int .i64 n, .slice p L c, .int .i64 m] w fun e w' => e = .returned (.bool true) ∧ Below w.heap.size w w' := by
  by_cases h : 40 < L ∨ (300 < n ∧ n ≤ 1000) ∨ (300 < m ∧ m ≤ 1000)
  · exact (plays_out n m p L c w h ht).mono fun e w' ⟨a, b⟩ => ⟨a, grownBy_below b⟩
  · exact (plays_in n m p L c f w hS (by omega) (by omega) (by omega) ht).mono fun e w' ⟨a, b⟩ => ⟨a, grownBy_below b⟩

set_option maxRecDepth 100000 in
theorem lifted (os : Os) (started : os.Started) (H : Type) (enc : TypeId × Value → H) :
    ReturnsInHanded {} Tryd.checked os 3 .any (fun w args => (Rows.rowPlaysSpec.pre enc Tryd.prog Tryd.f3 [] false w args ∧ laidMetH Tryd.prog laidL w) ∧ sizedMet enc Tryd.prog Tryd.f3 (OpenSpec.ofChange Rows.rowPlaysSpec) false w args)
      (Rows.rowPlaysSpec.post enc Tryd.prog Tryd.f3 false true false false) := by
  refine returnsInHanded_of_change_and (C := Tryd.checked) (X := fun w _ => laidMetH Tryd.prog laidL w) (fun _ _ _ hh h => h.of_heap hh) ownNone started (by kernel_rfl) Tryd.func3
    (ChangeSpec.witness_shaped (enc := enc) (C := Tryd.checked) (os := os) (X := fun w _ => laidMetH Tryd.prog laidL w) false (World.doorLaid Tryd.prog 400 os) #[.int .i64 0, .slice none 0 0, .int .i64 0] 8 rfl (World.shaped_of_RefB (by kernel_rfl) (by kernel_rfl)) (by kernel_rfl) (by kernel_rfl) (by kernel_rfl) (door_met os _)) ?_
  intro W base args ds gs before hval0 hW _ _ hL _
  have hval : ∀ (j : Nat) t v, Tryd.f3.params[j]? = some t → args[j]? = some v → Value.okWide Tryd.prog W .any base t v := hval0
  have hW' := hW
  have hlt := hW.lt
  obtain ⟨p, q, hA0, hV, rfl, hfz, hnd⟩ := hW
  have hA : DataW.TrodAll enc Tryd.prog W 0 (fun _ => true) true Tryd.f3.params.toList args.toList ds p := hA0
  rw [Tryd.params3] at hA hval
  obtain ⟨v0, vs0, d0, ds0, p0, q0, hargs, rfl, rfl, h0, r0⟩ := trodAll_cons hA
  obtain ⟨v1, vs1, d1, ds1, p1, q1, rfl, rfl, rfl, h1, r1⟩ := trodAll_cons r0
  obtain ⟨v2, vs2, d2, ds2, p2, q2, rfl, rfl, rfl, h2, r2⟩ := trodAll_cons r1
  obtain ⟨rfl, rfl, rfl⟩ := trodAll_nil r2
  obtain rfl : args = #[v0, v1, v2] := by cases args; simp_all
  obtain ⟨rfl, rfl⟩ := trodVars_none hV
  obtain ⟨a0, rfl, rfl, rfl, w0⟩ := open_int Tryd.underlying3 (hval 0 3 v0 rfl rfl) h0
  obtain ⟨a1, L, c, f, rfl, hS⟩ := steps_of (hval 1 22 v1 rfl rfl) h1
  obtain ⟨a2, rfl, rfl, rfl, w2⟩ := open_int Tryd.underlying3 (hval 2 3 v2 rfl rfl) h2
  clear hA0 hval0
  simp only [List.append_nil] at hW' hlt
  refine (walk a0 a2 a1 L c f W hS (tab_of_laid hL)).mono fun e W' ⟨he, hg⟩ => ?_
  subst he
  have t1 := Below.trod laidOut (by kernel_rfl) (of_decide_eq_true (by kernel_rfl)) h1 hg (fun x hx => hlt x (by simp [hx]))
  exact ⟨_, rfl, law_post hW' rfl (fun _ _ _ => (trodAll_cons_mk (shut_bool Tryd.underlying4 _) trodAll_mk0)) (trodAll_cons_mk (shut_int Tryd.underlying3 w0) (trodAll_cons_mk t1 (trodAll_cons_mk (shut_int Tryd.underlying3 w2) trodAll_mk0))) rfl hg⟩

theorem over : Rows.RowPlaysSaid :=
  OpenClaim.holds_of_wide 3 Tryd.f3 rfl rfl rfl rfl rfl rfl rfl ⟨rfl, rfl, rfl, rfl, rfl⟩ rfl rfl rfl rfl rfl (by kernel_rfl) Tryd.func3 (by kernel_rfl)
    (of_decide_eq_true (by kernel_rfl)) (by unfold Func.isWrapper; first | (rw [if_pos (by decide +kernel)]; kernel_rfl) | (rw [if_neg (by decide +kernel)]; exact ⟨rfl, rfl⟩))
    (fun os started H enc _ => lifted os started H enc)

theorem proved : Rows.RowPlaysCardSaid :=
  Claim7.holds_tied_plain_at .later [] [.data] true Rows.rowPlaysCard.stood.harness false
    over (fun _ h => by cases h) (by kernel_rfl) (fun _ h => by cases h) rowPlays_row_tie rfl ⟨rfl, rfl⟩ (by kernel_rfl) rfl
    (fun f fn hf hfn => by
      obtain rfl : f = 3 := Option.some.inj ((show Tryd.prog.funcNamed "cento/centolaw1.RowPlays" = some 3 by kernel_rfl).symm.trans hf) |>.symm
      obtain rfl : fn = Tryd.f3 := (Option.some.inj (Tryd.func3.symm.trans hfn)).symm
      exact ⟨by kernel_rfl, fun j t ht => by
        rw [Tryd.params3] at ht
        have hm : t ∈ [3, 22, 3] := by simpa using Array.mem_of_getElem? ht
        have hall : ([3, 22, 3].all fun u => !Tryd.prog.wantsStandIn u) = true := by kernel_rfl
        exact (show Tryd.prog.wantsStandIn t = false by simpa using List.all_eq_true.1 hall t hm)⟩)
    (by kernel_rfl)
#print axioms proved
end Go.Proofs.YtnbigkknabdnjaaDoor.rowPlays
