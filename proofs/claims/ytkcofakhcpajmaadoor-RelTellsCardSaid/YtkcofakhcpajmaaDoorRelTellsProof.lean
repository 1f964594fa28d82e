/- RelTells: at every input the call answers true, and each argument reads behind the call as it read before; tied: the table that math/bits reads is what the program's text lays. -/
import Derived.Test.YtkcofakhcpajmaaDoorArgs
import Derived.Test.YtkcofakhcpajmaaDoorRelTells
namespace Go.Proofs.YtkcofakhcpajmaaDoor.relTells
open Go.ChangeShapes Go.WideShapes Go.ChangeAt Go.WideMaps Go.WideElems Go.RowKit Go.Deep

theorem walk (a0 : Int) (p1 : Option Addr) (L1 c1 : Nat) (l1 : List (Int × Int)) (p2 : Option Addr) (L2 c2 : Nat) (l2 : List Bool) (a3 : Int) (a4 : Int) (w : World) (_w0 : (Lit.int .i64 a0).wf = true) (h1 : PairsAt w 0 w.heap.size p1 L1 l1) (h2 : BoolsAt w 0 w.heap.size p2 L2 l2) (_w3 : (Lit.int .i64 a3).wf = true) (_w4 : (Lit.int .i64 a4).wf = true) (ht : Tab w) :
    Calls Tryd.prog 3 #[.int .i64 a0, .slice p1 L1 c1, .slice p2 L2 c2, .int .i64 a3, .int .i64 a4] w fun e w' => e = .returned (.bool true) ∧ Below w.heap.size w w' := by
  by_cases h : tellsOut a0 L1 L2
  · exact (relTells_out a0 a3 a4 L1 c1 L2 c2 p1 p2 w ht h).mono fun e w' ⟨a, b⟩ => ⟨a, grownBy_below b⟩
  · have hb : ¬ ((40 < a0 ∧ a0 ≤ 200) ∨ 120 < L1 ∨ 60 < L2) := h
    by_cases he : ofErr a0 l1 = 0
    · have hr : 0 ≤ a0 ∧ a0 ≤ 200 := by
        by_cases hx : a0 < 0 ∨ 200 < a0
        · unfold ofErr at he
          rw [if_pos hx] at he
          exact absurd he (by decide)
        · omega
      obtain ⟨n, rfl⟩ := Int.eq_ofNat_of_zero_le hr.1
      exact (relTells_ok n a3 a4 L1 c1 L2 c2 0 w.heap.size 0 w.heap.size p1 p2 l1 l2 w h1 h2 ht (by omega) (by omega) (by omega) he).mono fun e w' ⟨a, b⟩ => ⟨a, grownBy_below b⟩
    · have hk : ofErr a0 l1 = 10 ∨ ofErr a0 l1 = 11 := by
        unfold ofErr at he ⊢
        by_cases hx : a0 < 0 ∨ 200 < a0
        · rw [if_pos hx]; exact .inr rfl
        · rw [if_neg hx] at he ⊢
          cases hal : allIn a0.toNat l1
          · rw [if_neg (by simp)]; exact .inl rfl
          · rw [hal] at he; exact absurd rfl he
      exact (relTells_err a0 a3 a4 _ L1 c1 L2 c2 0 w.heap.size p1 p2 l1 w h1 ht (by omega) (by omega) (by omega) rfl hk).mono fun e w' ⟨a, b⟩ => ⟨a, grownBy_below b⟩

set_option maxRecDepth 100000 in
theorem lifted (os : Os) (started : os.Started) (H : Type) (enc : TypeId × Value → H) :
    ReturnsInHanded {} Tryd.checked os 3 .any (fun w args => (Rows.relTellsSpec.pre enc Tryd.prog Tryd.f3 [] false w args ∧ laidMetH Tryd.prog laidL w) ∧ sizedMet enc Tryd.prog Tryd.f3 (OpenSpec.ofChange Rows.relTellsSpec) false w args)
      (Rows.relTellsSpec.post enc Tryd.prog Tryd.f3 false true false false) := by
  refine returnsInHanded_of_change_and (C := Tryd.checked) (X := fun w _ => laidMetH Tryd.prog laidL w) (fun _ _ _ hh h => h.of_heap hh) ownNone started (by kernel_rfl) Tryd.func3
    (ChangeSpec.witness_shaped (enc := enc) (C := Tryd.checked) (os := os) (X := fun w _ => laidMetH Tryd.prog laidL w) false (World.doorLaid Tryd.prog 400 os) #[.int .i64 0, .slice none 0 0, .slice none 0 0, .int .i64 0, .int .i64 0] 8 rfl (World.shaped_of_RefB (by kernel_rfl) (by kernel_rfl)) (by kernel_rfl) (by kernel_rfl) (by kernel_rfl) (door_met os _)) ?_
  intro W base args ds gs before hval0 hW _ _ hL _
  have hval : ∀ (j : Nat) t v, Tryd.f3.params[j]? = some t → args[j]? = some v → Value.okWide Tryd.prog W .any base t v := hval0
  have hW' := hW
  have hlt := hW.lt
  obtain ⟨p, q, hA0, hV, rfl, hfz, hnd⟩ := hW
  have hA : DataW.TrodAll enc Tryd.prog W 0 (fun _ => true) true Tryd.f3.params.toList args.toList ds p := hA0
  rw [Tryd.params3] at hA hval
  obtain ⟨v0, vs0, d0, ds0, q0, r0, hargs, rfl, rfl, t0, s0⟩ := trodAll_cons hA
  obtain ⟨v1, vs1, d1, ds1, q1, r1, rfl, rfl, rfl, t1, s1⟩ := trodAll_cons s0
  obtain ⟨v2, vs2, d2, ds2, q2, r2, rfl, rfl, rfl, t2, s2⟩ := trodAll_cons s1
  obtain ⟨v3, vs3, d3, ds3, q3, r3, rfl, rfl, rfl, t3, s3⟩ := trodAll_cons s2
  obtain ⟨v4, vs4, d4, ds4, q4, r4, rfl, rfl, rfl, t4, s4⟩ := trodAll_cons s3
  obtain ⟨rfl, rfl, rfl⟩ := trodAll_nil s4
  obtain rfl : args = #[v0, v1, v2, v3, v4] := by cases args; simp_all
  obtain ⟨rfl, rfl⟩ := trodVars_none hV
  obtain ⟨a0, rfl, rfl, rfl, u0⟩ := open_int Tryd.underlying3 (hval 0 3 v0 rfl rfl) t0
  obtain ⟨a1, L1, c1, l1, rfl, u1⟩ := pairsAt_of (hval 1 22 v1 rfl rfl) t1
  obtain ⟨a2, L2, c2, l2, rfl, u2⟩ := boolsAt_of (hval 2 23 v2 rfl rfl) t2
  obtain ⟨a3, rfl, rfl, rfl, u3⟩ := open_int Tryd.underlying3 (hval 3 3 v3 rfl rfl) t3
  obtain ⟨a4, rfl, rfl, rfl, u4⟩ := open_int Tryd.underlying3 (hval 4 3 v4 rfl rfl) t4
  clear hA0 hval0
  simp only [List.append_nil] at hW' hlt
  refine (walk a0 a1 L1 c1 l1 a2 L2 c2 l2 a3 a4 W u0 u1 u2 u3 u4 (tab_of_laid hL)).mono fun e W' ⟨he, hg⟩ => ?_
  subst he
  have z1 := Below.trod laidOut (by kernel_rfl) (of_decide_eq_true (by kernel_rfl)) t1 hg (fun x hx => hlt x (by simp [hx]))
  have z2 := Below.trod laidOut (by kernel_rfl) (of_decide_eq_true (by kernel_rfl)) t2 hg (fun x hx => hlt x (by simp [hx]))
  exact ⟨_, rfl, law_post hW' rfl (fun _ _ _ => (trodAll_cons_mk (shut_bool Tryd.underlying4 _) trodAll_mk0)) (trodAll_cons_mk (shut_int Tryd.underlying3 u0) (trodAll_cons_mk z1 (trodAll_cons_mk z2 (trodAll_cons_mk (shut_int Tryd.underlying3 u3) (trodAll_cons_mk (shut_int Tryd.underlying3 u4) trodAll_mk0))))) rfl hg⟩

theorem over : Rows.RelTellsSaid :=
  OpenClaim.holds_of_wide 3 Tryd.f3 rfl rfl rfl rfl rfl rfl rfl ⟨rfl, rfl, rfl, rfl, rfl⟩ rfl rfl rfl rfl rfl (by kernel_rfl) Tryd.func3 (by kernel_rfl)
    (of_decide_eq_true (by kernel_rfl)) (by unfold Func.isWrapper; first | (rw [if_pos (by decide +kernel)]; kernel_rfl) | (rw [if_neg (by decide +kernel)]; exact ⟨rfl, rfl⟩))
    (fun os started H enc _ => lifted os started H enc)

theorem proved : Rows.RelTellsCardSaid :=
  Claim7.holds_tied_plain_at .later [] [.data] true Rows.relTellsCard.stood.harness false
    over (fun _ h => by cases h) (by kernel_rfl) (fun _ h => by cases h) relTells_row_tie rfl ⟨rfl, rfl⟩ (by kernel_rfl) rfl
    (fun f fn hf hfn => by
      obtain rfl : f = 3 := Option.some.inj ((show Tryd.prog.funcNamed "cento/centolaw2.RelTells" = some 3 by kernel_rfl).symm.trans hf) |>.symm
      obtain rfl : fn = Tryd.f3 := (Option.some.inj (Tryd.func3.symm.trans hfn)).symm
      exact ⟨by kernel_rfl, fun j t ht => by
        rw [Tryd.params3] at ht
        have hm : t ∈ [3, 22, 23, 3, 3] := by simpa using Array.mem_of_getElem? ht
        have hall : ([3, 22, 23, 3, 3].all fun u => !Tryd.prog.wantsStandIn u) = true := by kernel_rfl
        exact (show Tryd.prog.wantsStandIn t = false by simpa using List.all_eq_true.1 hall t hm)⟩)
    (by kernel_rfl)
#print axioms proved
end Go.Proofs.YtkcofakhcpajmaaDoor.relTells
