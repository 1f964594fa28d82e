/- ColimSteps: at every input the call answers true, and each argument reads behind the call as it read before; tied: the table that math/bits reads is what the program's text lays. -/
import Derived.Test.YtemnbkenihldgaaDoorArgs
import Derived.Test.YtemnbkenihldgaaDoorSteps9
import Derived.Test.YtemnbkenihldgaaDoorArgs4
namespace Go.Proofs.YtemnbkenihldgaaDoor.colimSteps
open Go.ChangeShapes Go.WideShapes Go.ChangeAt Go.WideMaps Go.WideElems Go.RowKit Go.Deep

theorem walk (p0 : Option Addr) (n0 c0 : Nat) (q0 : Option Addr) (m0 d0 : Nat) (L0 : List ByteArray) (P0 : List (Int × Int)) (p1 : Option Addr) (n1 c1 : Nat) (q1 : Option Addr) (m1 d1 : Nat) (L1 : List ByteArray) (P1 : List (Int × Int)) (p2 : Option Addr) (n2 c2 : Nat) (q2 : Option Addr) (m2 d2 : Nat) (L2 : List ByteArray) (P2 : List (Int × Int)) (a3 : Int) (a4 : Int) (w : World) (h0 : OArg w p0 n0 c0 q0 m0 d0 L0 P0) (h1 : OArg w p1 n1 c1 q1 m1 d1 L1 P1) (h2 : OArg w p2 n2 c2 q2 m2 d2 L2 P2) (w3 : (Lit.int .u8 a3).wf = true) (w4 : (Lit.int .u8 a4).wf = true) (ht : Tab w) :
    Calls Tryd.prog 3 #[.agg #[.slice p0 n0 c0, .slice q0 m0 d0], .agg #[.slice p1 n1 c1, .slice q1 m1 d1], .agg #[.slice p2 n2 c2, .slice q2 m2 d2], .int .u8 a3, .int .u8 a4] w fun e w' => e = .returned (.bool true) ∧ Below w.heap.size w w' := by
  obtain ⟨n, rfl, hn⟩ := byte_of w3
  obtain ⟨m, rfl, hm⟩ := byte_of w4
  exact (colimSteps_in p0 q0 p1 q1 p2 q2 n0 c0 m0 d0 n1 c1 m1 d1 n2 c2 m2 d2 _ _ _ _ _ _ n m L0 L1 L2 P0 P1 P2 w h0.at' h1.at' h2.at' h0.len h1.len h2.len h1.none' h2.none' h1.none2 h2.none2 h0.none' h0.none2 hn hm ht).mono fun e w' ⟨a, b⟩ => ⟨a, grownBy_below b⟩

set_option maxRecDepth 100000 in
theorem lifted (os : Os) (started : os.Started) (H : Type) (enc : TypeId × Value → H) :
    ReturnsInHanded {} Tryd.checked os 3 .any (fun w args => (Rows.colimStepsSpec.pre enc Tryd.prog Tryd.f3 [] false w args ∧ laidMetH Tryd.prog laidL w) ∧ sizedMet enc Tryd.prog Tryd.f3 (OpenSpec.ofChange Rows.colimStepsSpec) false w args)
      (Rows.colimStepsSpec.post enc Tryd.prog Tryd.f3 false true false false) := by
  refine returnsInHanded_of_change_and (C := Tryd.checked) (X := fun w _ => laidMetH Tryd.prog laidL w) (fun _ _ _ hh h => h.of_heap hh) ownNone started (by kernel_rfl) Tryd.func3
    (ChangeSpec.witness_shaped (enc := enc) (C := Tryd.checked) (os := os) (X := fun w _ => laidMetH Tryd.prog laidL w) false (World.doorLaid Tryd.prog 400 os) #[.agg #[.slice none 0 0, .slice none 0 0], .agg #[.slice none 0 0, .slice none 0 0], .agg #[.slice none 0 0, .slice none 0 0], .int .u8 0, .int .u8 0] 8 rfl (World.shaped_of_RefB (by kernel_rfl) (by kernel_rfl)) (by kernel_rfl) (by kernel_rfl) (by kernel_rfl) (door_met os _)) ?_
  intro W base args ds gs before hval0 hW _ _ hL _
  have hval : ∀ (j : Nat) t v, Tryd.f3.params[j]? = some t → args[j]? = some v → Value.okWide Tryd.prog W .any base t v := hval0
  have hW' := hW
  have hlt := hW.lt
  obtain ⟨p, q, hA0, hV, rfl, hfz, hnd⟩ := hW
  have hA : DataW.TrodAll enc Tryd.prog W 0 (fun _ => true) true Tryd.f3.params.toList args.toList ds p := hA0
  rw [Tryd.params3] at hA hval
  obtain ⟨v0, vs0, d0, ds0, q0, r0, hargs, rfl, rfl, t0, s0⟩ := trodAll_cons hA
  obtain ⟨v1, vs1, d1, ds1, q1, r1, rfl, rfl, rfl, t1, s1⟩ := trodAll_cons s0
  obtain ⟨v2, vs2, d2, ds2, q2, r2, rfl, rfl, rfl, t2, s2⟩ := trodAll_cons s1
  obtain ⟨v3, vs3, d3, ds3, q3, r3, rfl, rfl, rfl, t3, s3⟩ := trodAll_cons s2
  obtain ⟨v4, vs4, d4, ds4, q4, r4, rfl, rfl, rfl, t4, s4⟩ := trodAll_cons s3
  obtain ⟨rfl, rfl, rfl⟩ := trodAll_nil s4
  obtain rfl : args = #[v0, v1, v2, v3, v4] := by cases args; simp_all
  obtain ⟨rfl, rfl⟩ := trodVars_none hV
  obtain ⟨a0, n0, c0, b0, m0, e0, L0, P0, rfl, u0⟩ := objAt_of (hval 0 25 v0 rfl rfl) t0
  obtain ⟨a1, n1, c1, b1, m1, e1, L1, P1, rfl, u1⟩ := objAt_of (hval 1 25 v1 rfl rfl) t1
  obtain ⟨a2, n2, c2, b2, m2, e2, L2, P2, rfl, u2⟩ := objAt_of (hval 2 25 v2 rfl rfl) t2
  obtain ⟨a3, rfl, rfl, rfl, u3⟩ := open_int Tryd.underlying5 (hval 3 5 v3 rfl rfl) t3
  obtain ⟨a4, rfl, rfl, rfl, u4⟩ := open_int Tryd.underlying5 (hval 4 5 v4 rfl rfl) t4
  clear hA0 hval0
  simp only [List.append_nil] at hW' hlt
  refine (walk a0 n0 c0 b0 m0 e0 L0 P0 a1 n1 c1 b1 m1 e1 L1 P1 a2 n2 c2 b2 m2 e2 L2 P2 a3 a4 W u0 u1 u2 u3 u4 (tab_of_laid hL)).mono fun e W' ⟨he, hg⟩ => ?_
  subst he
  have z0 := Below.trod laidOut (by kernel_rfl) (of_decide_eq_true (by kernel_rfl)) t0 hg (fun x hx => hlt x (by simp [hx]))
  have z1 := Below.trod laidOut (by kernel_rfl) (of_decide_eq_true (by kernel_rfl)) t1 hg (fun x hx => hlt x (by simp [hx]))
  have z2 := Below.trod laidOut (by kernel_rfl) (of_decide_eq_true (by kernel_rfl)) t2 hg (fun x hx => hlt x (by simp [hx]))
  exact ⟨_, rfl, law_post hW' rfl (fun _ _ _ => (trodAll_cons_mk (shut_bool Tryd.underlying4 _) trodAll_mk0)) (trodAll_cons_mk z0 (trodAll_cons_mk z1 (trodAll_cons_mk z2 (trodAll_cons_mk (shut_int Tryd.underlying5 u3) (trodAll_cons_mk (shut_int Tryd.underlying5 u4) trodAll_mk0))))) rfl hg⟩

theorem over : Rows.ColimStepsSaid :=
  OpenClaim.holds_of_wide 3 Tryd.f3 rfl rfl rfl rfl rfl rfl rfl ⟨rfl, rfl, rfl, rfl, rfl⟩ rfl rfl rfl rfl rfl (by kernel_rfl) Tryd.func3 (by kernel_rfl)
    (of_decide_eq_true (by kernel_rfl)) (by unfold Func.isWrapper; first | (rw [if_pos (by decide +kernel)]; kernel_rfl) | (rw [if_neg (by decide +kernel)]; exact ⟨rfl, rfl⟩))
    (fun os started H enc _ => lifted os started H enc)

theorem proved : Rows.ColimStepsCardSaid :=
  Claim7.holds_tied_plain_at .later [] [.data] true Rows.colimStepsCard.stood.harness false
    over (fun _ h => by cases h) (by kernel_rfl) (fun _ h => by cases h) colimSteps_row_tie rfl ⟨rfl, rfl⟩ (by kernel_rfl) rfl
    (fun f fn hf hfn => by
      obtain rfl : f = 3 := Option.some.inj ((show Tryd.prog.funcNamed "cento/centolaw9.ColimSteps" = some 3 by kernel_rfl).symm.trans hf) |>.symm
      obtain rfl : fn = Tryd.f3 := (Option.some.inj (Tryd.func3.symm.trans hfn)).symm
      exact ⟨by kernel_rfl, fun j t ht => by
        rw [Tryd.params3] at ht
        have hm : t ∈ [25, 25, 25, 5, 5] := by simpa using Array.mem_of_getElem? ht
        have hall : ([25, 25, 25, 5, 5].all fun u => !Tryd.prog.wantsStandIn u) = true := by kernel_rfl
        exact (show Tryd.prog.wantsStandIn t = false by simpa using List.all_eq_true.1 hall t hm)⟩)
    (by kernel_rfl)
#print axioms proved
end Go.Proofs.YtemnbkenihldgaaDoor.colimSteps
