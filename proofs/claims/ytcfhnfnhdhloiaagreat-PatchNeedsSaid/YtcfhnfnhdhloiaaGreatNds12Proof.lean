/- PatchNeeds: at every input the call answers true, and each argument reads behind the call as it read before. -/
import Derived.Test.YtcfhnfnhdhloiaaGreatArgsP
import Derived.Test.YtcfhnfnhdhloiaaGreatNds12
import Derived.Test.YtcfhnfnhdhloiaaGreatArgT
namespace Go.Proofs.YtcfhnfnhdhloiaaGreat.patchNeeds
open Go.ChangeShapes Go.WideShapes Go.ChangeAt Go.WideMaps Go.WideElems Go.RowKit Go.Deep

theorem walk (id0 : Nat) (pd0 : Option Addr) (nd0 cd0 : Nat) (pm0 : Option Addr) (nm0 cm0 : Nat) (px0 : Option Addr) (nx0 cx0 : Nat) (ph0 : Option Addr) (nh0 ch0 : Nat) (P0 : Pt) (a1 : Int) (w : World) (h0 : PArg w id0 pd0 nd0 cd0 pm0 nm0 cm0 px0 nx0 cx0 ph0 nh0 ch0 P0) (w1 : (Lit.int .u8 a1).wf = true) :
    Calls Tryz.prog 4 #[.agg #[.int .u32 (id0 : Int), .slice pd0 nd0 cd0, .slice pm0 nm0 cm0, .slice px0 nx0 cx0, .slice ph0 nh0 ch0], .int .u8 a1] w fun e w' => e = .returned (.bool true) ∧ Below w.heap.size w w' := by
  have key : ∀ {a : Int}, (Lit.int .u8 a).wf = true → ∃ n : Nat, a = n ∧ n < 256 := fun {a} h => by
    have h' := h
    simp [Lit.wf, IntKind.min, IntKind.max, IntKind.bits, IntKind.signed] at h'
    exact ⟨a.toNat, by omega, by omega⟩
  obtain ⟨n1, rfl, h1⟩ := key w1
  exact (needs12_w id0 pd0 nd0 cd0 pm0 nm0 cm0 px0 nx0 cx0 ph0 nh0 ch0 P0 n1 h1 w h0).mono fun e w' ⟨he, hg⟩ => ⟨he, grownBy_below hg⟩

set_option maxRecDepth 100000 in
theorem lifted (os : Os) (started : os.Started) (H : Type) (enc : TypeId × Value → H) :
    ReturnsInHanded {} Tryz.checked os 4 .any (Rows.patchNeedsSpec.pre6 enc Tryz.prog Tryz.f4 Rows.patchNeedsRow.domain false)
      (Rows.patchNeedsSpec.post enc Tryz.prog Tryz.f4 false true false false) := by
  refine returnsInHanded_of_change (C := Tryz.checked) ownNone started (by kernel_rfl) Tryz.func4
    (ChangeSpec.witness6 (enc := enc) (C := Tryz.checked) false ⟨#[], #[.agg #[.int .u32 0, .slice none 0 0, .slice none 0 0, .slice none 0 0, .slice none 0 0], .int .u8 0], []⟩ 8 (by kernel_rfl) (by kernel_rfl) (by kernel_rfl) (by kernel_rfl)) ?_
  intro W base args ds gs before hval0 hW _ _
  have hval : ∀ (j : Nat) t v, Tryz.f4.params[j]? = some t → args[j]? = some v → Value.okWide Tryz.prog W .any base t v := hval0
  have hW' := hW
  have hlt := hW.lt
  obtain ⟨p, q, hA0, hV, rfl, hfz, hnd⟩ := hW
  have hA : DataW.TrodAll enc Tryz.prog W 0 (fun _ => true) true Tryz.f4.params.toList args.toList ds p := hA0
  rw [Tryz.params4] at hA hval
  obtain ⟨v0, vs0, d0, ds0, q0, r0, hargs, rfl, rfl, t0, s0⟩ := trodAll_cons hA
  obtain ⟨v1, vs1, d1, ds1, q1, r1, rfl, rfl, rfl, t1, s1⟩ := trodAll_cons s0
  obtain ⟨rfl, rfl, rfl⟩ := trodAll_nil s1
  obtain rfl : args = #[v0, v1] := by cases args; simp_all
  obtain ⟨rfl, rfl⟩ := trodVars_none hV
  obtain ⟨id0, pd0, nd0, cd0, pm0, nm0, cm0, px0, nx0, cx0, ph0, nh0, ch0, P0, rfl, u0⟩ := ptAt_of (hval 0 27 v0 rfl rfl) t0
  obtain ⟨a1, rfl, rfl, rfl, u1⟩ := open_int Tryz.underlying5 (hval 1 5 v1 rfl rfl) t1
  clear hA0 hval0
  simp only [List.append_nil] at hW' hlt
  refine (walk id0 pd0 nd0 cd0 pm0 nm0 cm0 px0 nx0 cx0 ph0 nh0 ch0 P0 a1 W u0 u1 ).mono fun e W' ⟨he, hg⟩ => ?_
  subst he
  have z0 := Below.trod laidOut (by kernel_rfl) (of_decide_eq_true (by kernel_rfl)) t0 hg (fun x hx => hlt x (by simp [hx]))
  exact ⟨_, rfl, law_post hW' rfl (fun _ _ _ => (trodAll_cons_mk (shut_bool Tryz.underlying4 _) trodAll_mk0)) (trodAll_cons_mk z0 (trodAll_cons_mk (shut_int Tryz.underlying5 u1) trodAll_mk0)) rfl hg⟩

theorem over : Rows.PatchNeedsSaid :=
  OpenClaim.holds_of_wide 4 Tryz.f4 rfl rfl rfl rfl rfl rfl rfl ⟨rfl, rfl, rfl, rfl, rfl⟩ rfl rfl rfl rfl rfl (by kernel_rfl) Tryz.func4 (by kernel_rfl)
    (of_decide_eq_true (by kernel_rfl)) (by unfold Func.isWrapper; first | (rw [if_pos (by decide +kernel)]; kernel_rfl) | (rw [if_neg (by decide +kernel)]; exact ⟨rfl, rfl⟩))
    (fun os started H enc _ => lifted os started H enc)

theorem proved : Rows.PatchNeedsSaid := over
#print axioms proved
end Go.Proofs.YtcfhnfnhdhloiaaGreat.patchNeeds
