/- PatchCopies: at every input the call answers true, and each argument reads behind the call as it read before. -/
import Derived.Test.YtcfhnfnhdhloiaaArgsP
import Derived.Test.YtcfhnfnhdhloiaaCpyB
import Derived.Test.YtcfhnfnhdhloiaaArgT
namespace Go.Proofs.Ytcfhnfnhdhloiaa.patchCopies
open Go.ChangeShapes Go.WideShapes Go.ChangeAt Go.WideMaps Go.WideElems Go.RowKit Go.Deep

theorem walk (id0 : Nat) (pd0 : Option Addr) (nd0 cd0 : Nat) (pm0 : Option Addr) (nm0 cm0 : Nat) (px0 : Option Addr) (nx0 cx0 : Nat) (ph0 : Option Addr) (nh0 ch0 : Nat) (P0 : Pt) (w : World) (h0 : PArg w id0 pd0 nd0 cd0 pm0 nm0 cm0 px0 nx0 cx0 ph0 nh0 ch0 P0) :
    Calls Try.prog 3 #[.agg #[.int .u32 (id0 : Int), .slice pd0 nd0 cd0, .slice pm0 nm0 cm0, .slice px0 nx0 cx0, .slice ph0 nh0 ch0]] w fun e w' => e = .returned (.bool true) ∧ Below w.heap.size w w' := by
  exact (copies_c id0 pd0 nd0 cd0 pm0 nm0 cm0 px0 nx0 cx0 ph0 nh0 ch0 P0 w h0).mono fun e w' ⟨he, hg⟩ => ⟨he, grownBy_below hg⟩

set_option maxRecDepth 100000 in
theorem lifted (os : Os) (started : os.Started) (H : Type) (enc : TypeId × Value → H) :
    ReturnsInHanded {} Try.checked os 3 .any (Rows.patchCopiesSpec.pre6 enc Try.prog Try.f3 Rows.patchCopiesRow.domain false)
      (Rows.patchCopiesSpec.post enc Try.prog Try.f3 false true false false) := by
  refine returnsInHanded_of_change (C := Try.checked) ownNone started (by kernel_rfl) Try.func3
    (ChangeSpec.witness6 (enc := enc) (C := Try.checked) false ⟨#[], #[.agg #[.int .u32 0, .slice none 0 0, .slice none 0 0, .slice none 0 0, .slice none 0 0]], []⟩ 8 (by kernel_rfl) (by kernel_rfl) (by kernel_rfl) (by kernel_rfl)) ?_
  intro W base args ds gs before hval0 hW _ _
  have hval : ∀ (j : Nat) t v, Try.f3.params[j]? = some t → args[j]? = some v → Value.okWide Try.prog W .any base t v := hval0
  have hW' := hW
  have hlt := hW.lt
  obtain ⟨p, q, hA0, hV, rfl, hfz, hnd⟩ := hW
  have hA : DataW.TrodAll enc Try.prog W 0 (fun _ => true) true Try.f3.params.toList args.toList ds p := hA0
  rw [Try.params3] at hA hval
  obtain ⟨v0, vs0, d0, ds0, q0, r0, hargs, rfl, rfl, t0, s0⟩ := trodAll_cons hA
  obtain ⟨rfl, rfl, rfl⟩ := trodAll_nil s0
  obtain rfl : args = #[v0] := by cases args; simp_all
  obtain ⟨rfl, rfl⟩ := trodVars_none hV
  obtain ⟨id0, pd0, nd0, cd0, pm0, nm0, cm0, px0, nx0, cx0, ph0, nh0, ch0, P0, rfl, u0⟩ := ptAt_of (hval 0 27 v0 rfl rfl) t0
  clear hA0 hval0
  simp only [List.append_nil] at hW' hlt
  refine (walk id0 pd0 nd0 cd0 pm0 nm0 cm0 px0 nx0 cx0 ph0 nh0 ch0 P0 W u0 ).mono fun e W' ⟨he, hg⟩ => ?_
  subst he
  have z0 := Below.trod laidOut (by kernel_rfl) (of_decide_eq_true (by kernel_rfl)) t0 hg (fun x hx => hlt x (by simp [hx]))
  exact ⟨_, rfl, law_post hW' rfl (fun _ _ _ => (trodAll_cons_mk (shut_bool Try.underlying4 _) trodAll_mk0)) (trodAll_cons_mk z0 trodAll_mk0) rfl hg⟩

theorem over : Rows.PatchCopiesSaid :=
  OpenClaim.holds_of_wide 3 Try.f3 rfl rfl rfl rfl rfl rfl rfl ⟨rfl, rfl, rfl, rfl, rfl⟩ rfl rfl rfl rfl rfl (by kernel_rfl) Try.func3 (by kernel_rfl)
    (of_decide_eq_true (by kernel_rfl)) (by unfold Func.isWrapper; first | (rw [if_pos (by decide +kernel)]; kernel_rfl) | (rw [if_neg (by decide +kernel)]; exact ⟨rfl, rfl⟩))
    (fun os started H enc _ => lifted os started H enc)

theorem proved : Rows.PatchCopiesSaid := over
#print axioms proved
end Go.Proofs.Ytcfhnfnhdhloiaa.patchCopies
