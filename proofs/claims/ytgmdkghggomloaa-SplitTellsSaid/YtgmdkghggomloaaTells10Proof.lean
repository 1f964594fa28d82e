/- SplitTells: at every input the call answers true, and each argument reads behind the call as it read before. -/
import Derived.Test.YtgmdkghggomloaaArgsP
import Derived.Test.YtgmdkghggomloaaBack10
import Derived.Test.YtgmdkghggomloaaArgs4P
import Derived.ChangeMaps5
namespace Go.Proofs.Ytgmdkghggomloaa.splitTells
open Go.ChangeShapes Go.WideShapes Go.ChangeAt Go.WideMaps Go.WideElems Go.RowKit Go.Deep

theorem walk (s0 : ByteArray) (p1 : Option Addr) (L1 c1 : Nat) (l1 : List ByteArray) (w : World) (h1 : SArg w p1 L1 c1 l1) :
    Calls Try.prog 3 #[.string s0, .slice p1 L1 c1] w fun e w' => e = .returned (.bool true) ∧ Below w.heap.size w w' := by
  exact splitTells_w s0 p1 L1 c1 l1 w h1

set_option maxRecDepth 100000 in
theorem lifted (os : Os) (started : os.Started) (H : Type) (enc : TypeId × Value → H) :
    ReturnsInHanded {} Try.checked os 3 .any (Rows.splitTellsSpec.pre6 enc Try.prog Try.f3 Rows.splitTellsRow.domain false)
      (Rows.splitTellsSpec.post enc Try.prog Try.f3 false true false false) := by
  refine returnsInHanded_of_change (C := Try.checked) ownNone started (by kernel_rfl) Try.func3
    (ChangeSpec.witness6 (enc := enc) (C := Try.checked) false ⟨#[], #[.string .empty, .slice none 0 0], []⟩ 8 (by kernel_rfl) (by kernel_rfl) (by kernel_rfl) (by kernel_rfl)) ?_
  intro W base args ds gs before hval0 hW _ _
  have hval : ∀ (j : Nat) t v, Try.f3.params[j]? = some t → args[j]? = some v → Value.okWide Try.prog W .any base t v := hval0
  have hW' := hW
  have hlt := hW.lt
  obtain ⟨p, q, hA0, hV, rfl, hfz, hnd⟩ := hW
  have hA : DataW.TrodAll enc Try.prog W 0 (fun _ => true) true Try.f3.params.toList args.toList ds p := hA0
  rw [Try.params3] at hA hval
  obtain ⟨v0, vs0, d0, ds0, q0, r0, hargs, rfl, rfl, t0, s0⟩ := trodAll_cons hA
  obtain ⟨v1, vs1, d1, ds1, q1, r1, rfl, rfl, rfl, t1, s1⟩ := trodAll_cons s0
  obtain ⟨rfl, rfl, rfl⟩ := trodAll_nil s1
  obtain rfl : args = #[v0, v1] := by cases args; simp_all
  obtain ⟨rfl, rfl⟩ := trodVars_none hV
  obtain ⟨a0, rfl, rfl, rfl, u0⟩ := Go.ChangeMaps.open_string Try.underlying9 (hval 0 9 v0 rfl rfl) t0
  obtain ⟨a1, L1, c1, l1, rfl, u1⟩ := strsAt_of (hval 1 22 v1 rfl rfl) t1
  clear hA0 hval0
  simp only [List.append_nil] at hW' hlt
  refine (walk a0 a1 L1 c1 l1 W u1 ).mono fun e W' ⟨he, hg⟩ => ?_
  subst he
  have z1 := Below.trod laidOut (by kernel_rfl) (of_decide_eq_true (by kernel_rfl)) t1 hg (fun x hx => hlt x (by simp [hx]))
  exact ⟨_, rfl, law_post hW' rfl (fun _ _ _ => (trodAll_cons_mk (shut_bool Try.underlying4 _) trodAll_mk0)) (trodAll_cons_mk (Go.ChangeMaps.shut_string Try.underlying9 u0) (trodAll_cons_mk z1 trodAll_mk0)) rfl hg⟩

theorem over : Rows.SplitTellsSaid :=
  OpenClaim.holds_of_wide 3 Try.f3 rfl rfl rfl rfl rfl rfl rfl ⟨rfl, rfl, rfl, rfl, rfl⟩ rfl rfl rfl rfl rfl (by kernel_rfl) Try.func3 (by kernel_rfl)
    (of_decide_eq_true (by kernel_rfl)) (by unfold Func.isWrapper; first | (rw [if_pos (by decide +kernel)]; kernel_rfl) | (rw [if_neg (by decide +kernel)]; exact ⟨rfl, rfl⟩))
    (fun os started H enc _ => lifted os started H enc)

theorem proved : Rows.SplitTellsSaid := over
#print axioms proved
end Go.Proofs.Ytgmdkghggomloaa.splitTells
