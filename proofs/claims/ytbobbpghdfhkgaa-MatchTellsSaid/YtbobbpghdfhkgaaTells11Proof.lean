/- MatchTells: at every input the call answers true, and each argument reads behind the call as it read before. -/
import Derived.Test.YtbobbpghdfhkgaaArgsP
import Derived.Test.YtbobbpghdfhkgaaTells11
import Derived.Test.YtbobbpghdfhkgaaArgsU
namespace Go.Proofs.Ytbobbpghdfhkgaa.matchTells
open Go.ChangeShapes Go.WideShapes Go.ChangeAt Go.WideMaps Go.WideElems Go.RowKit Go.Deep

theorem walk (p0 : Option Addr) (L0 c0 : Nat) (l0 : List Nat) (p1 : Option Addr) (L1 c1 : Nat) (l1 : List Nat) (p2 : Option Addr) (L2 c2 : Nat) (l2 : List (Int × Int)) (w : World) (h0 : UsAt w 0 w.heap.size p0 L0 l0) (h1 : UsAt w 0 w.heap.size p1 L1 l1) (h2 : PairsAt w 0 w.heap.size p2 L2 l2) :
    Calls Try.prog 3 #[.slice p0 L0 c0, .slice p1 L1 c1, .slice p2 L2 c2] w fun e w' => e = .returned (.bool true) ∧ Below w.heap.size w w' := by
  exact matchTells_w p0 p1 p2 L0 L1 L2 c0 c1 c2 _ _ _ _ _ _ l0 l1 l2 w h0 h1 h2

set_option maxRecDepth 100000 in
theorem lifted (os : Os) (started : os.Started) (H : Type) (enc : TypeId × Value → H) :
    ReturnsInHanded {} Try.checked os 3 .any (Rows.matchTellsSpec.pre6 enc Try.prog Try.f3 Rows.matchTellsRow.domain false)
      (Rows.matchTellsSpec.post enc Try.prog Try.f3 false true false false) := by
  refine returnsInHanded_of_change (C := Try.checked) ownNone started (by kernel_rfl) Try.func3
    (ChangeSpec.witness6 (enc := enc) (C := Try.checked) false ⟨#[], #[.slice none 0 0, .slice none 0 0, .slice none 0 0], []⟩ 8 (by kernel_rfl) (by kernel_rfl) (by kernel_rfl) (by kernel_rfl)) ?_
  intro W base args ds gs before hval0 hW _ _
  have hval : ∀ (j : Nat) t v, Try.f3.params[j]? = some t → args[j]? = some v → Value.okWide Try.prog W .any base t v := hval0
  have hW' := hW
  have hlt := hW.lt
  obtain ⟨p, q, hA0, hV, rfl, hfz, hnd⟩ := hW
  have hA : DataW.TrodAll enc Try.prog W 0 (fun _ => true) true Try.f3.params.toList args.toList ds p := hA0
  rw [Try.params3] at hA hval
  obtain ⟨v0, vs0, d0, ds0, q0, r0, hargs, rfl, rfl, t0, s0⟩ := trodAll_cons hA
  obtain ⟨v1, vs1, d1, ds1, q1, r1, rfl, rfl, rfl, t1, s1⟩ := trodAll_cons s0
  obtain ⟨v2, vs2, d2, ds2, q2, r2, rfl, rfl, rfl, t2, s2⟩ := trodAll_cons s1
  obtain ⟨rfl, rfl, rfl⟩ := trodAll_nil s2
  obtain rfl : args = #[v0, v1, v2] := by cases args; simp_all
  obtain ⟨rfl, rfl⟩ := trodVars_none hV
  obtain ⟨a0, L0, c0, l0, rfl, u0⟩ := usAt_of (hval 0 22 v0 rfl rfl) t0
  obtain ⟨a1, L1, c1, l1, rfl, u1⟩ := usAt_of (hval 1 22 v1 rfl rfl) t1
  obtain ⟨a2, L2, c2, l2, rfl, u2⟩ := pairsAt_of (hval 2 23 v2 rfl rfl) t2
  clear hA0 hval0
  simp only [List.append_nil] at hW' hlt
  refine (walk a0 L0 c0 l0 a1 L1 c1 l1 a2 L2 c2 l2 W u0 u1 u2 ).mono fun e W' ⟨he, hg⟩ => ?_
  subst he
  have z0 := Below.trod laidOut (by kernel_rfl) (of_decide_eq_true (by kernel_rfl)) t0 hg (fun x hx => hlt x (by simp [hx]))
  have z1 := Below.trod laidOut (by kernel_rfl) (of_decide_eq_true (by kernel_rfl)) t1 hg (fun x hx => hlt x (by simp [hx]))
  have z2 := Below.trod laidOut (by kernel_rfl) (of_decide_eq_true (by kernel_rfl)) t2 hg (fun x hx => hlt x (by simp [hx]))
  exact ⟨_, rfl, law_post hW' rfl (fun _ _ _ => (trodAll_cons_mk (shut_bool Try.underlying4 _) trodAll_mk0)) (trodAll_cons_mk z0 (trodAll_cons_mk z1 (trodAll_cons_mk z2 trodAll_mk0))) rfl hg⟩

theorem over : Rows.MatchTellsSaid :=
  OpenClaim.holds_of_wide 3 Try.f3 rfl rfl rfl rfl rfl rfl rfl ⟨rfl, rfl, rfl, rfl, rfl⟩ rfl rfl rfl rfl rfl (by kernel_rfl) Try.func3 (by kernel_rfl)
    (of_decide_eq_true (by kernel_rfl)) (by unfold Func.isWrapper; first | (rw [if_pos (by decide +kernel)]; kernel_rfl) | (rw [if_neg (by decide +kernel)]; exact ⟨rfl, rfl⟩))
    (fun os started H enc _ => lifted os started H enc)

theorem proved : Rows.MatchTellsSaid := over
#print axioms proved
end Go.Proofs.Ytbobbpghdfhkgaa.matchTells
