/- PatchIDs: at every input the call answers true, and each argument reads behind the call as it read before. -/
import Derived.Test.YtcfhnfnhdhloiaaArgsP
import Derived.Test.YtcfhnfnhdhloiaaIds12
namespace Go.Proofs.Ytcfhnfnhdhloiaa.patchIDs
open Go.ChangeShapes Go.WideShapes Go.ChangeAt Go.WideMaps Go.WideElems Go.RowKit Go.Deep

theorem walk (a0 : Int) (a1 : Int) (a2 : Int) (a3 : Int) (w : World) (w0 : (Lit.int .u16 a0).wf = true) (w1 : (Lit.int .u16 a1).wf = true) (w2 : (Lit.int .u16 a2).wf = true) (w3 : (Lit.int .u16 a3).wf = true) :
    Calls Try.prog 5 #[.int .u16 a0, .int .u16 a1, .int .u16 a2, .int .u16 a3] w fun e w' => e = .returned (.bool true) ∧ Below w.heap.size w w' := by
  have key : ∀ {a : Int}, (Lit.int .u16 a).wf = true → ∃ n : Nat, a = n ∧ n < 65536 := fun {a} h => by
    have h' := h
    simp [Lit.wf, IntKind.min, IntKind.max, IntKind.bits, IntKind.signed] at h'
    exact ⟨a.toNat, by omega, by omega⟩
  obtain ⟨n0, rfl, h0⟩ := key w0
  obtain ⟨n1, rfl, h1⟩ := key w1
  obtain ⟨n2, rfl, h2⟩ := key w2
  obtain ⟨n3, rfl, h3⟩ := key w3
  exact (ids_c n0 n1 n2 n3 h0 h1 h2 h3 w).mono fun e w' ⟨he, hg⟩ => ⟨he, grownBy_below hg⟩

set_option maxRecDepth 100000 in
theorem lifted (os : Os) (started : os.Started) (H : Type) (enc : TypeId × Value → H) :
    ReturnsInHanded {} Try.checked os 5 .any (Rows.patchIDsSpec.pre6 enc Try.prog Try.f5 Rows.patchIDsRow.domain false)
      (Rows.patchIDsSpec.post enc Try.prog Try.f5 false true false false) := by
  refine returnsInHanded_of_change (C := Try.checked) ownNone started (by kernel_rfl) Try.func5
    (ChangeSpec.witness6 (enc := enc) (C := Try.checked) false ⟨#[], #[.int .u16 0, .int .u16 0, .int .u16 0, .int .u16 0], []⟩ 8 (by kernel_rfl) (by kernel_rfl) (by kernel_rfl) (by kernel_rfl)) ?_
  intro W base args ds gs before hval0 hW _ _
  have hval : ∀ (j : Nat) t v, Try.f5.params[j]? = some t → args[j]? = some v → Value.okWide Try.prog W .any base t v := hval0
  have hW' := hW
  have hlt := hW.lt
  obtain ⟨p, q, hA0, hV, rfl, hfz, hnd⟩ := hW
  have hA : DataW.TrodAll enc Try.prog W 0 (fun _ => true) true Try.f5.params.toList args.toList ds p := hA0
  rw [Try.params5] at hA hval
  obtain ⟨v0, vs0, d0, ds0, q0, r0, hargs, rfl, rfl, t0, s0⟩ := trodAll_cons hA
  obtain ⟨v1, vs1, d1, ds1, q1, r1, rfl, rfl, rfl, t1, s1⟩ := trodAll_cons s0
  obtain ⟨v2, vs2, d2, ds2, q2, r2, rfl, rfl, rfl, t2, s2⟩ := trodAll_cons s1
  obtain ⟨v3, vs3, d3, ds3, q3, r3, rfl, rfl, rfl, t3, s3⟩ := trodAll_cons s2
  obtain ⟨rfl, rfl, rfl⟩ := trodAll_nil s3
  obtain rfl : args = #[v0, v1, v2, v3] := by cases args; simp_all
  obtain ⟨rfl, rfl⟩ := trodVars_none hV
  obtain ⟨a0, rfl, rfl, rfl, u0⟩ := open_int Try.underlying42 (hval 0 42 v0 rfl rfl) t0
  obtain ⟨a1, rfl, rfl, rfl, u1⟩ := open_int Try.underlying42 (hval 1 42 v1 rfl rfl) t1
  obtain ⟨a2, rfl, rfl, rfl, u2⟩ := open_int Try.underlying42 (hval 2 42 v2 rfl rfl) t2
  obtain ⟨a3, rfl, rfl, rfl, u3⟩ := open_int Try.underlying42 (hval 3 42 v3 rfl rfl) t3
  clear hA0 hval0
  simp only [List.append_nil] at hW' hlt
  refine (walk a0 a1 a2 a3 W u0 u1 u2 u3 ).mono fun e W' ⟨he, hg⟩ => ?_
  subst he
  exact ⟨_, rfl, law_post hW' rfl (fun _ _ _ => (trodAll_cons_mk (shut_bool Try.underlying4 _) trodAll_mk0)) (trodAll_cons_mk (shut_int Try.underlying42 u0) (trodAll_cons_mk (shut_int Try.underlying42 u1) (trodAll_cons_mk (shut_int Try.underlying42 u2) (trodAll_cons_mk (shut_int Try.underlying42 u3) trodAll_mk0)))) rfl hg⟩

theorem over : Rows.PatchIDsSaid :=
  OpenClaim.holds_of_wide 5 Try.f5 rfl rfl rfl rfl rfl rfl rfl ⟨rfl, rfl, rfl, rfl, rfl⟩ rfl rfl rfl rfl rfl (by kernel_rfl) Try.func5 (by kernel_rfl)
    (of_decide_eq_true (by kernel_rfl)) (by unfold Func.isWrapper; first | (rw [if_pos (by decide +kernel)]; kernel_rfl) | (rw [if_neg (by decide +kernel)]; exact ⟨rfl, rfl⟩))
    (fun os started H enc _ => lifted os started H enc)

theorem proved : Rows.PatchIDsSaid := over
#print axioms proved
end Go.Proofs.Ytcfhnfnhdhloiaa.patchIDs
