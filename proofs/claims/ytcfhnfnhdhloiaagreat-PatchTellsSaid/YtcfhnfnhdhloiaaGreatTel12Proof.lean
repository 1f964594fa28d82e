/- PatchTells: at every input the call answers true, and each argument reads behind the call as it read before. -/
import Derived.Test.YtcfhnfnhdhloiaaGreatArgsP
import Derived.Test.YtcfhnfnhdhloiaaGreatTel12
import Derived.ChangeMaps5
import Derived.Test.YtcfhnfnhdhloiaaGreatArgT
namespace Go.Proofs.YtcfhnfnhdhloiaaGreat.patchTells
open Go.ChangeShapes Go.WideShapes Go.ChangeAt Go.WideMaps Go.WideElems Go.RowKit Go.Deep

theorem walk (id0 : Nat) (pd0 : Option Addr) (nd0 cd0 : Nat) (pm0 : Option Addr) (nm0 cm0 : Nat) (px0 : Option Addr) (nx0 cx0 : Nat) (ph0 : Option Addr) (nh0 ch0 : Nat) (P0 : Pt) (id1 : Nat) (pd1 : Option Addr) (nd1 cd1 : Nat) (pm1 : Option Addr) (nm1 cm1 : Nat) (px1 : Option Addr) (nx1 cx1 : Nat) (ph1 : Option Addr) (nh1 ch1 : Nat) (P1 : Pt) (s2 : ByteArray) (a3 : Int) (a4 : Int) (w : World) (h0 : PArg w id0 pd0 nd0 cd0 pm0 nm0 cm0 px0 nx0 cx0 ph0 nh0 ch0 P0) (h1 : PArg w id1 pd1 nd1 cd1 pm1 nm1 cm1 px1 nx1 cx1 ph1 nh1 ch1 P1) (_w3 : (Lit.int .i64 a3).wf = true) (_w4 : (Lit.int .i64 a4).wf = true) :
    Calls Tryz.prog 3 #[.agg #[.int .u32 (id0 : Int), .slice pd0 nd0 cd0, .slice pm0 nm0 cm0, .slice px0 nx0 cx0, .slice ph0 nh0 ch0], .agg #[.int .u32 (id1 : Int), .slice pd1 nd1 cd1, .slice pm1 nm1 cm1, .slice px1 nx1 cx1, .slice ph1 nh1 ch1], .string s2, .int .i64 a3, .int .i64 a4] w fun e w' => e = .returned (.bool true) ∧ Below w.heap.size w w' := by
  exact (tells12_w id0 pd0 nd0 cd0 pm0 nm0 cm0 px0 nx0 cx0 ph0 nh0 ch0 P0 id1 pd1 nd1 cd1 pm1 nm1 cm1 px1 nx1 cx1 ph1 nh1 ch1 P1 s2 a3 a4 w h0 h1).mono fun e w' ⟨he, hg⟩ => ⟨he, grownBy_below hg⟩

set_option maxRecDepth 100000 in
theorem lifted (os : Os) (started : os.Started) (H : Type) (enc : TypeId × Value → H) :
    ReturnsInHanded {} Tryz.checked os 3 .any (Rows.patchTellsSpec.pre6 enc Tryz.prog Tryz.f3 Rows.patchTellsRow.domain false)
      (Rows.patchTellsSpec.post enc Tryz.prog Tryz.f3 false true false false) := by
  refine returnsInHanded_of_change (C := Tryz.checked) ownNone started (by kernel_rfl) Tryz.func3
    (ChangeSpec.witness6 (enc := enc) (C := Tryz.checked) false ⟨#[], #[.agg #[.int .u32 0, .slice none 0 0, .slice none 0 0, .slice none 0 0, .slice none 0 0], .agg #[.int .u32 0, .slice none 0 0, .slice none 0 0, .slice none 0 0, .slice none 0 0], .string .empty, .int .i64 0, .int .i64 0], []⟩ 8 (by kernel_rfl) (by kernel_rfl) (by kernel_rfl) (by kernel_rfl)) ?_
  intro W base args ds gs before hval0 hW _ _
  have hval : ∀ (j : Nat) t v, Tryz.f3.params[j]? = some t → args[j]? = some v → Value.okWide Tryz.prog W .any base t v := hval0
  have hW' := hW
  have hlt := hW.lt
  obtain ⟨p, q, hA0, hV, rfl, hfz, hnd⟩ := hW
  have hA : DataW.TrodAll enc Tryz.prog W 0 (fun _ => true) true Tryz.f3.params.toList args.toList ds p := hA0
  rw [Tryz.params3] at hA hval
  obtain ⟨v0, vs0, d0, ds0, q0, r0, hargs, rfl, rfl, t0, s0⟩ := trodAll_cons hA
  obtain ⟨v1, vs1, d1, ds1, q1, r1, rfl, rfl, rfl, t1, s1⟩ := trodAll_cons s0
  obtain ⟨v2, vs2, d2, ds2, q2, r2, rfl, rfl, rfl, t2, s2⟩ := trodAll_cons s1
  obtain ⟨v3, vs3, d3, ds3, q3, r3, rfl, rfl, rfl, t3, s3⟩ := trodAll_cons s2
  obtain ⟨v4, vs4, d4, ds4, q4, r4, rfl, rfl, rfl, t4, s4⟩ := trodAll_cons s3
  obtain ⟨rfl, rfl, rfl⟩ := trodAll_nil s4
  obtain rfl : args = #[v0, v1, v2, v3, v4] := by cases args; simp_all
  obtain ⟨rfl, rfl⟩ := trodVars_none hV
  obtain ⟨id0, pd0, nd0, cd0, pm0, nm0, cm0, px0, nx0, cx0, ph0, nh0, ch0, P0, rfl, u0⟩ := ptAt_of (hval 0 27 v0 rfl rfl) t0
  obtain ⟨id1, pd1, nd1, cd1, pm1, nm1, cm1, px1, nx1, cx1, ph1, nh1, ch1, P1, rfl, u1⟩ := ptAt_of (hval 1 27 v1 rfl rfl) t1
  obtain ⟨a2, rfl, rfl, rfl, u2⟩ := Go.ChangeMaps.open_string Tryz.underlying9 (hval 2 9 v2 rfl rfl) t2
  obtain ⟨a3, rfl, rfl, rfl, u3⟩ := open_int Tryz.underlying3 (hval 3 3 v3 rfl rfl) t3
  obtain ⟨a4, rfl, rfl, rfl, u4⟩ := open_int Tryz.underlying3 (hval 4 3 v4 rfl rfl) t4
  clear hA0 hval0
  simp only [List.append_nil] at hW' hlt
  refine (walk id0 pd0 nd0 cd0 pm0 nm0 cm0 px0 nx0 cx0 ph0 nh0 ch0 P0 id1 pd1 nd1 cd1 pm1 nm1 cm1 px1 nx1 cx1 ph1 nh1 ch1 P1 a2 a3 a4 W u0 u1 u3 u4 ).mono fun e W' ⟨he, hg⟩ => ?_
  subst he
  have z0 := Below.trod laidOut (by kernel_rfl) (of_decide_eq_true (by kernel_rfl)) t0 hg (fun x hx => hlt x (by simp [hx]))
  have z1 := Below.trod laidOut (by kernel_rfl) (of_decide_eq_true (by kernel_rfl)) t1 hg (fun x hx => hlt x (by simp [hx]))
  exact ⟨_, rfl, law_post hW' rfl (fun _ _ _ => (trodAll_cons_mk (shut_bool Tryz.underlying4 _) trodAll_mk0)) (trodAll_cons_mk z0 (trodAll_cons_mk z1 (trodAll_cons_mk (Go.ChangeMaps.shut_string Tryz.underlying9 u2) (trodAll_cons_mk (shut_int Tryz.underlying3 u3) (trodAll_cons_mk (shut_int Tryz.underlying3 u4) trodAll_mk0))))) rfl hg⟩

theorem over : Rows.PatchTellsSaid :=
  OpenClaim.holds_of_wide 3 Tryz.f3 rfl rfl rfl rfl rfl rfl rfl ⟨rfl, rfl, rfl, rfl, rfl⟩ rfl rfl rfl rfl rfl (by kernel_rfl) Tryz.func3 (by kernel_rfl)
    (of_decide_eq_true (by kernel_rfl)) (by unfold Func.isWrapper; first | (rw [if_pos (by decide +kernel)]; kernel_rfl) | (rw [if_neg (by decide +kernel)]; exact ⟨rfl, rfl⟩))
    (fun os started H enc _ => lifted os started H enc)

theorem proved : Rows.PatchTellsSaid := over
#print axioms proved
end Go.Proofs.YtcfhnfnhdhloiaaGreat.patchTells
