/- ColimTells: at every input the call answers true, and each argument reads behind the call as it read before; tied: the table that math/bits reads is what the program's text lays. -/
import Derived.Test.YthmebbnoicldcaaGreatDoorArgs
import Derived.Test.YthmebbnoicldcaaGreatDoorTells9
import Derived.Test.YthmebbnoicldcaaGreatDoorArgs4
import Derived.Test.YthmebbnoicldcaaGreatDoorArgs9
namespace Go.Proofs.YthmebbnoicldcaaGreatDoor.colimTells
open Go.ChangeShapes Go.WideShapes Go.ChangeAt Go.WideMaps Go.WideElems Go.RowKit Go.Deep

theorem walk (p0 : Option Addr) (n0 c0 : Nat) (q0 : Option Addr) (m0 d0 : Nat) (N0 : List Nd) (A0 : List Ar) (p1 : Option Addr) (n1 c1 : Nat) (q1 : Option Addr) (m1 d1 : Nat) (L1 : List ByteArray) (P1 : List (Int × Int)) (p2 : Option Addr) (L2 c2 : Nat) (l2 : List (List Int)) (w : World) (h0 : DArg w p0 n0 c0 q0 m0 d0 N0 A0) (h1 : OArg w p1 n1 c1 q1 m1 d1 L1 P1) (h2 : LArg w p2 L2 c2 l2) (ht : Tab w) :
    Calls Tryz.prog 3 #[.agg #[.slice p0 n0 c0, .slice q0 m0 d0], .agg #[.slice p1 n1 c1, .slice q1 m1 d1], .slice p2 L2 c2] w fun e w' => e = .returned (.bool true) ∧ Below w.heap.size w w' := by
  exact (colimTells_in p0 q0 p1 q1 p2 n0 c0 m0 d0 n1 c1 m1 d1 L2 c2 _ _ _ _ _ _ _ _ N0 A0 L1 P1 l2 w h0.nod h0.arr h1.at' h2.at' h0.len h0.len2 h1.len h2.len ht).mono fun e w' ⟨a, b⟩ => ⟨a, grownBy_below b⟩

set_option maxRecDepth 100000 in
theorem lifted (os : Os) (started : os.Started) (H : Type) (enc : TypeId × Value → H) :
    ReturnsInHanded {} Tryz.checked os 3 .any (fun w args => (Rows.colimTellsSpec.pre enc Tryz.prog Tryz.f3 [] false w args ∧ laidMetH Tryz.prog laidL w) ∧ sizedMet enc Tryz.prog Tryz.f3 (OpenSpec.ofChange Rows.colimTellsSpec) false w args)
      (Rows.colimTellsSpec.post enc Tryz.prog Tryz.f3 false true false false) := by
  refine returnsInHanded_of_change_and (C := Tryz.checked) (X := fun w _ => laidMetH Tryz.prog laidL w) (fun _ _ _ hh h => h.of_heap hh) ownNone started (by kernel_rfl) Tryz.func3
    (ChangeSpec.witness_shaped (enc := enc) (C := Tryz.checked) (os := os) (X := fun w _ => laidMetH Tryz.prog laidL w) false (World.doorLaid Tryz.prog 400 os) #[.agg #[.slice none 0 0, .slice none 0 0], .agg #[.slice none 0 0, .slice none 0 0], .slice none 0 0] 8 rfl (World.shaped_of_RefB (by kernel_rfl) (by kernel_rfl)) (by kernel_rfl) (by kernel_rfl) (by kernel_rfl) (door_met os _)) ?_
  intro W base args ds gs before hval0 hW _ _ hL _
  have hval : ∀ (j : Nat) t v, Tryz.f3.params[j]? = some t → args[j]? = some v → Value.okWide Tryz.prog W .any base t v := hval0
  have hW' := hW
  have hlt := hW.lt
  obtain ⟨p, q, hA0, hV, rfl, hfz, hnd⟩ := hW
  have hA : DataW.TrodAll enc Tryz.prog W 0 (fun _ => true) true Tryz.f3.params.toList args.toList ds p := hA0
  rw [Tryz.params3] at hA hval
  obtain ⟨v0, vs0, d0, ds0, q0, r0, hargs, rfl, rfl, t0, s0⟩ := trodAll_cons hA
  obtain ⟨v1, vs1, d1, ds1, q1, r1, rfl, rfl, rfl, t1, s1⟩ := trodAll_cons s0
  obtain ⟨v2, vs2, d2, ds2, q2, r2, rfl, rfl, rfl, t2, s2⟩ := trodAll_cons s1
  obtain ⟨rfl, rfl, rfl⟩ := trodAll_nil s2
  obtain rfl : args = #[v0, v1, v2] := by cases args; simp_all
  obtain ⟨rfl, rfl⟩ := trodVars_none hV
  obtain ⟨a0, n0, c0, b0, m0, e0, N0, A0, rfl, u0⟩ := diaAt_of (hval 0 25 v0 rfl rfl) t0
  obtain ⟨a1, n1, c1, b1, m1, e1, L1, P1, rfl, u1⟩ := objAt_of (hval 1 29 v1 rfl rfl) t1
  obtain ⟨a2, L2, c2, l2, rfl, u2⟩ := legsAt_of (hval 2 30 v2 rfl rfl) t2
  clear hA0 hval0
  simp only [List.append_nil] at hW' hlt
  refine (walk a0 n0 c0 b0 m0 e0 N0 A0 a1 n1 c1 b1 m1 e1 L1 P1 a2 L2 c2 l2 W u0 u1 u2 (tab_of_laid hL)).mono fun e W' ⟨he, hg⟩ => ?_
  subst he
  have z0 := Below.trod laidOut (by kernel_rfl) (of_decide_eq_true (by kernel_rfl)) t0 hg (fun x hx => hlt x (by simp [hx]))
  have z1 := Below.trod laidOut (by kernel_rfl) (of_decide_eq_true (by kernel_rfl)) t1 hg (fun x hx => hlt x (by simp [hx]))
  have z2 := Below.trod laidOut (by kernel_rfl) (of_decide_eq_true (by kernel_rfl)) t2 hg (fun x hx => hlt x (by simp [hx]))
  exact ⟨_, rfl, law_post hW' rfl (fun _ _ _ => (trodAll_cons_mk (shut_bool Tryz.underlying4 _) trodAll_mk0)) (trodAll_cons_mk z0 (trodAll_cons_mk z1 (trodAll_cons_mk z2 trodAll_mk0))) rfl hg⟩

theorem over : Rows.ColimTellsSaid :=
  OpenClaim.holds_of_wide 3 Tryz.f3 rfl rfl rfl rfl rfl rfl rfl ⟨rfl, rfl, rfl, rfl, rfl⟩ rfl rfl rfl rfl rfl (by kernel_rfl) Tryz.func3 (by kernel_rfl)
    (of_decide_eq_true (by kernel_rfl)) (by unfold Func.isWrapper; first | (rw [if_pos (by decide +kernel)]; kernel_rfl) | (rw [if_neg (by decide +kernel)]; exact ⟨rfl, rfl⟩))
    (fun os started H enc _ => lifted os started H enc)

theorem proved : Rows.ColimTellsCardSaid :=
  Claim7.holds_tied_plain_at .later [] [.data] true Rows.colimTellsCard.stood.harness false
    over (fun _ h => by cases h) (by kernel_rfl) (fun _ h => by cases h) colimTells_row_tie rfl ⟨rfl, rfl⟩ (by kernel_rfl) rfl
    (fun f fn hf hfn => by
      obtain rfl : f = 3 := Option.some.inj ((show Tryz.prog.funcNamed "cento/centolaw9.ColimTells" = some 3 by kernel_rfl).symm.trans hf) |>.symm
      obtain rfl : fn = Tryz.f3 := (Option.some.inj (Tryz.func3.symm.trans hfn)).symm
      exact ⟨by kernel_rfl, fun j t ht => by
        rw [Tryz.params3] at ht
        have hm : t ∈ [25, 29, 30] := by simpa using Array.mem_of_getElem? ht
        have hall : ([25, 29, 30].all fun u => !Tryz.prog.wantsStandIn u) = true := by kernel_rfl
        exact (show Tryz.prog.wantsStandIn t = false by simpa using List.all_eq_true.1 hall t hm)⟩)
    (by kernel_rfl)
#print axioms proved
end Go.Proofs.YthmebbnoicldcaaGreatDoor.colimTells
