/- Push in one contract each; Mediate and Swap of package cone; the reference's Mediate. -/
import Derived.Test.YtemnbkenihldgaaDoorConA
import Derived.Test.YtemnbkenihldgaaDoorConB
import Derived.Test.YtemnbkenihldgaaDoorBoth7
namespace Go.Proofs.YtemnbkenihldgaaDoor
open Go.RowKit

/-- A map and an error; two maps and an error: what is handed back, new. -/
def Res1 (U : List Int) (r : Int) (w : World) (e : Ending) (w' : World) : Prop :=
  ∃ p c, e = .returned (.tuple #[.slice p U.length c, .int .i64 r]) ∧ ZsAt w' w.heap.size w'.heap.size p U.length U ∧ w.grownBy w' none
def Res2 (U V : List Int) (r : Int) (w : World) (e : Ending) (w' : World) : Prop :=
  ∃ p c q d, e = .returned (.tuple #[.slice p U.length c, .slice q V.length d, .int .i64 r]) ∧ ZsAt w' w.heap.size w'.heap.size p U.length U ∧ ZsAt w' w.heap.size w'.heap.size q V.length V ∧ w.grownBy w' none
theorem ZsAt.wideZ {w : World} {lo hi n : Nat} {p : Option Addr} {l : List Int} (h : ZsAt w lo hi p n l) : ZsAt w 0 w.heap.size p n l := ⟨h.len, fun hn => by
  obtain ⟨b, off, e, q1, q2, q3, hc⟩ := h.cell hn
  exact ⟨b, off, e, Nat.zero_le _, by omega, Nat.le_refl _, hc⟩⟩
theorem thenB_at {f : List Int} {n y : Nat} (h : thenB f n = true) (hy : y < f.length) : 0 ≤ f[y]?.getD 0 ∧ f[y]?.getD 0 < n := by
  have := List.all_eq_true.1 h f[y] (List.getElem_mem hy)
  rw [List.getElem?_eq_getElem hy]
  exact hasZ_iff.1 this
/-- Where the first x of I, the first y of J go, it is as in U. -/
def HitR (N : Nat) (I J U R : List Int) (x y : Nat) : Prop := ∀ p, p < N → ((∃ e, e < x ∧ I[e]?.getD 0 = (p : Int)) ∨ (∃ e, e < y ∧ J[e]?.getD 0 = (p : Int))) → R[p]?.getD 0 = U[p]?.getD 0
theorem hitR_zero (N : Nat) (I J U R : List Int) : HitR N I J U R 0 0 := fun p hp h => by
  rcases h with ⟨e, he, _⟩ | ⟨e, he, _⟩ <;> exact absurd he (Nat.not_lt_zero _)
theorem hitR_set {N : Nat} {I J U R : List Int} {x y x' y' p0 : Nat} (h : HitR N I J U R x y) (hl : R.length = N) (hp : p0 < N) (hx : ∀ e, e < x' → e < x ∨ I[e]?.getD 0 = (p0 : Int)) (hy : ∀ e, e < y' → e < y ∨ J[e]?.getD 0 = (p0 : Int)) : HitR N I J U (R.set p0 (U[p0]?.getD 0)) x' y' := by
  intro p hpN hh
  rw [List.getElem?_set]
  by_cases q : p0 = p
  · subst q
    rw [if_pos rfl, if_pos (by omega)]
    rfl
  · rw [if_neg q]
    refine h p hpN ?_
    rcases hh with ⟨e, he, hx2⟩ | ⟨e, he, hx2⟩
    · rcases hx e he with h1 | h1
      · exact .inl ⟨e, h1, hx2⟩
      · exact absurd (h1.symm.trans hx2) (by omega)
    · rcases hy e he with h1 | h1
      · exact .inr ⟨e, h1, hx2⟩
      · exact absurd (h1.symm.trans hx2) (by omega)
set_option maxHeartbeats 1000000 in
theorem refPush_v (p0 q0 p1 q1 p2 q2 pf pg : Option Addr) (n0 c0 m0 d0 n1 c1 m1 d1 n2 c2 m2 d2 nf cf ng cg : Nat) (lo0 hi0 lo1 hi1 lo2 hi2 lof hif log hig : Nat) (L0 L1 L2 : List ByteArray) (P0 P1 P2 : List (Int × Int)) (f g : List Int) (A : List ByteArray) (B : List (Int × Int)) (I J : List Int) (r : Int) (w : World) (hv : PushV L0 P0 L1 P1 L2 P2 f g A B I J r) (a0 : ObjAt w lo0 hi0 p0 n0 q0 m0 L0 P0) (a1 : ObjAt w lo1 hi1 p1 n1 q1 m1 L1 P1) (a2 : ObjAt w lo2 hi2 p2 n2 q2 m2 L2 P2) (zf : ZsAt w lof hif pf nf f) (zg : ZsAt w log hig pg ng g) (b0 : n0 ≤ 50 ∧ m0 ≤ 200) (b1 : n1 ≤ 50 ∧ m1 ≤ 200) (b2 : n2 ≤ 50 ∧ m2 ≤ 200) (bf : nf ≤ 60) (bg : ng ≤ 60) (k1 : p1 = none → c1 = 0) (k2 : p2 = none → c2 = 0) (k3 : q1 = none → d1 = 0) :
    Calls Tryd.prog 8 #[.agg #[.slice p0 n0 c0, .slice q0 m0 d0], .agg #[.slice p1 n1 c1, .slice q1 m1 d1], .agg #[.slice p2 n2 c2, .slice q2 m2 d2], .slice pf nf cf, .slice pg ng cg] w (RRes4 A B I J r w) := by
  have l0 := a0.ls.len
  have l1 := a1.ls.len
  have l2 := a2.ls.len
  have lf := zf.len
  have lg := zg.len
  obtain ⟨e1, e2, e3, e4, e5⟩ := hv
  unfold pushR at e1 e2 e3 e4 e5
  by_cases h1 : 40 < n0
  · rw [if_pos (by omega : 40 < L0.length)] at e1 e2 e3 e4 e5
    rw [if_neg (by decide)] at e2 e3 e4 e5
    subst e1 e2 e3 e4 e5
    exact refPush_large1 p0 q0 p1 q1 p2 q2 pf pg n0 c0 m0 d0 n1 c1 m1 d1 n2 c2 m2 d2 nf cf ng cg w h1
  rw [if_neg (by omega : ¬ 40 < L0.length)] at e1 e2 e3 e4 e5
  by_cases h2 : 40 < n1 + n2
  · rw [if_pos (by omega : 40 < L1.length + L2.length)] at e1 e2 e3 e4 e5
    rw [if_neg (by decide)] at e2 e3 e4 e5
    subst e1 e2 e3 e4 e5
    by_cases h3 : 40 < n1
    · exact refPush_large2 p0 q0 p1 q1 p2 q2 pf pg n0 c0 m0 d0 n1 c1 m1 d1 n2 c2 m2 d2 nf cf ng cg w (by omega) h3
    · exact refPush_large3 p0 q0 p1 q1 p2 q2 pf pg n0 c0 m0 d0 n1 c1 m1 d1 n2 c2 m2 d2 nf cf ng cg w (by omega) (by omega) h2
  rw [if_neg (by omega : ¬ 40 < L1.length + L2.length)] at e1 e2 e3 e4 e5
  cases har : (arB L0 P0 L1 P1 f && arB L0 P0 L2 P2 g) with
  | false =>
    rw [har, if_neg (by decide)] at e1 e2 e3 e4 e5
    subst e1 e2 e3 e4 e5
    exact refPush_form p0 q0 p1 q1 p2 q2 pf pg n0 c0 m0 d0 n1 c1 m1 d1 n2 c2 m2 d2 nf cf ng cg lo0 hi0 lo1 hi1 lo2 hi2 lof hif log hig L0 L1 L2 P0 P1 P2 f g w a0 a1 a2 zf zg (by omega) (by omega) (by omega) (by omega) (by omega) (by omega) (by omega) har
  | true =>
    rw [har, if_pos rfl] at e1 e2 e3 e4 e5
    rw [if_pos rfl] at e2 e3 e4 e5
    rw [Bool.and_eq_true] at har
    have e6 := (arB_hasZ har.1).1
    have e7 := (arB_hasZ har.2).1
    obtain rfl : ng = nf := by omega
    rw [l1, l2] at e2 e3 e4 e5
    subst e1 e2 e3 e4 e5
    exact refPush_ok p0 q0 p1 q1 p2 q2 pf pg n0 c0 m0 d0 n1 c1 m1 d1 n2 c2 m2 d2 _ cf cg lo0 hi0 lo1 hi1 lo2 hi2 lof hif log hig L0 L1 L2 P0 P1 P2 f g w a0 a1 a2 zf zg (by omega) (by omega) (by omega) (by omega) (by omega) (by omega) har.1 har.2 k1 k2 k3

end Go.Proofs.YtemnbkenihldgaaDoor
