/- Push in one contract each; Mediate and Swap of package cone; the reference's Mediate. -/
import Derived.Test.YtgpcakcjiaoimaaDoorConA
import Derived.Test.YtgpcakcjiaoimaaDoorConB
import Derived.Test.YtgpcakcjiaoimaaDoorBoth7
namespace Go.Proofs.YtgpcakcjiaoimaaDoor
open Go.RowKit

/-- A map and an error; two maps and an error: what is handed back, new. -/
def Res1 (U : List Int) (r : Int) (w : World) (e : Ending) (w' : World) : Prop :=
  ∃ p c, e = .returned (.tuple #[.slice p U.length c, .int .i64 r]) ∧ ZsAt w' w.heap.size w'.heap.size p U.length U ∧ w.grownBy w' none
def Res2 (U V : List Int) (r : Int) (w : World) (e : Ending) (w' : World) : Prop :=
  ∃ p c q d, e = .returned (.tuple #[.slice p U.length c, .slice q V.length d, .int .i64 r]) ∧ ZsAt w' w.heap.size w'.heap.size p U.length U ∧ ZsAt w' w.heap.size w'.heap.size q V.length V ∧ w.grownBy w' none
theorem ZsAt.wideZ {w : World} {lo hi n : Nat} {p : Option Addr} {l : List Int} (h : ZsAt w lo hi p n l) : ZsAt w 0 w.heap.size p n l := ⟨h.len, fun hn => by
  obtain ⟨b, off, e, q1, q2, q3, hc⟩ := h.cell hn
  exact ⟨b, off, e, Nat.zero_le _, by omega, Nat.le_refl _, hc⟩⟩
theorem thenB_at {f : List Int} {n y : Nat} (h : thenB f n = true) (hy : y < f.length) : 0 ≤ f[y]?.getD 0 ∧ f[y]?.getD 0 < n := by
  have := List.all_eq_true.1 h f[y] (List.getElem_mem hy)
  rw [List.getElem?_eq_getElem hy]
  exact hasZ_iff.1 this
/-- Where the first x of I, the first y of J go, it is as in U. -/
def HitR (N : Nat) (I J U R : List Int) (x y : Nat) : Prop := ∀ p, p < N → ((∃ e, e < x ∧ I[e]?.getD 0 = (p : Int)) ∨ (∃ e, e < y ∧ J[e]?.getD 0 = (p : Int))) → R[p]?.getD 0 = U[p]?.getD 0
theorem hitR_zero (N : Nat) (I J U R : List Int) : HitR N I J U R 0 0 := fun p hp h => by
  rcases h with ⟨e, he, _⟩ | ⟨e, he, _⟩ <;> exact absurd he (Nat.not_lt_zero _)
theorem hitR_set {N : Nat} {I J U R : List Int} {x y x' y' p0 : Nat} (h : HitR N I J U R x y) (hl : R.length = N) (hp : p0 < N) (hx : ∀ e, e < x' → e < x ∨ I[e]?.getD 0 = (p0 : Int)) (hy : ∀ e, e < y' → e < y ∨ J[e]?.getD 0 = (p0 : Int)) : HitR N I J U (R.set p0 (U[p0]?.getD 0)) x' y' := by
  intro p hpN hh
  rw [List.getElem?_set]
  by_cases q : p0 = p
  · subst q
    rw [if_pos rfl, if_pos (by omega)]
    rfl
  · rw [if_neg q]
    refine h p hpN ?_
    rcases hh with ⟨e, he, hx2⟩ | ⟨e, he, hx2⟩
    · rcases hx e he with h1 | h1
      · exact .inl ⟨e, h1, hx2⟩
      · exact absurd (h1.symm.trans hx2) (by omega)
    · rcases hy e he with h1 | h1
      · exact .inr ⟨e, h1, hx2⟩
      · exact absurd (h1.symm.trans hx2) (by omega)
/-- out with two legs. -/
theorem out_two (pq qq : Option Addr) (N cN m0 d0 b : Nat) (pi ph pj pk : Option Addr) (nI ci ch nJ cj ck loi hii loh hih loj hij lok hik : Nat) (I J U : List Int) (w : World) (hb : w.heap[b]? = some (.cells #[.slice pi nI ci, .slice ph nI ch, .slice pj nJ cj, .slice pk nJ ck] 51 (0, 0)))
    (hi : ZsAt w loi hii pi nI I) (hh : ZsAt w loh hih ph nI (thenL I U)) (hj : ZsAt w loj hij pj nJ J) (hk : ZsAt w lok hik pk nJ (thenL J U)) (hlt : b < w.heap.size) (hU : U.length = N) (hr : Reach N I J) (b1 : nI ≤ 1000000) (b2 : nJ ≤ 1000000) (hN : N ≤ 1000000) :
    Calls Tryd.prog 23 #[.agg #[.slice pq N cN, .slice qq m0 d0], .slice (some ⟨b, 0, none⟩) 2 2] w (RowPost U w) := by
  refine out_c pq qq N cN m0 d0 2 b (fun k => if k = 0 then pi else pj) (fun k => if k = 0 then ph else pk) (fun k => if k = 0 then nI else nJ) (fun k => if k = 0 then ci else cj) (fun k => if k = 0 then ch else ck) (fun k => if k = 0 then loi else loj) (fun k => if k = 0 then hii else hij) (fun k => if k = 0 then loh else lok) (fun k => if k = 0 then hih else hik) (fun k => if k = 0 then I else J) U w (by decide) (fun k hk2 => ?_) (fun k hk2 => ?_) hlt hU (fun e he => ?_) hN
  · rcases (show k = 0 ∨ k = 1 by omega) with rfl | rfl
    · exact ⟨by simp [World.cell?, hb], by simp [World.cell?, hb]⟩
    · exact ⟨by simp [World.cell?, hb], by simp [World.cell?, hb]⟩
  · rcases (show k = 0 ∨ k = 1 by omega) with rfl | rfl
    · exact ⟨hi, hh, b1⟩
    · exact ⟨hj, hk, b2⟩
  · rcases hr e he with ⟨x, hx, hxe⟩ | ⟨x, hx, hxe⟩
    · exact ⟨0, by decide, x, hx, hxe⟩
    · exact ⟨1, by decide, x, hx, hxe⟩

set_option maxHeartbeats 1000000 in
theorem push_v (p0 q0 p1 q1 p2 q2 pf pg : Option Addr) (n0 c0 m0 d0 n1 c1 m1 d1 n2 c2 m2 d2 nf cf ng cg : Nat) (lo0 hi0 lo1 hi1 lo2 hi2 lof hif log hig : Nat) (L0 L1 L2 : List ByteArray) (P0 P1 P2 : List (Int × Int)) (f g : List Int) (A : List ByteArray) (B : List (Int × Int)) (I J : List Int) (r : Int) (w : World) (hv : PushV L0 P0 L1 P1 L2 P2 f g A B I J r) (a0 : ObjAt w lo0 hi0 p0 n0 q0 m0 L0 P0) (a1 : ObjAt w lo1 hi1 p1 n1 q1 m1 L1 P1) (a2 : ObjAt w lo2 hi2 p2 n2 q2 m2 L2 P2) (zf : ZsAt w lof hif pf nf f) (zg : ZsAt w log hig pg ng g) (b0 : n0 ≤ 50 ∧ m0 ≤ 200) (b1 : n1 ≤ 50 ∧ m1 ≤ 200) (b2 : n2 ≤ 50 ∧ m2 ≤ 200) (bf : nf ≤ 60) (bg : ng ≤ 60) (k1 : p1 = none → c1 = 0) (k2 : p2 = none → c2 = 0) (k3 : q1 = none → d1 = 0) (ht : Tab w) :
    Calls Tryd.prog 22 #[.agg #[.slice p0 n0 c0, .slice q0 m0 d0], .agg #[.slice p1 n1 c1, .slice q1 m1 d1], .agg #[.slice p2 n2 c2, .slice q2 m2 d2], .slice pf nf cf, .slice pg ng cg] w (Res4 A B I J r w) := by
  have l0 := a0.ls.len
  have l1 := a1.ls.len
  have l2 := a2.ls.len
  have lf := zf.len
  have lg := zg.len
  obtain ⟨e1, e2, e3, e4, e5⟩ := hv
  unfold pushR at e1 e2 e3 e4 e5
  by_cases h1 : 40 < n0
  · rw [if_pos (by omega : 40 < L0.length)] at e1 e2 e3 e4 e5
    rw [if_neg (by decide)] at e2 e3 e4 e5
    subst e1 e2 e3 e4 e5
    exact push_large1 p0 q0 p1 q1 p2 q2 pf pg n0 c0 m0 d0 n1 c1 m1 d1 n2 c2 m2 d2 nf cf ng cg w (by omega) h1
  rw [if_neg (by omega : ¬ 40 < L0.length)] at e1 e2 e3 e4 e5
  by_cases h2 : 40 < n1 + n2
  · rw [if_pos (by omega : 40 < L1.length + L2.length)] at e1 e2 e3 e4 e5
    rw [if_neg (by decide)] at e2 e3 e4 e5
    subst e1 e2 e3 e4 e5
    exact push_large2 p0 q0 p1 q1 p2 q2 pf pg n0 c0 m0 d0 n1 c1 m1 d1 n2 c2 m2 d2 nf cf ng cg w (by omega) (by omega) (by omega) h2
  rw [if_neg (by omega : ¬ 40 < L1.length + L2.length)] at e1 e2 e3 e4 e5
  cases har : (arB L0 P0 L1 P1 f && arB L0 P0 L2 P2 g) with
  | false =>
    rw [har, if_neg (by decide)] at e1 e2 e3 e4 e5
    subst e1 e2 e3 e4 e5
    exact push_form p0 q0 p1 q1 p2 q2 pf pg n0 c0 m0 d0 n1 c1 m1 d1 n2 c2 m2 d2 nf cf ng cg lo0 hi0 lo1 hi1 lo2 hi2 lof hif log hig L0 L1 L2 P0 P1 P2 f g w a0 a1 a2 zf zg (by omega) (by omega) (by omega) (by omega) (by omega) (by omega) (by omega) har
  | true =>
    rw [har, if_pos rfl] at e1 e2 e3 e4 e5
    rw [if_pos rfl] at e2 e3 e4 e5
    rw [Bool.and_eq_true] at har
    have e6 := (arB_hasZ har.1).1
    have e7 := (arB_hasZ har.2).1
    obtain rfl : ng = nf := by omega
    rw [l1, l2] at e2 e3 e4 e5
    subst e1 e2 e3 e4 e5
    exact push_ok p0 q0 p1 q1 p2 q2 pf pg n0 c0 m0 d0 n1 c1 m1 d1 n2 c2 m2 d2 _ cf cg lo0 hi0 lo1 hi1 lo2 hi2 lof hif log hig L0 L1 L2 P0 P1 P2 f g w a0 a1 a2 zf zg (by omega) (by omega) (by omega) (by omega) (by omega) (by omega) har.1 har.2 ht k1 k2 k3

set_option maxHeartbeats 1000000 in
theorem refPush_v (p0 q0 p1 q1 p2 q2 pf pg : Option Addr) (n0 c0 m0 d0 n1 c1 m1 d1 n2 c2 m2 d2 nf cf ng cg : Nat) (lo0 hi0 lo1 hi1 lo2 hi2 lof hif log hig : Nat) (L0 L1 L2 : List ByteArray) (P0 P1 P2 : List (Int × Int)) (f g : List Int) (A : List ByteArray) (B : List (Int × Int)) (I J : List Int) (r : Int) (w : World) (hv : PushV L0 P0 L1 P1 L2 P2 f g A B I J r) (a0 : ObjAt w lo0 hi0 p0 n0 q0 m0 L0 P0) (a1 : ObjAt w lo1 hi1 p1 n1 q1 m1 L1 P1) (a2 : ObjAt w lo2 hi2 p2 n2 q2 m2 L2 P2) (zf : ZsAt w lof hif pf nf f) (zg : ZsAt w log hig pg ng g) (b0 : n0 ≤ 50 ∧ m0 ≤ 200) (b1 : n1 ≤ 50 ∧ m1 ≤ 200) (b2 : n2 ≤ 50 ∧ m2 ≤ 200) (bf : nf ≤ 60) (bg : ng ≤ 60) (k1 : p1 = none → c1 = 0) (k2 : p2 = none → c2 = 0) (k3 : q1 = none → d1 = 0) :
    Calls Tryd.prog 14 #[.agg #[.slice p0 n0 c0, .slice q0 m0 d0], .agg #[.slice p1 n1 c1, .slice q1 m1 d1], .agg #[.slice p2 n2 c2, .slice q2 m2 d2], .slice pf nf cf, .slice pg ng cg] w (RRes4 A B I J r w) := by
  have l0 := a0.ls.len
  have l1 := a1.ls.len
  have l2 := a2.ls.len
  have lf := zf.len
  have lg := zg.len
  obtain ⟨e1, e2, e3, e4, e5⟩ := hv
  unfold pushR at e1 e2 e3 e4 e5
  by_cases h1 : 40 < n0
  · rw [if_pos (by omega : 40 < L0.length)] at e1 e2 e3 e4 e5
    rw [if_neg (by decide)] at e2 e3 e4 e5
    subst e1 e2 e3 e4 e5
    exact refPush_large1 p0 q0 p1 q1 p2 q2 pf pg n0 c0 m0 d0 n1 c1 m1 d1 n2 c2 m2 d2 nf cf ng cg w h1
  rw [if_neg (by omega : ¬ 40 < L0.length)] at e1 e2 e3 e4 e5
  by_cases h2 : 40 < n1 + n2
  · rw [if_pos (by omega : 40 < L1.length + L2.length)] at e1 e2 e3 e4 e5
    rw [if_neg (by decide)] at e2 e3 e4 e5
    subst e1 e2 e3 e4 e5
    by_cases h3 : 40 < n1
    · exact refPush_large2 p0 q0 p1 q1 p2 q2 pf pg n0 c0 m0 d0 n1 c1 m1 d1 n2 c2 m2 d2 nf cf ng cg w (by omega) h3
    · exact refPush_large3 p0 q0 p1 q1 p2 q2 pf pg n0 c0 m0 d0 n1 c1 m1 d1 n2 c2 m2 d2 nf cf ng cg w (by omega) (by omega) h2
  rw [if_neg (by omega : ¬ 40 < L1.length + L2.length)] at e1 e2 e3 e4 e5
  cases har : (arB L0 P0 L1 P1 f && arB L0 P0 L2 P2 g) with
  | false =>
    rw [har, if_neg (by decide)] at e1 e2 e3 e4 e5
    subst e1 e2 e3 e4 e5
    exact refPush_form p0 q0 p1 q1 p2 q2 pf pg n0 c0 m0 d0 n1 c1 m1 d1 n2 c2 m2 d2 nf cf ng cg lo0 hi0 lo1 hi1 lo2 hi2 lof hif log hig L0 L1 L2 P0 P1 P2 f g w a0 a1 a2 zf zg (by omega) (by omega) (by omega) (by omega) (by omega) (by omega) (by omega) har
  | true =>
    rw [har, if_pos rfl] at e1 e2 e3 e4 e5
    rw [if_pos rfl] at e2 e3 e4 e5
    rw [Bool.and_eq_true] at har
    have e6 := (arB_hasZ har.1).1
    have e7 := (arB_hasZ har.2).1
    obtain rfl : ng = nf := by omega
    rw [l1, l2] at e2 e3 e4 e5
    subst e1 e2 e3 e4 e5
    exact refPush_ok p0 q0 p1 q1 p2 q2 pf pg n0 c0 m0 d0 n1 c1 m1 d1 n2 c2 m2 d2 _ cf cg lo0 hi0 lo1 hi1 lo2 hi2 lof hif log hig L0 L1 L2 P0 P1 P2 f g w a0 a1 a2 zf zg (by omega) (by omega) (by omega) (by omega) (by omega) (by omega) har.1 har.2 k1 k2 k3

set_option maxRecDepth 20000 in
set_option maxHeartbeats 4000000 in
theorem med_v (p0 q0 p1 q1 p2 q2 p3 q3 pf pg ph pk : Option Addr) (n0 c0 m0 d0 n1 c1 m1 d1 n2 c2 m2 d2 n3 c3 m3 d3 nf cf ng cg nh ch nk ck : Nat) (lo0 hi0 lo1 hi1 lo2 hi2 lo3 hi3 lof hif log hig loh hih lok hik : Nat) (L0 L1 L2 L3 : List ByteArray) (P0 P1 P2 P3 : List (Int × Int)) (f g h k : List Int) (U : List Int) (r : Int) (w : World) (hv : MedV L0 P0 L1 P1 L2 P2 f g L3 P3 h k U r) (a0 : ObjAt w lo0 hi0 p0 n0 q0 m0 L0 P0) (a1 : ObjAt w lo1 hi1 p1 n1 q1 m1 L1 P1) (a2 : ObjAt w lo2 hi2 p2 n2 q2 m2 L2 P2) (a3 : ObjAt w lo3 hi3 p3 n3 q3 m3 L3 P3) (zf : ZsAt w lof hif pf nf f) (zg : ZsAt w log hig pg ng g) (zh : ZsAt w loh hih ph nh h) (zk : ZsAt w lok hik pk nk k) (b0 : n0 ≤ 50 ∧ m0 ≤ 200) (b1 : n1 ≤ 50 ∧ m1 ≤ 200) (b2 : n2 ≤ 50 ∧ m2 ≤ 200) (bf : nf ≤ 60) (bg : ng ≤ 60) (b3 : n3 ≤ 1000000 ∧ m3 ≤ 1000000) (bh : nh ≤ 1000000) (bk : nk ≤ 1000000) (k1 : p1 = none → c1 = 0) (k2 : p2 = none → c2 = 0) (k3 : q1 = none → d1 = 0) (ht : Tab w) :
    Calls Tryd.prog 9 #[.agg #[.slice p0 n0 c0, .slice q0 m0 d0], .agg #[.slice p1 n1 c1, .slice q1 m1 d1], .agg #[.slice p2 n2 c2, .slice q2 m2 d2], .slice pf nf cf, .slice pg ng cg, .agg #[.slice p3 n3 c3, .slice q3 m3 d3], .slice ph nh ch, .slice pk nk ck] w (Res1 U r w) := by
  obtain ⟨A, B, I, J, r', hp⟩ := pushV_ex L0 P0 L1 P1 L2 P2 f g
  have hcs := hv.cases hp
  have HPP := Lib.hid (fun h0 => (PushV.cases hp).resolve_left (fun h => absurd h0 (by have := h.1; omega)) : r' = 0 → r' = 0 ∧ PushA L0 L1 L2 A P0 P1 P2 B f g I J)
  have HNI := Lib.hid hp.cases
  have HP := Lib.hid hp
  have A0 := Lib.hid a0
  have A1 := Lib.hid a1
  have A2 := Lib.hid a2
  have A3 := Lib.hid a3
  have Zf := Lib.hid zf
  have Zg := Lib.hid zg
  have Zh := Lib.hid zh
  have Zk := Lib.hid zk
  have K1 := Lib.hid k1
  have K2 := Lib.hid k2
  have K3 := Lib.hid k3
  have BB := Lib.hid (And.intro b0 (And.intro b1 b2))
  have HL3 := Lib.hid a3.ls.len
  have HLH := Lib.hid zh.len
  have HLK := Lib.hid zk.len
  have HT := Lib.hid ht
  clear a0 a1 a2 a3 zf zg zh zk hv hp k1 k2 k3 b0 b1 b2 ht
  go_enter Tryd.func9, Tryd.ntmps9
  go_wp2_with fail
  have he := boxEnv_four w (.slice p0 n0 c0) (.slice q0 m0 d0) (.slice p1 n1 c1) (.slice q1 m1 d1) (.slice p2 n2 c2) (.slice q2 m2 d2) (.slice p3 n3 c3) (.slice q3 m3 d3)
  generalize (((w.alloc (.cells #[.slice p0 n0 c0, .slice q0 m0 d0] 25)).alloc (.cells #[.slice p1 n1 c1, .slice q1 m1 d1] 25)).alloc (.cells #[.slice p2 n2 c2, .slice q2 m2 d2] 25)).alloc (.cells #[.slice p3 n3 c3, .slice q3 m3 d3] 25) = W0 at *
  have HE := Lib.hid he
  have u0 := A0.out.calm he.1
  have u1 := A1.out.calm he.1
  have u2 := A2.out.calm he.1
  have vf := Zf.out.calm he.1
  have vg := Zg.out.calm he.1
  have ht0 := HT.out.grown he.1 (by simp)
  clear he
  refine (push_v p0 q0 p1 q1 p2 q2 pf pg n0 c0 m0 d0 n1 c1 m1 d1 n2 c2 m2 d2 nf cf ng cg _ _ _ _ _ _ _ _ _ _ L0 L1 L2 P0 P1 P2 f g A B I J r' _ HP.out u0 u1 u2 vf vg BB.out.1 BB.out.2.1 BB.out.2.2 bf bg K1.out K2.out K3.out ht0).mono ?_
  rintro e w1 ⟨p5, c5, q5, d5, pi, ci, pj, cj, rfl, ho, hi, hj, _, _, hg⟩
  clear u0 u1 u2 vf vg ht0
  obtain ⟨NA, hNA⟩ : ∃ NA, A.length = NA := ⟨_, rfl⟩
  obtain ⟨NB, hNB⟩ : ∃ NB, B.length = NB := ⟨_, rfl⟩
  obtain ⟨NI, hNI⟩ : ∃ NI, I.length = NI := ⟨_, rfl⟩
  obtain ⟨NJ, hNJ⟩ : ∃ NJ, J.length = NJ := ⟨_, rfl⟩
  rw [hNA, hNB] at ho ⊢
  rw [hNI] at hi ⊢
  rw [hNJ] at hj ⊢
  have HNA := Lib.hid hNA
  have HNII := Lib.hid hNI
  have HNJJ := Lib.hid hNJ
  have hga := World.grownBy_alloc w1 (.cells #[.slice p5 NA c5, .slice q5 NB d5] 25) none
  have hbo := BoxO.new w1 (.slice p5 NA c5) (.slice q5 NB d5)
  have he2 := (HE.out.calm hg).calm hga
  have HI := Lib.hid (hi.calm hga)
  have HJ := Lib.hid (hj.calm hga)
  have HBO := Lib.hid hbo
  have HE2 := Lib.hid he2
  have y0 := hbo.c0
  have y1 := hbo.c1
  obtain ⟨x00, x01, x10, x11, x20, x21⟩ := he2.three
  obtain ⟨x30, x31, _, _⟩ := he2.fourth
  clear ho hi hj hg hga hbo he2 HE hNA hNB hNI hNJ
  rcases hcs with ⟨h1, rfl, rfl⟩ | ⟨rfl, h1, rfl, rfl⟩ | ⟨rfl, h1, h2, rfl, rfl⟩ | ⟨rfl, h1, h2, rfl, hU, h3⟩
  · rcases h1 with rfl | rfl
    all_goals
      have HG := Lib.hid HE2.out.1
      clear x00 x01 x10 x11 x20 x21 x30 x31
      go_wp2
      go_ret2
      exact ⟨none, 0, rfl, zsAt_nil _ _ _, HG.out⟩
  · have d40 : (40 : Int) < n3 := by have := HL3.out; omega
    have HG := Lib.hid HE2.out.1
    clear h1
    go_wp2
    go_ret2
    exact ⟨none, 0, rfl, zsAt_nil _ _ _, HG.out⟩
  · have d40 : ¬ ((40 : Int) < n3) := by have := HL3.out; omega
    have H2 := Lib.hid h2
    have u0 := A0.out.calm HE2.out.1
    have u1 := A1.out.calm HE2.out.1
    have u2 := A2.out.calm HE2.out.1
    have u3 := A3.out.calm HE2.out.1
    have vf := Zf.out.calm HE2.out.1
    have vg := Zg.out.calm HE2.out.1
    have vh := Zh.out.calm HE2.out.1
    have vk := Zk.out.calm HE2.out.1
    clear h1 h2
    go_wp2_with fail
    have bb := BB.out
    refine (cocone_r p0 q0 p1 q1 p2 q2 p3 q3 pf pg ph pk n0 c0 m0 d0 n1 c1 m1 d1 n2 c2 m2 d2 n3 c3 m3 d3 nf cf ng cg nh ch nk ck _ _ _ _ _ _ _ _ _ _ _ _ _ _ _ _ L0 L1 L2 L3 P0 P1 P2 P3 f g h k false _ u0 u1 u2 u3 vf vg vh vk (by omega) (by omega) bh bk (by omega) (by omega) (by omega) b3.2 H2.out).mono ?_
    rintro e w2 ⟨rfl, hg⟩
    have HG := Lib.hid (HE2.out.calm hg).1
    clear hg u0 u1 u2 u3 vf vg vh vk bb
    go_wp2
    go_ret2
    exact ⟨none, 0, rfl, zsAt_nil _ _ _, HG.out⟩
  · obtain ⟨_, hP⟩ := HPP.out rfl
    have hUL : U.length = NA := (arB_parts h3.1).2.2.1.trans HNA.out
    have hNA40 : NA ≤ 40 := by have := hP.small; have := HNA.out; omega
    have H3 := Lib.hid h3.2
    have HUL := Lib.hid hUL
    have HRE := Lib.hid (show Reach NA I J by rw [← HNA.out]; exact hP.reach)
    have HTB := Lib.hid (hP.thenI HNA.out.symm)
    have NIH : NI = nh := by
      have e1 := HNII.out
      have e2 := congrArg List.length h3.2.1
      rw [thenL_len] at e2
      have := HLH.out
      omega
    have NJK : NJ = nk := by
      have e1 := HNJJ.out
      have e2 := congrArg List.length h3.2.2
      rw [thenL_len] at e2
      have := HLK.out
      omega
    have H2 := Lib.hid h2
    have d40 : ¬ ((40 : Int) < n3) := by have := HL3.out; omega
    have u0 := A0.out.calm HE2.out.1
    have u1 := A1.out.calm HE2.out.1
    have u2 := A2.out.calm HE2.out.1
    have u3 := A3.out.calm HE2.out.1
    have vf := Zf.out.calm HE2.out.1
    have vg := Zg.out.calm HE2.out.1
    have vh := Zh.out.calm HE2.out.1
    have vk := Zk.out.calm HE2.out.1
    have hNA6 : NA ≤ 1000000 := by omega
    clear h1 h2 h3 hU hUL hP
    go_wp2_with fail
    have bb := BB.out
    refine (cocone_r p0 q0 p1 q1 p2 q2 p3 q3 pf pg ph pk n0 c0 m0 d0 n1 c1 m1 d1 n2 c2 m2 d2 n3 c3 m3 d3 nf cf ng cg nh ch nk ck _ _ _ _ _ _ _ _ _ _ _ _ _ _ _ _ L0 L1 L2 L3 P0 P1 P2 P3 f g h k true _ u0 u1 u2 u3 vf vg vh vk (by omega) (by omega) bh bk (by omega) (by omega) (by omega) b3.2 H2.out).mono ?_
    rintro e w2 ⟨rfl, hg⟩
    have he3 := HE2.out.calm hg
    have HG := Lib.hid he3.1
    have hb3 := HBO.out.calm hg
    have y0 := hb3.c0
    have y1 := hb3.c1
    have HI3 := Lib.hid (HI.out.calm hg)
    have HJ3 := Lib.hid (HJ.out.calm hg)
    have HH3 := Lib.hid (vh.calm hg)
    have HK3 := Lib.hid (vk.calm hg)
    subst NIH NJK
    clear hg u0 u1 u2 u3 vf vg vh vk bb he3 hb3 x00 x01 x10 x11 x20 x21 x30 x31 HE2 HBO HI HJ
    generalize w1.heap.size = gq at *
    go_wp2_with fail
    have hbl := heap_alloc_new w2 (.cells #[.slice pi NI ci, .slice ph NI ch, .slice pj NJ cj, .slice pk NJ ck] 51)
    have hga := World.grownBy_alloc w2 (.cells #[.slice pi NI ci, .slice ph NI ch, .slice pj NJ cj, .slice pk NJ ck] 51) none
    have hbn : w2.heap.size < (w2.alloc (.cells #[.slice pi NI ci, .slice ph NI ch, .slice pj NJ cj, .slice pk NJ ck] 51)).heap.size := by simp
    refine (out_two p5 q5 NA c5 NB d5 _ pi ph pj pk NI ci ch NJ cj ck _ _ _ _ _ _ _ _ I J U _ hbl (HI3.out.calm hga) (by rw [H3.out.1]; exact HH3.out.calm hga) (HJ3.out.calm hga) (by rw [H3.out.2]; exact HK3.out.calm hga) hbn HUL.out HRE.out bh bk hNA6).mono ?_
    rintro e w3 ⟨gb, rfl, hgb, hrow, hg3⟩
    have HZ := Lib.hid ((hrow.at hgb).wider (by have := hga.size; exact Nat.le_trans HG.out.size this) (Nat.le_refl _) (Nat.le_refl _))
    have HGF := Lib.hid (grownBy_trans HG.out (grownBy_trans hga hg3))
    rw [HUL.out]
    clear hbl hga hbn hgb hrow hg3 y0 y1
    go_wp2
    go_ret2
    exact ⟨_, _, by rw [HUL.out]; rfl, HZ.out, HGF.out⟩

set_option maxRecDepth 20000 in
set_option maxHeartbeats 4000000 in
theorem refMed_v (p0 q0 p1 q1 p2 q2 p3 q3 pf pg ph pk : Option Addr) (n0 c0 m0 d0 n1 c1 m1 d1 n2 c2 m2 d2 n3 c3 m3 d3 nf cf ng cg nh ch nk ck : Nat) (lo0 hi0 lo1 hi1 lo2 hi2 lo3 hi3 lof hif log hig loh hih lok hik : Nat) (L0 L1 L2 L3 : List ByteArray) (P0 P1 P2 P3 : List (Int × Int)) (f g h k : List Int) (U : List Int) (r : Int) (w : World) (hv : MedV L0 P0 L1 P1 L2 P2 f g L3 P3 h k U r) (a0 : ObjAt w lo0 hi0 p0 n0 q0 m0 L0 P0) (a1 : ObjAt w lo1 hi1 p1 n1 q1 m1 L1 P1) (a2 : ObjAt w lo2 hi2 p2 n2 q2 m2 L2 P2) (a3 : ObjAt w lo3 hi3 p3 n3 q3 m3 L3 P3) (zf : ZsAt w lof hif pf nf f) (zg : ZsAt w log hig pg ng g) (zh : ZsAt w loh hih ph nh h) (zk : ZsAt w lok hik pk nk k) (b0 : n0 ≤ 50 ∧ m0 ≤ 200) (b1 : n1 ≤ 50 ∧ m1 ≤ 200) (b2 : n2 ≤ 50 ∧ m2 ≤ 200) (bf : nf ≤ 60) (bg : ng ≤ 60) (b3 : n3 ≤ 1000000 ∧ m3 ≤ 1000000) (bh : nh ≤ 1000000) (bk : nk ≤ 1000000) (k1 : p1 = none → c1 = 0) (k2 : p2 = none → c2 = 0) (k3 : q1 = none → d1 = 0) :
    Calls Tryd.prog 10 #[.agg #[.slice p0 n0 c0, .slice q0 m0 d0], .agg #[.slice p1 n1 c1, .slice q1 m1 d1], .agg #[.slice p2 n2 c2, .slice q2 m2 d2], .slice pf nf cf, .slice pg ng cg, .agg #[.slice p3 n3 c3, .slice q3 m3 d3], .slice ph nh ch, .slice pk nk ck] w (Res1 U r w) := by
  obtain ⟨A, B, I, J, r', hp⟩ := pushV_ex L0 P0 L1 P1 L2 P2 f g
  have hcs := hv.cases hp
  have HPP := Lib.hid (fun h0 => (PushV.cases hp).resolve_left (fun h => absurd h0 (by have := h.1; omega)) : r' = 0 → r' = 0 ∧ PushA L0 L1 L2 A P0 P1 P2 B f g I J)
  have HNI := Lib.hid hp.cases
  have HP := Lib.hid hp
  have A0 := Lib.hid a0
  have A1 := Lib.hid a1
  have A2 := Lib.hid a2
  have A3 := Lib.hid a3
  have Zf := Lib.hid zf
  have Zg := Lib.hid zg
  have Zh := Lib.hid zh
  have Zk := Lib.hid zk
  have K1 := Lib.hid k1
  have K2 := Lib.hid k2
  have K3 := Lib.hid k3
  have BB := Lib.hid (And.intro b0 (And.intro b1 b2))
  have HL3 := Lib.hid a3.ls.len
  have HLH := Lib.hid zh.len
  have HLK := Lib.hid zk.len
  clear a0 a1 a2 a3 zf zg zh zk hv hp k1 k2 k3 b0 b1 b2
  go_enter Tryd.func10, Tryd.ntmps10
  go_wp2_with fail
  have he := boxEnv_four w (.slice p0 n0 c0) (.slice q0 m0 d0) (.slice p1 n1 c1) (.slice q1 m1 d1) (.slice p2 n2 c2) (.slice q2 m2 d2) (.slice p3 n3 c3) (.slice q3 m3 d3)
  generalize (((w.alloc (.cells #[.slice p0 n0 c0, .slice q0 m0 d0] 25)).alloc (.cells #[.slice p1 n1 c1, .slice q1 m1 d1] 25)).alloc (.cells #[.slice p2 n2 c2, .slice q2 m2 d2] 25)).alloc (.cells #[.slice p3 n3 c3, .slice q3 m3 d3] 25) = W0 at *
  have HE := Lib.hid he
  have u0 := A0.out.calm he.1
  have u1 := A1.out.calm he.1
  have u2 := A2.out.calm he.1
  have vf := Zf.out.calm he.1
  have vg := Zg.out.calm he.1
  clear he
  refine (refPush_v p0 q0 p1 q1 p2 q2 pf pg n0 c0 m0 d0 n1 c1 m1 d1 n2 c2 m2 d2 nf cf ng cg _ _ _ _ _ _ _ _ _ _ L0 L1 L2 P0 P1 P2 f g A B I J r' _ HP.out u0 u1 u2 vf vg BB.out.1 BB.out.2.1 BB.out.2.2 bf bg K1.out K2.out K3.out).mono ?_
  rintro e w1 ⟨p5, c5, q5, d5, pi, ci, pj, cj, rfl, ho, hi, hj, hg⟩
  clear u0 u1 u2 vf vg
  obtain ⟨NA, hNA⟩ : ∃ NA, A.length = NA := ⟨_, rfl⟩
  obtain ⟨NB, hNB⟩ : ∃ NB, B.length = NB := ⟨_, rfl⟩
  obtain ⟨NI, hNI⟩ : ∃ NI, I.length = NI := ⟨_, rfl⟩
  obtain ⟨NJ, hNJ⟩ : ∃ NJ, J.length = NJ := ⟨_, rfl⟩
  rw [hNA, hNB] at ho ⊢
  rw [hNI] at hi ⊢
  rw [hNJ] at hj ⊢
  have HNA := Lib.hid hNA
  have HNII := Lib.hid hNI
  have HNJJ := Lib.hid hNJ
  have hga := World.grownBy_alloc w1 (.cells #[.slice p5 NA c5, .slice q5 NB d5] 25) none
  have hbo := BoxO.new w1 (.slice p5 NA c5) (.slice q5 NB d5)
  have he2 := (HE.out.calm hg).calm hga
  have HI := Lib.hid (hi.calm hga)
  have HJ := Lib.hid (hj.calm hga)
  have HBO := Lib.hid hbo
  have HE2 := Lib.hid he2
  have y0 := hbo.c0
  have y1 := hbo.c1
  obtain ⟨x00, x01, x10, x11, x20, x21⟩ := he2.three
  obtain ⟨x30, x31, _, _⟩ := he2.fourth
  clear ho hi hj hg hga hbo he2 HE hNA hNB hNI hNJ
  rcases hcs with ⟨h1, rfl, rfl⟩ | ⟨rfl, h1, rfl, rfl⟩ | ⟨rfl, h1, h2, rfl, rfl⟩ | ⟨rfl, h1, h2, rfl, hU, h3⟩
  · rcases h1 with rfl | rfl
    all_goals
      have HG := Lib.hid HE2.out.1
      clear x00 x01 x10 x11 x20 x21 x30 x31
      go_wp2
      go_ret2
      exact ⟨none, 0, rfl, zsAt_nil _ _ _, HG.out⟩
  · have d40 : (40 : Int) < n3 := by have := HL3.out; omega
    have HG := Lib.hid HE2.out.1
    clear h1
    go_wp2
    go_ret2
    exact ⟨none, 0, rfl, zsAt_nil _ _ _, HG.out⟩
  · have d40 : ¬ ((40 : Int) < n3) := by have := HL3.out; omega
    have H2 := Lib.hid h2
    have u0 := A0.out.calm HE2.out.1
    have u1 := A1.out.calm HE2.out.1
    have u2 := A2.out.calm HE2.out.1
    have u3 := A3.out.calm HE2.out.1
    have vf := Zf.out.calm HE2.out.1
    have vg := Zg.out.calm HE2.out.1
    have vh := Zh.out.calm HE2.out.1
    have vk := Zk.out.calm HE2.out.1
    clear h1 h2
    go_wp2_with fail
    have bb := BB.out
    refine (refCocone_r p0 q0 p1 q1 p2 q2 p3 q3 pf pg ph pk n0 c0 m0 d0 n1 c1 m1 d1 n2 c2 m2 d2 n3 c3 m3 d3 nf cf ng cg nh ch nk ck _ _ _ _ _ _ _ _ _ _ _ _ _ _ _ _ L0 L1 L2 L3 P0 P1 P2 P3 f g h k false _ u0 u1 u2 u3 vf vg vh vk (by omega) (by omega) bh bk (by omega) (by omega) (by omega) b3.2 H2.out).mono ?_
    rintro e w2 ⟨rfl, hg⟩
    have HG := Lib.hid (HE2.out.calm hg).1
    clear hg u0 u1 u2 u3 vf vg vh vk bb
    go_wp2
    go_ret2
    exact ⟨none, 0, rfl, zsAt_nil _ _ _, HG.out⟩
  · obtain ⟨_, hP⟩ := HPP.out rfl
    have hUL : U.length = NA := (arB_parts h3.1).2.2.1.trans HNA.out
    have hNA40 : NA ≤ 40 := by have := hP.small; have := HNA.out; omega
    have H3 := Lib.hid h3.2
    have HUL := Lib.hid hUL
    have HRE := Lib.hid (show Reach NA I J by rw [← HNA.out]; exact hP.reach)
    have HTB := Lib.hid (hP.thenI HNA.out.symm)
    have NIH : NI = nh := by
      have e1 := HNII.out
      have e2 := congrArg List.length h3.2.1
      rw [thenL_len] at e2
      have := HLH.out
      omega
    have NJK : NJ = nk := by
      have e1 := HNJJ.out
      have e2 := congrArg List.length h3.2.2
      rw [thenL_len] at e2
      have := HLK.out
      omega
    have H2 := Lib.hid h2
    have d40 : ¬ ((40 : Int) < n3) := by have := HL3.out; omega
    have u0 := A0.out.calm HE2.out.1
    have u1 := A1.out.calm HE2.out.1
    have u2 := A2.out.calm HE2.out.1
    have u3 := A3.out.calm HE2.out.1
    have vf := Zf.out.calm HE2.out.1
    have vg := Zg.out.calm HE2.out.1
    have vh := Zh.out.calm HE2.out.1
    have vk := Zk.out.calm HE2.out.1
    have hNA6 : NA ≤ 1000000 := by omega
    clear h1 h2 h3 hU hUL hP
    go_wp2_with fail
    have bb := BB.out
    refine (refCocone_r p0 q0 p1 q1 p2 q2 p3 q3 pf pg ph pk n0 c0 m0 d0 n1 c1 m1 d1 n2 c2 m2 d2 n3 c3 m3 d3 nf cf ng cg nh ch nk ck _ _ _ _ _ _ _ _ _ _ _ _ _ _ _ _ L0 L1 L2 L3 P0 P1 P2 P3 f g h k true _ u0 u1 u2 u3 vf vg vh vk (by omega) (by omega) bh bk (by omega) (by omega) (by omega) b3.2 H2.out).mono ?_
    rintro e w2 ⟨rfl, hg⟩
    have he3 := HE2.out.calm hg
    have HG := Lib.hid he3.1
    have hb3 := HBO.out.calm hg
    have y0 := hb3.c0
    have y1 := hb3.c1
    have HI3 := Lib.hid (HI.out.calm hg)
    have HJ3 := Lib.hid (HJ.out.calm hg)
    have HH3 := Lib.hid (vh.calm hg)
    have HK3 := Lib.hid (vk.calm hg)
    subst NIH NJK
    clear hg u0 u1 u2 u3 vf vg vh vk bb he3 hb3 x00 x01 x10 x11 x20 x21 x30 x31 HE2 HBO HI HJ
    generalize w1.heap.size = gq at *
    have hmk := run_make_row' (P := Tryd.prog) 26 3 (.int .i64 0) 8 Tryd.underlying26 Tryd.infoZ3 rfl .i64 .i64 NA (by omega) (by omega)
    have HW0 := Lib.hid (rowZ_made w2 NA)
    have hga := World.grownBy_alloc w2 (.cells (madeCells #[.int .i64 0] NA) 3) none
    have HGA := Lib.hid hga
    have HIA := Lib.hid (HI3.out.wideZ.calm hga)
    have HJA := Lib.hid (HJ3.out.wideZ.calm hga)
    have HHA := Lib.hid (HH3.out.wideZ.calm hga)
    have HKA := Lib.hid (HK3.out.wideZ.calm hga)
    have HLU : Hid (∀ y, y < NI → h[y]?.getD 0 = U[(I[y]?.getD 0).toNat]?.getD 0) := Lib.hid (fun y hy => by rw [← H3.out.1]; exact thenL_get (by rw [HNII.out]; exact hy))
    have HLV : Hid (∀ y, y < NJ → k[y]?.getD 0 = U[(J[y]?.getD 0).toNat]?.getD 0) := Lib.hid (fun y hy => by rw [← H3.out.2]; exact thenL_get (by rw [HNJJ.out]; exact hy))
    have HLI : Hid (∀ y, y < NI → 0 ≤ I[y]?.getD 0 ∧ I[y]?.getD 0 < NA) := Lib.hid (fun y hy => thenB_at HTB.out.1 (by rw [HNII.out]; exact hy))
    have HLJ : Hid (∀ y, y < NJ → 0 ≤ J[y]?.getD 0 ∧ J[y]?.getD 0 < NA) := Lib.hid (fun y hy => thenB_at HTB.out.2 (by rw [HNJJ.out]; exact hy))
    have hle : w.heap.size ≤ w2.heap.size := HG.out.size
    have HLE := Lib.hid hle
    have HG3 := Lib.hid (grownBy_trans HG.out hga)
    clear hga HI3 HJ3 HH3 HK3 H3 hle HG
    go_wp2
    generalize w2.alloc (.cells (madeCells #[.int .i64 0] NA) 3) = w3 at *
    generalize w2.heap.size = gb at *
    clear y0 y1
    go_loopw [23] (fun i wr => ∃ (x : Nat) (R : List Int), x ≤ NI ∧ i = .int .i64 x ∧ RowZ wr gb R ∧ Hid (R.length = NA ∧ HitR NA I J U R x 0) ∧ w.grownBy wr none ∧ Kept gb (gb + 1) w3 wr) (fun i _ => NI - (intOf i).toNat)
    case atStart => exact ⟨0, List.replicate NA 0, Nat.zero_le _, rfl, HW0.out, Lib.hid ⟨by simp, hitR_zero _ _ _ _ _⟩, HG3.out, Kept.refl _ _ _⟩
    case round =>
      obtain ⟨x9, R9, hx, rfl, hrow, HRR, hgr, hkp⟩ := hrel
      by_cases hxn : x9 < NI
      · have x0 : (0 : Int) ≤ x9 := by omega
        have x1 : (x9 : Int) < NI := by omega
        obtain ⟨ba, oa, rfl, _, _, _, hca⟩ := (HIA.out.apart hkp (.inl (Nat.le_refl _))).cell (by omega)
        obtain ⟨bb, ob, rfl, _, _, _, hcb⟩ := (HHA.out.apart hkp (.inl (Nat.le_refl _))).cell (by omega)
        have ca := hca x9 hxn
        have cb := hcb x9 hxn
        obtain ⟨z0, z1⟩ := HLI.out x9 hxn
        obtain ⟨z, hz⟩ := Int.eq_ofNat_of_zero_le z0
        have hzn : z < NA := by omega
        rw [HLU.out x9 hxn, hz, Int.toNat_natCast] at cb
        rw [hz] at ca
        have zz0 : (0 : Int) ≤ z := by omega
        have zz1 : (z : Int) < NA := by omega
        have HNEW := Lib.hid (show (R9.set z (U[z]?.getD 0)).length = NA ∧ HitR NA I J U (R9.set z (U[z]?.getD 0)) (x9 + 1) 0 from ⟨by rw [List.length_set]; exact HRR.out.1, hitR_set HRR.out.2 HRR.out.1 hzn (fun e he => by by_cases q : e = x9; exact .inr (by rw [q]; exact hz); exact .inl (by omega)) (fun e he => absurd he (Nat.not_lt_zero _))⟩)
        have hrd := hrow.calm (grownBy_drewN wr 1 none)
        have hfz : wr.drew.frozen? ⟨gb, z, none⟩ = false := hrd.free z
        have hcz : wr.drew.cell? ⟨gb, z, none⟩ = _ := hrd.cell (k := z) (by rw [HRR.out.1]; exact hzn)
        have HRS := Lib.hid (hrd.set (k := z) (U[z]?.getD 0))
        have HGS := Lib.hid (grownBy_setCell wr.drew ⟨gb, z, none⟩ (.int .i64 (U[z]?.getD 0)))
        have HGD := Lib.hid (grownBy_trans hgr (grownBy_drewN wr 1 none))
        have HKD := Lib.hid (hkp.trans (Kept.calm (grownBy_drewN wr 1 none)))
        clear hca hcb hz z0 z1 hrow hgr hkp hrd
        generalize U[z]?.getD 0 = y at *
        go_wp2
        refine wp_region_still_tail 10 (by kernel_rfl) (by kernel_rfl) ?_
        simp only [List.take_succ_cons, List.take_zero, List.drop_succ_cons, List.drop_zero]
        repeat still_step
        refine wpStill_nil ?_
        change wpList _ _ _ _ _ wr.drew
        go_wp2
        exact ⟨⟨x9 + 1, _, by omega, by go_num, HRS.out, HNEW, grownBy_new HGD.out HGS.out HLE.out, HKD.out.trans (Kept.row HGS.out (Nat.le_refl _) (Nat.lt_succ_self _))⟩, by simp [intOf]; omega⟩
      · obtain rfl : x9 = NI := by omega
        have x1 : ¬ ((x9 : Int) < x9) := by omega
        have HROW := Lib.hid hrow
        have HGR := Lib.hid hgr
        have HKP := Lib.hid hkp
        clear hrow hgr hkp
        generalize wr = wq at *
        go_wp2
        go_loopw [24] (fun i wr => ∃ (x : Nat) (R : List Int), x ≤ NJ ∧ i = .int .i64 x ∧ RowZ wr gb R ∧ Hid (R.length = NA ∧ HitR NA I J U R x9 x) ∧ w.grownBy wr none ∧ Kept gb (gb + 1) w3 wr) (fun i _ => NJ - (intOf i).toNat)
        case atStart => exact ⟨0, R9, Nat.zero_le _, rfl, HROW.out, HRR, HGR.out, HKP.out⟩
        case round =>
          obtain ⟨x, R, hx, rfl, hrow, HRR, hgr, hkp⟩ := hrel
          by_cases hxn : x < NJ
          · have x0 : (0 : Int) ≤ x := by omega
            have x1 : (x : Int) < NJ := by omega
            obtain ⟨ba, oa, rfl, _, _, _, hca⟩ := (HJA.out.apart hkp (.inl (Nat.le_refl _))).cell (by omega)
            obtain ⟨bb, ob, rfl, _, _, _, hcb⟩ := (HKA.out.apart hkp (.inl (Nat.le_refl _))).cell (by omega)
            have ca := hca x hxn
            have cb := hcb x hxn
            obtain ⟨z0, z1⟩ := HLJ.out x hxn
            obtain ⟨z, hz⟩ := Int.eq_ofNat_of_zero_le z0
            have hzn : z < NA := by omega
            rw [HLV.out x hxn, hz, Int.toNat_natCast] at cb
            rw [hz] at ca
            have zz0 : (0 : Int) ≤ z := by omega
            have zz1 : (z : Int) < NA := by omega
            have HNEW := Lib.hid (show (R.set z (U[z]?.getD 0)).length = NA ∧ HitR NA I J U (R.set z (U[z]?.getD 0)) x9 (x + 1) from ⟨by rw [List.length_set]; exact HRR.out.1, hitR_set HRR.out.2 HRR.out.1 hzn (fun e he => .inl he) (fun e he => by by_cases q : e = x; exact .inr (by rw [q]; exact hz); exact .inl (by omega))⟩)
            have hrd := hrow.calm (grownBy_drewN wr 1 none)
            have hfz : wr.drew.frozen? ⟨gb, z, none⟩ = false := hrd.free z
            have hcz : wr.drew.cell? ⟨gb, z, none⟩ = _ := hrd.cell (k := z) (by rw [HRR.out.1]; exact hzn)
            have HRS := Lib.hid (hrd.set (k := z) (U[z]?.getD 0))
            have HGS := Lib.hid (grownBy_setCell wr.drew ⟨gb, z, none⟩ (.int .i64 (U[z]?.getD 0)))
            have HGD := Lib.hid (grownBy_trans hgr (grownBy_drewN wr 1 none))
            have HKD := Lib.hid (hkp.trans (Kept.calm (grownBy_drewN wr 1 none)))
            clear hca hcb hz z0 z1 hrow hgr hkp hrd
            generalize U[z]?.getD 0 = y at *
            go_wp2
            refine wp_region_still_tail 10 (by kernel_rfl) (by kernel_rfl) ?_
            simp only [List.take_succ_cons, List.take_zero, List.drop_succ_cons, List.drop_zero]
            repeat still_step
            refine wpStill_nil ?_
            change wpList _ _ _ _ _ wr.drew
            go_wp2
            exact ⟨⟨x + 1, _, by omega, by go_num, HRS.out, HNEW, grownBy_new HGD.out HGS.out HLE.out, HKD.out.trans (Kept.row HGS.out (Nat.le_refl _) (Nat.lt_succ_self _))⟩, by simp [intOf]; omega⟩
          · obtain rfl : x = NJ := by omega
            have x1 : ¬ ((x : Int) < x) := by omega
            have HROW := Lib.hid hrow
            have HGR := Lib.hid hgr
            have HKP := Lib.hid hkp
            clear hrow hgr hkp
            generalize wr = wq at *
            go_wp2
            have hRU : R = U := by
              refine ext0 (HRR.out.1.trans HUL.out.symm) (fun p hp => ?_)
              have hp' : p < NA := by rw [← HRR.out.1]; exact hp
              refine HRR.out.2 p hp' ?_
              rcases HRE.out p hp' with ⟨e, he, hx⟩ | ⟨e, he, hx⟩
              · exact .inl ⟨e, by rw [← HNII.out]; exact he, hx⟩
              · exact .inr ⟨e, by rw [← HNJJ.out]; exact he, hx⟩
            subst hRU
            have HZ := Lib.hid ((HROW.out.at (Nat.le_refl _)).wider HLE.out (Nat.le_refl _) (Nat.le_refl _))
            go_ret2
            exact ⟨_, _, by rw [HUL.out]; rfl, by have := HZ.out; rwa [HUL.out] at this ⊢, HGR.out⟩

set_option maxRecDepth 20000 in
set_option maxHeartbeats 4000000 in
theorem swap_v (p0 q0 p1 q1 p2 q2 pf pg : Option Addr) (n0 c0 m0 d0 n1 c1 m1 d1 n2 c2 m2 d2 nf cf ng cg : Nat) (lo0 hi0 lo1 hi1 lo2 hi2 lof hif log hig : Nat) (L0 L1 L2 : List ByteArray) (P0 P1 P2 : List (Int × Int)) (f g : List Int) (A AQ : List ByteArray) (B BQ : List (Int × Int)) (I J IQ JQ X Y : List Int) (r : Int) (w : World) (hv : PushV L0 P0 L1 P1 L2 P2 f g A B I J r) (hv2 : PushV L0 P0 L2 P2 L1 P1 g f AQ BQ IQ JQ r)
    (hx : (r ≠ 0 ∧ X = [] ∧ Y = []) ∨ (r = 0 ∧ X.length = A.length ∧ thenL I X = JQ ∧ thenL J X = IQ ∧ Y.length = AQ.length ∧ thenL IQ Y = J ∧ thenL JQ Y = I)) (a0 : ObjAt w lo0 hi0 p0 n0 q0 m0 L0 P0) (a1 : ObjAt w lo1 hi1 p1 n1 q1 m1 L1 P1) (a2 : ObjAt w lo2 hi2 p2 n2 q2 m2 L2 P2) (zf : ZsAt w lof hif pf nf f) (zg : ZsAt w log hig pg ng g) (b0 : n0 ≤ 50 ∧ m0 ≤ 200) (b1 : n1 ≤ 50 ∧ m1 ≤ 200) (b2 : n2 ≤ 50 ∧ m2 ≤ 200) (bf : nf ≤ 60) (bg : ng ≤ 60) (k1 : p1 = none → c1 = 0) (k2 : p2 = none → c2 = 0) (k3 : q1 = none → d1 = 0) (k4 : q2 = none → d2 = 0) (ht : Tab w) :
    Calls Tryd.prog 18 #[.agg #[.slice p0 n0 c0, .slice q0 m0 d0], .agg #[.slice p1 n1 c1, .slice q1 m1 d1], .agg #[.slice p2 n2 c2, .slice q2 m2 d2], .slice pf nf cf, .slice pg ng cg] w (Res2 X Y r w) := by
  have A0 := Lib.hid a0
  have A1 := Lib.hid a1
  have A2 := Lib.hid a2
  have Zf := Lib.hid zf
  have Zg := Lib.hid zg
  have HP := Lib.hid hv
  have HQ := Lib.hid hv2
  have HC := Lib.hid hv.cases
  have HD := Lib.hid hv2.cases
  have K1 := Lib.hid k1
  have K2 := Lib.hid k2
  have K3 := Lib.hid k3
  have K4 := Lib.hid k4
  have BB := Lib.hid (And.intro b0 (And.intro b1 b2))
  have HT := Lib.hid ht
  have HL1 := Lib.hid a1.ls.len
  have HL2 := Lib.hid a2.ls.len
  have HXX := Lib.hid hx
  clear a0 a1 a2 zf zg hv hv2 k1 k2 k3 k4 b0 b1 b2 ht hx
  go_enter Tryd.func18, Tryd.ntmps18
  go_wp2_with fail
  have he := boxEnv_three w (.slice p0 n0 c0) (.slice q0 m0 d0) (.slice p1 n1 c1) (.slice q1 m1 d1) (.slice p2 n2 c2) (.slice q2 m2 d2)
  generalize ((w.alloc (.cells #[.slice p0 n0 c0, .slice q0 m0 d0] 25)).alloc (.cells #[.slice p1 n1 c1, .slice q1 m1 d1] 25)).alloc (.cells #[.slice p2 n2 c2, .slice q2 m2 d2] 25) = W0 at *
  have HE := Lib.hid he
  have u0 := A0.out.calm he.1
  have u1 := A1.out.calm he.1
  have u2 := A2.out.calm he.1
  have vf := Zf.out.calm he.1
  have vg := Zg.out.calm he.1
  have ht0 := HT.out.grown he.1 (by simp)
  clear he
  refine (push_v p0 q0 p1 q1 p2 q2 pf pg n0 c0 m0 d0 n1 c1 m1 d1 n2 c2 m2 d2 nf cf ng cg _ _ _ _ _ _ _ _ _ _ L0 L1 L2 P0 P1 P2 f g A B I J r _ HP.out u0 u1 u2 vf vg BB.out.1 BB.out.2.1 BB.out.2.2 bf bg K1.out K2.out K3.out ht0).mono ?_
  rintro e w1 ⟨p5, c5, q5, d5, pi, ci, pj, cj, rfl, ho, hi, hj, _, _, hg⟩
  clear u0 u1 u2 vf vg ht0
  obtain ⟨NA, hNA⟩ : ∃ NA, A.length = NA := ⟨_, rfl⟩
  obtain ⟨NB, hNB⟩ : ∃ NB, B.length = NB := ⟨_, rfl⟩
  obtain ⟨NI, hNI⟩ : ∃ NI, I.length = NI := ⟨_, rfl⟩
  obtain ⟨NJ, hNJ⟩ : ∃ NJ, J.length = NJ := ⟨_, rfl⟩
  rw [hNA, hNB] at ho ⊢
  rw [hNI] at hi ⊢
  rw [hNJ] at hj ⊢
  have HNA := Lib.hid hNA
  have HNI := Lib.hid hNI
  have HNJ := Lib.hid hNJ
  have hga := World.grownBy_alloc w1 (.cells #[.slice p5 NA c5, .slice q5 NB d5] 25) none
  have hbo := BoxO.new w1 (.slice p5 NA c5) (.slice q5 NB d5)
  have he2 := (HE.out.calm hg).calm hga
  have HI := Lib.hid (hi.calm hga)
  have HJ := Lib.hid (hj.calm hga)
  have HBO := Lib.hid hbo
  have HE2 := Lib.hid he2
  have y0 := hbo.c0
  have y1 := hbo.c1
  obtain ⟨x00, x01, x10, x11, x20, x21⟩ := he2.three
  clear ho hi hj hg hga hbo he2 HE hNA hNB hNI hNJ
  rcases HC.out with ⟨hr, _⟩ | ⟨rfl, hP⟩
  · obtain ⟨_, rfl, rfl⟩ := HXX.out.resolve_right (fun h => by have := h.1; omega)
    have HG := Lib.hid HE2.out.1
    clear x00 x01 x10 x11 x20 x21 y0 y1
    rcases hr with rfl | rfl
    all_goals
      go_wp2
      exact bodyPost_ret (v := .tuple #[.slice none 0 0, .slice none 0 0, .int .i64 _]) (by simp [results, Tryd.results18, go_sem]) rfl ⟨none, 0, none, 0, rfl, zsAt_nil _ _ _, zsAt_nil _ _ _, HG.out⟩
  · obtain ⟨_, e1, e2, e3, e4, e5, e6⟩ := HXX.out.resolve_left (fun h => h.1 rfl)
    have hQ : PushA L0 L2 L1 AQ P0 P2 P1 BQ g f IQ JQ := (HD.out.resolve_left (fun h => by have := h.1; omega)).2
    have HPA := Lib.hid hP
    have HQA := Lib.hid hQ
    have HE1 := Lib.hid (And.intro e1 (And.intro e2 e3))
    have HE4 := Lib.hid (And.intro e4 (And.intro e5 e6))
    have u0 := A0.out.calm HE2.out.1
    have u1 := A1.out.calm HE2.out.1
    have u2 := A2.out.calm HE2.out.1
    have vf := Zf.out.calm HE2.out.1
    have vg := Zg.out.calm HE2.out.1
    have ht0 := HT.out.grown HE2.out.1 (by simp)
    clear hP hQ e1 e2 e3 e4 e5 e6 HXX HC HD
    go_wp2_with fail
    generalize w1.alloc (.cells #[.slice p5 NA c5, .slice q5 NB d5] 25) = w2 at *
    generalize w1.heap.size = gq at *
    refine (push_v p0 q0 p2 q2 p1 q1 pg pf n0 c0 m0 d0 n2 c2 m2 d2 n1 c1 m1 d1 ng cg nf cf _ _ _ _ _ _ _ _ _ _ L0 L2 L1 P0 P2 P1 g f AQ BQ IQ JQ 0 _ HQ.out u0 u2 u1 vg vf BB.out.1 BB.out.2.2 BB.out.2.1 bg bf K2.out K1.out K4.out ht0).mono ?_
    rintro e w3 ⟨p6, c6, q6, d6, pk, ck, pl, cl, rfl, ho, hi, hj, _, _, hg⟩
    clear u0 u1 u2 vf vg ht0
    obtain ⟨NC, hNC⟩ : ∃ NC, AQ.length = NC := ⟨_, rfl⟩
    obtain ⟨ND, hND⟩ : ∃ ND, BQ.length = ND := ⟨_, rfl⟩
    have l1 : IQ.length = NJ := by rw [HQA.out.squ.il, ← HPA.out.squ.jl]; exact HNJ.out
    have l2 : JQ.length = NI := by rw [HQA.out.squ.jl, ← HPA.out.squ.il]; exact HNI.out
    have hs1 : NI ≤ 1000000 ∧ NJ ≤ 1000000 ∧ NA ≤ 1000000 ∧ NC ≤ 1000000 := by
      have a1 := HPA.out.few
      have a2 := HPA.out.squ.il
      have a3 := HPA.out.squ.jl
      have a4 := HPA.out.small
      have a5 := HQA.out.small
      have a6 := HNI.out
      have a7 := HNJ.out
      have a8 := HNA.out
      omega
    rw [hNC, hND] at ho ⊢
    rw [l1] at hi ⊢
    rw [l2] at hj ⊢
    have HNC := Lib.hid hNC
    have hga := World.grownBy_alloc w3 (.cells #[.slice p6 NC c6, .slice q6 ND d6] 25) none
    have hbo := BoxO.new w3 (.slice p6 NC c6) (.slice q6 ND d6)
    have hg2 := grownBy_trans hg hga
    have hb1 := HBO.out.calm hg2
    have HB1 := Lib.hid hb1
    have HB2 := Lib.hid hbo
    have HGA := Lib.hid (grownBy_trans HE2.out.1 hg2)
    have HI1 := Lib.hid (HI.out.calm hg2)
    have HJ1 := Lib.hid (HJ.out.calm hg2)
    have HI2 := Lib.hid (hi.calm hga)
    have HJ2 := Lib.hid (hj.calm hga)
    have y0 := hb1.c0
    have y1 := hb1.c1
    have v0 := hbo.c0
    have v1 := hbo.c1
    clear ho hi hj hg hga hbo hg2 hb1 hNC hND l1 l2 x00 x01 x10 x11 x20 x21 HE2 HI HJ HBO
    go_wp2_with fail
    have hsz : (w3.alloc (.cells #[.slice p6 NC c6, .slice q6 ND d6] 25)).heap.size = w3.heap.size + 1 := by simp
    generalize w3.alloc (.cells #[.slice p6 NC c6, .slice q6 ND d6] 25) = w4 at *
    generalize w3.heap.size = gr at *
    have hbl := heap_alloc_new w4 (.cells #[.slice pi NI ci, .slice pl NI cl, .slice pj NJ cj, .slice pk NJ ck] 51)
    have hga := World.grownBy_alloc w4 (.cells #[.slice pi NI ci, .slice pl NI cl, .slice pj NJ cj, .slice pk NJ ck] 51) none
    have hbn : w4.heap.size < (w4.alloc (.cells #[.slice pi NI ci, .slice pl NI cl, .slice pj NJ cj, .slice pk NJ ck] 51)).heap.size := by simp
    rw [hsz] at hbl hbn
    clear hsz
    refine (out_two p5 q5 NA c5 NB d5 _ pi pl pj pk NI ci cl NJ cj ck _ _ _ _ _ _ _ _ I J X _ hbl (HI1.out.calm hga) (by rw [HE1.out.2.1]; exact HJ2.out.calm hga) (HJ1.out.calm hga) (by rw [HE1.out.2.2]; exact HI2.out.calm hga) hbn (HE1.out.1.trans HNA.out) (by rw [← HNA.out]; exact HPA.out.reach) hs1.1 hs1.2.1 hs1.2.2.1).mono ?_
    rintro e w5 ⟨gb, rfl, hgb, hrow, hg3⟩
    have hg4 := grownBy_trans hga hg3
    have HROW := Lib.hid hrow
    have HGB := Lib.hid (show w.heap.size ≤ gb from Nat.le_trans HGA.out.size (Nat.le_trans hga.size hgb))
    have HGA2 := Lib.hid (grownBy_trans HGA.out hg4)
    have HI3 := Lib.hid (HI1.out.calm hg4)
    have HJ3 := Lib.hid (HJ1.out.calm hg4)
    have HI4 := Lib.hid (HI2.out.calm hg4)
    have HJ4 := Lib.hid (HJ2.out.calm hg4)
    have hb2 := HB2.out.calm hg4
    have v0 := hb2.c0
    have v1 := hb2.c1
    have HXL := Lib.hid (HE1.out.1.trans HNA.out)
    rw [HXL.out]
    clear hbl hga hbn hgb hrow hg3 hg4 hb2 y0 y1 HGA HI1 HJ1 HI2 HJ2 HB1 HB2
    go_wp2_with fail
    have hbl := heap_alloc_new w5 (.cells #[.slice pl NI cl, .slice pi NI ci, .slice pk NJ ck, .slice pj NJ cj] 51)
    have hga := World.grownBy_alloc w5 (.cells #[.slice pl NI cl, .slice pi NI ci, .slice pk NJ ck, .slice pj NJ cj] 51) none
    have hbn : w5.heap.size < (w5.alloc (.cells #[.slice pl NI cl, .slice pi NI ci, .slice pk NJ ck, .slice pj NJ cj] 51)).heap.size := by simp
    refine (out_two p6 q6 NC c6 ND d6 _ pl pi pk pj NI cl ci NJ ck cj _ _ _ _ _ _ _ _ JQ IQ Y _ hbl (HJ4.out.calm hga) (by rw [HE4.out.2.2]; exact HI3.out.calm hga) (HI4.out.calm hga) (by rw [HE4.out.2.1]; exact HJ3.out.calm hga) hbn (HE4.out.1.trans HNC.out) (by rw [← HNC.out]; exact HQA.out.reach.swap) hs1.1 hs1.2.1 hs1.2.2.2).mono ?_
    rintro e w6 ⟨gc, rfl, hgc, hrow, hg3⟩
    have hg4 := grownBy_trans hga hg3
    have HZX := Lib.hid (((HROW.out.at HGB.out).calm hg4).wider (Nat.le_refl _) hg4.size (Nat.le_refl _))
    have HZY := Lib.hid (hrow.at (show w.heap.size ≤ gc from Nat.le_trans HGA2.out.size (Nat.le_trans hga.size hgc)))
    have HGF := Lib.hid (grownBy_trans HGA2.out hg4)
    have HYL := Lib.hid (HE4.out.1.trans HNC.out)
    rw [HYL.out]
    clear hbl hga hbn hgc hrow hg3 hg4 v0 v1
    go_wp2
    refine bodyPost_ret (v := .tuple #[.slice (some ⟨gb, 0, none⟩) NA NA, .slice (some ⟨gc, 0, none⟩) NC NC, .int .i64 0]) (by simp [results, Tryd.results18, go_sem]) rfl ?_
    exact ⟨_, _, _, _, by rw [HXL.out, HYL.out], HZX.out, HZY.out, HGF.out⟩

end Go.Proofs.YtgpcakcjiaoimaaDoor
