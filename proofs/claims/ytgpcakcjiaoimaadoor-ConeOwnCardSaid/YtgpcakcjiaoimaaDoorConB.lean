/- Cocone: whether four maps are a cocone, as package cone and as the reference tell it. -/
import Derived.Test.YtgpcakcjiaoimaaDoorConP
namespace Go.Proofs.YtgpcakcjiaoimaaDoor
open Go.RowKit

set_option maxRecDepth 20000 in
set_option maxHeartbeats 4000000 in
theorem cocone_r (p0 q0 p1 q1 p2 q2 p3 q3 pf pg ph pk : Option Addr) (n0 c0 m0 d0 n1 c1 m1 d1 n2 c2 m2 d2 n3 c3 m3 d3 nf cf ng cg nh ch nk ck : Nat) (lo0 hi0 lo1 hi1 lo2 hi2 lo3 hi3 lof hif log hig loh hih lok hik : Nat) (L0 L1 L2 L3 : List ByteArray) (P0 P1 P2 P3 : List (Int × Int)) (f g h k : List Int) (r : Bool) (w : World) (a0 : ObjAt w lo0 hi0 p0 n0 q0 m0 L0 P0) (a1 : ObjAt w lo1 hi1 p1 n1 q1 m1 L1 P1) (a2 : ObjAt w lo2 hi2 p2 n2 q2 m2 L2 P2) (a3 : ObjAt w lo3 hi3 p3 n3 q3 m3 L3 P3) (zf : ZsAt w lof hif pf nf f) (zg : ZsAt w log hig pg ng g) (zh : ZsAt w loh hih ph nh h) (zk : ZsAt w lok hik pk nk k) (bf : nf ≤ 1000000) (bg : ng ≤ 1000000) (bh : nh ≤ 1000000) (bk : nk ≤ 1000000) (b0 : m0 ≤ 1000000) (b1 : m1 ≤ 1000000) (b2 : m2 ≤ 1000000) (b3 : m3 ≤ 1000000) (hr : coneB L0 P0 L1 P1 L2 P2 f g L3 P3 h k = r) :
    Calls Tryd.prog 12 #[.agg #[.slice p0 n0 c0, .slice q0 m0 d0], .agg #[.slice p1 n1 c1, .slice q1 m1 d1], .agg #[.slice p2 n2 c2, .slice q2 m2 d2], .slice pf nf cf, .slice pg ng cg, .agg #[.slice p3 n3 c3, .slice q3 m3 d3], .slice ph nh ch, .slice pk nk ck] w fun e w' => e = .returned (.bool r) ∧ w.grownBy w' none := by
  have A0 := Lib.hid a0
  have A1 := Lib.hid a1
  have A2 := Lib.hid a2
  have A3 := Lib.hid a3
  have Zf := Lib.hid zf
  have Zg := Lib.hid zg
  have Zh := Lib.hid zh
  have Zk := Lib.hid zk
  have HR := Lib.hid hr
  clear a0 a1 a2 a3 zf zg zh zk hr
  go_enter Tryd.func12, Tryd.ntmps12
  go_wp2_with fail
  have he := boxEnv_four w (.slice p0 n0 c0) (.slice q0 m0 d0) (.slice p1 n1 c1) (.slice q1 m1 d1) (.slice p2 n2 c2) (.slice q2 m2 d2) (.slice p3 n3 c3) (.slice q3 m3 d3)
  generalize (((w.alloc (.cells #[.slice p0 n0 c0, .slice q0 m0 d0] 25)).alloc (.cells #[.slice p1 n1 c1, .slice q1 m1 d1] 25)).alloc (.cells #[.slice p2 n2 c2, .slice q2 m2 d2] 25)).alloc (.cells #[.slice p3 n3 c3, .slice q3 m3 d3] 25) = W0 at *
  have HE0 := Lib.hid he
  have u0 := A0.out.calm he.1
  have u1 := A1.out.calm he.1
  have ux := Zf.out.calm he.1
  clear he
  cases hr0 : arB L0 P0 L1 P1 f with
  | false =>
    obtain rfl : r = false := by rw [← HR.out]; unfold coneB; rw [hr0]; rfl
    refine (arIs_r p0 q0 p1 q1 pf n0 c0 m0 d0 n1 c1 m1 d1 nf cf _ _ _ _ _ _ L0 L1 P0 P1 f false _ u0 u1 ux bf b0 b1 hr0).mono ?_
    rintro e w1 ⟨rfl, hg⟩
    have HG := Lib.hid (HE0.out.calm hg).1
    clear hr0 hg u0 u1 ux
    go_wp2
    go_ret
    exact ⟨rfl, HG.out⟩
  | true =>
    have R0 := Lib.hid hr0
    refine (arIs_r p0 q0 p1 q1 pf n0 c0 m0 d0 n1 c1 m1 d1 nf cf _ _ _ _ _ _ L0 L1 P0 P1 f true _ u0 u1 ux bf b0 b1 hr0).mono ?_
    rintro e w1 ⟨rfl, hg⟩
    have he1 := HE0.out.calm hg
    clear hr0 hg u0 u1 ux HE0
    have HE1 := Lib.hid he1
    have u0 := A0.out.calm he1.1
    have u2 := A2.out.calm he1.1
    have ux := Zg.out.calm he1.1
    obtain ⟨x00, x01, x10, x11, x20, x21⟩ := he1.three
    obtain ⟨x30, x31, _, _⟩ := he1.fourth
    clear he1
    go_wp2_with fail
    cases hr1 : arB L0 P0 L2 P2 g with
    | false =>
      obtain rfl : r = false := by rw [← HR.out]; unfold coneB; rw [R0.out, hr1]; rfl
      refine (arIs_r p0 q0 p2 q2 pg n0 c0 m0 d0 n2 c2 m2 d2 ng cg _ _ _ _ _ _ L0 L2 P0 P2 g false _ u0 u2 ux bg b0 b2 hr1).mono ?_
      rintro e w2 ⟨rfl, hg⟩
      have HG := Lib.hid (HE1.out.calm hg).1
      clear hr1 hg u0 u2 ux
      go_wp2
      go_ret
      exact ⟨rfl, HG.out⟩
    | true =>
      have R1 := Lib.hid hr1
      refine (arIs_r p0 q0 p2 q2 pg n0 c0 m0 d0 n2 c2 m2 d2 ng cg _ _ _ _ _ _ L0 L2 P0 P2 g true _ u0 u2 ux bg b0 b2 hr1).mono ?_
      rintro e w2 ⟨rfl, hg⟩
      have he2 := HE1.out.calm hg
      clear hr1 hg u0 u2 ux HE1
      have HE2 := Lib.hid he2
      have u1 := A1.out.calm he2.1
      have u3 := A3.out.calm he2.1
      have ux := Zh.out.calm he2.1
      obtain ⟨x00, x01, x10, x11, x20, x21⟩ := he2.three
      obtain ⟨x30, x31, _, _⟩ := he2.fourth
      clear he2
      go_wp2_with fail
      cases hr2 : arB L1 P1 L3 P3 h with
      | false =>
        obtain rfl : r = false := by rw [← HR.out]; unfold coneB; rw [R0.out, R1.out, hr2]; rfl
        refine (arIs_r p1 q1 p3 q3 ph n1 c1 m1 d1 n3 c3 m3 d3 nh ch _ _ _ _ _ _ L1 L3 P1 P3 h false _ u1 u3 ux bh b1 b3 hr2).mono ?_
        rintro e w3 ⟨rfl, hg⟩
        have HG := Lib.hid (HE2.out.calm hg).1
        clear hr2 hg u1 u3 ux
        go_wp2
        go_ret
        exact ⟨rfl, HG.out⟩
      | true =>
        have R2 := Lib.hid hr2
        refine (arIs_r p1 q1 p3 q3 ph n1 c1 m1 d1 n3 c3 m3 d3 nh ch _ _ _ _ _ _ L1 L3 P1 P3 h true _ u1 u3 ux bh b1 b3 hr2).mono ?_
        rintro e w3 ⟨rfl, hg⟩
        have he3 := HE2.out.calm hg
        clear hr2 hg u1 u3 ux HE2
        have HE3 := Lib.hid he3
        have u2 := A2.out.calm he3.1
        have u3 := A3.out.calm he3.1
        have ux := Zk.out.calm he3.1
        obtain ⟨x00, x01, x10, x11, x20, x21⟩ := he3.three
        obtain ⟨x30, x31, _, _⟩ := he3.fourth
        clear he3
        go_wp2_with fail
        cases hr3 : arB L2 P2 L3 P3 k with
        | false =>
          obtain rfl : r = false := by rw [← HR.out]; unfold coneB; rw [R0.out, R1.out, R2.out, hr3]; rfl
          refine (arIs_r p2 q2 p3 q3 pk n2 c2 m2 d2 n3 c3 m3 d3 nk ck _ _ _ _ _ _ L2 L3 P2 P3 k false _ u2 u3 ux bk b2 b3 hr3).mono ?_
          rintro e w4 ⟨rfl, hg⟩
          have HG := Lib.hid (HE3.out.calm hg).1
          clear hr3 hg u2 u3 ux
          go_wp2
          go_ret
          exact ⟨rfl, HG.out⟩
        | true =>
          have R3 := Lib.hid hr3
          refine (arIs_r p2 q2 p3 q3 pk n2 c2 m2 d2 n3 c3 m3 d3 nk ck _ _ _ _ _ _ L2 L3 P2 P3 k true _ u2 u3 ux bk b2 b3 hr3).mono ?_
          rintro e w4 ⟨rfl, hg⟩
          have he4 := HE3.out.calm hg
          clear hr3 hg u2 u3 ux HE3
          have HG := Lib.hid he4.1
          have fl := Zf.out.len
          have gl := Zg.out.len
          have hl := Zh.out.len
          have kl := Zk.out.len
          have FB := Lib.hid (show thenB f h.length = true from by rw [(arB_parts R2.out).2.2.1]; exact lab_has (arB_parts R0.out).2.2.2.1)
          have GB := Lib.hid (show thenB g k.length = true from by rw [(arB_parts R3.out).2.2.1]; exact lab_has (arB_parts R1.out).2.2.2.1)
          have hr' : decide (thenL f h = thenL g k) = r := by rw [← HR.out]; unfold coneB; rw [R0.out, R1.out, R2.out, R3.out]; rfl
          have HRR := Lib.hid hr'
          have FL := Lib.hid fl
          have GL := Lib.hid gl
          have v1 := Zf.out.calm HG.out
          have v2 := Zh.out.calm HG.out
          clear he4 fl gl hl kl hr'
          go_wp2_with fail
          refine (then_c pf ph nf cf nh ch _ _ _ _ f h _ v1 v2 bf).mono ?_
          rintro e w5 ⟨hg, ⟨h1, gx, rfl, hgx, hrx⟩ | ⟨h1, rfl⟩⟩
          rotate_left
          · exact absurd h1 (by rw [FB.out]; decide)
          have XX := Lib.hid hrx.at1
          have HG5 := Lib.hid (grownBy_trans HG.out hg)
          have v1 := Zg.out.calm HG5.out
          have v2 := Zk.out.calm HG5.out
          rw [FL.out]
          clear h1 hrx hg hgx HG
          go_wp2_with fail
          refine (then_c pg pk ng cg nk ck _ _ _ _ g k _ v1 v2 bg).mono ?_
          rintro e w6 ⟨hg, ⟨h1, gy, rfl, hgy, hry⟩ | ⟨h1, rfl⟩⟩
          rotate_left
          · exact absurd h1 (by rw [GB.out]; decide)
          have hxx := XX.out.calm hg
          have hyy := hry.at1
          rw [thenL_len, FL.out] at hxx
          rw [thenL_len, GL.out] at hyy
          have HG6 := Lib.hid (grownBy_trans HG5.out hg)
          rw [GL.out]
          clear h1 hry hg hgy
          go_wp2_with fail
          refine (arSame_r _ _ _ _ _ _ _ _ _ _ (thenL f h) (thenL g k) r _ hxx hyy bf HRR.out).mono ?_
          rintro e w7 ⟨rfl, hg⟩
          have HG7 := Lib.hid (grownBy_trans HG6.out hg)
          clear hg hxx hyy
          go_wp2
          go_ret
          exact ⟨rfl, HG7.out⟩

set_option maxRecDepth 20000 in
set_option maxHeartbeats 4000000 in
theorem refCocone_r (p0 q0 p1 q1 p2 q2 p3 q3 pf pg ph pk : Option Addr) (n0 c0 m0 d0 n1 c1 m1 d1 n2 c2 m2 d2 n3 c3 m3 d3 nf cf ng cg nh ch nk ck : Nat) (lo0 hi0 lo1 hi1 lo2 hi2 lo3 hi3 lof hif log hig loh hih lok hik : Nat) (L0 L1 L2 L3 : List ByteArray) (P0 P1 P2 P3 : List (Int × Int)) (f g h k : List Int) (r : Bool) (w : World) (a0 : ObjAt w lo0 hi0 p0 n0 q0 m0 L0 P0) (a1 : ObjAt w lo1 hi1 p1 n1 q1 m1 L1 P1) (a2 : ObjAt w lo2 hi2 p2 n2 q2 m2 L2 P2) (a3 : ObjAt w lo3 hi3 p3 n3 q3 m3 L3 P3) (zf : ZsAt w lof hif pf nf f) (zg : ZsAt w log hig pg ng g) (zh : ZsAt w loh hih ph nh h) (zk : ZsAt w lok hik pk nk k) (bf : nf ≤ 1000000) (bg : ng ≤ 1000000) (bh : nh ≤ 1000000) (bk : nk ≤ 1000000) (b0 : m0 ≤ 1000000) (b1 : m1 ≤ 1000000) (b2 : m2 ≤ 1000000) (b3 : m3 ≤ 1000000) (hr : coneB L0 P0 L1 P1 L2 P2 f g L3 P3 h k = r) :
    Calls Tryd.prog 13 #[.agg #[.slice p0 n0 c0, .slice q0 m0 d0], .agg #[.slice p1 n1 c1, .slice q1 m1 d1], .agg #[.slice p2 n2 c2, .slice q2 m2 d2], .slice pf nf cf, .slice pg ng cg, .agg #[.slice p3 n3 c3, .slice q3 m3 d3], .slice ph nh ch, .slice pk nk ck] w fun e w' => e = .returned (.bool r) ∧ w.grownBy w' none := by
  have A0 := Lib.hid a0
  have A1 := Lib.hid a1
  have A2 := Lib.hid a2
  have A3 := Lib.hid a3
  have Zf := Lib.hid zf
  have Zg := Lib.hid zg
  have Zh := Lib.hid zh
  have Zk := Lib.hid zk
  have HR := Lib.hid hr
  clear a0 a1 a2 a3 zf zg zh zk hr
  go_enter Tryd.func13, Tryd.ntmps13
  go_wp2_with fail
  have he := boxEnv_four w (.slice p0 n0 c0) (.slice q0 m0 d0) (.slice p1 n1 c1) (.slice q1 m1 d1) (.slice p2 n2 c2) (.slice q2 m2 d2) (.slice p3 n3 c3) (.slice q3 m3 d3)
  generalize (((w.alloc (.cells #[.slice p0 n0 c0, .slice q0 m0 d0] 25)).alloc (.cells #[.slice p1 n1 c1, .slice q1 m1 d1] 25)).alloc (.cells #[.slice p2 n2 c2, .slice q2 m2 d2] 25)).alloc (.cells #[.slice p3 n3 c3, .slice q3 m3 d3] 25) = W0 at *
  have HE0 := Lib.hid he
  have u0 := A0.out.calm he.1
  have u1 := A1.out.calm he.1
  have ux := Zf.out.calm he.1
  clear he
  cases hr0 : arB L0 P0 L1 P1 f with
  | false =>
    obtain rfl : r = false := by rw [← HR.out]; unfold coneB; rw [hr0]; rfl
    refine (refArrow_r p0 q0 p1 q1 pf n0 c0 m0 d0 n1 c1 m1 d1 nf cf _ _ _ _ _ _ L0 L1 P0 P1 f false _ u0 u1 ux bf b0 b1 hr0).mono ?_
    rintro e w1 ⟨rfl, hg⟩
    have HG := Lib.hid (HE0.out.calm hg).1
    clear hr0 hg u0 u1 ux
    go_wp2
    go_ret
    exact ⟨rfl, HG.out⟩
  | true =>
    have R0 := Lib.hid hr0
    refine (refArrow_r p0 q0 p1 q1 pf n0 c0 m0 d0 n1 c1 m1 d1 nf cf _ _ _ _ _ _ L0 L1 P0 P1 f true _ u0 u1 ux bf b0 b1 hr0).mono ?_
    rintro e w1 ⟨rfl, hg⟩
    have he1 := HE0.out.calm hg
    clear hr0 hg u0 u1 ux HE0
    have HE1 := Lib.hid he1
    have u0 := A0.out.calm he1.1
    have u2 := A2.out.calm he1.1
    have ux := Zg.out.calm he1.1
    obtain ⟨x00, x01, x10, x11, x20, x21⟩ := he1.three
    obtain ⟨x30, x31, _, _⟩ := he1.fourth
    clear he1
    go_wp2_with fail
    cases hr1 : arB L0 P0 L2 P2 g with
    | false =>
      obtain rfl : r = false := by rw [← HR.out]; unfold coneB; rw [R0.out, hr1]; rfl
      refine (refArrow_r p0 q0 p2 q2 pg n0 c0 m0 d0 n2 c2 m2 d2 ng cg _ _ _ _ _ _ L0 L2 P0 P2 g false _ u0 u2 ux bg b0 b2 hr1).mono ?_
      rintro e w2 ⟨rfl, hg⟩
      have HG := Lib.hid (HE1.out.calm hg).1
      clear hr1 hg u0 u2 ux
      go_wp2
      go_ret
      exact ⟨rfl, HG.out⟩
    | true =>
      have R1 := Lib.hid hr1
      refine (refArrow_r p0 q0 p2 q2 pg n0 c0 m0 d0 n2 c2 m2 d2 ng cg _ _ _ _ _ _ L0 L2 P0 P2 g true _ u0 u2 ux bg b0 b2 hr1).mono ?_
      rintro e w2 ⟨rfl, hg⟩
      have he2 := HE1.out.calm hg
      clear hr1 hg u0 u2 ux HE1
      have HE2 := Lib.hid he2
      have u1 := A1.out.calm he2.1
      have u3 := A3.out.calm he2.1
      have ux := Zh.out.calm he2.1
      obtain ⟨x00, x01, x10, x11, x20, x21⟩ := he2.three
      obtain ⟨x30, x31, _, _⟩ := he2.fourth
      clear he2
      go_wp2_with fail
      cases hr2 : arB L1 P1 L3 P3 h with
      | false =>
        obtain rfl : r = false := by rw [← HR.out]; unfold coneB; rw [R0.out, R1.out, hr2]; rfl
        refine (refArrow_r p1 q1 p3 q3 ph n1 c1 m1 d1 n3 c3 m3 d3 nh ch _ _ _ _ _ _ L1 L3 P1 P3 h false _ u1 u3 ux bh b1 b3 hr2).mono ?_
        rintro e w3 ⟨rfl, hg⟩
        have HG := Lib.hid (HE2.out.calm hg).1
        clear hr2 hg u1 u3 ux
        go_wp2
        go_ret
        exact ⟨rfl, HG.out⟩
      | true =>
        have R2 := Lib.hid hr2
        refine (refArrow_r p1 q1 p3 q3 ph n1 c1 m1 d1 n3 c3 m3 d3 nh ch _ _ _ _ _ _ L1 L3 P1 P3 h true _ u1 u3 ux bh b1 b3 hr2).mono ?_
        rintro e w3 ⟨rfl, hg⟩
        have he3 := HE2.out.calm hg
        clear hr2 hg u1 u3 ux HE2
        have HE3 := Lib.hid he3
        have u2 := A2.out.calm he3.1
        have u3 := A3.out.calm he3.1
        have ux := Zk.out.calm he3.1
        obtain ⟨x00, x01, x10, x11, x20, x21⟩ := he3.three
        obtain ⟨x30, x31, _, _⟩ := he3.fourth
        clear he3
        go_wp2_with fail
        cases hr3 : arB L2 P2 L3 P3 k with
        | false =>
          obtain rfl : r = false := by rw [← HR.out]; unfold coneB; rw [R0.out, R1.out, R2.out, hr3]; rfl
          refine (refArrow_r p2 q2 p3 q3 pk n2 c2 m2 d2 n3 c3 m3 d3 nk ck _ _ _ _ _ _ L2 L3 P2 P3 k false _ u2 u3 ux bk b2 b3 hr3).mono ?_
          rintro e w4 ⟨rfl, hg⟩
          have HG := Lib.hid (HE3.out.calm hg).1
          clear hr3 hg u2 u3 ux
          go_wp2
          go_ret
          exact ⟨rfl, HG.out⟩
        | true =>
          have R3 := Lib.hid hr3
          refine (refArrow_r p2 q2 p3 q3 pk n2 c2 m2 d2 n3 c3 m3 d3 nk ck _ _ _ _ _ _ L2 L3 P2 P3 k true _ u2 u3 ux bk b2 b3 hr3).mono ?_
          rintro e w4 ⟨rfl, hg⟩
          have he4 := HE3.out.calm hg
          clear hr3 hg u2 u3 ux HE3
          have HG := Lib.hid he4.1
          have fl := Zf.out.len
          have gl := Zg.out.len
          have hl := Zh.out.len
          have kl := Zk.out.len
          have FB := Lib.hid (show thenB f h.length = true from by rw [(arB_parts R2.out).2.2.1]; exact lab_has (arB_parts R0.out).2.2.2.1)
          have GB := Lib.hid (show thenB g k.length = true from by rw [(arB_parts R3.out).2.2.1]; exact lab_has (arB_parts R1.out).2.2.2.1)
          have hr' : decide (thenL f h = thenL g k) = r := by rw [← HR.out]; unfold coneB; rw [R0.out, R1.out, R2.out, R3.out]; rfl
          have HRR := Lib.hid hr'
          have FL := Lib.hid fl
          have GL := Lib.hid gl
          have v1 := Zf.out.calm HG.out
          have v2 := Zh.out.calm HG.out
          clear he4 fl gl hl kl hr'
          go_wp2_with fail
          refine (refThen_c pf ph nf cf nh ch _ _ _ _ f h _ v1 v2 bf).mono ?_
          rintro e w5 ⟨hg, ⟨h1, px, cx, rfl, hrx⟩ | ⟨h1, rfl⟩⟩
          rotate_left
          · exact absurd h1 (by rw [FB.out]; decide)
          have XX := Lib.hid hrx
          have HG5 := Lib.hid (grownBy_trans HG.out hg)
          have v1 := Zg.out.calm HG5.out
          have v2 := Zk.out.calm HG5.out
          rw [FL.out] at XX ⊢
          clear h1 hrx hg HG
          go_wp2_with fail
          refine (refThen_c pg pk ng cg nk ck _ _ _ _ g k _ v1 v2 bg).mono ?_
          rintro e w6 ⟨hg, ⟨h1, py, cy, rfl, hry⟩ | ⟨h1, rfl⟩⟩
          rotate_left
          · exact absurd h1 (by rw [GB.out]; decide)
          have hxx := XX.out.calm hg
          have hyy := hry
          rw [GL.out] at hyy
          have HG6 := Lib.hid (grownBy_trans HG5.out hg)
          rw [GL.out]
          clear h1 hry hg
          go_wp2_with fail
          refine (alike_r _ _ _ _ _ _ _ _ _ _ (thenL f h) (thenL g k) r _ hxx hyy bf HRR.out).mono ?_
          rintro e w7 ⟨rfl, hg⟩
          have HG7 := Lib.hid (grownBy_trans HG6.out hg)
          clear hg hxx hyy
          go_wp2
          go_ret
          exact ⟨rfl, HG7.out⟩

end Go.Proofs.YtgpcakcjiaoimaaDoor
