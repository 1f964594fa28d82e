/- The walk of the statement RelTells: at every input it answers true and leaves all that lay as it lay. Condition: the table of the lowest places is in memory. -/
import Derived.Test.YtkcofakhcpajmaaDoorKnow2
import Derived.Test.YtkcofakhcpajmaaDoorMatZ
namespace Go.Proofs.YtkcofakhcpajmaaDoor
open Go.RowKit

theorem matHas_b (lo hi p n : Nat) (a b : Int) (R : Nat → Nat → Bool) (r : Bool) (w : World) (h : IsMat w lo hi p n R) (hr : hasI n R a b = r) : Calls Tryd.prog 22 #[.pointer (some ⟨p, 0, none⟩), .int .i64 a, .int .i64 b] w fun e w' => e = .returned (.bool r) ∧ w.grownBy w' none :=
  (matHas_r lo hi p n a b R w h).mono fun _ _ ⟨he, hw⟩ => ⟨by rw [he, hr], by rw [hw]; exact grownBy_refl w none⟩

/-- Out of the statement's bounds. -/
def tellsOut (n : Int) (L K : Nat) : Prop := (40 < n ∧ n ≤ 200) ∨ 120 < L ∨ 60 < K

set_option maxRecDepth 100000 in
set_option maxHeartbeats 4000000 in
theorem relTells_out (n a b : Int) (L c K kc : Nat) (p kp : Option Addr) (w : World) (ht : Tab w) (h : tellsOut n L K) :
    Calls Tryd.prog 3 #[.int .i64 n, .slice p L c, .slice kp K kc, .int .i64 a, .int .i64 b] w fun e w' => e = .returned (.bool true) ∧ w.grownBy w' none := by
  by_cases h1 : 40 < n
  · by_cases h2 : n ≤ 200
    · clear h
      go_enter Tryd.func3, Tryd.ntmps3
      go_wp2_with fail
      refine (known2_c w ht).mono ?_
      rintro e w1 ⟨rfl, hg⟩
      have HG := Lib.hid hg
      clear hg
      go_wp2
      go_ret
      exact ⟨rfl, HG.out⟩
    · by_cases h3 : 120 < L
      · clear h
        go_enter Tryd.func3, Tryd.ntmps3
        go_wp2_with fail
        refine (known2_c w ht).mono ?_
        rintro e w1 ⟨rfl, hg⟩
        have HG := Lib.hid hg
        clear hg
        go_wp2
        go_ret
        exact ⟨rfl, HG.out⟩
      · have h4 : 60 < K := by unfold tellsOut at h; omega
        clear h
        go_enter Tryd.func3, Tryd.ntmps3
        go_wp2_with fail
        refine (known2_c w ht).mono ?_
        rintro e w1 ⟨rfl, hg⟩
        have HG := Lib.hid hg
        clear hg
        go_wp2
        go_ret
        exact ⟨rfl, HG.out⟩
  · by_cases h3 : 120 < L
    · clear h
      go_enter Tryd.func3, Tryd.ntmps3
      go_wp2_with fail
      refine (known2_c w ht).mono ?_
      rintro e w1 ⟨rfl, hg⟩
      have HG := Lib.hid hg
      clear hg
      go_wp2
      go_ret
      exact ⟨rfl, HG.out⟩
    · have h4 : 60 < K := by unfold tellsOut at h; omega
      clear h
      go_enter Tryd.func3, Tryd.ntmps3
      go_wp2_with fail
      refine (known2_c w ht).mono ?_
      rintro e w1 ⟨rfl, hg⟩
      have HG := Lib.hid hg
      clear hg
      go_wp2
      go_ret
      exact ⟨rfl, HG.out⟩

theorem relOf_e (n : Int) (k : Int) (p : Option Addr) (L c lo hi : Nat) (l : List (Int × Int)) (w : World) (hl : PairsAt w lo hi p L l) (hL : L ≤ 1000000) (hk : ofErr n l = k) (hno : k ≠ 0) : Calls Tryd.prog 10 #[.int .i64 n, .slice p L c] w fun e w' => e = .returned (.tuple #[.pointer none, .int .i64 k]) ∧ w.grownBy w' none :=
  (matOf_c n p L c lo hi l w hl hL).mono fun e w' h => by
    rcases h with ⟨h0, _⟩ | ⟨_, h1, h2⟩
    · exact absurd (hk.symm.trans h0) hno
    · exact ⟨by rw [h1, hk], h2⟩
theorem matOf_ok (n : Nat) (p : Option Addr) (L c lo hi : Nat) (l : List (Int × Int)) (w : World) (hl : PairsAt w lo hi p L l) (hL : L ≤ 1000000) (hok : ofErr n l = 0) : Calls Tryd.prog 10 #[.int .i64 n, .slice p L c] w fun e w' => ∃ p, e = .returned (.tuple #[.pointer (some ⟨p, 0, none⟩), .int .i64 0]) ∧ IsMat w' w.heap.size w'.heap.size p n (ofL n l) ∧ w.grownBy w' none :=
  (matOf_c n p L c lo hi l w hl hL).mono fun e w' h => by
    rcases h with ⟨_, q, h1, h2, h3⟩ | ⟨h, _⟩
    · exact ⟨q, h1, h2, h3⟩
    · exact absurd hok h

set_option maxRecDepth 100000 in
set_option maxHeartbeats 4000000 in
theorem relTells_err (n a b k : Int) (L c K kc lo hi : Nat) (p kp : Option Addr) (l : List (Int × Int)) (w : World) (hl : PairsAt w lo hi p L l) (ht : Tab w) (hn : n ≤ 40 ∨ 200 < n) (hL : L ≤ 120) (hK : K ≤ 60) (he : ofErr n l = k) (hk : k = 10 ∨ k = 11) :
    Calls Tryd.prog 3 #[.int .i64 n, .slice p L c, .slice kp K kc, .int .i64 a, .int .i64 b] w fun e w' => e = .returned (.bool true) ∧ w.grownBy w' none := by
  have HL := Lib.hid hl
  have HE := Lib.hid he
  have hb1 : (k != k) = false := by simp
  have hb2 : (k != 0) = true := by rcases hk with rfl | rfl <;> decide
  have HNZ : Hid (k ≠ 0) := Lib.hid (by rcases hk with rfl | rfl <;> decide)
  have hkb : 0 ≤ k := by omega
  have hkb2 : k ≤ 11 := by omega
  clear hl he hk
  rcases hn with hn | hn
  · have hn' : ¬ 40 < n := by omega
    go_enter Tryd.func3, Tryd.ntmps3
    go_wp2_with fail
    refine (known2_c w ht).mono ?_
    rintro e w1 ⟨rfl, hg1⟩
    have G1 := Lib.hid hg1
    clear hg1
    go_wp2_with fail
    refine (relOf_err n k p L c lo hi l _ (HL.out.calm G1.out) (by omega) HE.out HNZ.out).mono ?_
    rintro e w2 ⟨rfl, hg2⟩
    have G2 := Lib.hid (grownBy_trans G1.out hg2)
    clear hg2
    go_wp2_with fail
    refine (relOf_e n k p L c lo hi l _ (HL.out.calm G2.out) (by omega) HE.out HNZ.out).mono ?_
    rintro e w3 ⟨rfl, hg3⟩
    have G3 := Lib.hid (grownBy_trans G2.out hg3)
    clear hg3
    go_wp2
    go_ret
    exact ⟨rfl, G3.out⟩
  · have hn' : 40 < n := by omega
    have hn2 : ¬ n ≤ 200 := by omega
    go_enter Tryd.func3, Tryd.ntmps3
    go_wp2_with fail
    refine (known2_c w ht).mono ?_
    rintro e w1 ⟨rfl, hg1⟩
    have G1 := Lib.hid hg1
    clear hg1
    go_wp2_with fail
    refine (relOf_err n k p L c lo hi l _ (HL.out.calm G1.out) (by omega) HE.out HNZ.out).mono ?_
    rintro e w2 ⟨rfl, hg2⟩
    have G2 := Lib.hid (grownBy_trans G1.out hg2)
    clear hg2
    go_wp2_with fail
    refine (relOf_e n k p L c lo hi l _ (HL.out.calm G2.out) (by omega) HE.out HNZ.out).mono ?_
    rintro e w3 ⟨rfl, hg3⟩
    have G3 := Lib.hid (grownBy_trans G2.out hg3)
    clear hg3
    go_wp2
    go_ret
    exact ⟨rfl, G3.out⟩

/-- All that lies while the last statement is asked. -/
structure TEnv (w : World) (n : Nat) (R : Nat → Nat → Bool) (rlo rhi rq mlo mhi mq clo' chi cq : Nat) (kp : Option Addr) (K klo khi : Nat) (keep : List Bool) (W : World) : Prop where
  r : IsRel W rlo rhi rq n R
  m : IsMat W mlo mhi mq n R
  c : IsMat W clo' chi cq n (clo n R)
  t : Tab W
  k : BoolsAt W klo khi kp K keep
  g : w.grownBy W none

theorem TEnv.calm {w W W' : World} {n : Nat} {R : Nat → Nat → Bool} {rlo rhi rq mlo mhi mq clo' chi cq : Nat} {kp : Option Addr} {K klo khi : Nat} {keep : List Bool} (h : TEnv w n R rlo rhi rq mlo mhi mq clo' chi cq kp K klo khi keep W) (hg : W.grownBy W' none) : TEnv w n R rlo rhi rq mlo mhi mq clo' chi cq kp K klo khi keep W' :=
  ⟨h.r.calm hg, h.m.calm hg, h.c.calm hg, h.t.grown hg (by simp), h.k.calm hg, grownBy_trans h.g hg⟩

set_option maxRecDepth 100000 in
set_option maxHeartbeats 16000000 in
theorem relTells_ok (n : Nat) (a b : Int) (L c K kc lo hi klo khi : Nat) (p kp : Option Addr) (l : List (Int × Int)) (keep : List Bool) (w : World) (hl : PairsAt w lo hi p L l) (hk : BoolsAt w klo khi kp K keep) (ht : Tab w) (hn : n ≤ 40) (hL : L ≤ 120) (hK : K ≤ 60) (he : ofErr n l = 0) :
    Calls Tryd.prog 3 #[.int .i64 n, .slice p L c, .slice kp K kc, .int .i64 a, .int .i64 b] w fun e w' => e = .returned (.bool true) ∧ w.grownBy w' none := by
  have HL := Lib.hid hl
  have HK := Lib.hid hk
  have HT := Lib.hid ht
  have HE := Lib.hid he
  have hn' : ¬ (40 : Int) < n := by omega
  have HPL : Hid (∀ R : Nat → Nat → Bool, (pairsL n R n).length ≤ 1000000) := Lib.hid (fun R => by
    have := pairsL_len n R n
    have : n * n ≤ 40 * 40 := Nat.mul_le_mul hn hn
    omega)
  have hK2 : K ≤ 1000000 := by omega
  clear hl hk ht he
  go_enter Tryd.func3, Tryd.ntmps3
  go_wp2_with fail
  refine (known2_c w HT.out).mono ?_
  rintro e w1 ⟨rfl, hg1⟩
  have G1 := Lib.hid hg1
  clear hg1
  go_wp2_with fail
  refine (relOf_ok n p L c lo hi l _ (HL.out.calm G1.out) (by omega) HE.out).mono ?_
  rintro e w2 ⟨rq, rfl, h2, hg2⟩
  have R2 := Lib.hid h2
  have G2 := Lib.hid (grownBy_trans G1.out hg2)
  clear h2 hg2
  go_wp2_with fail
  refine (matOf_ok n p L c lo hi l _ (HL.out.calm G2.out) (by omega) HE.out).mono ?_
  rintro e w3 ⟨mq, rfl, h3, hg3⟩
  have M3 := Lib.hid h3
  have R3 := Lib.hid (R2.out.calm hg3)
  have G3 := Lib.hid (grownBy_trans G2.out hg3)
  have HSU := Lib.hid h3.supp
  clear h3 hg3
  generalize ofL n l = R at *
  go_wp2_with fail
  refine (matClosure_c _ _ mq n R _ M3.out).mono ?_
  rintro e w4 ⟨cq, rfl, h4, hg4⟩
  have G4 := Lib.hid (grownBy_trans G3.out hg4)
  have henv0 : TEnv w n R w1.heap.size w2.heap.size rq w2.heap.size w3.heap.size mq w3.heap.size w4.heap.size cq kp K klo khi keep w4 := ⟨R3.out.calm hg4, M3.out.calm hg4, h4, HT.out.grown G4.out (by simp), HK.out.calm G4.out, G4.out⟩
  have henv := henv0.calm (grownBy_drewN w4 1 none)
  have hm0 := henv0.m.c0
  clear h4 hg4 henv0 G1 G2 G3 G4 R2 R3 M3
  generalize w1.heap.size = s1 at *
  generalize w2.heap.size = s2 at *
  generalize w3.heap.size = s3 at *
  generalize hs4 : w4.heap.size = s4 at *
  clear hs4
  have hts : (!grewC n R n) = sameR n R (clo n R) := by
    rw [Bool.eq_iff_iff, sameR_iff HSU.out (clo_supp HSU.out), Bool.not_eq_true']
    constructor
    · intro h
      exact (grewC_none HSU.out n h).symm
    · intro h
      cases e : grewC n R n
      · rfl
      · exact absurd h.symm ((grewC_iff HSU.out).1 e)
  obtain ⟨bt, HBT⟩ : ∃ bt, Hid (sameR n R (clo n R) = bt) := ⟨_, Lib.hid rfl⟩
  have HTS := Lib.hid (hts.trans HBT.out)
  obtain ⟨ba, HBA⟩ : ∃ ba, Hid (hasI n R a b = ba) := ⟨_, Lib.hid rfl⟩
  obtain ⟨bc, HBC⟩ : ∃ bc, Hid (hasI n (clo n R) a b = bc) := ⟨_, Lib.hid rfl⟩
  have hnn : ((n : Int) == (n : Int)) = true := by simp
  clear hts
  go_wp2_with fail
  simp only [List.append_eq, List.cons_append, List.nil_append]
  go_region_held3 (fun w' => w'.cell? ⟨mq, 0, none⟩ = some (.int .i64 n)) (first | exact henv.m.c0 | go_keep)
    (first
      | (go_at_call 12; refine (relLen_b _ _ rq n R _ (by exact henv.r)).mono ?_; rintro e w5 ⟨rfl, hg⟩; have henv := henv.calm hg)
      | (go_at_call 14; (first | (with_reducible refine (relPairs_c _ _ _ n _ _ hobj henv.t).mono ?_) | (with_reducible refine (relPairs_c _ _ _ n _ _ henv.r henv.t).mono ?_)); rintro e w5 ⟨pr, cr, rfl, hpr, hg⟩; have henv := henv.calm hg)
      | (go_at_call 15; (first | (with_reducible refine (matPairs_c _ _ _ n _ _ hmobj).mono ?_) | (with_reducible refine (matPairs_c _ _ _ n _ _ henv.m).mono ?_) | (with_reducible refine (matPairs_c _ _ _ n _ _ henv.c).mono ?_)); rintro e w5 ⟨pm, cm, rfl, hpm, hg⟩; have henv := henv.calm hg; have hpr := hpr.calm hg)
      | (go_at_call 13; refine (samePairs_r _ _ _ _ _ _ _ _ _ _ _ _ true _ hpr hpm (HPL.out _) (by simp)).mono ?_; rintro e w5 ⟨rfl, hg⟩; have henv := henv.calm hg)
      | (go_at_call 16; refine (closure_c _ _ rq n R _ henv.r).mono ?_; rintro e w5 ⟨qd, rfl, hobj, hg⟩; have henv := henv.calm hg)
      | (go_at_call 17; refine (isTrans_b _ _ rq n R bt _ henv.r HTS.out).mono ?_; rintro e w5 ⟨rfl, hg⟩; have henv := henv.calm hg)
      | (go_at_call 18; refine (matSame_r _ _ mq _ _ cq n R (clo n R) bt _ henv.m henv.c HBT.out).mono ?_; rintro e w5 ⟨rfl, hg⟩; have henv := henv.calm hg)
      | (go_at_call 19; refine (relOnly_c _ _ rq n R kp K kc klo khi keep _ henv.r henv.k hK2 henv.t).mono ?_; rintro e w5 ⟨qo, rfl, hobj, hg⟩; have henv := henv.calm hg)
      | (go_at_call 20; refine (matOnly_c _ _ mq n R kp K kc klo khi keep _ henv.m henv.k hK2).mono ?_; rintro e w5 ⟨qu, rfl, hmobj, hg⟩; have henv := henv.calm hg; have hpr := hpr.calm hg)
      | (go_at_call 21; (first | (with_reducible refine (relHas_b _ _ _ n a b _ bc _ hobj HBC.out).mono ?_) | (with_reducible refine (relHas_b _ _ _ n a b _ ba _ henv.r HBA.out).mono ?_)); rintro e w5 ⟨rfl, hg⟩; have henv := henv.calm hg)
      | (go_at_call 22; (first | (with_reducible refine (matHas_b _ _ _ n a b _ ba _ henv.m HBA.out).mono ?_) | (with_reducible refine (matHas_b _ _ _ n a b _ bc _ henv.c HBC.out).mono ?_)); rintro e w5 ⟨rfl, hg⟩; have henv := henv.calm hg))
  have HG := Lib.hid henv.g
  clear henv
  go_wp2
  go_ret
  exact ⟨rfl, HG.out⟩

end Go.Proofs.YtkcofakhcpajmaaDoor
