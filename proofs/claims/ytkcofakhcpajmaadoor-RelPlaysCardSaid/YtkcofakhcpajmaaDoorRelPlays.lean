/- The walk of the statement RelPlays: at every input it answers true and leaves all that lay as it lay. Condition: the table of the lowest places is in memory. -/
import Derived.Test.YtkcofakhcpajmaaDoorKnow2
import Derived.Test.YtkcofakhcpajmaaDoorMatY
namespace Go.Proofs.YtkcofakhcpajmaaDoor
open Go.RowKit

theorem joinI_no {n : Nat} {R : Nat → Nat → Bool} {a b : Int} (h : ¬ inI n a b) : joinI n R (a, b) = R := by unfold joinI; rw [if_neg h]
theorem joinI_yes {n : Nat} {R : Nat → Nat → Bool} {a b : Int} (h : inI n a b) : joinI n R (a, b) = clo n (addI n R (a, b)) := by unfold joinI; rw [if_pos h]

/-- A pair becomes so just when the relation is another one. -/
theorem newI_same {n : Nat} {R : Nat → Nat → Bool} (hs : Supp n R) (a b : Int) : sameR n R (addI n R (a, b)) = !newI n R a b := by
  rw [Bool.eq_iff_iff, sameR_iff hs (addI_supp hs _), Bool.not_eq_true']
  by_cases hin : inI n a b
  · unfold newI
    rw [hasI_in hin, addI_yes hin]
    simp only [hin, decide_true, Bool.true_and, Bool.not_eq_false']
    constructor
    · intro h
      rw [h]
      exact (addR_iff _ _ _ _ _).2 (.inr ⟨rfl, rfl⟩)
    · intro h
      exact (addR_self h).symm
  · unfold newI
    rw [addI_no hin]
    simp [hin]

theorem joinG_same {n : Nat} {R : Nat → Nat → Bool} (hs : Supp n R) (a b : Int) : sameR n R (joinI n R (a, b)) = !joinG n R a b := by
  by_cases hin : inI n a b
  · rw [joinI_yes hin]
    have hsa := addI_supp hs (a, b)
    rw [Bool.eq_iff_iff, sameR_iff hs (clo_supp hsa), Bool.not_eq_true']
    unfold joinG joinB
    simp only [hin, decide_true, Bool.true_and, Bool.or_eq_false_iff]
    have hnew := newI_same hs a b
    constructor
    · intro h
      have e : addI n R (a, b) = R := by
        apply Sub.antisymm _ (addI_sub n R (a, b))
        intro x y hxy
        rw [h]
        exact clo_sub n _ x y hxy
      constructor
      · have : sameR n R (addI n R (a, b)) = true := (sameR_iff hs hsa).2 e.symm
        rw [hnew] at this
        simpa using this
      · cases hg : grewC n (addI n R (a, b)) n
        · rfl
        · have := (grewC_iff hsa).1 hg
          rw [e] at this h
          exact absurd h.symm this
    · rintro ⟨h1, h2⟩
      have e : R = addI n R (a, b) := (sameR_iff hs hsa).1 (by rw [hnew, h1]; rfl)
      have e2 := grewC_none hsa n h2
      have : clo n (addI n R (a, b)) = addI n R (a, b) := e2
      rw [this]
      exact e
  · rw [joinI_no hin]
    unfold joinG
    rw [(sameR_iff hs hs).2 rfl]
    simp [hin]

/-- What the first k steps come to. -/
def playN (n : Nat) (l : List (Int × Int)) (hw : List Bool) : Nat → Nat → Nat → Bool
  | 0 => fun _ _ => false
  | k + 1 => if hw[k]?.getD false then joinI n (playN n l hw k) (l[k]?.getD (0, 0)) else addI n (playN n l hw k) (l[k]?.getD (0, 0))

set_option maxRecDepth 100000 in
set_option maxHeartbeats 4000000 in
theorem relPlays_out (n L c K kc : Nat) (p kp : Option Addr) (w : World) (ht : Tab w) (h : 40 < L ∨ K < L) :
    Calls Tryd.prog 4 #[.int .u8 n, .slice p L c, .slice kp K kc] w fun e w' => e = .returned (.bool true) ∧ w.grownBy w' none := by
  by_cases hL : 40 < L
  · clear h
    go_enter Tryd.func4, Tryd.ntmps4
    go_wp2_with fail
    refine (known2_c w ht).mono ?_
    rintro e w1 ⟨rfl, hg⟩
    have HG := Lib.hid hg
    clear hg
    go_wp2
    go_ret
    exact ⟨rfl, HG.out⟩
  · have hK : K < L := by omega
    clear h
    go_enter Tryd.func4, Tryd.ntmps4
    go_wp2_with fail
    refine (known2_c w ht).mono ?_
    rintro e w1 ⟨rfl, hg⟩
    have HG := Lib.hid hg
    clear hg
    go_wp2
    go_ret
    exact ⟨rfl, HG.out⟩

set_option maxRecDepth 100000 in
set_option maxHeartbeats 16000000 in
theorem relPlays_in (n m L c K kc lo hi klo khi : Nat) (p kp : Option Addr) (l : List (Int × Int)) (hw : List Bool) (w : World) (hn : n < 256) (hm : n % 16 = m) (hL : L ≤ 40) (hK : L ≤ K) (hl : PairsAt w lo hi p L l) (hk : BoolsAt w klo khi kp K hw) (ht : Tab w) :
    Calls Tryd.prog 4 #[.int .u8 n, .slice p L c, .slice kp K kc] w fun e w' => e = .returned (.bool true) ∧ w.grownBy w' none := by
  have HL := Lib.hid hl
  have HW := Lib.hid hk
  have HT := Lib.hid ht
  have hm1 : m ≤ 15 := by omega
  have hmi : (n : Int) % 16 = (m : Int) := by omega
  have HM := Lib.hid hmi
  have HPL : Hid (∀ R : Nat → Nat → Bool, (pairsL m R m).length ≤ 1000000) := Lib.hid (fun R => by
    have := pairsL_len m R m
    have : m * m ≤ 15 * 15 := Nat.mul_le_mul hm1 hm1
    omega)
  clear hl hk ht hmi hm
  go_enter Tryd.func4, Tryd.ntmps4
  go_wp2_with fail
  refine (known2_c w HT.out).mono ?_
  rintro e w1 ⟨rfl, hg1⟩
  have G1 := Lib.hid hg1
  have hb1 := G1.out.size
  clear hg1
  go_wp2_with fail
  rw [HM.out]
  refine (relNew_mid m _ (by omega)).mono ?_
  rintro e w2 ⟨rq, rfl, h2, hg2⟩
  have R2 := Lib.hid h2
  have G2 := Lib.hid (grownBy_trans G1.out hg2)
  clear h2 hg2 HM
  go_wp2_with fail
  refine (matNew_c m _ (by omega)).mono ?_
  rintro e w3 ⟨mq, rfl, h3, hg3⟩
  have R3 := Lib.hid (R2.out.calm hg3)
  have M3 := Lib.hid h3
  have G3 := Lib.hid (grownBy_trans G2.out hg3)
  have hs12 : w1.heap.size ≤ w2.heap.size := Nat.le_of_lt R2.out.lt
  clear h3 hg3 R2 G2
  generalize hs1 : w1.heap.size = s1 at *
  generalize hs2 : w2.heap.size = s2 at *
  generalize hs3 : w3.heap.size = s3 at *
  clear hs1 hs2 hs3
  go_wp2_with fail
  go_loopw [9, 10] (fun mv i wr => ∃ (k mr mlo mhi : Nat), k ≤ L ∧ i = .int .i64 k ∧ mv = .pointer (some ⟨mr, 0, none⟩) ∧ s2 ≤ mlo ∧ IsRel wr s1 s2 rq m (playN m l hw k) ∧ IsMat wr mlo mhi mr m (playN m l hw k) ∧ w.grownBy wr none) (fun _ i _ => L - (intOf i).toNat)
  case atStart => exact ⟨0, mq, s2, s3, Nat.zero_le _, rfl, rfl, Nat.le_refl _, R3.out, M3.out, G3.out⟩
  case round =>
    clear R3 M3 G3
    obtain ⟨k, mr, mlo, mhi, hk, rfl, rfl, hlo, ra, ma, hgr⟩ := hrel
    by_cases hkL : k < L
    · obtain ⟨b, off, rfl, q1, q2, q3, hcs⟩ := (HL.out.calm hgr).cell (by omega)
      obtain ⟨x1, x2⟩ := hcs k hkL
      obtain ⟨hb, hoff, rfl, u1, u2, u3, hcw⟩ := (HW.out.calm hgr).cell (by omega)
      have HST : Hid (playN m l hw (k + 1) = if hw[k]?.getD false then joinI m (playN m l hw k) (l[k]?.getD (0, 0)) else addI m (playN m l hw k) (l[k]?.getD (0, 0))) := Lib.hid rfl
      have HSUP := Lib.hid ra.supp
      have hmlt := ma.lt
      have hmtop := ma.top
      clear hcs hcw
      generalize hR : playN m l hw k = R at *
      clear hR
      generalize l[k]?.getD (0, 0) = x at *
      obtain ⟨x, y⟩ := x
      generalize hHV : hw[k]?.getD false = hv at *
      have HHV := Lib.hid hHV
      clear hHV
      simp only at x1 x2
      have hga := World.grownBy_alloc wr (.cells #[.int .i64 x, .int .i64 y] 48) none
      have z1 : (wr.alloc (.cells #[.int .i64 x, .int .i64 y] 48)).cell? ⟨wr.heap.size, 0, none⟩ = some (.int .i64 x) := by simp
      have z2 : (wr.alloc (.cells #[.int .i64 x, .int .i64 y] 48)).cell? ⟨wr.heap.size, 1, none⟩ = some (.int .i64 y) := by simp
      have RA := Lib.hid (ra.calm hga)
      have MA := Lib.hid (ma.calm hga)
      have GA := Lib.hid (grownBy_trans hgr hga)
      have hzs : (wr.alloc (.cells #[.int .i64 x, .int .i64 y] 48)).heap.size = wr.heap.size + 1 := by simp
      have HZS := Lib.hid hzs
      clear hga ra ma hgr hzs
      go_wp2_with fail
      refine (relCopy_c s1 s2 rq m R _ RA.out).mono ?_
      rintro e w2 ⟨cq, rfl, h2, hg2⟩
      rw [HZS.out] at h2
      have C2 := Lib.hid h2
      have R2 := Lib.hid (RA.out.calm hg2)
      have M2 := Lib.hid (MA.out.calm hg2)
      have G2 := Lib.hid (grownBy_trans GA.out hg2)
      have z12 := (World.cell?_of_block (a := ⟨wr.heap.size, 0, none⟩) (hg2.block wr.heap.size (by rw [HZS.out]; omega) (by simp))).trans z1
      have z22 := (World.cell?_of_block (a := ⟨wr.heap.size, 1, none⟩) (hg2.block wr.heap.size (by rw [HZS.out]; omega) (by simp))).trans z2
      have hclt := h2.lt
      have hsz2 := hg2.size
      rw [HZS.out] at hsz2
      clear h2 hg2 RA MA GA z1 z2 HZS
      go_wp2_with fail
      refine (matCopy_c mlo mhi mr m R _ M2.out).mono ?_
      rintro e w3 ⟨wq, rfl, h3, hg3⟩
      have W3 := Lib.hid h3
      have C3 := Lib.hid (C2.out.calm hg3)
      have R3 := Lib.hid (R2.out.calm hg3)
      have M3 := Lib.hid (M2.out.calm hg3)
      have G3 := Lib.hid (grownBy_trans G2.out hg3)
      have z13 := (World.cell?_of_block (a := ⟨wr.heap.size, 0, none⟩) (hg3.block wr.heap.size (by omega) (by simp))).trans z12
      have z23 := (World.cell?_of_block (a := ⟨wr.heap.size, 1, none⟩) (hg3.block wr.heap.size (by omega) (by simp))).trans z22
      have hsz3 := hg3.size
      have hh3 := (HW.out.calm G3.out).cell (by omega)
      obtain ⟨hb', hoff', hpe, _, _, _, hcs3⟩ := hh3
      simp only [Option.some.injEq, Addr.mk.injEq, and_true] at hpe
      obtain ⟨rfl, rfl⟩ := hpe
      have hcw3 := hcs3 k (by omega)
      rw [HHV.out] at hcw3
      have hzl : wr.heap.size < w3.heap.size := by omega
      have hhl : hb < w3.heap.size := by omega
      clear h3 hg3 C2 R2 M2 G2 z12 z22 hcs3
      generalize hzb : wr.heap.size = zb at *
      clear hzb
      obtain ⟨c1, hc1⟩ : ∃ z, z = zb + 1 := ⟨_, rfl⟩
      rw [← hc1] at C3
      obtain ⟨c2, hc2⟩ : ∃ z, z = w2.heap.size := ⟨_, rfl⟩
      rw [← hc2] at C3 W3
      have hmc : mhi ≤ c1 := by omega
      have hcc : c1 ≤ c2 := by omega
      have hsc : s2 ≤ c1 := by omega
      have hc2l : c2 ≤ w3.heap.size := by omega
      have k0 : (0 : Int) ≤ k := by omega
      have k1 : (k : Int) < K := by omega
      clear hc1 hc2
      by_cases hx : 0 ≤ x ∧ x < m
      · by_cases hy : 0 ≤ y ∧ y < m
        · obtain ⟨a0, a1⟩ := hx
          obtain ⟨b0, b1⟩ := hy
          obtain ⟨u, rfl⟩ := Int.eq_ofNat_of_zero_le a0
          obtain ⟨v, rfl⟩ := Int.eq_ofNat_of_zero_le b0
          have hu : u < m := by omega
          have hv' : v < m := by omega
          have hin : inI m (u : Int) (v : Int) := ⟨a0, a1, b0, b1⟩
          obtain ⟨pm, mb, rb, cap, rfl, hc1', hcm, hcr, hfr, hput⟩ := M3.out.put (T := addR R u v) hu hv' true (addR_put _ _ _) (addR_supp HSUP.out hu hv')
          have hp4 : IsMat (w3.setCell ⟨rb, v, none⟩ (.bool true)).drew mlo mhi mr m (addR R u v) ∧ Kept mlo mhi w3 (w3.setCell ⟨rb, v, none⟩ (.bool true)).drew := hput (w3.drewN 1) rfl rfl rfl rfl
          have M4 := Lib.hid hp4.1
          have R4 := Lib.hid (R3.out.apart hp4.2 (.inl hlo))
          have C4 := Lib.hid (C3.out.apart hp4.2 (.inr hmc))
          have W4 := Lib.hid (W3.out.apart hp4.2 (.inr (by omega)))
          have G4 := Lib.hid (Kept.new G3.out hp4.2 (by omega))
          have y1 := hp4.2.cell z13 hzl (by omega)
          have y2 := hp4.2.cell z23 hzl (by omega)
          have hs4 := hp4.2.size
          have hh4 := (HW.out.calm G4.out).cell (by omega)
          obtain ⟨hb', hoff', hpe, _, _, _, hcs4⟩ := hh4
          simp only [Option.some.injEq, Addr.mk.injEq, and_true] at hpe
          obtain ⟨rfl, rfl⟩ := hpe
          have hcw4 := hcs4 k (by omega)
          rw [HHV.out] at hcw4
          have y1' : (w3.setCell ⟨rb, v, none⟩ (.bool true)).cell? ⟨zb, 0, none⟩ = some (.int .i64 (u : Int)) := y1
          have y2' : (w3.setCell ⟨rb, v, none⟩ (.bool true)).cell? ⟨zb, 1, none⟩ = some (.int .i64 (v : Int)) := y2
          have hcw4' : (w3.setCell ⟨rb, v, none⟩ (.bool true)).cell? ⟨hb, hoff + k, none⟩ = some (.bool hv) := hcw4
          clear hp4 hput hcs4 y1 y2 hcw4
          go_wp2_with fail
          refine (matIs_yes mr m u _ M3.out.c0 hu).mono ?_
          rintro e w' ⟨rfl, h9⟩
          subst w'
          go_wp2_with fail
          refine (matIs_yes mr m v _ M3.out.c0 hv').mono ?_
          rintro e w' ⟨rfl, h9⟩
          subst w'
          go_wp2
          refine wp_region_still_tail 11 (by kernel_rfl) (by kernel_rfl) ?_
          simp only [List.take_succ_cons, List.take_zero, List.drop_succ_cons, List.drop_zero]
          repeat still_step
          refine wpStill_nil ?_
          change wpList _ _ _ _ _ w3.drew
          cases hv
          · have HSTEP : Hid (playN m l hw (k + 1) = addI m R ((u : Int), (v : Int))) := Lib.hid (by rw [HST.out]; rfl)
            obtain ⟨R', HRE⟩ : ∃ R', Hid (addI m R ((u : Int), (v : Int)) = R') := ⟨_, Lib.hid rfl⟩
            rw [HRE.out] at HSTEP
            have hRR : addR R u v = R' := by rw [← HRE.out]; exact (addI_yes hin).symm
            have MT : Hid (IsMat (w3.setCell ⟨rb, v, none⟩ (.bool true)).drew mlo mhi mr m R') := Lib.hid (by rw [← hRR]; exact M4.out)
            have RT := R4
            have CT := C4
            have WT := W4
            have GT := G4
            clear hRR
            obtain ⟨mr', hmr⟩ : ∃ z, z = mr := ⟨_, rfl⟩
            obtain ⟨mlo', hmlo⟩ : ∃ z, z = mlo := ⟨_, rfl⟩
            obtain ⟨mhi', hmhi⟩ : ∃ z, z = mhi := ⟨_, rfl⟩
            subst hmr hmlo hmhi
            have HLO : Hid (s2 ≤ mlo') := Lib.hid hlo
            have HDISJ : Hid (mhi' ≤ c1 ∨ c2 ≤ mlo') := Lib.hid (.inl hmc)
            obtain ⟨gt, HGOT⟩ : ∃ gt, Hid (newI m R (u : Int) (v : Int) = gt) := ⟨_, Lib.hid rfl⟩
            have HSAME : Hid (sameR m R R' = !gt) := Lib.hid (by rw [← HRE.out, ← HGOT.out]; exact newI_same HSUP.out (u : Int) (v : Int))
            go_wp2_with fail
            refine (add_b s1 s2 rq m (u : Int) (v : Int) R gt _ RT.out HGOT.out).mono ?_
            rintro e w6 ⟨rfl, h6, hk6⟩
            rw [HRE.out] at h6
            have R6 := Lib.hid h6
            have C6 := Lib.hid (CT.out.apart hk6 (.inr (by omega)))
            have W6 := Lib.hid (WT.out.apart hk6 (.inr (by omega)))
            have M6 := Lib.hid (MT.out.apart hk6 (.inr HLO.out))
            have G6 := Lib.hid (Kept.new GT.out hk6 hb1)
            clear h6 hk6 RT CT WT MT GT
            go_wp2_with fail
            refine (add_c c1 c2 cq m 0 0 R _ C6.out).mono ?_
            rintro e w7 ⟨rfl, h7, hk7⟩
            have R7 := Lib.hid (R6.out.apart hk7 (.inl (by omega)))
            have W7 := Lib.hid (W6.out.apart hk7 (.inr (Nat.le_refl _)))
            have M7 := Lib.hid (M6.out.apart hk7 HDISJ.out)
            have G7 := Lib.hid (Kept.new G6.out hk7 (by omega))
            clear h7 hk7 R6 C6 W6 M6 G6
            cases gt
            all_goals
              go_wp2_with fail
              refine (matSame_r _ _ wq _ _ mr' m R R' _ _ W7.out M7.out HSAME.out).mono ?_
              rintro e w8 ⟨rfl, hg8⟩
              have R8 := Lib.hid (R7.out.calm hg8)
              have M8 := Lib.hid (M7.out.calm hg8)
              have G8 := Lib.hid (grownBy_trans G7.out hg8)
              clear hg8
              go_wp2_with fail
              refine (relPairs_c _ _ rq m R' _ R8.out (HT.out.grown G8.out (by simp))).mono ?_
              rintro e w9 ⟨p9, c9, rfl, hp9, hg9⟩
              have R9 := Lib.hid (R8.out.calm hg9)
              have M9 := Lib.hid (M8.out.calm hg9)
              have G9 := Lib.hid (grownBy_trans G8.out hg9)
              have P9 := Lib.hid hp9
              clear hg9 hp9 R8 M8 G8
              go_wp2_with fail
              refine (matPairs_c _ _ mr' m R' _ M9.out).mono ?_
              rintro e w10 ⟨p10, c10, rfl, hp10, hg10⟩
              have R10 := Lib.hid (R9.out.calm hg10)
              have M10 := Lib.hid (M9.out.calm hg10)
              have G10 := Lib.hid (grownBy_trans G9.out hg10)
              have P9 := Lib.hid (P9.out.calm hg10)
              have P10 := Lib.hid hp10
              clear hg10 hp10 R9 M9 G9
              go_wp2_with fail
              refine (samePairs_r _ _ _ _ _ _ _ _ _ _ _ _ true _ P9.out P10.out (HPL.out R') (by simp)).mono ?_
              rintro e w11 ⟨rfl, hg11⟩
              have R11 := Lib.hid (R10.out.calm hg11)
              have M11 := Lib.hid (M10.out.calm hg11)
              have G11 := Lib.hid (grownBy_trans G10.out hg11)
              clear hg11 R10 M10 G10 P9 P10
              go_wp2
              exact ⟨⟨k + 1, mr', mlo', mhi', by omega, by go_num, rfl, HLO.out, by rw [HSTEP.out]; exact R11.out, by rw [HSTEP.out]; exact M11.out, G11.out⟩, by simp [intOf]; omega⟩
          · have HSTEP : Hid (playN m l hw (k + 1) = joinI m R ((u : Int), (v : Int))) := Lib.hid (by rw [HST.out]; rfl)
            obtain ⟨R', HRE⟩ : ∃ R', Hid (joinI m R ((u : Int), (v : Int)) = R') := ⟨_, Lib.hid rfl⟩
            rw [HRE.out] at HSTEP
            go_wp2_with fail
            have hRR : clo m (addR R u v) = R' := by rw [← HRE.out, joinI_yes hin, addI_yes hin]; rfl
            refine (matClosure_c mlo mhi mr m (addR R u v) _ M4.out).mono ?_
            rintro e w5 ⟨mr', rfl, h5, hg5⟩
            rw [hRR] at h5
            have MT := Lib.hid h5
            have RT := Lib.hid (R4.out.calm hg5)
            have CT := Lib.hid (C4.out.calm hg5)
            have WT := Lib.hid (W4.out.calm hg5)
            have GT := Lib.hid (grownBy_trans G4.out hg5)
            have q1 := (World.cell?_of_block (a := ⟨zb, 0, none⟩) (hg5.block zb (by omega) (by simp))).trans y1'
            have q2 := (World.cell?_of_block (a := ⟨zb, 1, none⟩) (hg5.block zb (by omega) (by simp))).trans y2'
            have hcw5 := World.grownBy.cell hg5 (a := ⟨hb, hoff + k, none⟩) hcw4' (by simp)
            have HLO : Hid (s2 ≤ (w3.setCell ⟨rb, v, none⟩ (.bool true)).drew.heap.size) := Lib.hid (by omega)
            have HDISJ : Hid (w5.heap.size ≤ c1 ∨ c2 ≤ (w3.setCell ⟨rb, v, none⟩ (.bool true)).drew.heap.size) := Lib.hid (.inr (by omega))
            clear h5 hg5 hRR
            obtain ⟨mlo', hmlo⟩ : ∃ z, z = (w3.setCell ⟨rb, v, none⟩ (.bool true)).drew.heap.size := ⟨_, rfl⟩
            obtain ⟨mhi', hmhi⟩ : ∃ z, z = w5.heap.size := ⟨_, rfl⟩
            rw [← hmlo] at MT HLO HDISJ
            rw [← hmhi] at MT HDISJ
            clear hmlo hmhi
            obtain ⟨gt, HGOT⟩ : ∃ gt, Hid (joinG m R (u : Int) (v : Int) = gt) := ⟨_, Lib.hid rfl⟩
            have HSAME : Hid (sameR m R R' = !gt) := Lib.hid (by rw [← HRE.out, ← HGOT.out]; exact joinG_same HSUP.out (u : Int) (v : Int))
            go_wp2_with fail
            refine (join_b s1 s2 rq m (u : Int) (v : Int) R gt _ RT.out HGOT.out).mono ?_
            rintro e w6 ⟨rfl, h6, hk6⟩
            rw [HRE.out] at h6
            have R6 := Lib.hid h6
            have C6 := Lib.hid (CT.out.apart hk6 (.inr (by omega)))
            have W6 := Lib.hid (WT.out.apart hk6 (.inr (by omega)))
            have M6 := Lib.hid (MT.out.apart hk6 (.inr HLO.out))
            have G6 := Lib.hid (Kept.new GT.out hk6 hb1)
            clear h6 hk6 RT CT WT MT GT
            go_wp2_with fail
            refine (add_c c1 c2 cq m 0 0 R _ C6.out).mono ?_
            rintro e w7 ⟨rfl, h7, hk7⟩
            have R7 := Lib.hid (R6.out.apart hk7 (.inl (by omega)))
            have W7 := Lib.hid (W6.out.apart hk7 (.inr (Nat.le_refl _)))
            have M7 := Lib.hid (M6.out.apart hk7 HDISJ.out)
            have G7 := Lib.hid (Kept.new G6.out hk7 (by omega))
            clear h7 hk7 R6 C6 W6 M6 G6
            cases gt
            all_goals
              go_wp2_with fail
              refine (matSame_r _ _ wq _ _ mr' m R R' _ _ W7.out M7.out HSAME.out).mono ?_
              rintro e w8 ⟨rfl, hg8⟩
              have R8 := Lib.hid (R7.out.calm hg8)
              have M8 := Lib.hid (M7.out.calm hg8)
              have G8 := Lib.hid (grownBy_trans G7.out hg8)
              clear hg8
              go_wp2_with fail
              refine (relPairs_c _ _ rq m R' _ R8.out (HT.out.grown G8.out (by simp))).mono ?_
              rintro e w9 ⟨p9, c9, rfl, hp9, hg9⟩
              have R9 := Lib.hid (R8.out.calm hg9)
              have M9 := Lib.hid (M8.out.calm hg9)
              have G9 := Lib.hid (grownBy_trans G8.out hg9)
              have P9 := Lib.hid hp9
              clear hg9 hp9 R8 M8 G8
              go_wp2_with fail
              refine (matPairs_c _ _ mr' m R' _ M9.out).mono ?_
              rintro e w10 ⟨p10, c10, rfl, hp10, hg10⟩
              have R10 := Lib.hid (R9.out.calm hg10)
              have M10 := Lib.hid (M9.out.calm hg10)
              have G10 := Lib.hid (grownBy_trans G9.out hg10)
              have P9 := Lib.hid (P9.out.calm hg10)
              have P10 := Lib.hid hp10
              clear hg10 hp10 R9 M9 G9
              go_wp2_with fail
              refine (samePairs_r _ _ _ _ _ _ _ _ _ _ _ _ true _ P9.out P10.out (HPL.out R') (by simp)).mono ?_
              rintro e w11 ⟨rfl, hg11⟩
              have R11 := Lib.hid (R10.out.calm hg11)
              have M11 := Lib.hid (M10.out.calm hg11)
              have G11 := Lib.hid (grownBy_trans G10.out hg11)
              clear hg11 R10 M10 G10 P9 P10
              go_wp2
              exact ⟨⟨k + 1, mr', mlo', mhi', by omega, by go_num, rfl, HLO.out, by rw [HSTEP.out]; exact R11.out, by rw [HSTEP.out]; exact M11.out, G11.out⟩, by simp [intOf]; omega⟩
        · have hno : Hid (¬ inI m x y) := Lib.hid (by unfold inI; omega)
          have hy' := Lib.hid (show y < 0 ∨ (m : Int) ≤ y by omega)
          obtain ⟨a0, a1⟩ := hx
          obtain ⟨u, rfl⟩ := Int.eq_ofNat_of_zero_le a0
          have hu : u < m := by omega
          clear hy
          go_wp2_with fail
          refine (matIs_yes mr m u _ M3.out.c0 hu).mono ?_
          rintro e w' ⟨rfl, h9⟩
          subst w'
          go_wp2_with fail
          refine (matIs_no mr m y _ M3.out.c0 hy'.out).mono ?_
          rintro e w' ⟨rfl, h9⟩
          subst w'
          cases hv
          · have HSTEP : Hid (playN m l hw (k + 1) = addI m R ((u : Int), y)) := Lib.hid (by rw [HST.out]; rfl)
            obtain ⟨R', HRE⟩ : ∃ R', Hid (addI m R ((u : Int), y) = R') := ⟨_, Lib.hid rfl⟩
            rw [HRE.out] at HSTEP
            have hRR : R' = R := by rw [← HRE.out]; exact addI_no hno.out
            have MT : Hid (IsMat w3 mlo mhi mr m R') := Lib.hid (by rw [hRR]; exact M3.out)
            have RT := R3
            have CT := C3
            have WT := W3
            have GT := G3
            clear hRR
            obtain ⟨mr', hmr⟩ : ∃ z, z = mr := ⟨_, rfl⟩
            obtain ⟨mlo', hmlo⟩ : ∃ z, z = mlo := ⟨_, rfl⟩
            obtain ⟨mhi', hmhi⟩ : ∃ z, z = mhi := ⟨_, rfl⟩
            subst hmr hmlo hmhi
            have HLO : Hid (s2 ≤ mlo') := Lib.hid hlo
            have HDISJ : Hid (mhi' ≤ c1 ∨ c2 ≤ mlo') := Lib.hid (.inl hmc)
            obtain ⟨gt, HGOT⟩ : ∃ gt, Hid (newI m R (u : Int) y = gt) := ⟨_, Lib.hid rfl⟩
            have HSAME : Hid (sameR m R R' = !gt) := Lib.hid (by rw [← HRE.out, ← HGOT.out]; exact newI_same HSUP.out (u : Int) y)
            go_wp2_with fail
            refine (add_b s1 s2 rq m (u : Int) y R gt _ RT.out HGOT.out).mono ?_
            rintro e w6 ⟨rfl, h6, hk6⟩
            rw [HRE.out] at h6
            have R6 := Lib.hid h6
            have C6 := Lib.hid (CT.out.apart hk6 (.inr (by omega)))
            have W6 := Lib.hid (WT.out.apart hk6 (.inr (by omega)))
            have M6 := Lib.hid (MT.out.apart hk6 (.inr HLO.out))
            have G6 := Lib.hid (Kept.new GT.out hk6 hb1)
            clear h6 hk6 RT CT WT MT GT
            go_wp2_with fail
            refine (add_c c1 c2 cq m 0 0 R _ C6.out).mono ?_
            rintro e w7 ⟨rfl, h7, hk7⟩
            have R7 := Lib.hid (R6.out.apart hk7 (.inl (by omega)))
            have W7 := Lib.hid (W6.out.apart hk7 (.inr (Nat.le_refl _)))
            have M7 := Lib.hid (M6.out.apart hk7 HDISJ.out)
            have G7 := Lib.hid (Kept.new G6.out hk7 (by omega))
            clear h7 hk7 R6 C6 W6 M6 G6
            cases gt
            all_goals
              go_wp2_with fail
              refine (matSame_r _ _ wq _ _ mr' m R R' _ _ W7.out M7.out HSAME.out).mono ?_
              rintro e w8 ⟨rfl, hg8⟩
              have R8 := Lib.hid (R7.out.calm hg8)
              have M8 := Lib.hid (M7.out.calm hg8)
              have G8 := Lib.hid (grownBy_trans G7.out hg8)
              clear hg8
              go_wp2_with fail
              refine (relPairs_c _ _ rq m R' _ R8.out (HT.out.grown G8.out (by simp))).mono ?_
              rintro e w9 ⟨p9, c9, rfl, hp9, hg9⟩
              have R9 := Lib.hid (R8.out.calm hg9)
              have M9 := Lib.hid (M8.out.calm hg9)
              have G9 := Lib.hid (grownBy_trans G8.out hg9)
              have P9 := Lib.hid hp9
              clear hg9 hp9 R8 M8 G8
              go_wp2_with fail
              refine (matPairs_c _ _ mr' m R' _ M9.out).mono ?_
              rintro e w10 ⟨p10, c10, rfl, hp10, hg10⟩
              have R10 := Lib.hid (R9.out.calm hg10)
              have M10 := Lib.hid (M9.out.calm hg10)
              have G10 := Lib.hid (grownBy_trans G9.out hg10)
              have P9 := Lib.hid (P9.out.calm hg10)
              have P10 := Lib.hid hp10
              clear hg10 hp10 R9 M9 G9
              go_wp2_with fail
              refine (samePairs_r _ _ _ _ _ _ _ _ _ _ _ _ true _ P9.out P10.out (HPL.out R') (by simp)).mono ?_
              rintro e w11 ⟨rfl, hg11⟩
              have R11 := Lib.hid (R10.out.calm hg11)
              have M11 := Lib.hid (M10.out.calm hg11)
              have G11 := Lib.hid (grownBy_trans G10.out hg11)
              clear hg11 R10 M10 G10 P9 P10
              go_wp2
              exact ⟨⟨k + 1, mr', mlo', mhi', by omega, by go_num, rfl, HLO.out, by rw [HSTEP.out]; exact R11.out, by rw [HSTEP.out]; exact M11.out, G11.out⟩, by simp [intOf]; omega⟩
          · have HSTEP : Hid (playN m l hw (k + 1) = joinI m R ((u : Int), y)) := Lib.hid (by rw [HST.out]; rfl)
            obtain ⟨R', HRE⟩ : ∃ R', Hid (joinI m R ((u : Int), y) = R') := ⟨_, Lib.hid rfl⟩
            rw [HRE.out] at HSTEP
            have hRR : R' = R := by rw [← HRE.out]; exact joinI_no hno.out
            have MT : Hid (IsMat w3 mlo mhi mr m R') := Lib.hid (by rw [hRR]; exact M3.out)
            have RT := R3
            have CT := C3
            have WT := W3
            have GT := G3
            clear hRR
            obtain ⟨mr', hmr⟩ : ∃ z, z = mr := ⟨_, rfl⟩
            obtain ⟨mlo', hmlo⟩ : ∃ z, z = mlo := ⟨_, rfl⟩
            obtain ⟨mhi', hmhi⟩ : ∃ z, z = mhi := ⟨_, rfl⟩
            subst hmr hmlo hmhi
            have HLO : Hid (s2 ≤ mlo') := Lib.hid hlo
            have HDISJ : Hid (mhi' ≤ c1 ∨ c2 ≤ mlo') := Lib.hid (.inl hmc)
            obtain ⟨gt, HGOT⟩ : ∃ gt, Hid (joinG m R (u : Int) y = gt) := ⟨_, Lib.hid rfl⟩
            have HSAME : Hid (sameR m R R' = !gt) := Lib.hid (by rw [← HRE.out, ← HGOT.out]; exact joinG_same HSUP.out (u : Int) y)
            go_wp2_with fail
            refine (join_b s1 s2 rq m (u : Int) y R gt _ RT.out HGOT.out).mono ?_
            rintro e w6 ⟨rfl, h6, hk6⟩
            rw [HRE.out] at h6
            have R6 := Lib.hid h6
            have C6 := Lib.hid (CT.out.apart hk6 (.inr (by omega)))
            have W6 := Lib.hid (WT.out.apart hk6 (.inr (by omega)))
            have M6 := Lib.hid (MT.out.apart hk6 (.inr HLO.out))
            have G6 := Lib.hid (Kept.new GT.out hk6 hb1)
            clear h6 hk6 RT CT WT MT GT
            go_wp2_with fail
            refine (add_c c1 c2 cq m 0 0 R _ C6.out).mono ?_
            rintro e w7 ⟨rfl, h7, hk7⟩
            have R7 := Lib.hid (R6.out.apart hk7 (.inl (by omega)))
            have W7 := Lib.hid (W6.out.apart hk7 (.inr (Nat.le_refl _)))
            have M7 := Lib.hid (M6.out.apart hk7 HDISJ.out)
            have G7 := Lib.hid (Kept.new G6.out hk7 (by omega))
            clear h7 hk7 R6 C6 W6 M6 G6
            cases gt
            all_goals
              go_wp2_with fail
              refine (matSame_r _ _ wq _ _ mr' m R R' _ _ W7.out M7.out HSAME.out).mono ?_
              rintro e w8 ⟨rfl, hg8⟩
              have R8 := Lib.hid (R7.out.calm hg8)
              have M8 := Lib.hid (M7.out.calm hg8)
              have G8 := Lib.hid (grownBy_trans G7.out hg8)
              clear hg8
              go_wp2_with fail
              refine (relPairs_c _ _ rq m R' _ R8.out (HT.out.grown G8.out (by simp))).mono ?_
              rintro e w9 ⟨p9, c9, rfl, hp9, hg9⟩
              have R9 := Lib.hid (R8.out.calm hg9)
              have M9 := Lib.hid (M8.out.calm hg9)
              have G9 := Lib.hid (grownBy_trans G8.out hg9)
              have P9 := Lib.hid hp9
              clear hg9 hp9 R8 M8 G8
              go_wp2_with fail
              refine (matPairs_c _ _ mr' m R' _ M9.out).mono ?_
              rintro e w10 ⟨p10, c10, rfl, hp10, hg10⟩
              have R10 := Lib.hid (R9.out.calm hg10)
              have M10 := Lib.hid (M9.out.calm hg10)
              have G10 := Lib.hid (grownBy_trans G9.out hg10)
              have P9 := Lib.hid (P9.out.calm hg10)
              have P10 := Lib.hid hp10
              clear hg10 hp10 R9 M9 G9
              go_wp2_with fail
              refine (samePairs_r _ _ _ _ _ _ _ _ _ _ _ _ true _ P9.out P10.out (HPL.out R') (by simp)).mono ?_
              rintro e w11 ⟨rfl, hg11⟩
              have R11 := Lib.hid (R10.out.calm hg11)
              have M11 := Lib.hid (M10.out.calm hg11)
              have G11 := Lib.hid (grownBy_trans G10.out hg11)
              clear hg11 R10 M10 G10 P9 P10
              go_wp2
              exact ⟨⟨k + 1, mr', mlo', mhi', by omega, by go_num, rfl, HLO.out, by rw [HSTEP.out]; exact R11.out, by rw [HSTEP.out]; exact M11.out, G11.out⟩, by simp [intOf]; omega⟩
      · have hno : Hid (¬ inI m x y) := Lib.hid (by unfold inI; omega)
        have hx' := Lib.hid (show x < 0 ∨ (m : Int) ≤ x by omega)
        clear hx
        go_wp2_with fail
        refine (matIs_no mr m x _ M3.out.c0 hx'.out).mono ?_
        rintro e w' ⟨rfl, h9⟩
        subst w'
        cases hv
        · have HSTEP : Hid (playN m l hw (k + 1) = addI m R (x, y)) := Lib.hid (by rw [HST.out]; rfl)
          obtain ⟨R', HRE⟩ : ∃ R', Hid (addI m R (x, y) = R') := ⟨_, Lib.hid rfl⟩
          rw [HRE.out] at HSTEP
          have hRR : R' = R := by rw [← HRE.out]; exact addI_no hno.out
          have MT : Hid (IsMat w3 mlo mhi mr m R') := Lib.hid (by rw [hRR]; exact M3.out)
          have RT := R3
          have CT := C3
          have WT := W3
          have GT := G3
          clear hRR
          obtain ⟨mr', hmr⟩ : ∃ z, z = mr := ⟨_, rfl⟩
          obtain ⟨mlo', hmlo⟩ : ∃ z, z = mlo := ⟨_, rfl⟩
          obtain ⟨mhi', hmhi⟩ : ∃ z, z = mhi := ⟨_, rfl⟩
          subst hmr hmlo hmhi
          have HLO : Hid (s2 ≤ mlo') := Lib.hid hlo
          have HDISJ : Hid (mhi' ≤ c1 ∨ c2 ≤ mlo') := Lib.hid (.inl hmc)
          obtain ⟨gt, HGOT⟩ : ∃ gt, Hid (newI m R x y = gt) := ⟨_, Lib.hid rfl⟩
          have HSAME : Hid (sameR m R R' = !gt) := Lib.hid (by rw [← HRE.out, ← HGOT.out]; exact newI_same HSUP.out x y)
          go_wp2_with fail
          refine (add_b s1 s2 rq m x y R gt _ RT.out HGOT.out).mono ?_
          rintro e w6 ⟨rfl, h6, hk6⟩
          rw [HRE.out] at h6
          have R6 := Lib.hid h6
          have C6 := Lib.hid (CT.out.apart hk6 (.inr (by omega)))
          have W6 := Lib.hid (WT.out.apart hk6 (.inr (by omega)))
          have M6 := Lib.hid (MT.out.apart hk6 (.inr HLO.out))
          have G6 := Lib.hid (Kept.new GT.out hk6 hb1)
          clear h6 hk6 RT CT WT MT GT
          go_wp2_with fail
          refine (add_c c1 c2 cq m 0 0 R _ C6.out).mono ?_
          rintro e w7 ⟨rfl, h7, hk7⟩
          have R7 := Lib.hid (R6.out.apart hk7 (.inl (by omega)))
          have W7 := Lib.hid (W6.out.apart hk7 (.inr (Nat.le_refl _)))
          have M7 := Lib.hid (M6.out.apart hk7 HDISJ.out)
          have G7 := Lib.hid (Kept.new G6.out hk7 (by omega))
          clear h7 hk7 R6 C6 W6 M6 G6
          cases gt
          all_goals
            go_wp2_with fail
            refine (matSame_r _ _ wq _ _ mr' m R R' _ _ W7.out M7.out HSAME.out).mono ?_
            rintro e w8 ⟨rfl, hg8⟩
            have R8 := Lib.hid (R7.out.calm hg8)
            have M8 := Lib.hid (M7.out.calm hg8)
            have G8 := Lib.hid (grownBy_trans G7.out hg8)
            clear hg8
            go_wp2_with fail
            refine (relPairs_c _ _ rq m R' _ R8.out (HT.out.grown G8.out (by simp))).mono ?_
            rintro e w9 ⟨p9, c9, rfl, hp9, hg9⟩
            have R9 := Lib.hid (R8.out.calm hg9)
            have M9 := Lib.hid (M8.out.calm hg9)
            have G9 := Lib.hid (grownBy_trans G8.out hg9)
            have P9 := Lib.hid hp9
            clear hg9 hp9 R8 M8 G8
            go_wp2_with fail
            refine (matPairs_c _ _ mr' m R' _ M9.out).mono ?_
            rintro e w10 ⟨p10, c10, rfl, hp10, hg10⟩
            have R10 := Lib.hid (R9.out.calm hg10)
            have M10 := Lib.hid (M9.out.calm hg10)
            have G10 := Lib.hid (grownBy_trans G9.out hg10)
            have P9 := Lib.hid (P9.out.calm hg10)
            have P10 := Lib.hid hp10
            clear hg10 hp10 R9 M9 G9
            go_wp2_with fail
            refine (samePairs_r _ _ _ _ _ _ _ _ _ _ _ _ true _ P9.out P10.out (HPL.out R') (by simp)).mono ?_
            rintro e w11 ⟨rfl, hg11⟩
            have R11 := Lib.hid (R10.out.calm hg11)
            have M11 := Lib.hid (M10.out.calm hg11)
            have G11 := Lib.hid (grownBy_trans G10.out hg11)
            clear hg11 R10 M10 G10 P9 P10
            go_wp2
            exact ⟨⟨k + 1, mr', mlo', mhi', by omega, by go_num, rfl, HLO.out, by rw [HSTEP.out]; exact R11.out, by rw [HSTEP.out]; exact M11.out, G11.out⟩, by simp [intOf]; omega⟩
        · have HSTEP : Hid (playN m l hw (k + 1) = joinI m R (x, y)) := Lib.hid (by rw [HST.out]; rfl)
          obtain ⟨R', HRE⟩ : ∃ R', Hid (joinI m R (x, y) = R') := ⟨_, Lib.hid rfl⟩
          rw [HRE.out] at HSTEP
          have hRR : R' = R := by rw [← HRE.out]; exact joinI_no hno.out
          have MT : Hid (IsMat w3 mlo mhi mr m R') := Lib.hid (by rw [hRR]; exact M3.out)
          have RT := R3
          have CT := C3
          have WT := W3
          have GT := G3
          clear hRR
          obtain ⟨mr', hmr⟩ : ∃ z, z = mr := ⟨_, rfl⟩
          obtain ⟨mlo', hmlo⟩ : ∃ z, z = mlo := ⟨_, rfl⟩
          obtain ⟨mhi', hmhi⟩ : ∃ z, z = mhi := ⟨_, rfl⟩
          subst hmr hmlo hmhi
          have HLO : Hid (s2 ≤ mlo') := Lib.hid hlo
          have HDISJ : Hid (mhi' ≤ c1 ∨ c2 ≤ mlo') := Lib.hid (.inl hmc)
          obtain ⟨gt, HGOT⟩ : ∃ gt, Hid (joinG m R x y = gt) := ⟨_, Lib.hid rfl⟩
          have HSAME : Hid (sameR m R R' = !gt) := Lib.hid (by rw [← HRE.out, ← HGOT.out]; exact joinG_same HSUP.out x y)
          go_wp2_with fail
          refine (join_b s1 s2 rq m x y R gt _ RT.out HGOT.out).mono ?_
          rintro e w6 ⟨rfl, h6, hk6⟩
          rw [HRE.out] at h6
          have R6 := Lib.hid h6
          have C6 := Lib.hid (CT.out.apart hk6 (.inr (by omega)))
          have W6 := Lib.hid (WT.out.apart hk6 (.inr (by omega)))
          have M6 := Lib.hid (MT.out.apart hk6 (.inr HLO.out))
          have G6 := Lib.hid (Kept.new GT.out hk6 hb1)
          clear h6 hk6 RT CT WT MT GT
          go_wp2_with fail
          refine (add_c c1 c2 cq m 0 0 R _ C6.out).mono ?_
          rintro e w7 ⟨rfl, h7, hk7⟩
          have R7 := Lib.hid (R6.out.apart hk7 (.inl (by omega)))
          have W7 := Lib.hid (W6.out.apart hk7 (.inr (Nat.le_refl _)))
          have M7 := Lib.hid (M6.out.apart hk7 HDISJ.out)
          have G7 := Lib.hid (Kept.new G6.out hk7 (by omega))
          clear h7 hk7 R6 C6 W6 M6 G6
          cases gt
          all_goals
            go_wp2_with fail
            refine (matSame_r _ _ wq _ _ mr' m R R' _ _ W7.out M7.out HSAME.out).mono ?_
            rintro e w8 ⟨rfl, hg8⟩
            have R8 := Lib.hid (R7.out.calm hg8)
            have M8 := Lib.hid (M7.out.calm hg8)
            have G8 := Lib.hid (grownBy_trans G7.out hg8)
            clear hg8
            go_wp2_with fail
            refine (relPairs_c _ _ rq m R' _ R8.out (HT.out.grown G8.out (by simp))).mono ?_
            rintro e w9 ⟨p9, c9, rfl, hp9, hg9⟩
            have R9 := Lib.hid (R8.out.calm hg9)
            have M9 := Lib.hid (M8.out.calm hg9)
            have G9 := Lib.hid (grownBy_trans G8.out hg9)
            have P9 := Lib.hid hp9
            clear hg9 hp9 R8 M8 G8
            go_wp2_with fail
            refine (matPairs_c _ _ mr' m R' _ M9.out).mono ?_
            rintro e w10 ⟨p10, c10, rfl, hp10, hg10⟩
            have R10 := Lib.hid (R9.out.calm hg10)
            have M10 := Lib.hid (M9.out.calm hg10)
            have G10 := Lib.hid (grownBy_trans G9.out hg10)
            have P9 := Lib.hid (P9.out.calm hg10)
            have P10 := Lib.hid hp10
            clear hg10 hp10 R9 M9 G9
            go_wp2_with fail
            refine (samePairs_r _ _ _ _ _ _ _ _ _ _ _ _ true _ P9.out P10.out (HPL.out R') (by simp)).mono ?_
            rintro e w11 ⟨rfl, hg11⟩
            have R11 := Lib.hid (R10.out.calm hg11)
            have M11 := Lib.hid (M10.out.calm hg11)
            have G11 := Lib.hid (grownBy_trans G10.out hg11)
            clear hg11 R10 M10 G10 P9 P10
            go_wp2
            exact ⟨⟨k + 1, mr', mlo', mhi', by omega, by go_num, rfl, HLO.out, by rw [HSTEP.out]; exact R11.out, by rw [HSTEP.out]; exact M11.out, G11.out⟩, by simp [intOf]; omega⟩
    · obtain rfl : k = L := by omega
      go_wp2
      go_ret
      exact ⟨rfl, hgr⟩

end Go.Proofs.YtkcofakhcpajmaaDoor
