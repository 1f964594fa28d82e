/- The walk of the statement UnionPlays: at every input it answers true and leaves all that lay as it lay. -/
import Derived.Test.YtmmjlgimonmhgaaOrder6
import Derived.Test.YtmmjlgimonmhgaaQuie
namespace Go.Proofs.Ytmmjlgimonmhgaa
open Go.RowKit

theorem grownBy_drew6 (w : World) : w.grownBy w.drew none := grownBy_drewN w 1 none

/-- What a round knows: the union, the reference's, the copy, the pair. -/
structure PEnv (w0 w : World) (s1 s2 s3 qa qb c1 c2 cq b o : Nat) (Lu Lm Lc : List Nat) (xa xb : Int) : Prop where
  u : IsUn w s1 s2 qa Lu
  m : IsRn w s2 s3 qb Lm
  c : IsUn w c1 c2 cq Lc
  x1 : w.cell? ⟨b, o, none⟩ = some (.int .i64 xa)
  x2 : w.cell? ⟨b, o + 1, none⟩ = some (.int .i64 xb)
  bl : b < w0.heap.size
  s0 : w0.heap.size ≤ s1
  s3 : s3 ≤ c1
  g : w0.grownBy w none
theorem PEnv.calm {w0 w w' : World} {s1 s2 s3 qa qb c1 c2 cq b o : Nat} {Lu Lm Lc : List Nat} {xa xb : Int} (h : PEnv w0 w s1 s2 s3 qa qb c1 c2 cq b o Lu Lm Lc xa xb) (hg : w.grownBy w' none) : PEnv w0 w' s1 s2 s3 qa qb c1 c2 cq b o Lu Lm Lc xa xb :=
  ⟨h.u.calm hg, h.m.calm hg, h.c.calm hg, World.grownBy.cell hg (a := ⟨b, o, none⟩) h.x1 (by simp), World.grownBy.cell hg (a := ⟨b, o + 1, none⟩) h.x2 (by simp), h.bl, h.s0, h.s3, grownBy_trans h.g hg⟩
theorem PEnv.keep {w0 w w' : World} {s1 s2 s3 qa qb c1 c2 cq b o : Nat} {Lu Lm Lc : List Nat} {xa xb : Int} (h : PEnv w0 w s1 s2 s3 qa qb c1 c2 cq b o Lu Lm Lc xa xb) {lo hi : Nat} (hk : Kept lo hi w w') (hl : w0.heap.size ≤ lo) :
    w'.cell? ⟨b, o, none⟩ = some (.int .i64 xa) ∧ w'.cell? ⟨b, o + 1, none⟩ = some (.int .i64 xb) ∧ w0.grownBy w' none :=
  ⟨hk.cell h.x1 (Nat.lt_of_lt_of_le h.bl h.g.size) (by have := h.bl; omega), hk.cell h.x2 (Nat.lt_of_lt_of_le h.bl h.g.size) (by have := h.bl; omega), Kept.new h.g hk hl⟩
theorem PEnv.joinU {w0 w w' : World} {s1 s2 s3 qa qb c1 c2 cq b o : Nat} {Lu Lm Lc L' : List Nat} {xa xb : Int} (h : PEnv w0 w s1 s2 s3 qa qb c1 c2 cq b o Lu Lm Lc xa xb) (hu : IsUn w' s1 s2 qa L') (hk : Kept s1 s2 w w') : PEnv w0 w' s1 s2 s3 qa qb c1 c2 cq b o L' Lm Lc xa xb := by
  obtain ⟨k1, k2, k3⟩ := h.keep hk h.s0
  have := h.u.top
  have := h.m.top
  have := h.s3
  exact ⟨hu, h.m.apart hk (.inr (Nat.le_refl _)), h.c.apart hk (.inr (by omega)), k1, k2, h.bl, h.s0, h.s3, k3⟩
theorem PEnv.joinR {w0 w w' : World} {s1 s2 s3 qa qb c1 c2 cq b o : Nat} {Lu Lm Lc L' : List Nat} {xa xb : Int} (h : PEnv w0 w s1 s2 s3 qa qb c1 c2 cq b o Lu Lm Lc xa xb) (hu : IsRn w' s2 s3 qb L') (hk : Kept s2 s3 w w') : PEnv w0 w' s1 s2 s3 qa qb c1 c2 cq b o Lu L' Lc xa xb := by
  have h1 := h.u.top
  have h2 := h.m.top
  have h3 := h.s3
  have h4 := h.s0
  obtain ⟨k1, k2, k3⟩ := h.keep hk (by omega)
  exact ⟨h.u.apart hk (.inl (Nat.le_refl _)), hu, h.c.apart hk (.inr (by omega)), k1, k2, h.bl, h.s0, h.s3, k3⟩
theorem PEnv.joinC {w0 w w' : World} {s1 s2 s3 qa qb c1 c2 cq b o : Nat} {Lu Lm Lc L' : List Nat} {xa xb : Int} (h : PEnv w0 w s1 s2 s3 qa qb c1 c2 cq b o Lu Lm Lc xa xb) (hu : IsUn w' c1 c2 cq L') (hk : Kept c1 c2 w w') : PEnv w0 w' s1 s2 s3 qa qb c1 c2 cq b o Lu Lm L' xa xb := by
  have h1 := h.u.top
  have h2 := h.m.top
  have h3 := h.s3
  have h4 := h.s0
  obtain ⟨k1, k2, k3⟩ := h.keep hk (by omega)
  exact ⟨h.u.apart hk (.inl (by omega)), h.m.apart hk (.inl (by omega)), hu, k1, k2, h.bl, h.s0, h.s3, k3⟩
/-- A row that the reference's union holds. -/
theorem IsRn.cells {w : World} {lo hi b : Nat} {L : List Nat} (h : IsRn w lo hi b L) : ∃ p c, w.cell? ⟨b, 0, none⟩ = some (.slice p L.length c) ∧ (0 < L.length → ∃ g, p = some ⟨g, 0, none⟩ ∧ ∀ k, k < L.length → w.cell? ⟨g, k, none⟩ = some (.int .i64 (nx L k : Nat))) := by
  obtain ⟨p, c, hu⟩ := h
  refine ⟨p, c, hu.cell, fun hn => ?_⟩
  obtain ⟨g, e, _, hr⟩ := hu.row hn
  exact ⟨g, e, fun k hk => hr.cell (nx_get hk)⟩

/-- The cells of the reference's union that are asked. -/
structure CM (w : World) (qb g q cm a d u v : Nat) : Prop where
  c0 : w.cell? ⟨qb, 0, none⟩ = some (.slice (some ⟨g, 0, none⟩) q cm)
  c1 : w.cell? ⟨g, a, none⟩ = some (.int .i64 u)
  c2 : w.cell? ⟨g, d, none⟩ = some (.int .i64 v)
theorem CM.calm {w w' : World} {qb g q cm a d u v : Nat} (h : CM w qb g q cm a d u v) (hg : w.grownBy w' none) : CM w' qb g q cm a d u v :=
  ⟨World.grownBy.cell hg (a := ⟨qb, 0, none⟩) h.c0 (by simp), World.grownBy.cell hg (a := ⟨g, a, none⟩) h.c1 (by simp), World.grownBy.cell hg (a := ⟨g, d, none⟩) h.c2 (by simp)⟩
theorem sameL_no1 {L : List Nat} {x y : Int} (h : hasZ L.length x = false) : sameL L x y = false := by unfold sameL; rw [h]; rfl
theorem sameL_yes {L : List Nat} {a d : Nat} (ha : a < L.length) (hd : d < L.length) : sameL L (a : Int) (d : Int) = decide (nx L a = nx L d) := by
  unfold sameL
  rw [hasZ_iff.2 ⟨by omega, by omega⟩, hasZ_iff.2 ⟨by omega, by omega⟩]
  rfl
theorem sameL_no2 {L : List Nat} {x y : Int} (h : hasZ L.length y = false) : sameL L x y = false := by unfold sameL; rw [h]; simp

set_option maxRecDepth 100000 in
set_option maxHeartbeats 4000000 in
theorem unionPlays_out (n L c : Nat) (x y : Int) (p : Option Addr) (w : World) (h : 60 < L) :
    Calls Try.prog 3 #[.int .u8 n, .slice p L c, .int .i64 x, .int .i64 y] w fun e w' => e = .returned (.bool true) ∧ w.grownBy w' none := by
  go_enter Try.func3, Try.ntmps3
  go_wp2_with fail
  refine (known6_c w).mono ?_
  rintro e w1 ⟨rfl, hg⟩
  have HG := Lib.hid hg
  clear hg
  go_wp2
  go_ret
  exact ⟨rfl, HG.out⟩

set_option maxRecDepth 100000 in
set_option maxHeartbeats 8000000 in
theorem unionPlays_in (n m L c lo hi : Nat) (x y : Int) (p : Option Addr) (l : List (Int × Int)) (w : World) (hn : n < 256) (hm : n % 40 = m) (hL : L ≤ 60) (hl : PairsAt w lo hi p L l) :
    Calls Try.prog 3 #[.int .u8 n, .slice p L c, .int .i64 x, .int .i64 y] w fun e w' => e = .returned (.bool true) ∧ w.grownBy w' none := by
  have HL := Lib.hid hl
  have HLEN := Lib.hid hl.len
  have hm1 : m < 40 := by omega
  have hmi : (n : Int) % 40 = (m : Int) := by omega
  have HM := Lib.hid hmi
  clear hl hmi hm
  go_enter Try.func3, Try.ntmps3
  go_wp2_with fail
  refine (known6_c w).mono ?_
  rintro e w1 ⟨rfl, hg1⟩
  have G1 := Lib.hid hg1
  have hb1 := G1.out.size
  clear hg1
  go_wp2_with fail
  rw [HM.out]
  refine (newU_c m _ (by omega)).mono ?_
  rintro e w2 ⟨qa, rfl, h2, hg2⟩
  have A2 := Lib.hid h2
  have G2 := Lib.hid (grownBy_trans G1.out hg2)
  clear h2 hg2 HM G1
  go_wp2_with fail
  refine (newR_c m _ (by omega)).mono ?_
  rintro e w3 ⟨qb, rfl, h3, hg3⟩
  have A3 := Lib.hid (A2.out.calm hg3)
  have B3 := Lib.hid h3
  have G3 := Lib.hid (grownBy_trans G2.out hg3)
  clear h3 hg3 A2 G2
  have hab := A3.out.top.1
  have hbc := B3.out.top.1
  generalize hs1 : w1.heap.size = s1 at *
  generalize hs2 : w2.heap.size = s2 at *
  generalize hs3 : w3.heap.size = s3 at *
  clear hs1 hs2 hs3
  go_wp2_with fail
  go_loopw [12] (fun i wr => ∃ k : Nat, k ≤ L ∧ i = .int .i64 k ∧ IsUn wr s1 s2 qa (foldJ m (l.take k)) ∧ IsRn wr s2 s3 qb (foldJ m (l.take k)) ∧ w.grownBy wr none) (fun i _ => L - (intOf i).toNat)
  case atStart => exact ⟨0, Nat.zero_le _, rfl, A3.out, B3.out, G3.out⟩
  case round =>
    obtain ⟨k, hk, rfl, ra, rb, hgr⟩ := hrel
    by_cases hkL : k < L
    · obtain ⟨b, off, rfl, q1, q2, q3, hcs⟩ := (HL.out.calm hgr).cell (by omega)
      obtain ⟨x1, x2⟩ := hcs k hkL
      have hbw : b < w.heap.size := by
        obtain ⟨b', off', e, _, z1, z2, _⟩ := HL.out.cell (by omega)
        simp only [Option.some.injEq, Addr.mk.injEq, and_true] at e
        omega
      have HA := Lib.hid (foldJ_take (n := m) (l := l) (k := k) (by rw [HLEN.out]; exact hkL))
      have HJL := Lib.hid (foldJ_len m (l.take (k + 1)))
      have HIS := Lib.hid (foldJ_is m (l.take (k + 1)))
      have RA := Lib.hid ra
      have RB := Lib.hid rb
      have GR := Lib.hid hgr
      clear hcs hgr ra rb
      generalize l[k]?.getD (0, 0) = z at *
      obtain ⟨xa, xb⟩ := z
      simp only at x1 x2
      have k0 : (0 : Int) ≤ k := by omega
      have k1 : (k : Int) < L := by omega
      go_wp2_with fail
      refine (copyU_c s1 s2 qa _ _ RA.out).mono ?_
      rintro e w4 ⟨cq, rfl, hc4, hg4⟩
      have hrt := RB.out.top.2
      have henv : PEnv w w4 s1 s2 s3 qa qb wr.heap.size w4.heap.size cq b (off + k * 2) (foldJ m (l.take k)) (foldJ m (l.take k)) (foldJ m (l.take k)) xa xb :=
        ⟨RA.out.calm hg4, RB.out.calm hg4, hc4, World.grownBy.cell hg4 (a := ⟨b, off + k * 2, none⟩) x1 (by simp), World.grownBy.cell hg4 (a := ⟨b, off + k * 2 + 1, none⟩) x2 (by simp), hbw, hb1, hrt, grownBy_trans GR.out hg4⟩
      have henv := henv.calm (grownBy_drew6 w4)
      have hx1 := henv.x1
      have hx2 := henv.x2
      obtain ⟨r, HRR⟩ : ∃ r, Hid (joinUB (foldJ m (l.take k)) xa xb = r) := ⟨_, Lib.hid rfl⟩
      have hrr : (r != r) = false := by simp
      generalize hc1 : wr.heap.size = c1 at *
      generalize hc2 : w4.heap.size = c2 at *
      clear hc1 hc2 hc4 hg4 RA RB GR x1 x2 hrt
      generalize foldJ m (l.take k) = J at *
      go_wp2_with fail
      go_region_held3 (fun w' => w'.cell? ⟨b, off + k * 2, none⟩ = some (.int .i64 xa) ∧ w'.cell? ⟨b, off + k * 2 + 1, none⟩ = some (.int .i64 xb)) (first | exact ⟨henv.x1, henv.x2⟩ | go_keep)
        (first
          | (go_at_call 9; refine (joinU_c s1 s2 qa J xa xb _ henv.u).mono ?_; rintro e w5 ⟨he5, hu5, hk5⟩; rw [HRR.out] at he5; subst he5; have henv := henv.joinU hu5 hk5)
          | (go_at_call 10; refine (joinR_c s2 s3 qb J xa xb _ henv.m).mono ?_; rintro e w5 ⟨he5, hu5, hk5⟩; rw [HRR.out] at he5; subst he5; have henv := henv.joinR hu5 hk5))
      rw [← HA.out] at henv
      clear HRR hx1 hx2
      go_wp2_with fail
      refine (joinU_c c1 c2 cq J 0 1 _ henv.c).mono ?_
      rintro e w6 ⟨rfl, hu6, hk6⟩
      have henv := henv.joinC hu6 hk6
      clear hu6 hk6
      generalize hKK : foldJ m (l.take (k + 1)) = K at *
      have HKK := Lib.hid hKK
      clear hKK
      generalize joinZ J 0 1 = J' at *
      have HENV := Lib.hid henv
      clear henv
      have hT := Lib.hid (fun z : Later w6 => later_call (fun w' hg => classesLaw_c s1 s2 qa s2 s3 qb K w' (HENV.out.u.calm hg) (HENV.out.m.calm hg)) z)
      have hne := later_one w6
      by_cases hx0 : x < 0
      · have hno : hasZ K.length x = false := hasZ_not.2 (.inl hx0)
        have hS := Lib.hid (fun z : Later w6 => later_call (fun w' hg => sameU_c s1 s2 qa K x y false w' (HENV.out.u.calm hg) (sameL_no1 hno)) z)
        have hLs := Lib.hid (fun z : Later w6 => later_call (fun w' hg => leastU_c s1 s2 qa K x (-1) w' (HENV.out.u.calm hg) (leastL_no hno)) z)
        have d0 : decide ((0 : Int) ≤ x) = false := by simp; omega
        clear hno hx0
        as_aux_lemma =>
          go_wp2_with fail
          refine region_quiet_in (C := fun x => ∃ z : Later w6, x = z.at_) (by kernel_rfl) (by kernel_rfl) (later_drew w6) ?_
          repeat (go_big_quiet_step ((first | (go_at_call 13; exact hT.out _) | (go_at_call 11; exact hS.out _) | (go_at_call 12; exact hLs.out _))))
          refine wpQuiet_nil ?_
          intro w' hw'
          obtain ⟨z, hz⟩ := hw'
          subst hz
          have HE := Lib.hid (HENV.out.calm z.ok)
          go_wp2
          exact ⟨⟨k + 1, by omega, by go_num, by rw [HKK.out]; exact HE.out.u, by rw [HKK.out]; exact HE.out.m, HE.out.g⟩, by simp [intOf]; omega⟩
      · by_cases hxm : (m : Int) ≤ x
        · have hno : hasZ K.length x = false := hasZ_not.2 (.inr (by rw [HJL.out]; exact hxm))
          by_cases hy0 : y < 0
          · have hS := Lib.hid (fun z : Later w6 => later_call (fun w' hg => sameU_c s1 s2 qa K x y false w' (HENV.out.u.calm hg) (sameL_no1 hno)) z)
            have hLs := Lib.hid (fun z : Later w6 => later_call (fun w' hg => leastU_c s1 s2 qa K x (-1) w' (HENV.out.u.calm hg) (leastL_no hno)) z)
            have d0 : decide ((0 : Int) ≤ x) = true := by simp; omega
            have d1 : decide (x < (m : Int)) = false := by simp; omega
            have d2 : decide ((0 : Int) ≤ y) = false := by simp; omega
            clear hno hx0 hxm hy0
            as_aux_lemma =>
              go_wp2_with fail
              refine region_quiet_in (C := fun x => ∃ z : Later w6, x = z.at_) (by kernel_rfl) (by kernel_rfl) (later_drew w6) ?_
              repeat (go_big_quiet_step ((first | (go_at_call 13; exact hT.out _) | (go_at_call 11; exact hS.out _) | (go_at_call 12; exact hLs.out _))))
              refine wpQuiet_nil ?_
              intro w' hw'
              obtain ⟨z, hz⟩ := hw'
              subst hz
              have HE := Lib.hid (HENV.out.calm z.ok)
              go_wp2
              exact ⟨⟨k + 1, by omega, by go_num, by rw [HKK.out]; exact HE.out.u, by rw [HKK.out]; exact HE.out.m, HE.out.g⟩, by simp [intOf]; omega⟩
          · have hS := Lib.hid (fun z : Later w6 => later_call (fun w' hg => sameU_c s1 s2 qa K x y false w' (HENV.out.u.calm hg) (sameL_no1 hno)) z)
            have hLs := Lib.hid (fun z : Later w6 => later_call (fun w' hg => leastU_c s1 s2 qa K x (-1) w' (HENV.out.u.calm hg) (leastL_no hno)) z)
            have d0 : decide ((0 : Int) ≤ x) = true := by simp; omega
            have d1 : decide (x < (m : Int)) = false := by simp; omega
            have d2 : decide ((0 : Int) ≤ y) = true := by simp; omega
            clear hno hx0 hxm hy0
            as_aux_lemma =>
              go_wp2_with fail
              refine region_quiet_in (C := fun x => ∃ z : Later w6, x = z.at_) (by kernel_rfl) (by kernel_rfl) (later_drew w6) ?_
              repeat (go_big_quiet_step ((first | (go_at_call 13; exact hT.out _) | (go_at_call 11; exact hS.out _) | (go_at_call 12; exact hLs.out _))))
              refine wpQuiet_nil ?_
              intro w' hw'
              obtain ⟨z, hz⟩ := hw'
              subst hz
              have HE := Lib.hid (HENV.out.calm z.ok)
              go_wp2
              exact ⟨⟨k + 1, by omega, by go_num, by rw [HKK.out]; exact HE.out.u, by rw [HKK.out]; exact HE.out.m, HE.out.g⟩, by simp [intOf]; omega⟩
        · obtain ⟨a, rfl⟩ := Int.eq_ofNat_of_zero_le (by omega : 0 ≤ x)
          have ham : a < m := by omega
          obtain ⟨pm, cm, hc0, hcy⟩ := HENV.out.m.cells
          rw [HJL.out] at hc0 hcy
          obtain ⟨g, hpm, hcs⟩ := hcy (by omega)
          subst hpm
          clear hcy
          have q0 := fun z : Later w6 => later_cell hc0 z
          have q1 := fun z : Later w6 => later_cell (hcs a ham) z
          have p0 := hc0
          have p1 := hcs a ham
          have a1 : (a : Int) < m := by omega
          have a0 : (0 : Int) ≤ a := by omega
          by_cases hy0 : y < 0
          · have hno : hasZ K.length y = false := hasZ_not.2 (.inl hy0)
            have hLs := Lib.hid (fun z : Later w6 => later_call (fun w' hg => leastU_c s1 s2 qa K (a : Int) ((nx K a : Nat) : Int) w' (HENV.out.u.calm hg) (leastL_nat (by rw [HJL.out]; exact ham))) z)
            have hS := Lib.hid (fun z : Later w6 => later_call (fun w' hg => sameU_c s1 s2 qa K (a : Int) y false w' (HENV.out.u.calm hg) (sameL_no2 hno)) z)
            have d2 : decide ((0 : Int) ≤ y) = false := by simp; omega
            clear hno hx0 hxm hy0 hc0 hcs
            generalize nx K a = u at *
            as_aux_lemma =>
              go_wp2_with fail
              refine region_quiet_in (C := fun x => ∃ z : Later w6, x = z.at_) (by kernel_rfl) (by kernel_rfl) (later_drew w6) ?_
              repeat (go_big_quiet_step ((first | (go_at_call 13; exact hT.out _) | (go_at_call 11; exact hS.out _) | (go_at_call 12; exact hLs.out _))))
              refine wpQuiet_nil ?_
              intro w' hw'
              obtain ⟨z, hz⟩ := hw'
              subst hz
              have HE := Lib.hid (HENV.out.calm z.ok)
              go_wp2
              exact ⟨⟨k + 1, by omega, by go_num, by rw [HKK.out]; exact HE.out.u, by rw [HKK.out]; exact HE.out.m, HE.out.g⟩, by simp [intOf]; omega⟩
          · by_cases hym : (m : Int) ≤ y
            · have hno : hasZ K.length y = false := hasZ_not.2 (.inr (by rw [HJL.out]; exact hym))
              have hLs := Lib.hid (fun z : Later w6 => later_call (fun w' hg => leastU_c s1 s2 qa K (a : Int) ((nx K a : Nat) : Int) w' (HENV.out.u.calm hg) (leastL_nat (by rw [HJL.out]; exact ham))) z)
              have hS := Lib.hid (fun z : Later w6 => later_call (fun w' hg => sameU_c s1 s2 qa K (a : Int) y false w' (HENV.out.u.calm hg) (sameL_no2 hno)) z)
              have d2 : decide ((0 : Int) ≤ y) = true := by simp; omega
              have d3 : decide (y < (m : Int)) = false := by simp; omega
              clear hno hx0 hxm hy0 hym hc0 hcs
              generalize nx K a = u at *
              as_aux_lemma =>
                go_wp2_with fail
                refine region_quiet_in (C := fun x => ∃ z : Later w6, x = z.at_) (by kernel_rfl) (by kernel_rfl) (later_drew w6) ?_
                repeat (go_big_quiet_step ((first | (go_at_call 13; exact hT.out _) | (go_at_call 11; exact hS.out _) | (go_at_call 12; exact hLs.out _))))
                refine wpQuiet_nil ?_
                intro w' hw'
                obtain ⟨z, hz⟩ := hw'
                subst hz
                have HE := Lib.hid (HENV.out.calm z.ok)
                go_wp2
                exact ⟨⟨k + 1, by omega, by go_num, by rw [HKK.out]; exact HE.out.u, by rw [HKK.out]; exact HE.out.m, HE.out.g⟩, by simp [intOf]; omega⟩
            · obtain ⟨d, rfl⟩ := Int.eq_ofNat_of_zero_le (by omega : 0 ≤ y)
              have hdm : d < m := by omega
              have q2 := fun z : Later w6 => later_cell (hcs d hdm) z
              have b1 : (d : Int) < m := by omega
              have b0 : (0 : Int) ≤ d := by omega
              have hsm : sameL K (a : Int) (d : Int) = decide (nx K a = nx K d) := sameL_yes (by rw [HJL.out]; exact ham) (by rw [HJL.out]; exact hdm)
              by_cases hnx : nx K a = nx K d
              · have hLs := Lib.hid (fun z : Later w6 => later_call (fun w' hg => leastU_c s1 s2 qa K (a : Int) ((nx K a : Nat) : Int) w' (HENV.out.u.calm hg) (leastL_nat (by rw [HJL.out]; exact ham))) z)
                have hS := Lib.hid (fun z : Later w6 => later_call (fun w' hg => sameU_c s1 s2 qa K (a : Int) (d : Int) true w' (HENV.out.u.calm hg) (by rw [hsm]; simp [hnx])) z)
                rw [← hnx] at q2
                clear hsm hnx hx0 hxm hy0 hym hc0 hcs
                generalize nx K a = u at *
                as_aux_lemma =>
                  go_wp2_with fail
                  refine region_quiet_in (C := fun x => ∃ z : Later w6, x = z.at_) (by kernel_rfl) (by kernel_rfl) (later_drew w6) ?_
                  repeat (go_big_quiet_step ((first | (go_at_call 13; exact hT.out _) | (go_at_call 11; exact hS.out _) | (go_at_call 12; exact hLs.out _))))
                  refine wpQuiet_nil ?_
                  intro w' hw'
                  obtain ⟨z, hz⟩ := hw'
                  subst hz
                  have HE := Lib.hid (HENV.out.calm z.ok)
                  go_wp2
                  exact ⟨⟨k + 1, by omega, by go_num, by rw [HKK.out]; exact HE.out.u, by rw [HKK.out]; exact HE.out.m, HE.out.g⟩, by simp [intOf]; omega⟩
              · have hLs := Lib.hid (fun z : Later w6 => later_call (fun w' hg => leastU_c s1 s2 qa K (a : Int) ((nx K a : Nat) : Int) w' (HENV.out.u.calm hg) (leastL_nat (by rw [HJL.out]; exact ham))) z)
                have hS := Lib.hid (fun z : Later w6 => later_call (fun w' hg => sameU_c s1 s2 qa K (a : Int) (d : Int) false w' (HENV.out.u.calm hg) (by rw [hsm]; simp [hnx])) z)
                clear hsm hx0 hxm hy0 hym hc0 hcs
                generalize nx K a = u at *
                generalize nx K d = v at *
                have hb : ((u : Int) == (v : Int)) = false := by simp; omega
                clear hnx
                as_aux_lemma =>
                  go_wp2_with fail
                  refine region_quiet_in (C := fun x => ∃ z : Later w6, x = z.at_) (by kernel_rfl) (by kernel_rfl) (later_drew w6) ?_
                  repeat (go_big_quiet_step ((first | (go_at_call 13; exact hT.out _) | (go_at_call 11; exact hS.out _) | (go_at_call 12; exact hLs.out _))))
                  refine wpQuiet_nil ?_
                  intro w' hw'
                  obtain ⟨z, hz⟩ := hw'
                  subst hz
                  have HE := Lib.hid (HENV.out.calm z.ok)
                  go_wp2
                  exact ⟨⟨k + 1, by omega, by go_num, by rw [HKK.out]; exact HE.out.u, by rw [HKK.out]; exact HE.out.m, HE.out.g⟩, by simp [intOf]; omega⟩
    · obtain rfl : k = L := by omega
      have HJL := Lib.hid (foldJ_len m (l.take k))
      have RA := Lib.hid ra
      have RB := Lib.hid rb
      have GR := Lib.hid hgr
      clear ra rb hgr
      go_wp2_with fail
      refine (lenU_c s1 s2 qa _ _ RA.out).mono ?_
      rintro e w5 ⟨rfl, rfl⟩
      rw [HJL.out]
      go_wp2_with fail
      refine (classesLaw_c s1 s2 qa s2 s3 qb _ _ RA.out RB.out).mono ?_
      rintro e w6 ⟨rfl, hg⟩
      have HG := Lib.hid (grownBy_trans GR.out hg)
      clear hg
      go_wp2
      go_ret
      exact ⟨rfl, HG.out⟩

end Go.Proofs.Ytmmjlgimonmhgaa
