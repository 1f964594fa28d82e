/- OrderRows: the walk. -/
import Derived.Test.YtkipldmkdnjkaaaOrderSorted
import Derived.Test.YtkipldmkdnjkaaaOrdR
namespace Go.Proofs.Ytkipldmkdnjkaaa
open Go.RowKit

theorem wpStill_go {P : Program} {ops : Array Oper} {w : World} {Q : Act → Prop} {a : Act} {o : Oper} {rest : List Oper} (hw : Region.wanted o (yielded ops a.tmps) = true) (h : ∀ K : Act → Prop, (∀ a, wpStill P ops w Q rest a → K a) → o.still P a w K) : wpStill P ops w Q (o :: rest) a :=
  wpStill_step (fun K hK => by rw [if_pos hw]; exact h K hK)

theorem wrap_low (n : Int) (h0 : 0 ≤ n) (h1 : n < 9223372036854775808) : IntKind.i64.wrap n = n := by
  unfold IntKind.wrap
  simp [IntKind.bits, IntKind.signed]
  omega

theorem RowI.apartK {w w' : World} {base g c lo hi : Nat} {l : List Nat} (h : RowI w base g c l) (hk : Kept lo hi w w') (hd : g < lo ∨ hi ≤ g) : RowI w' base g c l := by
  have hl := h.lt.2
  refine ⟨h.1, h.2.imp id ?_⟩
  rintro ⟨g', cap, cur, hv, h1, hb, h2⟩
  cases hv
  exact ⟨g, c, cur, rfl, h1, (hk.block g hl (by omega)).trans hb, h2⟩

theorem ZRow.apart {w w' : World} {g k lo hi : Nat} {f : Nat → Int} (h : ZRow w g k f) (hg : Kept lo hi w w') (hd : g < lo ∨ hi ≤ g) : ZRow w' g k f := by
  have hl := h.lt
  obtain ⟨cur, h1, h2⟩ := h
  exact ⟨cur, (hg.block g hl (by omega)).trans h1, h2⟩
theorem ZRow.ints {w : World} {g k t : Nat} (h : ZRow w g k (fun x => (atF k t x : Nat))) : IntsAt w (some ⟨g, 0, none⟩) k (atL k t) := by
  refine ⟨atL_length k t, fun _ => ⟨g, rfl, h.lt, fun j x hx => ?_⟩⟩
  have hj : j < k := by have := (List.getElem?_eq_some_iff.1 hx).1; rwa [atL_length] at this
  rw [atL_get hj] at hx
  cases hx
  exact h.cell hj

set_option maxHeartbeats 1000000 in
set_option maxRecDepth 100000 in
theorem orderRows_in (n t k : Nat) (w : World) (hn : n < 256) (ht : t < 256) (hk : n % 30 + 2 = k) : Calls Try.prog 5 #[.int .u8 n, .int .u8 t] w fun e w' => e = .returned (.bool true) ∧ w.grownBy w' none := by
  have n0 : (0 : Int) ≤ n := by omega
  have n1 : (n : Int) < 256 := by omega
  have t0 : (0 : Int) ≤ t := by omega
  have t1 : (t : Int) < 256 := by omega
  have hk2 : 2 ≤ k := by omega
  have hk31 : k ≤ 31 := by omega
  have HK := Lib.hid (show (n : Int) % 30 + 2 = (k : Int) by omega)
  have hmk := run_make_row' (P := Try.prog) 32 3 (.int .i64 0) 8 Try.underlying32 Try.infoI3 rfl .i64 .i64 k (by omega) (by omega)
  clear hk
  go_enter Try.func5, Try.ntmps5
  go_wp2_with fail
  refine (known3_c _).mono ?_
  rintro e w1 ⟨rfl, hg1⟩
  have HG1 := Lib.hid hg1
  clear hg1
  go_wp2_with fail
  rw [HK.out]
  refine (relNew_mid k _ (by omega)).mono ?_
  rintro e w2 ⟨r, rfl, hr, hg2⟩
  have HR2 := Lib.hid hr
  have HG2 := Lib.hid (grownBy_trans HG1.out hg2)
  have hga := World.grownBy_alloc w2 (.cells (madeCells #[.int .i64 0] k) 3) none
  have HZ3 := Lib.hid (zRow_made w2 k)
  have HR3 := Lib.hid (HR2.out.calm hga)
  have HG3 := Lib.hid (grownBy_trans HG2.out hga)
  have hw2 := HG2.out.size
  have hw1 := HG1.out.size
  clear hr hg2 HG1 hga HR2 HG2
  go_wp2
  generalize w2.heap.size = ag at *
  generalize w1.heap.size = lo1 at *
  clear hmk
  go_loopw [8] (fun i wr => ∃ a : Nat, a ≤ k ∧ i = .int .i64 a ∧ ZRow wr ag k (fun x => if x < a then (atF k t x : Nat) else 0) ∧ IsRel wr lo1 ag r k (fun _ _ => false) ∧ w.grownBy wr none) (fun i _ => k - (intOf i).toNat)
  case atStart => exact ⟨0, Nat.zero_le _, rfl, HZ3.out, HR3.out, HG3.out⟩
  case round =>
    obtain ⟨a, ha, rfl, hz, hr, hg⟩ := hrel
    by_cases hak : a < k
    · have cz := hz.cell hak
      have fz := hz.free a
      have HZ := Lib.hid (hz.set hak (atF k t a : Nat))
      have hgs := grownBy_setCell wr ⟨ag, a, none⟩ (.int .i64 (atF k t a : Nat))
      have HR := Lib.hid (hr.kept hgs.size fun i _ h2 => hgs.block i (by have := hr.top; omega) (fun e => by have := Option.some.inj e; simp at this; omega))
      have HG := Lib.hid (grownBy_new hg hgs hw2)
      have a0 : (0 : Int) ≤ a := by omega
      have a1 : (a : Int) < k := by omega
      have hk0 : (0 : Int) < k := by omega
      have HAT : Hid (((a : Int) + (t : Int)) % (k : Int) = ((atF k t a : Nat) : Int)) := Lib.hid rfl
      clear hz hr hg hgs
      go_wp2
      refine ⟨⟨a + 1, by omega, by go_num, ZRow.congr HZ.out fun x hx => ?_, HR.out, HG.out⟩, by simp [intOf]; omega⟩
      by_cases e : x = a
      · subst e; simp
      · simp only [if_neg e]
        by_cases e2 : x < a
        · rw [if_pos e2, if_pos (by omega)]
        · rw [if_neg e2, if_neg (by omega)]
    · obtain rfl : a = k := by omega
      have HZ := Lib.hid (hz.congr (f' := fun x => ((atF a t x : Nat) : Int)) fun x hx => by rw [if_pos hx])
      have HR := Lib.hid hr
      have HG := Lib.hid hg
      have ha0 : 0 < a := by omega
      clear hz hr hg HZ3 HR3 HG3
      go_wp2
      go_loopw [9] (fun i wr => ∃ b : Nat, b + 1 ≤ a ∧ i = .int .i64 b ∧ ZRow wr ag a (fun x => ((atF a t x : Nat) : Int)) ∧ IsRel wr lo1 ag r a (rowR a t b) ∧ w.grownBy wr none) (fun i _ => a - (intOf i).toNat)
      case atStart => exact ⟨0, by omega, rfl, HZ.out, by rw [rowR_zero]; exact HR.out, HG.out⟩
      case round =>
        obtain ⟨b, hb, rfl, hz, hr, hg⟩ := hrel
        have HZB := Lib.hid hz
        have HRB := Lib.hid hr
        have HGB := Lib.hid hg
        by_cases hba : b + 1 < a
        · have HBA := Lib.hid hba
          have c1 := hz.cell (i := b) (by omega)
          have c2 := hz.cell (i := b + 1) hba
          have hin : inI a (atF a t b : Nat) (atF a t (b + 1) : Nat) := by
            have := atF_lt (k := a) (t := t) (i := b) ha0
            have := atF_lt (k := a) (t := t) (i := b + 1) ha0
            unfold inI
            omega
          have HADD : Hid (addI a (rowR a t b) ((atF a t b : Nat), (atF a t (b + 1) : Nat)) = rowR a t (b + 1)) := Lib.hid (by rw [addI_yes hin, rowR_succ]; rfl)
          have b0 : (0 : Int) ≤ b := by omega
          have b1 : (b : Int) + 1 < a := by omega
          obtain ⟨b', hb'⟩ : ∃ b' : Nat, b' = b + 1 := ⟨_, rfl⟩
          rw [← hb'] at c2 HADD
          have hwr : IntKind.i64.wrap ((b : Int) + 1) = (b' : Int) := by rw [hb']; exact wrap_low _ (by omega) (by omega)
          have b4 : (0 : Int) ≤ b' := by omega
          have b5 : (b' : Int) < a := by omega
          have HB' := Lib.hid hb'
          clear hb'
          have b3 : (b : Int) < a := by omega
          clear hz hr hg hin
          generalize atF a t b = x1 at *
          generalize atF a t b' = x2 at *
          go_wp2
          refine wp_region_still_tail 10 (by kernel_rfl) (by kernel_rfl) ?_
          simp only [List.take_succ_cons, List.take_zero, List.drop_succ_cons, List.drop_zero]
          repeat still_step
          refine wpStill_nil ?_
          change wpList _ _ _ _ _ wr.drew
          go_wp2_with fail
          refine (add_c lo1 ag r a x1 x2 (rowR a t b) _ (HRB.out.calm (grownBy_drewN wr 1 none))).mono ?_
          rintro e w' ⟨rfl, hr', hk'⟩
          rw [HADD.out] at hr'
          have HR' := Lib.hid hr'
          have HZ' := Lib.hid ((HZB.out.calm (grownBy_drewN wr 1 none)).apart hk' (.inr (Nat.le_refl _)))
          have HG' := Lib.hid (Kept.new (grownBy_trans HGB.out (grownBy_drewN wr 1 none)) hk' hw1)
          clear hr' hk'
          go_wp2
          exact ⟨⟨b', by have := HBA.out; have := HB'.out; omega, by go_num, HZ'.out, by rw [HB'.out] at HR' ⊢; exact HR'.out, HG'.out⟩, by have := HBA.out; have := HB'.out; simp [intOf]; omega⟩
        · have hb1 : a - 1 = b := by omega
          have HB1 := Lib.hid hb1
          have hbl : b < a := by omega
          clear hz hr hg
          have HRC : Hid (clo a (rowR a t b) = aheadR a t) := Lib.hid (by have := row_clo ha0 t; rwa [hb1] at this)
          have a2 : (2 : Int) ≤ a := by omega
          have hst : ¬ ((b : Int) + 1 < a) := by omega
          clear hb1
          go_wp2_with fail
          refine (sort_c lo1 ag r a _ _ HRB.out).mono ?_
          rintro e w3 ⟨sg, sc, rfl, hs, hg3⟩
          rw [HRC.out, row_sort] at hs
          rw [HRC.out, row_sort, atL_length]
          have HS3 := Lib.hid hs
          have HR3 := Lib.hid (HRB.out.calm hg3)
          have HZ3 := Lib.hid (HZB.out.calm hg3)
          have HG3 := Lib.hid (grownBy_trans HGB.out hg3)
          clear hs hg3 HRB HZB HGB
          go_wp2_with fail
          refine (reduce_c lo1 ag r a _ _ HR3.out).mono ?_
          rintro e w4 ⟨pp, pc, rfl, hp, hg4⟩
          have hpl := hp.len
          rw [HRC.out, row_red, HB1.out] at hpl
          rw [HRC.out, row_red, HB1.out]
          have HS4 := Lib.hid (HS3.out.calm hg4)
          have HR4 := Lib.hid (HR3.out.calm hg4)
          have HZ4 := Lib.hid (HZ3.out.calm hg4)
          have HG4 := Lib.hid (grownBy_trans HG3.out hg4)
          clear hp hpl hg4 HR3 HZ3 HG3 HS3
          go_wp2_with fail
          refine (relCopy_c lo1 ag r a _ _ HR4.out).mono ?_
          rintro e w5 ⟨q, rfl, hq, hg5⟩
          have HQ5 := Lib.hid hq
          have HS5 := Lib.hid (HS4.out.calm hg5)
          have HR5 := Lib.hid (HR4.out.calm hg5)
          have HZ5 := Lib.hid (HZ4.out.calm hg5)
          have HG5 := Lib.hid (grownBy_trans HG4.out hg5)
          have c1 := HZ5.out.cell (i := b) hbl
          have c0 := HZ5.out.cell (i := 0) (by omega)
          have hwr : IntKind.i64.wrap ((a : Int) - 1) = (b : Int) := by have := HB1.out; rw [wrap_low _ (by omega) (by omega)]; omega
          have b4 : (0 : Int) ≤ (b : Int) := by omega
          have b5 : (b : Int) < a := by omega
          have hin : inI a (atF a t b : Nat) (atF a t 0 : Nat) := by
            have := atF_lt (k := a) (t := t) (i := b) ha0
            have := atF_lt (k := a) (t := t) (i := 0) ha0
            unfold inI
            omega
          have HADD : Hid (addI a (rowR a t b) ((atF a t b : Nat), (atF a t 0 : Nat)) = addR (rowR a t b) (atF a t b) (atF a t 0)) := Lib.hid (by rw [addI_yes hin]; rfl)
          have HRING : Hid (clo a (addR (rowR a t b) (atF a t b) (atF a t 0)) = allR a) := Lib.hid (by have := ring_clo ha0 t; rwa [HB1.out] at this)
          have hw45 : w4.heap.size ≤ w5.heap.size := hg5.size
          have hq4 := HG4.out.size
          have hr4 := HR4.out.top
          have hz4 := HZ4.out.lt
          have hs4 := HS4.out.lt.2
          clear hq hg5 HR4 HZ4 HG4 HS4 hin
          generalize addR (rowR a t b) (atF a t b) (atF a t 0) = RR at *
          generalize atF a t b = x1 at *
          generalize atF a t 0 = x0 at *
          go_wp2
          refine wp_region_still_tail 9 (by kernel_rfl) (by kernel_rfl) ?_
          simp only [List.take_succ_cons, List.take_zero, List.drop_succ_cons, List.drop_zero]
          repeat still_step
          refine wpStill_nil ?_
          change wpList _ _ _ _ _ w5.drew
          go_wp2_with fail
          refine (add_c w4.heap.size w5.heap.size q a x1 x0 (rowR a t b) _ (HQ5.out.calm (grownBy_drewN w5 1 none))).mono ?_
          rintro e w6 ⟨rfl, hq6, hk6⟩
          rw [HADD.out] at hq6
          have HQ6 := Lib.hid hq6
          have HR6 := Lib.hid ((HR5.out.calm (grownBy_drewN w5 1 none)).apart hk6 (.inl hr4))
          have HZ6 := Lib.hid ((HZ5.out.calm (grownBy_drewN w5 1 none)).apart hk6 (.inl hz4))
          have HS6 : Hid (IntsAt w6 (some ⟨sg, 0, none⟩) a (atL a t)) := Lib.hid (by
            have := ((HS5.out.calm (grownBy_drewN w5 1 none)).apartK hk6 (.inl hs4)).ints
            rwa [atL_length] at this)
          have HG6 := Lib.hid (Kept.new (grownBy_trans HG5.out (grownBy_drewN w5 1 none)) hk6 hq4)
          clear hq6 hk6 HQ5 HR5 HZ5 HS5 HG5
          go_wp2_with fail
          refine (circles_c _ _ q a RR _ HQ6.out).mono ?_
          rintro e w7 ⟨v, rfl, ⟨ib, ic, hgrid⟩, hg7⟩
          rw [HRING.out, ring_circ ha0] at hgrid
          obtain ⟨gg, cap, rfl, _, _⟩ := hgrid.form (by simp)
          have ch := (hgrid.calm (grownBy_refl _ _)).head (k := 0) rfl
          rw [List.length_range] at ch
          have HCH := Lib.hid ch
          have hib := (hgrid.row 0 _ rfl).lt.2
          have HGR := Lib.hid hgrid
          have HS7 := Lib.hid (HS6.out.calm hg7)
          have HZ7 := Lib.hid (HZ6.out.calm hg7).ints
          have HR7 := Lib.hid (HR6.out.calm hg7)
          have HQ7 := Lib.hid (HQ6.out.calm hg7)
          have HG7 := Lib.hid (grownBy_trans HG6.out hg7)
          clear hgrid hg7 HS6 HZ6 HR6 HQ6 HG6 ch
          simp only [List.length_singleton]
          go_wp2_with fail
          refine (same3_c (some ⟨sg, 0, none⟩) (some ⟨ag, 0, none⟩) a a sc a (atL a t) (atL a t) true _ HS7.out HZ7.out (by omega) (by simp)).mono ?_
          rintro e w8 ⟨rfl, hg8⟩
          have HR8 := Lib.hid (HR7.out.calm hg8)
          have HQ8 := Lib.hid (HQ7.out.calm hg8)
          have HGR8 := Lib.hid (HGR.out.calm hg8)
          have HG8 := Lib.hid (grownBy_trans HG7.out hg8)
          clear hg8 HS7 HZ7 HR7 HQ7 HG7 HGR
          go_wp2_with fail
          refine (isTotal_c lo1 ag r a _ _ HR8.out).mono ?_
          rintro e w9 ⟨he, hg9⟩
          rw [HRC.out, row_ord, row_tot] at he
          subst he
          have HR9 := Lib.hid (HR8.out.calm hg9)
          have HQ9 := Lib.hid (HQ8.out.calm hg9)
          have HGR9 := Lib.hid (HGR8.out.calm hg9)
          have HG9 := Lib.hid (grownBy_trans HG8.out hg9)
          clear hg9 HR8 HQ8 HG8 HGR8
          go_wp2_with fail
          refine (circles_c lo1 ag r a _ _ HR9.out).mono ?_
          rintro e w10 ⟨v, rfl, ⟨ib', ic', hgrid'⟩, hg10⟩
          rw [HRC.out] at hgrid'
          obtain ⟨pv, cv, rfl, _⟩ := hgrid'.slice
          have hcl : (circL (aheadR a t) a).length = a := by rw [row_circ]; simp
          rw [hcl]
          have ch10 := (HGR9.out.calm hg10).head (k := 0) rfl
          rw [List.length_range] at ch10
          have HQ10 := Lib.hid (HQ9.out.calm hg10)
          have HG10 := Lib.hid (grownBy_trans HG9.out hg10)
          clear hgrid' hg10 HR9 HQ9 HG9 HGR9 hcl
          go_wp2_with fail
          refine (orderIsOrder_c _ _ q a RR _ HQ10.out).mono ?_
          rintro e w11 ⟨he, hg11⟩
          rw [HRING.out, ring_ord ha0] at he
          subst he
          have HQ11 := Lib.hid (HQ10.out.calm hg11)
          have HG11 := Lib.hid (grownBy_trans HG10.out hg11)
          clear hg11 HQ10 HG10
          go_wp2_with fail
          refine (reduce_c _ _ q a RR _ HQ11.out).mono ?_
          rintro e w12 ⟨pp', pc', rfl, hp', hg12⟩
          rw [HRING.out, ring_red ha0]
          have HG12 := Lib.hid (grownBy_trans HG11.out hg12)
          clear hp' hg12 HQ11 HG11
          go_wp2
          go_ret
          exact ⟨rfl, HG12.out⟩

end Go.Proofs.Ytkipldmkdnjkaaa
