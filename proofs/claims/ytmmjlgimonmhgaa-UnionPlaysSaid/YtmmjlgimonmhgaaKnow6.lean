/- What the statements on unions have in common: classes held against places (classes), what is known (known). -/
import Derived.Test.YtmmjlgimonmhgaaUnis
namespace Go.Proofs.Ytmmjlgimonmhgaa
open Go.RowKit

theorem cls_rise (C : Nat → Nat → Bool) (a x : Nat) {k : Nat} (hk : k + 1 < (clsC C a x).length) : nx (clsC C a x) k < nx (clsC C a x) (k + 1) := by
  have h : (clsC C a x).Pairwise (· < ·) := List.pairwise_lt_range.filter _
  have := List.pairwise_iff_getElem.1 h k (k + 1) (by omega) hk (by omega)
  unfold nx
  rw [List.getElem?_eq_getElem (by omega), List.getElem?_eq_getElem hk]
  exact this
theorem cls_count {L : List Nat} {i : Nat} (hi : i < L.length) (h : isL L) : (clsC (eqC L) L.length (nx L i)).count i = 1 := by
  have hm : i ∈ clsC (eqC L) L.length (nx L i) := by
    rw [mem_cls, oneC_iff]
    refine ⟨hi, .inr ?_⟩
    simp [eqC, h.fix i hi]
  have hn : (clsC (eqC L) L.length (nx L i)).Nodup := List.nodup_range.filter _
  rw [hn.count, if_pos hm]
theorem count_succ {l : List Nat} {i k : Nat} (hk : k < l.length) : (l.take (k + 1)).count i = (l.take k).count i + if nx l k = i then 1 else 0 := by
  rw [List.take_succ_eq_append_getElem hk, List.count_append]
  unfold nx
  rw [List.getElem?_eq_getElem hk]
  by_cases h : l[k] = i
  · simp [h]
  · simp [h]
/-- How many elements there are in the first k classes. -/
def sumK (ls : List (List Nat)) (k : Nat) : Nat := ((ls.take k).map List.length).sum
theorem sumK_succ {ls : List (List Nat)} {k : Nat} {l : List Nat} (h : ls[k]? = some l) : sumK ls (k + 1) = sumK ls k + l.length := by
  obtain ⟨hk, e⟩ := List.getElem?_eq_some_iff.1 h
  unfold sumK
  rw [List.take_succ_eq_append_getElem hk, e]
  simp
theorem sum_set {ls : List (List Nat)} {k e : Nat} {l : List Nat} (h : ls[k]? = some l) : ((ls.set k (l ++ [e])).map List.length).sum = (ls.map List.length).sum + 1 := by
  induction ls generalizing k with
  | nil => simp at h
  | cons a t ih =>
    cases k with
    | zero =>
      simp at h
      subst h
      simp
      omega
    | succ k =>
      have := ih (k := k) (by simpa using h)
      simp only [List.set_cons_succ, List.map_cons, List.sum_cons] at this ⊢
      omega
theorem sum_circ {L : List Nat} (h : isL L) {a : Nat} (ha : a ≤ L.length) : ((circL (eqC L) a).map List.length).sum = a := by
  induction a with
  | zero => rfl
  | succ a ih =>
    have h1 := ih (by omega)
    have h2 := h.le a (by omega)
    by_cases e : nx L a < a
    · rw [circ_old h (by omega) e, sum_set (circ_at h (by omega) e (by omega)), h1]
    · rw [circ_new h (by omega) (by omega)]
      simp [h1]
theorem sumK_le (ls : List (List Nat)) (k : Nat) : sumK ls k ≤ (ls.map List.length).sum := by
  unfold sumK
  have : ls.map List.length = (ls.take k).map List.length ++ (ls.drop k).map List.length := by rw [← List.map_append, List.take_append_drop]
  rw [this, List.sum_append]
  omega

set_option maxRecDepth 20000 in
set_option maxHeartbeats 4000000 in
theorem classesLaw_c (lo hi b lo' hi' b' : Nat) (L : List Nat) (w : World) (h : IsUn w lo hi b L) (h' : IsRn w lo' hi' b' L) :
    Calls Try.prog 13 #[.pointer (some ⟨b, 0, none⟩), .pointer (some ⟨b', 0, none⟩)] w fun e w' => e = .returned (.bool true) ∧ w.grownBy w' none := by
  obtain ⟨his, hsm⟩ := h.is
  have HU := Lib.hid h
  have HR := Lib.hid h'
  have HIS := Lib.hid his
  have HPL := Lib.hid (placesL_len L)
  have HSUM := Lib.hid (sum_circ his (Nat.le_refl L.length))
  have HCN := Lib.hid (circ_cnt his (Nat.le_refl L.length))
  have hcn := cntR_le L L.length
  clear h h' his
  go_enter Try.func13, Try.ntmps13
  go_wp2_with fail
  refine (placesU_c lo hi b L _ HU.out).mono ?_
  rintro e w1 ⟨g1, rfl, hr1, hg1⟩
  rw [HPL.out]
  rw [HPL.out] at hr1
  have HR1 := Lib.hid hr1
  have HG1 := Lib.hid hg1
  clear hr1 hg1
  go_wp2_with fail
  refine (placesR_c lo' hi' b' L _ (HR.out.calm HG1.out) HIS.out).mono ?_
  rintro e w2 ⟨g2, rfl, hr2, hg2⟩
  rw [HPL.out]
  rw [HPL.out] at hr2
  have HR1 := Lib.hid (HR1.out.calm hg2)
  have HR2 := Lib.hid hr2
  have HG2 := Lib.hid (grownBy_trans HG1.out hg2)
  clear hr2 hg2 HG1
  have hnn : ((L.length : Int) != (L.length : Int)) = false := by simp
  go_wp2_with fail
  refine (classesU_c lo hi b L _ (HU.out.calm HG2.out)).mono ?_
  rintro e w3 ⟨v, rfl, ⟨ib, ic, hgrid⟩, hg3⟩
  obtain ⟨qg, cap, rfl, hqg⟩ := hgrid.slice
  rw [HCN.out]
  rw [HCN.out] at hqg hgrid
  have HR1 := Lib.hid (HR1.out.calm hg3)
  have HR2 := Lib.hid (HR2.out.calm hg3)
  have HG3 := Lib.hid (grownBy_trans HG2.out hg3)
  have HGRID := Lib.hid hgrid
  have HQG := Lib.hid hqg
  clear hg3 hgrid hqg HG2 HU HR
  generalize hM : cntR L L.length = M at *
  generalize hN : L.length = n at *
  have HN := Lib.hid hN
  clear hN hM
  go_wp2
  go_loopw [8] (fun i wr => ∃ k : Nat, k ≤ n ∧ i = .int .i64 k ∧ w3.grownBy wr none) (fun i _ => n - (intOf i).toNat)
  case atStart => exact ⟨0, Nat.zero_le _, rfl, grownBy_refl _ _⟩
  case round =>
    obtain ⟨i, hin, rfl, hgr⟩ := hrel
    by_cases hi' : i < n
    · have i0 : (0 : Int) ≤ i := by omega
      have i1 : (i : Int) < n := by omega
      have hiL : i < L.length := by rw [HN.out]; exact hi'
      have c1 := (HR1.out.calm hgr).cell (j := i) (nx_get (by rw [placesL_len]; exact hiL))
      have c2 := (HR2.out.calm hgr).cell (j := i) (nx_get (by rw [placesL_len]; exact hiL))
      rw [nx_places hiL] at c1 c2
      have hlt := HIS.out.le i hiL
      have hat := circ_at HIS.out (a := n) (e := i) (by rw [HN.out]; exact Nat.le_refl _) (by omega) hiL
      have hplt : plc6 L i < M := by rw [← HCN.out]; exact (List.getElem?_eq_some_iff.1 hat).1
      obtain ⟨g, rfl, hgb, hgl⟩ := HQG.out (plc6 L i) hplt
      have hhead := (HGRID.out.calm hgr).head hat
      have HRW := Lib.hid (HGRID.out.row _ _ hat)
      have HRISE := Lib.hid (fun k hk => cls_rise (eqC L) n (nx L i) (k := k) hk)
      have HCNT := Lib.hid (cls_count hiL HIS.out)
      rw [HN.out] at HCNT
      have hll := cls_le (eqC L) n (nx L i)
      have p0 : (0 : Int) ≤ plc6 L i := by omega
      have p1 : (plc6 L i : Int) < M := by omega
      have q1 : ((plc6 L i : Int) != (plc6 L i : Int)) = false := by simp
      have q2 : decide ((M : Int) ≤ (plc6 L i : Int)) = false := by simp; omega
      have q3 : decide (M ≤ plc6 L i) = false := by simp; omega
      have HGR := Lib.hid hgr
      clear hat hlt hplt hgr
      generalize hC : clsC (eqC L) n (nx L i) = l at *
      clear hC
      generalize plc6 L i = k0 at *
      go_wp2
      go_quiet (fail)
      go_wp2
      generalize wr = wo at *
      go_loopw [9, 11] (fun f j wi => ∃ k : Nat, k ≤ l.length ∧ j = .int .i64 k ∧ f = .int .i64 ((l.take k).count i : Nat) ∧ w3.grownBy wi none) (fun _ j _ => l.length - (intOf j).toNat)
      case atStart => exact ⟨0, Nat.zero_le _, rfl, rfl, grownBy_trans HGR.out (grownBy_drewN _ _ none)⟩
      case round =>
        obtain ⟨k, hkl, rfl, rfl, hgi⟩ := hrel
        by_cases hk : k < l.length
        · have k0' : (0 : Int) ≤ k := by omega
          have k1' : (k : Int) < l.length := by omega
          have cx := (HRW.out.calm hgi).cell (j := k) (nx_get hk)
          have hcs := count_succ (i := i) hk
          have hcle : (l.take k).count i ≤ 1000 := by have := List.count_le_length (a := i) (l := l.take k); rw [List.length_take] at this; omega
          rcases Nat.eq_zero_or_pos k with hk0 | hk0
          · subst hk0
            by_cases he : nx l 0 = i
            · rw [if_pos he] at hcs
              have HCS := Lib.hid hcs
              rw [he] at cx
              have hbe : ((i : Int) == (i : Int)) = true := by simp
              have HGI := Lib.hid hgi
              clear hcs he hgi
              generalize hq : (l.take 0).count i = q at *
              clear hq
              go_wp2
              go_quiet (fail)
              go_wp2
              exact ⟨⟨0 + 1, by omega, by go_num, by rw [HCS.out]; go_num, grownBy_trans HGI.out (grownBy_drewN _ _ none)⟩, by simp [intOf]; omega⟩
            · rw [if_neg he] at hcs
              have HCS := Lib.hid hcs
              have hbe : ((nx l 0 : Int) == (i : Int)) = false := by simp; omega
              have HGI := Lib.hid hgi
              clear hcs he hgi
              generalize nx l 0 = u at *
              generalize hq : (l.take 0).count i = q at *
              clear hq
              go_wp2
              go_quiet (fail)
              go_wp2
              exact ⟨⟨0 + 1, by omega, by go_num, by rw [HCS.out]; first | done | rfl, grownBy_trans HGI.out (grownBy_drewN _ _ none)⟩, by simp [intOf]; omega⟩
          · obtain ⟨j, hj⟩ : ∃ j, k = j + 1 := ⟨k - 1, by omega⟩
            have cy := (HRW.out.calm hgi).cell (j := j) (nx_get (by omega))
            have hrs := HRISE.out j (by omega)
            rw [← hj] at hrs
            have j0 : (0 : Int) ≤ j := by omega
            have j1 : (j : Int) < l.length := by omega
            have jw : IntKind.i64.wrap ((k : Int) - 1) = (j : Int) := by rw [IntWalk.i64_in _ (by omega)]; omega
            have jw2 : IntKind.i64.wrap (j : Int) = (j : Int) := by rw [IntWalk.i64_in _ (by omega)]
            have g1' : decide ((0 : Int) < (k : Int)) = true := by simp; omega
            have g2' : decide (0 < k) = true := by simp; omega
            have l1' : decide ((nx l k : Int) ≤ (nx l j : Int)) = false := by simp; omega
            have l2' : decide (nx l k ≤ nx l j) = false := by simp; omega
            by_cases he : nx l k = i
            · rw [if_pos he] at hcs
              have HCS := Lib.hid hcs
              rw [he] at cx l1' l2'
              have hbe : ((i : Int) == (i : Int)) = true := by simp
              have HGI := Lib.hid hgi
              clear hcs he hgi hj hrs
              generalize nx l j = z at *
              generalize hq : (l.take k).count i = q at *
              clear hq
              go_wp2
              go_quiet (fail)
              go_wp2
              exact ⟨⟨k + 1, by omega, by go_num, by rw [HCS.out]; go_num, grownBy_trans HGI.out (grownBy_drewN _ _ none)⟩, by simp [intOf]; omega⟩
            · rw [if_neg he] at hcs
              have HCS := Lib.hid hcs
              have hbe : ((nx l k : Int) == (i : Int)) = false := by simp; omega
              have HGI := Lib.hid hgi
              clear hcs he hgi hj hrs
              generalize nx l j = z at *
              generalize nx l k = u at *
              generalize hq : (l.take k).count i = q at *
              clear hq
              go_wp2
              go_quiet (fail)
              go_wp2
              exact ⟨⟨k + 1, by omega, by go_num, by rw [HCS.out]; first | done | rfl, grownBy_trans HGI.out (grownBy_drewN _ _ none)⟩, by simp [intOf]; omega⟩
        · obtain rfl : k = l.length := by omega
          have hc1 : (l.take l.length).count i = 1 := by rw [List.take_length]; exact HCNT.out
          rw [hc1]
          have HGI := Lib.hid hgi
          clear hgi hc1
          go_wp2
          exact ⟨⟨i + 1, by omega, by go_num, HGI.out⟩, by simp [intOf]; omega⟩
    · obtain rfl : i = n := by omega
      have HGR := Lib.hid hgr
      clear hgr
      go_wp2
      generalize wr = wo at *
      go_loopw [12, 13] (fun f j wi => ∃ k : Nat, k ≤ M ∧ j = .int .i64 k ∧ f = .int .i64 (sumK (circL (eqC L) i) k : Nat) ∧ w3.grownBy wi none) (fun _ j _ => M - (intOf j).toNat)
      case atStart => exact ⟨0, Nat.zero_le _, rfl, rfl, HGR.out⟩
      case round =>
        obtain ⟨k, hkM, rfl, rfl, hgi⟩ := hrel
        have HGI := Lib.hid hgi
        clear hgi
        have hsl := sumK_le (circL (eqC L) i) k
        rw [HSUM.out] at hsl
        by_cases hk : k < M
        · have k0' : (0 : Int) ≤ k := by omega
          have k1' : (k : Int) < M := by omega
          obtain ⟨g, rfl, hgb, hgl⟩ := HQG.out k hk
          have hat : (circL (eqC L) i)[k]? = some ((circL (eqC L) i)[k]?.getD []) := by rw [List.getElem?_eq_getElem (by rw [HCN.out]; exact hk)]; rfl
          have hhead := (HGRID.out.calm HGI.out).head hat
          have hss := sumK_succ hat
          have hsl2 := sumK_le (circL (eqC L) i) (k + 1)
          rw [HSUM.out, hss] at hsl2
          have HSS := Lib.hid hss
          clear hat hss
          generalize ((circL (eqC L) i)[k]?.getD []).length = len at *
          generalize hq : sumK (circL (eqC L) i) k = q at *
          clear hq
          go_wp2
          exact ⟨⟨k + 1, by omega, by go_num, by rw [HSS.out]; go_num, HGI.out⟩, by simp [intOf]; omega⟩
        · obtain rfl : k = M := by omega
          have he : sumK (circL (eqC L) i) k = i := by
            unfold sumK
            rw [← HCN.out, List.take_length]
            exact HSUM.out
          rw [he]
          clear he
          have hbe : ((i : Int) == (i : Int)) = true := by simp
          go_wp2
          go_ret
          exact ⟨rfl, grownBy_trans HG3.out HGI.out⟩

/-- The union that known asks of. -/
def kL : List Nat := [0, 1, 2, 1]
theorem kL1 : joinZ (List.range 4) 3 1 = kL := by decide
theorem kB1 : joinUB (List.range 4) 3 1 = true := by decide
theorem kL2 : joinZ kL 1 3 = kL := by decide
theorem kB2 : joinUB kL 1 3 = false := by decide
theorem kL3 : joinZ kL 0 4 = kL := by decide
theorem kB3 : joinUB kL 0 4 = false := by decide
theorem kC : circL (eqC kL) kL.length = [[0], [1, 3], [2]] := by decide
theorem kP : placesL kL = [0, 1, 2, 1] := by decide

set_option maxRecDepth 20000 in
set_option maxHeartbeats 4000000 in
theorem known6_c (w : World) : Calls Try.prog 5 #[] w fun e w' => e = .returned (.bool true) ∧ w.grownBy w' none := by
  go_enter Try.func5, Try.ntmps5
  go_wp2_with fail
  refine (newU_c 4 _ (by decide)).mono ?_
  rintro e w1 ⟨b, rfl, hu1, hg1⟩
  have HU1 := Lib.hid hu1
  have HG1 := Lib.hid hg1
  have ht := hu1.top
  generalize hlo : w.heap.size = lo at *
  generalize hhi : w1.heap.size = hi at *
  have HLO := Lib.hid hlo
  clear hu1 hg1 hlo hhi
  go_wp2_with fail
  refine (joinU_c _ _ b _ 3 1 _ HU1.out).mono ?_
  rintro e w2 ⟨he, hu2, hk2⟩
  rw [kB1] at he
  subst he
  rw [kL1] at hu2
  have HU2 := Lib.hid hu2
  have HG2 := Lib.hid (Kept.new HG1.out hk2 (by rw [HLO.out]; exact Nat.le_refl _))
  clear hu2 hk2 HU1 HG1
  go_wp2_with fail
  refine (joinU_c _ _ b _ 1 3 _ HU2.out).mono ?_
  rintro e w3 ⟨he, hu3, hk3⟩
  rw [kB2] at he
  subst he
  rw [kL2] at hu3
  have HU3 := Lib.hid hu3
  have HG3 := Lib.hid (Kept.new HG2.out hk3 (by rw [HLO.out]; exact Nat.le_refl _))
  clear hu3 hk3 HU2 HG2
  go_wp2_with fail
  refine (joinU_c _ _ b _ 0 4 _ HU3.out).mono ?_
  rintro e w4 ⟨he, hu4, hk4⟩
  rw [kB3] at he
  subst he
  rw [kL3] at hu4
  have HU4 := Lib.hid hu4
  have HG4 := Lib.hid (Kept.new HG3.out hk4 (by rw [HLO.out]; exact Nat.le_refl _))
  clear hu4 hk4 HU3 HG3
  go_wp2_with fail
  refine (classesU_c _ _ b _ _ HU4.out).mono ?_
  rintro e w5 ⟨v, rfl, ⟨ib, ic, hgrid⟩, hg5⟩
  rw [kC] at hgrid
  obtain ⟨g, cap, rfl, hgb, hgl⟩ := hgrid.form (by decide)
  have HC1 : Hid (w5.cell? ⟨g, 1, none⟩ = some (.slice (some ⟨ib 1, 0, none⟩) 2 (ic 1))) := Lib.hid (hgrid.head (k := 1) (l := [1, 3]) rfl)
  have HC2 : Hid (RowI w5 _ (ib 1) (ic 1) [1, 3]) := Lib.hid (hgrid.row 1 [1, 3] rfl)
  have HU5 := Lib.hid (HU4.out.calm hg5)
  have HG5 := Lib.hid (grownBy_trans HG4.out hg5)
  clear hgrid hg5 HU4 HG4 hgb
  go_wp2_with fail
  refine (placesU_c _ _ b _ _ HU5.out).mono ?_
  rintro e w6 ⟨pg, rfl, hrp, hg6⟩
  rw [kP]
  rw [kP] at hrp
  have c1 : w6.cell? ⟨g, 1, none⟩ = some (.slice (some ⟨ib 1, 0, none⟩) 2 (ic 1)) := (World.cell?_of_block (a := ⟨g, 1, none⟩) (hg6.block g hgl (by simp))).trans HC1.out
  have c2 : w6.cell? ⟨ib 1, 1, none⟩ = some (.int .i64 3) := (HC2.out.calm hg6).cell (j := 1) (x := 3) rfl
  have c3 : w6.cell? ⟨pg, 3, none⟩ = some (.int .i64 1) := hrp.cell (j := 3) (x := 1) rfl
  have c4 : w6.cell? ⟨pg, 2, none⟩ = some (.int .i64 2) := hrp.cell (j := 2) (x := 2) rfl
  have HU6 := Lib.hid (HU5.out.calm hg6)
  have HG6 := Lib.hid (grownBy_trans HG5.out hg6)
  clear hg6 hrp HU5 HG5 HC1 HC2
  go_wp2_with fail
  refine (lenU_c _ _ b _ _ HU6.out).mono ?_
  rintro e w9 ⟨he, h9⟩
  subst w9
  have he' : e = .returned (.int .i64 4) := he
  clear he
  subst he'
  go_wp2_with fail
  refine (sameU_c _ _ b _ 1 3 true _ HU6.out (by decide)).mono ?_
  rintro e w7 ⟨rfl, hg⟩
  have c1 := World.grownBy.cell hg (a := ⟨g, 1, none⟩) c1 (by simp)
  have c2 := World.grownBy.cell hg (a := ⟨ib 1, 1, none⟩) c2 (by simp)
  have c3 := World.grownBy.cell hg (a := ⟨pg, 3, none⟩) c3 (by simp)
  have c4 := World.grownBy.cell hg (a := ⟨pg, 2, none⟩) c4 (by simp)
  have HU7 := Lib.hid (HU6.out.calm hg)
  have HG7 := Lib.hid (grownBy_trans HG6.out hg)
  clear hg
  go_wp2_with fail
  refine (sameU_c _ _ b _ 0 1 false _ HU7.out (by decide)).mono ?_
  rintro e w8 ⟨rfl, hg⟩
  have c1 := World.grownBy.cell hg (a := ⟨g, 1, none⟩) c1 (by simp)
  have c2 := World.grownBy.cell hg (a := ⟨ib 1, 1, none⟩) c2 (by simp)
  have c3 := World.grownBy.cell hg (a := ⟨pg, 3, none⟩) c3 (by simp)
  have c4 := World.grownBy.cell hg (a := ⟨pg, 2, none⟩) c4 (by simp)
  have HU8 := Lib.hid (HU7.out.calm hg)
  have HG8 := Lib.hid (grownBy_trans HG7.out hg)
  clear hg
  go_wp2_with fail
  refine (sameU_c _ _ b _ 4 4 false _ HU8.out (by decide)).mono ?_
  rintro e w9 ⟨rfl, hg⟩
  have c1 := World.grownBy.cell hg (a := ⟨g, 1, none⟩) c1 (by simp)
  have c2 := World.grownBy.cell hg (a := ⟨ib 1, 1, none⟩) c2 (by simp)
  have c3 := World.grownBy.cell hg (a := ⟨pg, 3, none⟩) c3 (by simp)
  have c4 := World.grownBy.cell hg (a := ⟨pg, 2, none⟩) c4 (by simp)
  have HU9 := Lib.hid (HU8.out.calm hg)
  have HG9 := Lib.hid (grownBy_trans HG8.out hg)
  clear hg
  go_wp2_with fail
  refine (leastU_c _ _ b _ 3 1 _ HU9.out (by decide)).mono ?_
  rintro e w10 ⟨rfl, hg⟩
  have c1 := World.grownBy.cell hg (a := ⟨g, 1, none⟩) c1 (by simp)
  have c2 := World.grownBy.cell hg (a := ⟨ib 1, 1, none⟩) c2 (by simp)
  have c3 := World.grownBy.cell hg (a := ⟨pg, 3, none⟩) c3 (by simp)
  have c4 := World.grownBy.cell hg (a := ⟨pg, 2, none⟩) c4 (by simp)
  have HU10 := Lib.hid (HU9.out.calm hg)
  have HG10 := Lib.hid (grownBy_trans HG9.out hg)
  clear hg
  go_wp2_with fail
  refine (leastU_c _ _ b _ 9 (-1) _ HU10.out (by decide)).mono ?_
  rintro e w11 ⟨rfl, hg⟩
  have c1 := World.grownBy.cell hg (a := ⟨g, 1, none⟩) c1 (by simp)
  have c2 := World.grownBy.cell hg (a := ⟨ib 1, 1, none⟩) c2 (by simp)
  have c3 := World.grownBy.cell hg (a := ⟨pg, 3, none⟩) c3 (by simp)
  have c4 := World.grownBy.cell hg (a := ⟨pg, 2, none⟩) c4 (by simp)
  have HU11 := Lib.hid (HU10.out.calm hg)
  have HG11 := Lib.hid (grownBy_trans HG10.out hg)
  clear hg
  go_wp2
  go_ret
  exact ⟨rfl, HG11.out⟩

end Go.Proofs.Ytmmjlgimonmhgaa
