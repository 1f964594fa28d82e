/- The reference's MediateAll. -/
import Derived.Test.YthmebbnoicldcaaGreatDoorRefI
import Derived.Test.YthmebbnoicldcaaGreatDoorRefH
import Derived.Test.YthmebbnoicldcaaGreatDoorColG
namespace Go.Proofs.YthmebbnoicldcaaGreatDoor
open Go.RowKit Go.Shelf

/-- Where the first legs go, it is as in U: what j whole legs and x places of the next one have set. -/
def Hit9 (Ls : List (List Int)) (U R : List Int) (j x : Nat) : Prop := ∀ e, e < U.length → ((∃ k, k < j ∧ ∃ y, y < (lgA Ls k).length ∧ (lgA Ls k)[y]?.getD 0 = (e : Int)) ∨ (∃ y, y < x ∧ (lgA Ls j)[y]?.getD 0 = (e : Int))) → R[e]?.getD 0 = U[e]?.getD 0
theorem hit9_zero (Ls : List (List Int)) (U R : List Int) : Hit9 Ls U R 0 0 := fun e _ h => by
  rcases h with ⟨k, hk, _⟩ | ⟨y, hy, _⟩
  · exact absurd hk (Nat.not_lt_zero _)
  · exact absurd hy (Nat.not_lt_zero _)
theorem hit9_next {Ls : List (List Int)} {U R : List Int} {j x : Nat} (h : Hit9 Ls U R j x) (hx : (lgA Ls j).length = x) : Hit9 Ls U R (j + 1) 0 := fun e he hh => by
  refine h e he ?_
  rcases hh with ⟨k, hk, y, hy, e1⟩ | ⟨y, hy, _⟩
  · by_cases q : k = j
    · subst q
      exact .inr ⟨y, by omega, e1⟩
    · exact .inl ⟨k, by omega, y, hy, e1⟩
  · exact absurd hy (Nat.not_lt_zero _)
theorem hit9_set {Ls : List (List Int)} {U R : List Int} {j x p0 : Nat} (h : Hit9 Ls U R j x) (hl : R.length = U.length) (hp : p0 < U.length) (hx : (lgA Ls j)[x]?.getD 0 = (p0 : Int)) : Hit9 Ls U (R.set p0 (U[p0]?.getD 0)) j (x + 1) := by
  intro e he hh
  rw [List.getElem?_set]
  by_cases q : p0 = e
  · subst q
    rw [if_pos rfl, if_pos (by omega)]
    rfl
  · rw [if_neg q]
    refine h e he ?_
    rcases hh with hh | ⟨y, hy, e1⟩
    · exact .inl hh
    · by_cases z : y = x
      · subst z
        rw [hx] at e1
        exact absurd (Int.ofNat.inj e1) q
      · exact .inr ⟨y, by omega, e1⟩
theorem hit9_end {Ls : List (List Int)} {U R : List Int} {n : Nat} (h : Hit9 Ls U R n 0) (hl : R.length = U.length) (hr : ∀ e, e < U.length → ∃ k, k < n ∧ ∃ x, x < (lgA Ls k).length ∧ (lgA Ls k)[x]?.getD 0 = (e : Int)) : R = U := by
  refine ext0 hl (fun e he => ?_)
  exact h e (by omega) (.inl (hr e (by omega)))

set_option maxRecDepth 20000 in
set_option maxHeartbeats 4000000 in
theorem refMedA_v (p q pt qt ph : Option Addr) (n c m d nt ct mt dt nh ch lo hi lo' hi' lot hit loh hih : Nat) (Ns : List Nd) (As : List Ar) (D : List ByteArray) (Q : List (Int × Int)) (Hs : List (List Int)) (U : List Int) (r : Int) (w : World) (hv : MedD Ns As D Q Hs U r)
    (hn : NodesAt w lo hi p n Ns) (ha : ArrsAt w lo' hi' q m As) (hf : DFew Ns As) (ho : ObjAt w lot hit pt nt qt mt D Q) (hmt : mt ≤ 1000000) (hh : LegsAt w loh hih ph nh Hs) (hs : ∀ k, k < nh → (lgA Hs k).length ≤ 1000000) :
    Calls Tryz.prog 11 #[.agg #[.slice p n c, .slice q m d], .agg #[.slice pt nt ct, .slice qt mt dt], .slice ph nh ch] w (ResM9 U r w) := by
  obtain ⟨A, B, Ls, r', hp⟩ := colV_ex Ns As
  have HC := Lib.hid (hv.cases hp)
  have HPC := Lib.hid hp.cases
  have HP := Lib.hid hp
  have HN := Lib.hid hn
  have HA := Lib.hid ha
  have HF := Lib.hid hf
  have HO := Lib.hid ho
  have HH := Lib.hid hh
  have HS := Lib.hid hs
  have HDL := Lib.hid ho.ls.len
  have HHL := Lib.hid hh.len
  have he := TwoB.new w (.slice p n c) (.slice q m d) (.slice pt nt ct) (.slice qt mt dt)
  clear hv hp hn ha hf ho hh hs
  go_enter Tryz.func11, Tryz.ntmps11
  go_wp2_with fail
  generalize (w.alloc (.cells #[.slice p n c, .slice q m d] 25)).alloc (.cells #[.slice pt nt ct, .slice qt mt dt] 29) = W0 at *
  have HE := Lib.hid he
  clear he
  have hgle : w.heap.size ≤ W0.heap.size := HE.out.1.size
  generalize hgg : w.heap.size = g at *
  have HGG := Lib.hid hgg
  clear hgg
  refine (refCol_v p q n c m d _ _ _ _ Ns As A B Ls r' _ HP.out (HN.out.calm HE.out.1) (HA.out.calm HE.out.1) HF.out).mono ?_
  rintro e w1 ⟨pu, cu, pv, cv, pl, cl, rfl, hoat, hlg, hg1⟩
  have hga := World.grownBy_alloc w1 (.cells #[.slice pu A.length cu, .slice pv B.length cv] 29) none
  have hbx := BoxO.new w1 (.slice pu A.length cu) (.slice pv B.length cv)
  have he2 := (HE.out.calm hg1).calm hga
  have HE2 := Lib.hid he2
  have HBX := Lib.hid hbx
  have HLG := Lib.hid ((hlg.calm hga).wider (lo' := g) (hi' := (w1.alloc (.cells #[.slice pu A.length cu, .slice pv B.length cv] 29)).heap.size) hgle hga.size (Nat.le_refl _))
  obtain ⟨x0, x1, b0, b1⟩ := he2.cells
  have s0 := hbx.c0
  have s1 := hbx.c1
  clear hoat hlg hg1 hga hbx he2
  rcases HC.out with ⟨hr', rfl, rfl⟩ | ⟨rfl, h40, rfl, rfl⟩ | ⟨rfl, h40, hlb, rfl, rfl⟩ | ⟨rfl, h40, hlb, rfl, hU, hLA, har, hthen⟩
  · have HG := Lib.hid HE2.out.1
    rcases hr' with rfl | rfl
    · go_wp2
      exact bodyPost_ret (v := .tuple #[.slice none 0 0, .int .i64 10]) (by simp [results, Tryz.results11, go_sem]) rfl ⟨none, 0, rfl, zsAt_nil _ _ _, HG.out⟩
    · go_wp2
      exact bodyPost_ret (v := .tuple #[.slice none 0 0, .int .i64 11]) (by simp [results, Tryz.results11, go_sem]) rfl ⟨none, 0, rfl, zsAt_nil _ _ _, HG.out⟩
  · have HG := Lib.hid HE2.out.1
    have hnt : (40 : Int) < nt := by rw [HDL.out] at h40; omega
    go_wp2
    exact bodyPost_ret (v := .tuple #[.slice none 0 0, .int .i64 11]) (by simp [results, Tryz.results11, go_sem]) rfl ⟨none, 0, rfl, zsAt_nil _ _ _, HG.out⟩
  · have hnt : ¬ ((40 : Int) < nt) := by rw [HDL.out] at h40; omega
    have HLB := Lib.hid hlb
    clear hlb
    go_wp2_with fail
    generalize w1.alloc (.cells #[.slice pu A.length cu, .slice pv B.length cv] 29) = w2 at *
    refine (refLegs_r p q pt qt ph n c m d nt ct mt dt nh ch _ _ _ _ _ _ _ _ Ns As D Q Hs false _ (HN.out.calm HE2.out.1) (HA.out.calm HE2.out.1) HF.out (HO.out.calm HE2.out.1) hmt (HH.out.calm HE2.out.1) HS.out HLB.out).mono ?_
    rintro e w3 ⟨rfl, hg3⟩
    have HG := Lib.hid (HE2.out.calm hg3).1
    clear hg3
    go_wp2
    exact bodyPost_ret (v := .tuple #[.slice none 0 0, .int .i64 12]) (by simp [results, Tryz.results11, go_sem]) rfl ⟨none, 0, rfl, zsAt_nil _ _ _, HG.out⟩
  · have hnt : ¬ ((40 : Int) < nt) := by rw [HDL.out] at h40; omega
    have HLB := Lib.hid hlb
    have HAR := Lib.hid har
    have HTH := Lib.hid hthen
    have HLA := Lib.hid hLA
    have HCA := Lib.hid ((HPC.out.resolve_left (fun h => by have := h.1; omega)).2)
    have HUL := Lib.hid (arB_parts HAR.out).2.2.1
    have hAl := HCA.out.small
    clear hlb har hthen hLA hU
    go_wp2_with fail
    generalize w1.alloc (.cells #[.slice pu A.length cu, .slice pv B.length cv] 29) = w2 at *
    generalize w1.heap.size = g1 at *
    refine (refLegs_r p q pt qt ph n c m d nt ct mt dt nh ch _ _ _ _ _ _ _ _ Ns As D Q Hs true _ (HN.out.calm HE2.out.1) (HA.out.calm HE2.out.1) HF.out (HO.out.calm HE2.out.1) hmt (HH.out.calm HE2.out.1) HS.out HLB.out).mono ?_
    rintro e w3 ⟨rfl, hg3⟩
    have hb3 := HBX.out.calm hg3
    have t0 := hb3.c0
    have HG := Lib.hid (HE2.out.calm hg3).1
    have HLG3 := Lib.hid (HLG.out.calm hg3)
    have HLL : Hid (Ls.length = nh ∧ nh = Ns.length) := Lib.hid ⟨by rw [HCA.out.legs.len, ← HLA.out.len, HHL.out], by rw [← HHL.out, HLA.out.len]⟩
    have hnh : nh ≤ 6 := by have := HCA.out.legs.dia.n6; have := HLL.out.2; omega
    clear hg3 hb3 x0 x1 b0 b1 s0 s1
    rw [HLL.out.1] at HLG3
    have hLn : Ls.length = nh := HLL.out.1
    have hmk := run_make_row' (P := Tryz.prog) 40 3 (.int .i64 0) 8 Tryz.underlying40 Tryz.infoZ3 rfl .i64 .i64 A.length (by omega) (by omega)
    have HROW0 := Lib.hid (rowZ_made w3 A.length)
    have HGM := Lib.hid (World.grownBy_alloc w3 (.cells (madeCells #[.int .i64 0] A.length) 3) none)
    go_wp2
    try rw [hLn]
    generalize hgo : w3.heap.size = go at *
    have HGO := Lib.hid hgo
    clear hgo hLn
    generalize hAA : A.length = N at *
    have HAA := Lib.hid hAA
    clear hAA
    go_loopw [12] (fun i wr => ∃ (j : Nat) (R : List Int), j ≤ nh ∧ i = .int .i64 j ∧ RowZ wr go R ∧ Hid (R.length = N ∧ Hit9 Ls U R j 0) ∧ w3.grownBy wr none) (fun i _ => nh - (intOf i).toNat)
    case atStart => exact ⟨0, _, Nat.zero_le _, rfl, HROW0.out, Lib.hid ⟨by simp, hit9_zero _ _ _⟩, HGM.out⟩
    case round =>
      obtain ⟨j, R, hj, rfl, hrow, HIT, hgr⟩ := hrel
      have HROW := Lib.hid hrow
      have HGR := Lib.hid hgr
      by_cases hjn : j < nh
      · have j0 : (0 : Int) ≤ j := by omega
        have j1 : (j : Int) < nh := by omega
        clear hrow hgr
        generalize wr = wo at *
        go_wp2
        obtain ⟨bl, ol, rfl, _, r2, r3, hcl⟩ := HLG3.out.cell (by omega)
        obtain ⟨pm, nm, cm, l0, z0⟩ := hcl j hjn
        obtain ⟨bh, oh, rfl, _, s2, s3, hch⟩ := (HH.out.calm HG.out).cell (by omega)
        obtain ⟨pn, nn, cn, l1, z1⟩ := hch j hjn
        have hzj := HTH.out j (by rw [← HLL.out.2]; exact hjn)
        have hzl := z1.len
        rw [← hzj, thenL_len, z0.len] at hzl
        subst hzl
        have hjs : j < Ns.length := by rw [← HLL.out.2]; exact hjn
        have HLAR := Lib.hid (HCA.out.legs.arr j hjs)
        have hnm : nm ≤ 40 := by
          have h1 := (arB_parts HLAR.out).2.2.1
          have h2 := stK_fit Ns hjs
          have h3 := HCA.out.few
          have h4 := z0.len
          omega
        have HX0 := Lib.hid z0
        have HX1 := Lib.hid z1
        have HZJ := Lib.hid hzj
        have HL0 := Lib.hid l0
        have HL1 := Lib.hid l1
        clear hcl hch z0 z1 hzj l0 l1
        go_loopw [13] (fun i wx => ∃ (x : Nat) (R : List Int), x ≤ nm ∧ i = .int .i64 x ∧ RowZ wx go R ∧ Hid (R.length = N ∧ Hit9 Ls U R j x) ∧ w3.grownBy wx none) (fun i _ => nm - (intOf i).toNat)
        case atStart => exact ⟨0, R, Nat.zero_le _, rfl, HROW.out, HIT, HGR.out⟩
        case round =>
          obtain ⟨x, R', hx, rfl, hrow, HIT2, hgr⟩ := hrel
          generalize wr = wx at *
          have l0 := cell_calm hgr HL0.out (by omega)
          have l1 := cell_calm hgr HL1.out (by omega)
          by_cases hxn : x < nm
          · have x0 : (0 : Int) ≤ x := by omega
            have x1 : (x : Int) < nm := by omega
            obtain ⟨ba, oa, rfl, _, _, _, hca⟩ := (HX0.out.calm hgr).cell (by omega)
            obtain ⟨bb, ob, rfl, _, _, _, hcb⟩ := (HX1.out.calm hgr).cell (by omega)
            have ca := hca x hxn
            have cb := hcb x hxn
            obtain ⟨e0, e1⟩ := (arB_hasZ HLAR.out).2 ((lgA Ls j)[x]?.getD 0) (by rw [List.getElem?_eq_getElem (by rw [HX0.out.len]; exact hxn)]; exact List.getElem_mem _)
            have HVAL : Hid ((lgA Hs j)[x]?.getD 0 = U[((lgA Ls j)[x]?.getD 0).toNat]?.getD 0) := Lib.hid (by rw [← HZJ.out, thenL_get (by rw [HX0.out.len]; exact hxn)])
            rw [HVAL.out] at cb
            obtain ⟨e, he⟩ := Int.eq_ofNat_of_zero_le e0
            rw [he] at ca cb e1
            have hAN := HAA.out
            rw [Int.toNat_natCast] at cb
            have heN : e < N := by omega
            clear hAN
            have ck := hrow.cell (k := e) (by rw [HIT2.out.1]; exact heN)
            have fk := hrow.free e
            have HNEW := Lib.hid (hrow.set (k := e) (U[e]?.getD 0))
            have HGN := Lib.hid (grownBy_setCell_new (p := ⟨go, e, none⟩) (.int .i64 (U[e]?.getD 0)) hgr (by show w3.heap.size ≤ go; rw [HGO.out]; exact Nat.le_refl _))
            have HHIT := Lib.hid (hit9_set HIT2.out.2 (by rw [HIT2.out.1, HUL.out]) (by rw [HUL.out]; exact heN) he)
            have HRL := Lib.hid HIT2.out.1
            have HGD9 := Lib.hid (fun y : Int => (grownBy_setCell_new (p := ⟨go, e, none⟩) (.int .i64 y) (grownBy_trans hgr (grownBy_drewN wx 1 none)) (by show w3.heap.size ≤ go; rw [HGO.out]; exact Nat.le_refl _)))
            have f00 : (0 : Int) ≤ e := by omega
            have f01 : (e : Int) < N := by omega
            clear hca hcb hrow hgr e0 e1 he HVAL
            generalize U[e]?.getD 0 = y at *
            generalize R'[e]?.getD 0 = y0 at *
            go_wp2
            refine wp_region_still_tail 16 (by kernel_rfl) (by kernel_rfl) ?_
            simp only [List.take_succ_cons, List.take_zero, List.drop_succ_cons, List.drop_zero]
            repeat still_step
            refine wpStill_nil ?_
            change wpList _ _ _ _ _ wx.drew
            have ckd : wx.drew.cell? ⟨go, e, none⟩ = some (.int .i64 y0) := ck
            have fkd : wx.drew.frozen? ⟨go, e, none⟩ = false := fk
            have hgd := grownBy_drewN wx 1 none
            have HND : Hid (RowZ (wx.drew.setCell ⟨go, e, none⟩ (.int .i64 y)) go (R'.set e y)) := Lib.hid HNEW.out
            have HGND : Hid (w3.grownBy (wx.drew.setCell ⟨go, e, none⟩ (.int .i64 y)) none) := Lib.hid (HGD9.out y)
            clear l0 l1 ca cb ck fk hgd HNEW HGN
            go_wp2
            exact ⟨⟨x + 1, R'.set e y, by omega, by go_num, HND.out, Lib.hid ⟨by rw [List.length_set]; exact HRL.out, HHIT.out⟩, HGND.out⟩, by simp [intOf]; omega⟩
          · obtain rfl : x = nm := by omega
            have x1 : ¬ ((x : Int) < x) := by omega
            have HROW2 := Lib.hid hrow
            have HGR2 := Lib.hid hgr
            have HN9 := Lib.hid (hit9_next HIT2.out.2 HX0.out.len)
            have HRL := Lib.hid HIT2.out.1
            clear hrow hgr
            go_wp2
            exact ⟨⟨j + 1, R', by omega, by go_num, HROW2.out, Lib.hid ⟨HRL.out, HN9.out⟩, HGR2.out⟩, by simp [intOf]; omega⟩
      · obtain rfl : j = nh := by omega
        have j1 : ¬ ((j : Int) < j) := by omega
        have HEQ : Hid (R = U) := Lib.hid (hit9_end HIT.out.2 (by rw [HIT.out.1, HUL.out]) (fun e he => by
          obtain ⟨k, hk, x, hx, e1⟩ := HCA.out.reach e (by have h1 := HUL.out; have h2 := HAA.out; omega)
          exact ⟨k, by rw [HLL.out.2]; exact hk, x, hx, e1⟩))
        have HG9 := Lib.hid (grownBy_trans HG.out hgr)
        have hsz := HG.out.size
        have hsz2 := hgr.size
        clear hrow hgr
        go_wp2
        refine bodyPost_ret (v := .tuple #[.slice (some ⟨go, 0, none⟩) N N, .int .i64 0]) (by simp [results, Tryz.results11, go_sem]) rfl ⟨some ⟨go, 0, none⟩, N, ?_, ?_, HG9.out⟩
        · rw [HUL.out]
        · have h1 := HROW.out.at (lo := w.heap.size) (by rw [← HGO.out, HGG.out]; rw [HGG.out] at hsz; exact hsz)
          rw [HEQ.out] at h1
          exact h1

end Go.Proofs.YthmebbnoicldcaaGreatDoor
