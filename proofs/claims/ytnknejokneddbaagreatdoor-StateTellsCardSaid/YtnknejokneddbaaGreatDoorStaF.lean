/- Package state: Of. -/
import Derived.Test.YtnknejokneddbaaGreatDoorStaI
import Derived.Test.YtnknejokneddbaaGreatDoorSrtJ
namespace Go.Proofs.YtnknejokneddbaaGreatDoor
set_option maxRecDepth 100000
set_option maxHeartbeats 16000000
open Go.RowKit Go.Shelf
theorem infoFl : (Tryz.prog.info? 35).map (fun i => (i.zero, i.size, i.bytes)) = some (some (.agg #[.string .empty, .slice none 0 0, .slice none 0 0]), 3, 64) := by kernel_rfl
def NumP (x : Pt) : Prop := pID x < 4294967296 /\ ∀ h ∈ pHunks x, NumH h
theorem of_c (lo hi : Nat) (p : Option Addr) (len cap : Nat) (xs : List HP) (w : World) (ht : Tab w) (h : PsIn w lo hi p len xs) (hnum : ∀ x ∈ xs, NumP x.1) :
  Calls Tryz.prog 11 #[.slice p len cap] w fun e w' => ∃ p' c', e = .returned (.tuple #[.slice p' (filesL (xs.map Prod.fst)).length c', .int .i64 ((errL (xs.map Prod.fst) : Nat) : Int)]) /\ FlsAt w' w.heap.size w'.heap.size p' (filesL (xs.map Prod.fst)).length (filesL (xs.map Prod.fst)) /\
   (filesL (xs.map Prod.fst)).length <= c' /\ (p' = none -> c' = 0) /\ w.grownBy w' none := by
 obtain ⟨i0, hi', hz0, hz1, hz2⟩ := Yz infoFl
 have H := Za h
 have hsm := h.small
 have htop := h.top
 have hxl := h.at_.len
 have HT := Za ht
 have HNUM := Za hnum
 have HLL : Hid ((xs.map Prod.fst).length = len) := Za (by rw [Yn]; exact hxl)
 have HFEW : Hid (∀ x ∈ xs.map Prod.fst, PFew x) := Za fun x hx => by
  obtain ⟨z, hz, rfl⟩ := Yi.1 hx
  exact h.few z hz
 have HFAIL : Hid (∀ W : World, w.grownBy W none -> ∀ k : Nat, errL (xs.map Prod.fst) = k -> k ≠ 0 -> ∃ p' c', (Ending.returned (.tuple #[.slice none 0 0, .int .i64 ((k : Nat) : Int)])) = .returned (.tuple #[.slice p' (filesL (xs.map Prod.fst)).length c', .int .i64 ((errL (xs.map Prod.fst) : Nat) : Int)]) /\ FlsAt W w.heap.size W.heap.size p' (filesL (xs.map Prod.fst)).length (filesL (xs.map Prod.fst)) /\
   (filesL (xs.map Prod.fst)).length <= c' /\ (p' = none -> c' = 0) /\ w.grownBy W none) := Za fun W hg k e hk => by
  rw [filesL_err (by rw [e]; exact hk), e]
  exact ⟨none, 0, rfl, ⟨rfl, fun h0 => absurd h0 (by simp)⟩, Zc _, fun _ => rfl, hg⟩
 obtain ⟨r1, hr1⟩ := Ym (IsAll (xs.map Prod.fst))
 obtain ⟨r2, hr2⟩ := Ym (ClosedL (xs.map Prod.fst))
 have HR1 := Za hr1
 have HR2 := Za hr2
 clear h ht hnum hr1 hr2
 go_enter Tryz.func11, Tryz.ntmps11
 go_wp2_with fail
 refine (callsIn_wide.1 (arePatches_in 8 (by omega) sortU lo hi p len cap xs r1 w H.out HR1.out)).mono ?_
 rintro e w1 ⟨rfl, hg1⟩
 cases r1 with
 | false =>
  have HE := Za (HFAIL.out w1 hg1 10 (errL_no fun a => by have := HR1.out.2 a; cases this) (by omega))
  go_wp2
  go_ret2
  exact HE.out
 | true =>
 have HALL := Za (HR1.out.1 rfl)
 go_wp2_with fail
 refine (callsIn_wide.1 (closed13_in 10 (by omega) lo hi p len cap xs r2 w1 (H.out.calm hg1) HR2.out)).mono ?_
 rintro e w2 ⟨rfl, hg2⟩
 have HG2 := Za (Zb hg1 hg2)
 clear hg1 hg2
 cases r2 with
 | false =>
  have HE := Za (HFAIL.out w2 HG2.out 17 (errL_deps HALL.out fun a => by have := HR2.out.2 a; cases this) (by omega))
  go_wp2
  go_ret2
  exact HE.out
 | true =>
 have HCL := Za (HR2.out.1 rfl)
 have k60 : ¬ (60 < (len : Int)) := by omega
 go_wp2_with fail
 refine (callsIn_wide.1 (tracked_in 10 (by omega) lo hi p len cap xs w2 (H.out.calm HG2.out))).mono ?_
 rintro e w3 ⟨vt, rfl, hvt, hg3⟩
 have hG3 := Zb HG2.out hg3
 obtain ⟨qt, ct, rfl, hst, _⟩ := strsAt_ownC hvt
 have HST := Za hst
 have hb3 : w2.heap.size <= w3.heap.size := hg3.size
 have HTL : Hid ((trackL (xs.map Prod.fst)).length = (trackL (xs.map Prod.fst)).length) := Za rfl
 have htl := trackL_len HFEW.out (by rw [HLL.out]; exact hsm)
 generalize hm : (trackL (xs.map Prod.fst)).length = m at *
 have HM := Za hm
 have HF0 : Hid (FsI w3 w3 (.slice none 0 0) (trackL (xs.map Prod.fst)) 0 nilV nilV (fun j => linesOfL (xs.map Prod.fst) ((trackL (xs.map Prod.fst))[j]?.getD .empty)) noP) :=
  Za ⟨Yp _ _ _ _, fun j hj => absurd hj (by omega), fun i j hi => absurd hi (by omega), fun j hj => absurd hj (by omega), Zi _ _⟩
 have hw3 : w.heap.size <= w3.heap.size := hG3.size
 have HG3 := Za hG3
 clear hst hvt hg3 hG3 hm
 generalize w2.heap.size = B2 at *
 go_wp2
 go_loopw [4, 6, 20] (fun v x6 i wr => ∃ k : Nat, k <= m /\ i = .int .i64 k /\ ∃ lv, Hid (FsI w3 wr v (trackL (xs.map Prod.fst)) k lv nilV (fun j => linesOfL (xs.map Prod.fst) ((trackL (xs.map Prod.fst))[j]?.getD .empty)) noP)) (fun _ _ i _ => m - (intOf i).toNat)
 case atStart => exact ⟨0, Ze _, rfl, nilV, HF0⟩
 case round =>
  obtain ⟨k, hk, rfl, lv, HI⟩ := hrel
  by_cases hkm : k < m
  ·have k0 : (0 : Int) <= k := by omega
   have k1 : (k : Int) < m := by omega
   obtain ⟨bt, ot, rfl, _, _, _, hct⟩ := (HST.out.calm HI.out.gr).cell (by omega)
   have hck := hct k hkm
   have hwr : w3.heap.size <= wr.heap.size := HI.out.gr.size
   clear hct
   go_wp2_with fail
   refine (callsIn_wide.1 (lines_st 12 (by omega) lo hi p len cap xs _ wr (H.out.calm (Zb HG3.out HI.out.gr)))).mono ?_
   rintro e w4 ⟨vl, ks, rfl, hks, hvl, hg4⟩
   rw [(hks.all HALL.out).1] at hvl
   obtain ⟨pl, cl, rfl⟩ := Xs hvl
   have HV := Za hvl
   have HG4 := Za hg4
   have hrow4 := row_kept HI.out.row hg4 (fun g _ e => by cases e)
   have hw4 : w3.heap.size <= w4.heap.size := Zn hwr hg4.size
   clear hvl hg4 hks hck
   generalize hT : (trackL (xs.map Prod.fst))[k]?.getD .empty = tk at *
   generalize hN : (linesOfL (xs.map Prod.fst) tk).length = nk at *
   have HTK := Za hT
   have HNK := Za hN
   clear hT hN
   go_wp2_with (at_builtin; refine Xc _ rfl _ _ 25 rfl w3.heap.size 35 i0 (.agg #[.string .empty, .slice none 0 0, .slice none 0 0]) 3 64 Tryz.underlying25 hi' hz0 hz1 hz2 rfl (by decide) _ k _ rfl (hrow4.alloc _) ⟨w4.heap.size, 0, none⟩ 1 1 [.string tk, .slice pl nk cl, .slice none 0 0] rfl rfl (cell_new_row w4 [.string tk, .slice pl nk cl, .slice none 0 0] 35) (by simp [Value.oneCell']) (by unfold maxLen; omega) (by omega) (by simp; omega) ?_; intro v' w5 hown' hgrow _; have HO := Za hown'; have HGR := Za hgrow; clear hown' hgrow)
   have HN : Hid (FsI w3 w5 v' (trackL (xs.map Prod.fst)) (k + 1) (fun j => if j = k then .slice pl nk cl else lv j) nilV (fun j => linesOfL (xs.map Prod.fst) ((trackL (xs.map Prod.fst))[j]?.getD .empty)) noP) :=
    Za (FsI.push HI.out HG4.out (by show w4.ownsRow _ _ _ _ (linesOfL _ ((trackL (xs.map Prod.fst))[k]?.getD .empty)).length (lncells (linesOfL _ ((trackL (xs.map Prod.fst))[k]?.getD .empty))); rw [HTK.out, HNK.out]; exact HV.out) (by rw [HTK.out]; exact HO.out) HGR.out)
   exact ⟨⟨k + 1, by omega, by go_num, _, HN⟩, by simp [intOf]; omega⟩
  ·obtain rfl : k = m := by omega
   have k1 : ¬ ((k : Int) < k) := by omega
   obtain ⟨pf, cf, rfl, hfls, _, _⟩ := HI.out.fls
   have HFL := Za hfls
   have HCE : Hid (cntL (filesT (trackL (xs.map Prod.fst)) k (fun j => linesOfL (xs.map Prod.fst) ((trackL (xs.map Prod.fst))[j]?.getD .empty)) noP) = cntS (xs.map Prod.fst)) := Za (by rw [<- HM.out]; exact filesT_cnt _ _)
   have HGW := Za (Zb HG3.out HI.out.gr)
   clear hfls
   by_cases h6 : 6 < k
   ·have h6' : (6 : Int) < k := by omega
    have HE := Za (HFAIL.out wr HGW.out 11 (errL_large HALL.out HCL.out (.inr (.inl (by rw [HM.out]; exact h6)))) (by omega))
    go_wp2
    go_ret2
    exact HE.out
   ·have h6' : ¬ ((6 : Int) < k) := by omega
    go_wp2_with fail
    refine (countF_c pf k cf _ _ _ wr HFL.out (by omega) (fun f hf => ?_)).mono ?_
    ·unfold filesT at hf
     obtain ⟨j, _, rfl⟩ := Yi.1 hf
     refine Zn (m := 6400) ?_ (by omega)
     show (linesOfL _ _).length <= 6400
     rw [(linesOfL_perm _ _).length_eq]
     exact linesG_len HFEW.out (by rw [HLL.out]; exact hsm)
    rintro e w4 ⟨rfl, hg4⟩
    rw [HCE.out]
    have HCN : Hid (cntS (xs.map Prod.fst) = cntS (xs.map Prod.fst)) := Za rfl
    generalize hcn : cntS (xs.map Prod.fst) = cn at *
    replace HCN := Za hcn
    clear hcn
    have HGW4 := Za (Zb HGW.out hg4)
    have HI4 := Za (HI.out.calm hg4)
    clear hg4 HI HGW HFL
    by_cases h40 : 40 < cn
    ·have h40' : (40 : Int) < cn := by omega
     have HE := Za (HFAIL.out w4 HGW4.out 11 (errL_large HALL.out HCL.out (.inr (.inr (by rw [HCN.out]; exact h40)))) (by omega))
     go_wp2
     go_ret2
     exact HE.out
    ·have h40' : ¬ ((40 : Int) < cn) := by omega
     have HOK := Za (errL_ok HALL.out HCL.out (by rw [HM.out, HCN.out, HLL.out]; omega))
     go_wp2
     go_loopw [7, 43] (fun x7 i wr => ∃ q : Nat, q <= k /\ i = .int .i64 q /\ ∃ pv, Hid (FsI w3 wr (.slice pf k cf) (trackL (xs.map Prod.fst)) k lv pv (fun j => if j < q then fLines (fileL (xs.map Prod.fst) ((trackL (xs.map Prod.fst))[j]?.getD .empty)) else linesOfL (xs.map Prod.fst) ((trackL (xs.map Prod.fst))[j]?.getD .empty)) (fun j => if j < q then fPairs (fileL (xs.map Prod.fst) ((trackL (xs.map Prod.fst))[j]?.getD .empty)) else []))) (fun _ i _ => k - (intOf i).toNat)
     case atStart => exact ⟨0, Ze _, rfl, _, Za (by simpa using HI4.out)⟩
     case round =>
      obtain ⟨q, hq, rfl, pv, HQ⟩ := hrel
      by_cases hqk : q < k
      ·have q0 : (0 : Int) <= q := by omega
       have q1 : (q : Int) < k := by omega
       obtain ⟨gf, rfl⟩ : ∃ gf, pf = some ⟨gf, 0, none⟩ := by
        rcases HQ.out.row.2 with ⟨_, e2⟩ | ⟨g, cap', cur, e1, _⟩
        ·omega
        ·cases e1
         exact ⟨g, rfl⟩
       obtain ⟨cur, hgf, f0, f1, f2⟩ := HQ.out.file hqk
       have hrow := HQ.out.lns q hqk
       replace hrow : wr.ownsRow w3.heap.size 62 4 (lv q) (linesOfL (xs.map Prod.fst) ((trackL (xs.map Prod.fst))[q]?.getD .empty)).length (lncells (linesOfL (xs.map Prod.fst) ((trackL (xs.map Prod.fst))[q]?.getD .empty))) := by
        have e : (if q < q then fLines (fileL (xs.map Prod.fst) ((trackL (xs.map Prod.fst))[q]?.getD .empty)) else linesOfL (xs.map Prod.fst) ((trackL (xs.map Prod.fst))[q]?.getD .empty)) = linesOfL (xs.map Prod.fst) ((trackL (xs.map Prod.fst))[q]?.getD .empty) := if_neg (by omega)
        rw [<- e]
        exact hrow
       obtain ⟨pl, cl, elv⟩ := Xs hrow
       rw [elv] at hrow f1
       have hnl : (linesOfL (xs.map Prod.fst) ((trackL (xs.map Prod.fst))[q]?.getD .empty)).length <= 40 := by
        have h1 : (((trackL (xs.map Prod.fst))[q]?.getD .empty, linesOfL (xs.map Prod.fst) ((trackL (xs.map Prod.fst))[q]?.getD .empty), []) : Fl) ∈ filesT (trackL (xs.map Prod.fst)) k (fun j => linesOfL (xs.map Prod.fst) ((trackL (xs.map Prod.fst))[j]?.getD .empty)) noP := Yi.2 ⟨q, List.mem_range.2 hqk, rfl⟩
        have h2 := mem_cnt h1
        rw [HCE.out] at h2
        exact Zn h2 (by omega)
       have hst : stL (linesOfL (xs.map Prod.fst) ((trackL (xs.map Prod.fst))[q]?.getD .empty)) := by
        obtain ⟨l', hp, hs⟩ := st_ex HALL.out.2
        rw [lines_of_st hp hs]
        exact linesG_st hs
       have hlk : ∀ x ∈ linesOfL (xs.map Prod.fst) ((trackL (xs.map Prod.fst))[q]?.getD .empty), OkK (nID x) := fun x hx =>
        linesG_ok HFEW.out (fun y hy => by obtain ⟨z, hz, rfl⟩ := Yi.1 hy; exact (HNUM.out z hz).1) x ((linesOfL_perm _ _).mem_iff.1 hx)
       have HRE := Za (callsIn_wide.1 (relate_in 14 (by omega) lo hi p len cap xs gf (q * 3) _ w3.heap.size ((trackL (xs.map Prod.fst))[q]?.getD .empty) pl cl (linesOfL (xs.map Prod.fst) ((trackL (xs.map Prod.fst))[q]?.getD .empty)) cur wr
        ((HT.out.grown HG3.out (by simp)).grown HQ.out.gr (by simp)) (H.out.calm (Zb HG3.out HQ.out.gr)) (fun x hx => isPt_ok (HALL.out.1 _ (List.mem_map_of_mem hx)) (HNUM.out x hx).2)
        hgf f0 f1 f2 hrow hst hlk (by omega) rfl (by omega) HQ.out.gr.size (Yt HT.out.1 hw3)))
       have HELV := Za elv
       clear hgf f0 f1 f2 hrow elv hnl hst hlk
       go_wp2_with fail
       refine HRE.out.mono ?_
       rintro e w5 ⟨rfl, ks, hks, hro⟩
       have HN := Za (HQ.out.turn (L' := fun j => if j < q + 1 then fLines (fileL (xs.map Prod.fst) ((trackL (xs.map Prod.fst))[j]?.getD .empty)) else linesOfL (xs.map Prod.fst) ((trackL (xs.map Prod.fst))[j]?.getD .empty)) (P' := fun j => if j < q + 1 then fPairs (fileL (xs.map Prod.fst) ((trackL (xs.map Prod.fst))[j]?.getD .empty)) else []) (vl := .slice pl (linesOfL (xs.map Prod.fst) ((trackL (xs.map Prod.fst))[q]?.getD .empty)).length cl) (nl := (linesOfL (xs.map Prod.fst) ((trackL (xs.map Prod.fst))[q]?.getD .empty)).length) (ks := ks) hqk HELV.out (by simp) (by simpa using hro) (fun j hj => if_next hj _ _) (by show (if _ then _ else _) = _; rw [if_pos (by omega), <- (hks.all HALL.out).2.1]; simp) (fun j hj => if_next hj _ _) (by show (if _ then _ else _) = _; rw [if_pos (by omega)]; simp only [Xv, if_false]; rw [(hks.all HALL.out).2.2]; rfl))
       clear hks hro HRE
       go_wp2
       obtain ⟨pv', HN'⟩ := HN.out
       exact ⟨⟨q + 1, by omega, by go_num, pv', Za HN'⟩, by simp [intOf]; omega⟩
      ·obtain rfl : q = k := by omega
       have q1 : ¬ ((q : Int) < q) := by omega
       have HENDG := Za (HQ.out.low HG3.out).gr
       have HEND := Za ((HQ.out.low HG3.out).fls)
       clear HQ
       have HFS : Hid (filesT (trackL (xs.map Prod.fst)) q (fun j => if j < q then fLines (fileL (xs.map Prod.fst) ((trackL (xs.map Prod.fst))[j]?.getD .empty)) else linesOfL (xs.map Prod.fst) ((trackL (xs.map Prod.fst))[j]?.getD .empty)) (fun j => if j < q then fPairs (fileL (xs.map Prod.fst) ((trackL (xs.map Prod.fst))[j]?.getD .empty)) else []) = filesL (xs.map Prod.fst)) := Za (by
        rw [filesL_ok HOK.out, <- filesT_all, HM.out]
        unfold filesT
        refine List.map_congr_left fun j hj => ?_
        simp only [if_pos (List.mem_range.1 hj)])
       have HFN : Hid ((filesL (xs.map Prod.fst)).length = q) := Za (by rw [filesL_ok HOK.out, Yn, HM.out])
       go_wp2
       go_ret2
       obtain ⟨p', c', e1, e2, e3, e4⟩ := HEND.out
       cases e1
       rw [HFS.out] at e2
       rw [HFN.out, HOK.out]
       exact ⟨_, _, rfl, e2, e3, e4, HENDG.out⟩
theorem psIn_of {lo hi : Nat} {p : Option Addr} {len : Nat} {l : List Pt} {w : World} (h : PtsAt w lo hi p len l) (hf : ∀ x ∈ l, PFew x) (hn : len <= 16) (htop : hi <= w.heap.size) : ∃ xs : List HP, PsIn w lo hi p len xs /\ xs.map Prod.fst = l := by
 obtain ⟨xs, rfl, h1, h2⟩ := h.hps
 exact ⟨xs, ⟨h1, h2, fun x hx => hf _ (List.mem_map_of_mem hx), hn, htop⟩, rfl⟩
theorem of_pts (lo hi : Nat) (p : Option Addr) (len cap : Nat) (l : List Pt) (w : World) (ht : Tab w) (h : PtsAt w lo hi p len l) (hf : ∀ x ∈ l, PFew x) (hn : len <= 16) (htop : hi <= w.heap.size) (hnum : ∀ x ∈ l, NumP x) :
  Calls Tryz.prog 11 #[.slice p len cap] w fun e w' => ∃ p' c', e = .returned (.tuple #[.slice p' (filesL l).length c', .int .i64 ((errL l : Nat) : Int)]) /\ FlsAt w' w.heap.size w'.heap.size p' (filesL l).length (filesL l) /\
   (filesL l).length <= c' /\ (p' = none -> c' = 0) /\ w.grownBy w' none := by
 obtain ⟨xs, hp, rfl⟩ := psIn_of h hf hn htop
 exact of_c lo hi p len cap xs w ht hp fun x hx => hnum _ (List.mem_map_of_mem hx)
theorem closed_pts (lo hi : Nat) (p : Option Addr) (len cap : Nat) (l : List Pt) (r : Bool) (w : World) (h : PtsAt w lo hi p len l) (hf : ∀ x ∈ l, PFew x) (hn : len <= 16) (htop : hi <= w.heap.size) (hr : r = true ↔ ClosedL l) :
  Calls Tryz.prog 14 #[.slice p len cap] w fun e w' => e = .returned (.bool r) /\ w.grownBy w' none := by
 obtain ⟨xs, hp, rfl⟩ := psIn_of h hf hn htop
 exact callsIn_wide.1 (closed13_in 10 (by omega) lo hi p len cap xs r w hp hr)
end Go.Proofs.YtnknejokneddbaaGreatDoor
