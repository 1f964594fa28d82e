/- PatchTells: of every patches whether they are any, what they need, their paths, how many lines, whether two are the same: the walk. -/
import Derived.Test.YtcfhnfnhdhloiaaGreatRefPl
import Derived.Test.YtcfhnfnhdhloiaaGreatTx12
import Derived.Test.YtcfhnfnhdhloiaaGreatKnow12
import Derived.Test.YtcfhnfnhdhloiaaGreatArgT
namespace Go.Proofs.YtcfhnfnhdhloiaaGreat
open Go.RowKit

theorem pathsL_big {p : Pt} (h : PBig p) : (pathsL p).length ≤ 1000000 := by
  have h1 : (pathsL p).length ≤ (pMakes p ++ pDrops p ++ (pHunks p).map hPath).length := nodup_len (ris_nodup linS (allR_ris linS _)) fun x hx => by
    unfold pathsL at hx
    rwa [allR_mem] at hx
  rw [List.length_append, List.length_append, List.length_map] at h1
  have h2 := h.makes
  have h3 := h.drops
  have h4 := h.hunks
  omega

set_option maxRecDepth 20000 in
set_option maxHeartbeats 64000000 in
theorem tells12_w (id : Nat) (pd : Option Addr) (nd cd : Nat) (pm : Option Addr) (nm cm : Nat) (px : Option Addr) (nx cx : Nat) (ph : Option Addr) (nh ch : Nat) (p : Pt) (id' : Nat) (qd : Option Addr) (md dd : Nat) (qm : Option Addr) (mm dm : Nat) (qx : Option Addr) (mx dx : Nat) (qh : Option Addr) (mh dh : Nat) (q : Pt) (s : ByteArray) (a b : Int) (w : World)
    (h : PArg w id pd nd cd pm nm cm px nx cx ph nh ch p) (h' : PArg w id' qd md dd qm mm dm qx mx dx qh mh dh q) :
    Calls Tryz.prog 3 #[.agg #[.int .u32 (id : Int), .slice pd nd cd, .slice pm nm cm, .slice px nx cx, .slice ph nh ch], .agg #[.int .u32 (id' : Int), .slice qd md dd, .slice qm mm dm, .slice qx mx dx, .slice qh mh dh], .string s, .int .i64 a, .int .i64 b] w fun e w' => e = .returned (.bool true) ∧ w.grownBy w' none := by
  have HG := Lib.hid (grownBy_trans (World.grownBy_alloc w (.cells #[.int .u32 (id : Int), .slice pd nd cd, .slice pm nm cm, .slice px nx cx, .slice ph nh ch] 27) none) (World.grownBy_alloc _ (.cells #[.int .u32 (id' : Int), .slice qd md dd, .slice qm mm dm, .slice qx mx dx, .slice qh mh dh] 27) none))
  have HB := Lib.hid ((BoxV.new w [.int .u32 (id : Int), .slice pd nd cd, .slice pm nm cm, .slice px nx cx, .slice ph nh ch] 27).calm (World.grownBy_alloc _ (.cells #[.int .u32 (id' : Int), .slice qd md dd, .slice qm mm dm, .slice qx mx dx, .slice qh mh dh] 27) none))
  have HC := Lib.hid (BoxV.second w [.int .u32 (id : Int), .slice pd nd cd, .slice pm nm cm, .slice px nx cx, .slice ph nh ch] [.int .u32 (id' : Int), .slice qd md dd, .slice qm mm dm, .slice qx mx dx, .slice qh mh dh] 27 27)
  have H := Lib.hid h
  have H' := Lib.hid h'
  have HID := Lib.hid (show bits .or .u32 (IntKind.u32.wrap (IntKind.u32.wrap (bits .and .i64 a 65535) * 65536)) (IntKind.u32.wrap (bits .and .i64 b 65535)) = idV a b by simp only [IntKind.wrap_u32']; exact idV_eq a b)
  clear h h'
  go_enter Tryz.func3, Tryz.ntmps3
  go_wp2_with fail
  generalize World.alloc w _ = w0 at *
  generalize World.alloc w0 _ = w1 at *
  obtain ⟨bp, hbp⟩ : ∃ b, w.heap.size = b := ⟨_, rfl⟩
  rw [hbp] at HB HC ⊢
  clear hbp
  refine (known12_c w1).mono ?_
  rintro e w2 ⟨rfl, hg⟩
  have HG2 := Lib.hid (grownBy_trans HG.out hg)
  have HB2 := Lib.hid (HB.out.calm hg)
  have HC2 := Lib.hid (HC.out.calm hg)
  clear HG HB HC hg
  have HP2 := Lib.hid (H.out.at'.calm HG2.out)
  obtain ⟨a0, a1, a2, a3, a4⟩ := HB2.out.five
  obtain ⟨fw, hfw⟩ := bool_of (PFew p)
  have HFW := Lib.hid hfw
  clear hfw
  go_wp2_with fail
  refine (few_c id pd nd cd pm nm cm px nx cx ph nh ch _ _ p fw w2 HP2.out H.out.mm H.out.mx H.out.mh HFW.out).mono ?_
  rintro e w3 ⟨rfl, hg⟩
  have HG3 := Lib.hid (grownBy_trans HG2.out hg)
  have HB3 := Lib.hid (HB2.out.calm hg)
  have HC3 := Lib.hid (HC2.out.calm hg)
  have HQ3 := Lib.hid (H'.out.at'.calm HG3.out)
  clear HG2 HB2 HC2 HP2 hg a0 a1 a2 a3 a4
  obtain ⟨a0, a1, a2, a3, a4⟩ := HC3.out.five
  cases fw with
  | false =>
    go_wp2
    go_ret
    exact ⟨rfl, HG3.out⟩
  | true =>
  have hfew := HFW.out.1 rfl
  have HBG := Lib.hid hfew.big
  clear hfew HFW
  obtain ⟨fq, hfq⟩ := bool_of (PFew q)
  have HFQ := Lib.hid hfq
  clear hfq
  go_wp2_with fail
  refine (few_c id' qd md dd qm mm dm qx mx dx qh mh dh _ _ q fq w3 HQ3.out H'.out.mm H'.out.mx H'.out.mh HFQ.out).mono ?_
  rintro e w4 ⟨rfl, hg⟩
  have HG4 := Lib.hid (grownBy_trans HG3.out hg)
  have HB4 := Lib.hid (HB3.out.calm hg)
  have HC4 := Lib.hid (HC3.out.calm hg)
  clear HG3 HB3 HC3 HQ3 hg a0 a1 a2 a3 a4
  cases fq with
  | false =>
    go_wp2
    go_ret
    exact ⟨rfl, HG4.out⟩
  | true =>
  have hfew := HFQ.out.1 rfl
  have HBQ := Lib.hid hfew.big
  clear hfew HFQ
  by_cases hs : 40 < s.size
  · have f1 : (40 : Int) < s.size := by omega
    go_wp2
    go_ret
    exact ⟨rfl, HG4.out⟩
  have f1 : ¬ (40 : Int) < s.size := by omega
  have HSS : Hid (s.size ≤ 1000000) := Lib.hid (by omega)
  have HP := Lib.hid (H.out.at'.calm HG4.out)
  have HQ := Lib.hid (H'.out.at'.calm HG4.out)
  go_upto_region 5 with fail
  clear f1 hs H H'
  generalize w4 = wz at *
  obtain ⟨r, hr⟩ := bool_of (IsPt p)
  obtain ⟨rs, hrs⟩ := bool_of (p = q)
  obtain ⟨rp, hrp⟩ := bool_of (IsPath s)
  have HR := Lib.hid hr
  have HRS := Lib.hid hrs
  have HRP := Lib.hid hrp
  clear hr hrs hrp
  have HLD := Lib.hid HP.out.deps.len
  have HLM := Lib.hid HP.out.makes.len
  have HLX := Lib.hid HP.out.drops.len
  have HLH := Lib.hid HP.out.hunks.len
  have HS : Hid (∀ X, wz.grownBy X none → (X.cell? ⟨bp, 0, none⟩ = some (.int .u32 (id : Int)) ∧ X.cell? ⟨bp, 1, none⟩ = some (.slice pd nd cd) ∧ X.cell? ⟨bp, 2, none⟩ = some (.slice pm nm cm) ∧ X.cell? ⟨bp, 3, none⟩ = some (.slice px nx cx) ∧ X.cell? ⟨bp, 4, none⟩ = some (.slice ph nh ch) ∧ X.cell? ⟨bp + 1, 0, none⟩ = some (.int .u32 (id' : Int)) ∧ X.cell? ⟨bp + 1, 1, none⟩ = some (.slice qd md dd) ∧ X.cell? ⟨bp + 1, 2, none⟩ = some (.slice qm mm dm) ∧ X.cell? ⟨bp + 1, 3, none⟩ = some (.slice qx mx dx) ∧ X.cell? ⟨bp + 1, 4, none⟩ = some (.slice qh mh dh))) := Lib.hid fun X hX => by
    obtain ⟨a0, a1, a2, a3, a4⟩ := (HB4.out.calm hX).five
    obtain ⟨y0, y1, y2, y3, y4⟩ := (HC4.out.calm hX).five
    exact ⟨a0, a1, a2, a3, a4, y0, y1, y2, y3, y4⟩
  have IP : Hid (∀ X, wz.grownBy X none → Calls Tryz.prog 7 #[.agg #[.int .u32 (id : Int), .slice pd nd cd, .slice pm nm cm, .slice px nx cx, .slice ph nh ch]] X fun e w' => e = .returned (.bool r) ∧ X.grownBy w' none) := Lib.hid fun X h => patIs_c sortU id pd nd cd pm nm cm px nx cx ph nh ch _ _ p r X (HP.out.calm h) HBG.out HR.out
  have IR : Hid (∀ X, wz.grownBy X none → Calls Tryz.prog 8 #[.agg #[.int .u32 (id : Int), .slice pd nd cd, .slice pm nm cm, .slice px nx cx, .slice ph nh ch]] X fun e w' => e = .returned (.bool r) ∧ X.grownBy w' none) := Lib.hid fun X h => refIs_c id pd nd cd pm nm cm px nx cx ph nh ch _ _ p r X (HP.out.calm h) HBG.out HR.out
  have NP : Hid (∀ X, wz.grownBy X none → Calls Tryz.prog 10 #[.agg #[.int .u32 (id : Int), .slice pd nd cd, .slice pm nm cm, .slice px nx cx, .slice ph nh ch]] X fun e w' => ∃ u m c lo hi, e = .returned (.slice u m c) ∧ NsAt .u32 w' lo hi u m (needsL p) ∧ m ≤ 1000000 ∧ X.grownBy w' none) := Lib.hid fun X h => (needs_c sortU id pd nd cd pm nm cm px nx cx ph nh ch _ _ p X (HP.out.calm h) HBG.out).mono fun e w' ⟨u, m, c, he, hN, _, _, hm, hg⟩ => ⟨u, m, c, _, _, he, hN, hm, hg⟩
  have NR : Hid (∀ X, wz.grownBy X none → Calls Tryz.prog 11 #[.agg #[.int .u32 (id : Int), .slice pd nd cd, .slice pm nm cm, .slice px nx cx, .slice ph nh ch]] X fun e w' => ∃ u m c lo hi, e = .returned (.slice u m c) ∧ NsAt .u32 w' lo hi u m (needsL p) ∧ m ≤ 1000000 ∧ X.grownBy w' none) := Lib.hid fun X h => (refNeeds_c id pd nd cd pm nm cm px nx cx ph nh ch _ _ p X (HP.out.calm h) (by have := HBG.out.hunks; have := HLH.out; omega) (fun x hx => ⟨(HBG.out.hs x hx).2.1, (HBG.out.hs x hx).2.2.1⟩)).mono fun e w' ⟨u, m, c, he, hN, _, _, hm, hg⟩ => ⟨u, m, c, _, _, he, hN, by omega, hg⟩
  have SI : Hid (∀ X u m c u' m' c' lo hi lo' hi', NsAt .u32 X lo hi u m (needsL p) → NsAt .u32 X lo' hi' u' m' (needsL p) → m ≤ 1000000 → m' ≤ 1000000 → Calls Tryz.prog 9 #[.slice u m c, .slice u' m' c'] X fun e w' => e = .returned (.bool true) ∧ X.grownBy w' none) := Lib.hid fun X u m c u' m' c' lo hi lo' hi' h1 h2 h3 h4 => refSameIDs_c u u' m m' c c' lo hi lo' hi' (needsL p) (needsL p) true X h1 h2 h3 h4 ⟨fun _ => rfl, fun _ => rfl⟩
  have TP : Hid (∀ X, wz.grownBy X none → Calls Tryz.prog 13 #[.agg #[.int .u32 (id : Int), .slice pd nd cd, .slice pm nm cm, .slice px nx cx, .slice ph nh ch]] X fun e w' => ∃ u m c lo hi, e = .returned (.slice u m c) ∧ StrsAt w' lo hi u m (pathsL p) ∧ m ≤ 1000000 ∧ X.grownBy w' none) := Lib.hid fun X h => (patPaths_c id pd nd cd pm nm cm px nx cx ph nh ch _ _ p X (HP.out.calm h) HBG.out).mono fun e w' ⟨u, m, c, he, hN, _, _, hg⟩ => ⟨u, m, c, _, _, he, hN, by rw [← hN.len]; exact pathsL_big HBG.out, hg⟩
  have TR : Hid (∀ X, wz.grownBy X none → Calls Tryz.prog 14 #[.agg #[.int .u32 (id : Int), .slice pd nd cd, .slice pm nm cm, .slice px nx cx, .slice ph nh ch]] X fun e w' => ∃ u m c lo hi, e = .returned (.slice u m c) ∧ StrsAt w' lo hi u m (pathsL p) ∧ m ≤ 1000000 ∧ X.grownBy w' none) := Lib.hid fun X h => (refPathsOf_c id pd nd cd pm nm cm px nx cx ph nh ch _ _ p X (HP.out.calm h) (by have := HBG.out.makes; have := HLM.out; omega) (by have := HBG.out.drops; have := HLX.out; omega) (by have := HBG.out.hunks; have := HLH.out; omega)).mono fun e w' ⟨v, he, u, m, c, hv, hN, _, _, _, _, hg⟩ => ⟨u, m, c, _, _, by rw [he, hv], hN, by rw [← hN.len]; exact pathsL_big HBG.out, hg⟩
  have TX : Hid (∀ X u m c u' m' c' lo hi lo' hi', StrsAt X lo hi u m (pathsL p) → StrsAt X lo' hi' u' m' (pathsL p) → m ≤ 1000000 → m' ≤ 1000000 → Calls Tryz.prog 12 #[.slice u m c, .slice u' m' c'] X fun e w' => e = .returned (.bool true) ∧ X.grownBy w' none) := Lib.hid fun X u m c u' m' c' lo hi lo' hi' h1 h2 h3 h4 => texts12_c u u' m m' c c' lo hi lo' hi' (pathsL p) (pathsL p) true X h1 h2 h3 h4 ⟨fun _ => rfl, fun _ => rfl⟩
  have LP : Hid (∀ X, wz.grownBy X none → Calls Tryz.prog 15 #[.agg #[.int .u32 (id : Int), .slice pd nd cd, .slice pm nm cm, .slice px nx cx, .slice ph nh ch]] X fun e w' => e = .returned (.int .i64 (linesN p)) ∧ X.grownBy w' none) := Lib.hid fun X h => patLines_c id pd nd cd pm nm cm px nx cx ph nh ch _ _ p X (HP.out.calm h) (by have := HBG.out.hunks; have := HLH.out; omega) (fun x hx => (HBG.out.hs x hx).1)
  have LR : Hid (∀ X, wz.grownBy X none → Calls Tryz.prog 16 #[.agg #[.int .u32 (id : Int), .slice pd nd cd, .slice pm nm cm, .slice px nx cx, .slice ph nh ch]] X fun e w' => e = .returned (.int .i64 (linesN p)) ∧ X.grownBy w' none) := Lib.hid fun X h => refLinesOf_c id pd nd cd pm nm cm px nx cx ph nh ch _ _ p X (HP.out.calm h) (by have := HBG.out.hunks; have := HLH.out; omega) (fun x hx => (HBG.out.hs x hx).1)
  have SP : Hid (∀ X, wz.grownBy X none → Calls Tryz.prog 17 #[.agg #[.int .u32 (id : Int), .slice pd nd cd, .slice pm nm cm, .slice px nx cx, .slice ph nh ch], .agg #[.int .u32 (id' : Int), .slice qd md dd, .slice qm mm dm, .slice qx mx dx, .slice qh mh dh]] X fun e w' => e = .returned (.bool rs) ∧ X.grownBy w' none) := Lib.hid fun X h => patSame_c p q id pd nd cd pm nm cm px nx cx ph nh ch id' qd md dd qm mm dm qx mx dx qh mh dh _ _ _ _ rs X (HP.out.calm h) (HQ.out.calm h) HBG.out HBQ.out HRS.out
  have SR : Hid (∀ X, wz.grownBy X none → Calls Tryz.prog 18 #[.agg #[.int .u32 (id : Int), .slice pd nd cd, .slice pm nm cm, .slice px nx cx, .slice ph nh ch], .agg #[.int .u32 (id' : Int), .slice qd md dd, .slice qm mm dm, .slice qx mx dx, .slice qh mh dh]] X fun e w' => e = .returned (.bool rs) ∧ X.grownBy w' none) := Lib.hid fun X h => refSame_c p q id pd nd cd pm nm cm px nx cx ph nh ch id' qd md dd qm mm dm qx mx dx qh mh dh _ _ _ _ rs X (HP.out.calm h) (HQ.out.calm h) HBG.out HBQ.out HRS.out
  have PA : Hid (∀ X, Calls Tryz.prog 19 #[.string s] X fun e w' => e = .returned (.bool rp) ∧ X.grownBy w' none) := Lib.hid fun X => isPath_c s rp X HSS.out HRP.out
  have PR : Hid (∀ X, Calls Tryz.prog 20 #[.string s] X fun e w' => e = .returned (.bool rp) ∧ X.grownBy w' none) := Lib.hid fun X => (refIsPath_c s rp X HSS.out HRP.out).mono fun e w' ⟨he, hw⟩ => ⟨he, by rw [hw]; exact grownBy_refl _ _⟩
  have IDC : Hid (∀ X, Calls Tryz.prog 21 #[.int .i64 a, .int .i64 b] X fun e w' => e = .returned (.int .u32 (idV a b)) ∧ w' = X) := Lib.hid fun X => patID_c a b X
  clear HP HQ HBG HBQ HR HRS HRP HLD HLM HLX HLH HB4 HC4 HSS
  have henv : wz.grownBy (World.drew wz) none := grownBy_drewN wz 1 none
  go_region_held3 (fun X => (X.cell? ⟨bp, 0, none⟩ = some (.int .u32 (id : Int)) ∧ X.cell? ⟨bp, 1, none⟩ = some (.slice pd nd cd) ∧ X.cell? ⟨bp, 2, none⟩ = some (.slice pm nm cm) ∧ X.cell? ⟨bp, 3, none⟩ = some (.slice px nx cx) ∧ X.cell? ⟨bp, 4, none⟩ = some (.slice ph nh ch) ∧ X.cell? ⟨bp + 1, 0, none⟩ = some (.int .u32 (id' : Int)) ∧ X.cell? ⟨bp + 1, 1, none⟩ = some (.slice qd md dd) ∧ X.cell? ⟨bp + 1, 2, none⟩ = some (.slice qm mm dm) ∧ X.cell? ⟨bp + 1, 3, none⟩ = some (.slice qx mx dx) ∧ X.cell? ⟨bp + 1, 4, none⟩ = some (.slice qh mh dh))) (first | exact HS.out _ henv | go_keep)
    (first
      | (go_at_call 7; (with_reducible refine (IP.out _ henv).mono ?_); rintro e w5 ⟨rfl, hg⟩; have henv := grownBy_trans henv hg)
      | (go_at_call 8; (with_reducible refine (IR.out _ henv).mono ?_); rintro e w5 ⟨rfl, hg⟩; have henv := grownBy_trans henv hg)
      | (go_at_call 10; (with_reducible refine (NP.out _ henv).mono ?_); rintro e w5 ⟨u1, m1, c1, l1, i1, rfl, hn1, hm1, hg⟩; have henv := grownBy_trans henv hg)
      | (go_at_call 11; (with_reducible refine (NR.out _ henv).mono ?_); rintro e w5 ⟨u2, m2, c2, l2, i2, rfl, hn2, hm2, hg⟩; have henv := grownBy_trans henv hg; have hn1 := hn1.calm hg)
      | (go_at_call 9; (with_reducible refine (SI.out _ _ _ _ _ _ _ _ _ _ _ hn1 hn2 hm1 hm2).mono ?_); rintro e w5 ⟨rfl, hg⟩; have henv := grownBy_trans henv hg)
      | (go_at_call 13; (with_reducible refine (TP.out _ henv).mono ?_); rintro e w5 ⟨u3, m3, c3, l3, i3, rfl, hn3, hm3, hg⟩; have henv := grownBy_trans henv hg)
      | (go_at_call 14; (with_reducible refine (TR.out _ henv).mono ?_); rintro e w5 ⟨u4, m4, c4, l4, i4, rfl, hn4, hm4, hg⟩; have henv := grownBy_trans henv hg; have hn3 := hn3.calm hg)
      | (go_at_call 12; (with_reducible refine (TX.out _ _ _ _ _ _ _ _ _ _ _ hn3 hn4 hm3 hm4).mono ?_); rintro e w5 ⟨rfl, hg⟩; have henv := grownBy_trans henv hg)
      | (go_at_call 15; (with_reducible refine (LP.out _ henv).mono ?_); rintro e w5 ⟨rfl, hg⟩; have henv := grownBy_trans henv hg)
      | (go_at_call 16; (with_reducible refine (LR.out _ henv).mono ?_); rintro e w5 ⟨rfl, hg⟩; have henv := grownBy_trans henv hg)
      | (go_at_call 17; (with_reducible refine (SP.out _ henv).mono ?_); rintro e w5 ⟨rfl, hg⟩; have henv := grownBy_trans henv hg)
      | (go_at_call 18; (with_reducible refine (SR.out _ henv).mono ?_); rintro e w5 ⟨rfl, hg⟩; have henv := grownBy_trans henv hg)
      | (go_at_call 19; (with_reducible refine (PA.out _).mono ?_); rintro e w5 ⟨rfl, hg⟩; have henv := grownBy_trans henv hg)
      | (go_at_call 20; (with_reducible refine (PR.out _).mono ?_); rintro e w5 ⟨rfl, hg⟩; have henv := grownBy_trans henv hg)
      | (go_at_call 21; (with_reducible refine (IDC.out _).mono ?_); rintro e w5 ⟨rfl, hg⟩; subst hg))
  have HGE := Lib.hid (grownBy_trans HG4.out henv)
  clear henv
  go_wp2
  go_ret
  refine ⟨?_, HGE.out⟩
  first | rfl | (simp; done) | (rw [HID.out]; simp)

end Go.Proofs.YtcfhnfnhdhloiaaGreat
