/- PatchNeeds: a patch needs just those whose lines it names; without one of them it is none: the walk. -/
import Derived.Test.YtcfhnfnhdhloiaaGreatSpsC
import Derived.Test.YtcfhnfnhdhloiaaGreatRefPa
import Derived.Test.YtcfhnfnhdhloiaaGreatQuie
namespace Go.Proofs.YtcfhnfnhdhloiaaGreat
open Go.RowKit

section
variable {k : Nat} {w w' : World} {lo : Nat} {p : Pt} {nd nm nx nh : Nat} {p1 : Option Addr} {c1 : Nat} {p2 : Option Addr} {c2 : Nat} {p3 : Option Addr} {c3 : Nat} {p4 : Option Addr} {c4 : Nat} {g4 : Nat} {f : Nat → HRw}
theorem CpF.appU2 (h : CpF k w lo p nd nm nx nh p1 c1 p2 c2 p3 c3 p4 c4 g4 f) (hlo : lo ≤ w.heap.size) (hk : nd + 1 ≤ k) {x : Nat} {p' : Option Addr} {c' : Nat} (ha : AppR w 22 1 p1 nd c1 1 (ncells .u32 (pDeps p)) [.int .u32 (x : Int)] p' c' w') :
    CpF k w' lo (pID p, pDeps p ++ [x], pMakes p, pDrops p, pHunks p) (nd + 1) nm nx nh p' c' p2 c2 p3 c3 p4 c4 g4 f := by
  have hll : (pDeps p ++ [x]).length = nd + 1 := by rw [List.length_append, h.ld]; rfl
  have hlim : PLim k (pID p, pDeps p ++ [x], pMakes p, pDrops p, pHunks p) := ⟨h.lim.h, by show (pDeps p ++ [x]).length ≤ _; rw [hll]; exact hk, h.lim.m, h.lim.x, h.lim.ms, h.lim.xs, h.lim.hs⟩
  rcases ha with ⟨g, rfl, rfl, rfl, hr, rfl⟩ | ⟨h1, h2⟩
  · obtain ⟨cur, hb⟩ := h.d.blk
    rw [Nat.mul_one]
    show CpF k (w.setCell ⟨g, nd, none⟩ _) _ _ _ _ _ _ _ _ _ _ _ _ _ _ _ _
    exact ⟨h.d.pushU h.ld (by omega) x, h.m.keep hb (by decide) _ _, h.x.keep hb (by decide) _ _, fun hn => ⟨(h.row hn).1, (h.row hn).2.1, (h.row hn).2.2.keep ((h.row hn).2.2.ne hb (by decide)) _ _⟩, fun i hi => by
      obtain ⟨pa, na, ca, pe, ne, ce, pk, nk, ck, e, l1, l2, l3, o1, o2, o3⟩ := h.hk i hi
      exact ⟨pa, na, ca, pe, ne, ce, pk, nk, ck, e, l1, l2, l3, o1.keep hb (by decide) _ _, o2.keep hb (by decide) _ _, o3.keep hb (by decide) _ _⟩, h.z4, h.l4, hll, h.lm, h.lx, h.lh, hlim⟩
  · have hc := h.calm h2
    exact ⟨by have := h1.low hlo; rwa [show ncells .u32 (pDeps p) ++ [.int .u32 (x : Int)] = ncells .u32 (pDeps p ++ [x]) by unfold ncells; simp] at this, hc.m, hc.x, hc.row, hc.hk, hc.z4, hc.l4, hll, h.lm, h.lx, h.lh, hlim⟩
/-- No deps. -/
theorem CpF.none_ (h : CpF k w lo p nd nm nx nh p1 c1 p2 c2 p3 c3 p4 c4 g4 f) : CpF k w lo (pID p, [], pMakes p, pDrops p, pHunks p) 0 nm nx nh none 0 p2 c2 p3 c3 p4 c4 g4 f :=
  ⟨.inl ⟨rfl, rfl, rfl⟩, h.m, h.x, h.row, h.hk, h.z4, h.l4, rfl, h.lm, h.lx, h.lh, ⟨h.lim.h, Nat.zero_le _, h.lim.m, h.lim.x, h.lim.ms, h.lim.xs, h.lim.hs⟩⟩
end
/-- What lies while the deps are built anew. -/
structure NdE (w4 wr : World) (bp : Nat) (vp : List Value) (bq lo id : Nat) (p : Pt) (L : List Nat) (n : Nat) (pL : Option Addr) (cL nm nx nh : Nat) (p2 : Option Addr) (c2 : Nat) (p3 : Option Addr) (c3 : Nat) (p4 : Option Addr) (c4 g4 : Nat) (f : Nat → HRw) : Prop where
  bp : BoxV wr bp vp 27
  bq : BoxV wr bq [.int .u32 (id : Int), .slice pL n cL, .slice p2 nm c2, .slice p3 nx c3, .slice p4 nh c4] 27
  cp : CpF 1000 wr lo (pID p, L, pMakes p, pDrops p, pHunks p) n nm nx nh pL cL p2 c2 p3 c3 p4 c4 g4 f
  gr : w4.grownBy wr none
  ls : lo ≤ wr.heap.size
theorem filt_no {l : List Nat} {k d : Nat} (hk : k < l.length) (h : l[k]?.getD 0 = d) : (l.take (k + 1)).filter (fun x => decide (x ≠ d)) = (l.take k).filter (fun x => decide (x ≠ d)) := by
  rw [take_snoc hk 0, List.filter_append, h]
  simp
theorem filt_yes {l : List Nat} {k d : Nat} (hk : k < l.length) (h : l[k]?.getD 0 ≠ d) : (l.take (k + 1)).filter (fun x => decide (x ≠ d)) = (l.take k).filter (fun x => decide (x ≠ d)) ++ [l[k]?.getD 0] := by
  rw [take_snoc hk 0, List.filter_append]
  congr 1
  simp [h]


set_option maxRecDepth 10000 in
set_option maxHeartbeats 64000000 in
theorem needs12_w (id : Nat) (pd : Option Addr) (nd cd : Nat) (pm : Option Addr) (nm cm : Nat) (px : Option Addr) (nx cx : Nat) (ph : Option Addr) (nh ch : Nat) (p : Pt) (b : Nat) (hb : b < 256) (w : World)
    (h : PArg w id pd nd cd pm nm cm px nx cx ph nh ch p) :
    Calls Tryz.prog 4 #[.agg #[.int .u32 (id : Int), .slice pd nd cd, .slice pm nm cm, .slice px nx cx, .slice ph nh ch], .int .u8 (b : Int)] w fun e w' => e = .returned (.bool true) ∧ w.grownBy w' none := by
  have HB := Lib.hid (BoxV.new w [.int .u32 (id : Int), .slice pd nd cd, .slice pm nm cm, .slice px nx cx, .slice ph nh ch] 27)
  have HG := Lib.hid (World.grownBy_alloc w (.cells #[.int .u32 (id : Int), .slice pd nd cd, .slice pm nm cm, .slice px nx cx, .slice ph nh ch] 27) none)
  have H := Lib.hid h
  clear h
  go_enter Tryz.func4, Tryz.ntmps4
  go_wp2_with fail
  generalize World.alloc w _ = w1 at *
  obtain ⟨bp, hbp⟩ : ∃ b, w.heap.size = b := ⟨_, rfl⟩
  rw [hbp] at HB ⊢
  have HBE := Lib.hid hbp
  clear hbp
  refine (known12_c w1).mono ?_
  rintro e w2 ⟨rfl, hg⟩
  have HG2 := Lib.hid (grownBy_trans HG.out hg)
  have HB2 := Lib.hid (HB.out.calm hg)
  clear HG HB hg
  have HP2 := Lib.hid (H.out.at'.calm HG2.out)
  obtain ⟨a0, a1, a2, a3, a4⟩ := HB2.out.five
  obtain ⟨fw, hfw⟩ := bool_of (PFew p)
  have HFW := Lib.hid hfw
  clear hfw
  go_wp2_with fail
  refine (few_c id pd nd cd pm nm cm px nx cx ph nh ch _ _ p fw w2 HP2.out H.out.mm H.out.mx H.out.mh HFW.out).mono ?_
  rintro e w3 ⟨rfl, hg⟩
  have HG3 := Lib.hid (grownBy_trans HG2.out hg)
  have HB3 := Lib.hid (HB2.out.calm hg)
  have HP3 := Lib.hid (H.out.at'.calm HG3.out)
  clear HG2 HB2 HP2 hg a0 a1 a2 a3 a4
  obtain ⟨a0, a1, a2, a3, a4⟩ := HB3.out.five
  cases fw with
  | false =>
    go_wp2
    go_ret
    exact ⟨rfl, HG3.out⟩
  | true =>
  have hfew := HFW.out.1 rfl
  have HBG := Lib.hid hfew.big
  have HLIM := Lib.hid hfew.lim
  have HLD := Lib.hid HP3.out.deps.len
  have HLM := Lib.hid HP3.out.makes.len
  have HLX := Lib.hid HP3.out.drops.len
  have HLH := Lib.hid HP3.out.hunks.len
  have hd1 : nd ≤ 100 := by have := hfew.deps; have := HLD.out; omega
  have hm1 : nm ≤ 100 := by have := hfew.makes; have := HLM.out; omega
  have hx1 : nx ≤ 100 := by have := hfew.drops; have := HLX.out; omega
  have hh1 : nh ≤ 100 := by have := hfew.hunks; have := HLH.out; omega
  clear hfew HFW
  obtain ⟨r, hr⟩ := bool_of (IsPt p)
  have HR := Lib.hid hr
  clear hr
  go_wp2_with fail
  refine (patIs_c sortU id pd nd cd pm nm cm px nx cx ph nh ch _ _ p r w3 HP3.out HBG.out HR.out).mono ?_
  rintro e w4 ⟨rfl, hg⟩
  have HG2 := Lib.hid (grownBy_trans HG3.out hg)
  have HB4 := Lib.hid (HB3.out.calm hg)
  have HP := Lib.hid (H.out.at'.calm HG2.out)
  clear HG3 HB3 HP3 H hg a0 a1 a2 a3 a4
  obtain ⟨a0, a1, a2, a3, a4⟩ := HB4.out.five
  cases r with
  | false =>
    go_wp2
    go_ret
    exact ⟨rfl, HG2.out⟩
  | true =>
  have HIS := Lib.hid (HR.out.1 rfl)
  have HNUM := Lib.hid HP.out.num
  clear HR
  have HBP : Hid (bp < w4.heap.size) := Lib.hid HB4.out.lt
  go_wp2_with fail
  refine (needs_c sortU id pd nd cd pm nm cm px nx cx ph nh ch _ _ p w4 HP.out HBG.out).mono ?_
  rintro e w5 ⟨pq, m, cq, rfl, hN, _, _, hm6, hg⟩
  have HN := Lib.hid hN
  have HGA := Lib.hid hg
  clear hN hg a0 a1 a2 a3 a4
  go_wp2
  go_loopw [6] (fun i wr => ∃ k : Nat, k ≤ m ∧ i = .int .i64 k ∧ Hid (w5.grownBy wr none)) (fun i _ => m - (intOf i).toNat)
  case atStart => exact ⟨0, Nat.zero_le _, rfl, Lib.hid (grownBy_refl _ _)⟩
  case round =>
  obtain ⟨k, hk, rfl, HGW⟩ := hrel
  have HG5 := Lib.hid (grownBy_trans HGA.out HGW.out)
  by_cases hkn : k < m
  · have k0 : (0 : Int) ≤ k := by omega
    have k1 : (k : Int) < m := by omega
    have a0 := (HB4.out.calm HG5.out).cell (k := 0) rfl
    have a1 := (HB4.out.calm HG5.out).cell (k := 1) rfl
    obtain ⟨bn, on, rfl, _, _, _, hc⟩ := (HN.out.calm HGW.out).cell (by omega)
    have x0 := hc k hkn
    have hkl : k < (needsL p).length := by rw [HN.out.len]; exact hkn
    have HM := Lib.hid (get_mem (d := 0) hkl)
    have HPC := Lib.hid (show ∀ K, K + 1 = k → wr.cell? ⟨bn, on + K, none⟩ = some (.int .u32 (((needsL p)[K]?.getD 0 : Nat) : Int)) from fun K e => hc K (by omega))
    have HLT := Lib.hid (show ∀ K, K + 1 = k → (needsL p)[K]?.getD 0 < (needsL p)[k]?.getD 0 from fun K e => by
      subst e
      cases hq : ltN ((needsL p)[K]?.getD 0) ((needsL p)[K + 1]?.getD 0) with
      | true => exact of_decide_eq_true hq
      | false => exact absurd (needsL_ris p) (ris_bad linN (d := 0) hkl hq))
    clear hc
    generalize hX : (needsL p)[k]?.getD 0 = x at *
    have HX := Lib.hid hX
    clear hX
    have e0 : ((x : Int) == (id : Int)) = false := by
      have := (needsL_mem.1 HM.out).2
      rw [HNUM.out] at this
      simp
      omega
    have HIN := Lib.hid (HIS.out.needs x HM.out)
    have hT := Lib.hid (fun z : Later wr => later_call (fun w' hg => (refHas_c pd nd cd _ _ x (pDeps p) true w' ((HP.out.calm HG5.out).calm hg).deps (by omega) ⟨fun _ => HIN.out, fun _ => rfl⟩).mono (fun e w'' (h : e = .returned (.bool true) ∧ w'' = w') => (⟨h.1, by rw [h.2]; exact grownBy_refl _ _⟩ : e = .returned (.bool true) ∧ w'.grownBy w'' none))) z)
    have q0 := fun z : Later wr => later_cell a0 z
    have q1 := fun z : Later wr => later_cell a1 z
    have q2 := fun z : Later wr => later_cell x0 z
    have hne5 := later_one wr
    go_upto_region 9 with fail
    clear a0 a1 x0
    rcases Nat.eq_zero_or_pos k with hk0' | hk0'
    · have f0 : decide ((0 : Int) < (k : Int)) = false := decide_eq_false (by omega)
      have f0' : decide (0 < k) = false := decide_eq_false (by omega)
      clear hk0'
      refine region_quiet_in (C := fun x => ∃ z : Later wr, x = z.at_) (by kernel_rfl) (by kernel_rfl) (later_drew wr) ?_
      repeat (go_big_quiet_step ((go_at_call 22; exact hT.out _)))
      refine wpQuiet_nil ?_
      intro w' hw'
      obtain ⟨z, hz⟩ := hw'
      subst hz
      have HG9 := Lib.hid (grownBy_trans HGW.out z.ok)
      go_wp2
      exact ⟨⟨k + 1, by omega, by go_num, HG9⟩, by simp [intOf]; omega⟩
    · obtain ⟨K, rfl⟩ : ∃ K, k = K + 1 := ⟨k - 1, by omega⟩
      have cp := HPC.out K rfl
      have hlt := HLT.out K rfl
      have kw : IntKind.i64.wrap (((K + 1 : Nat) : Int) - 1) = (K : Int) := by rw [IntWalk.i64_in _ (by omega)]; omega
      have kp : (0 : Int) < ((K + 1 : Nat) : Int) := by omega
      have K0 : (0 : Int) ≤ K := by omega
      have K1 : (K : Int) < m := by omega
      clear HLT HPC hk0' hkl HX
      generalize (needsL p)[K]?.getD 0 = y at *
      have q9 := fun z : Later wr => later_cell cp z
      have e3 : ¬ ((x : Int) ≤ (y : Int)) := by omega
      have e4 : decide ((x : Int) ≤ (y : Int)) = false := decide_eq_false e3
      clear cp hlt
      generalize hkk : K + 1 = kk at *
      have HKK := Lib.hid hkk
      clear hkk
      have f0 : decide ((0 : Int) < (kk : Int)) = true := decide_eq_true kp
      have f0' : decide (0 < kk) = true := decide_eq_true (by have := HKK.out; omega)
      refine region_quiet_in (C := fun x => ∃ z : Later wr, x = z.at_) (by kernel_rfl) (by kernel_rfl) (later_drew wr) ?_
      repeat (go_big_quiet_step ((go_at_call 22; exact hT.out _)))
      refine wpQuiet_nil ?_
      intro w' hw'
      obtain ⟨z, hz⟩ := hw'
      subst hz
      have HG9 := Lib.hid (grownBy_trans HGW.out z.ok)
      go_wp2
      exact ⟨⟨kk + 1, by omega, by go_num, HG9⟩, by have := HKK.out; simp [intOf]; omega⟩
  obtain rfl : m = k := by omega
  have k1 : ¬ ((m : Int) < m) := by omega
  by_cases hz0 : m = 0
  · have e0 : ((m : Int) == 0) = true := by rw [hz0]; rfl
    have HGE := Lib.hid (grownBy_trans HG2.out HG5.out)
    go_wp2
    go_ret
    exact ⟨rfl, HGE.out⟩
  have e0 : ((m : Int) == 0) = false := by simp; omega
  obtain ⟨i, hi⟩ : ∃ i, b % m = i := ⟨_, rfl⟩
  have hin : i < m := by rw [← hi]; exact Nat.mod_lt _ (by omega)
  have hbi : ((b : Int).tmod (m : Int)) = (i : Int) := by
    rw [Int.tmod_eq_emod_of_nonneg (by omega), ← hi]
    exact (Int.natCast_emod b m).symm
  have hzi : ¬ ((m : Int) = 0) := by omega
  have wb : IntKind.i64.wrap (b : Int) = b := IntWalk.i64_in _ (by omega)
  have i0 : (0 : Int) ≤ (i : Int) := by omega
  have i1 : (i : Int) < (m : Int) := by omega
  clear hi
  obtain ⟨bn, on, rfl, _, _, _, hc⟩ := (HN.out.calm HGW.out).cell (by omega)
  have x0 := hc i hin
  have HD := Lib.hid (get_mem (d := 0) (show i < (needsL p).length by rw [HN.out.len]; exact hin))
  clear hc
  generalize (needsL p)[i]?.getD 0 = d at *
  have HB5 := Lib.hid (HB4.out.calm HG5.out)
  have HP5 := Lib.hid (HP.out.calm HG5.out)
  have HG25 := Lib.hid (grownBy_trans HG2.out HG5.out)
  have HBP5 : Hid (bp < wr.heap.size) := Lib.hid HB5.out.lt
  obtain ⟨a0, a1, a2, a3, a4⟩ := HB5.out.five
  go_wp2_with fail
  generalize wr = w4' at *
  refine (patCopy_p id pd nd cd pm nm cm px nx cx ph nh ch _ _ p _ HP5.out HBG.out).mono ?_
  rintro e w6 ⟨p1, c1, p2, c2, p3, c3, p4, c4, rfl, hc, _, hg5⟩
  obtain ⟨g4, f, hcf⟩ := hc.cpf HLD.out HLM.out HLX.out HLH.out HLIM.out
  have HGA2 := Lib.hid (World.grownBy_alloc w6 (.cells #[.int .u32 (id : Int), .slice p1 nd c1, .slice p2 nm c2, .slice p3 nx c3, .slice p4 nh c4] 27) none)
  have HBB := Lib.hid ((HB5.out.calm hg5).calm HGA2.out)
  have HBX := Lib.hid (BoxV.new w6 [.int .u32 (id : Int), .slice p1 nd c1, .slice p2 nm c2, .slice p3 nx c3, .slice p4 nh c4] 27)
  have HC := Lib.hid (hcf.calm HGA2.out)
  have HGC := Lib.hid (grownBy_trans hg5 HGA2.out)
  have HBL : Hid (w4'.heap.size ≤ w6.heap.size) := Lib.hid hg5.size
  clear hc hcf hg5 HGA2 HB4 HB5 HGA HGW HG5 HN a0 a1 a2 a3 a4 x0 i0 i1 hzi hbi wb e0 k1 hk hkn hm6
  obtain ⟨lo, hlo⟩ : ∃ n, w4'.heap.size = n := ⟨_, rfl⟩
  have HLO : Hid (w4'.heap.size ≤ lo) := Lib.hid (Nat.le_of_eq hlo)
  rw [hlo] at HC HBL
  go_upto_region 15 with fail
  obtain ⟨bq, hbq⟩ : ∃ b, w6.heap.size = b := ⟨_, rfl⟩
  rw [hbq] at HBX HBL ⊢
  have HBW : Hid (w4'.heap.size ≤ bq) := Lib.hid (by have := HBL.out; have := HLO.out; omega)
  have HNE : Hid (bp ≠ bq) := Lib.hid (by have := HBP5.out; have := HBW.out; omega)
  clear hlo hbq
  generalize World.alloc w6 _ = wq at *
  clear HBP HBP5
  have HLS : Hid (lo ≤ wq.heap.size) := Lib.hid (by have := HGC.out.size; have := HLO.out; have := HBL.out; have := HBX.out.lt; omega)
  have t0 := HBX.out.cell (k := 1) rfl
  have f0 := HBX.out.free 1
  have HL : Hid (NdE w4' (wq.setCell ⟨bq, 1, none⟩ (.slice none 0 0)) bp [.int .u32 (id : Int), .slice pd nd cd, .slice pm nm cm, .slice px nx cx, .slice ph nh ch] bq lo id p [] 0 none 0 nm nx nh p2 c2 p3 c3 p4 c4 g4 f) := Lib.hid ⟨HBB.out.keepSet HNE.out 1 _, HBX.out.set 1 (.slice none 0 0), ((HC.out.more (k' := 1000) (by omega)).none_).away HBX.out 1 _, grownBy_setNew HGC.out HBW.out 1 _, by have := HLS.out; simpa using this⟩
  go_upto_region 16 with fail
  clear t0 f0 HC HBX HBB HGC HLS
  generalize World.setCell wq ⟨bq, 1, none⟩ _ = wz at *
  go_wp2
  go_loopw [9] (fun i wr => ∃ (k n : Nat) (L : List Nat) (pL : Option Addr) (cL : Nat), k ≤ nd ∧ i = .int .i64 k ∧ Hid (L = ((pDeps p).take k).filter (fun x => decide (x ≠ d))) ∧ Hid (L.length = n ∧ n ≤ k) ∧ Hid (NdE w4' wr bp [.int .u32 (id : Int), .slice pd nd cd, .slice pm nm cm, .slice px nx cx, .slice ph nh ch] bq lo id p L n pL cL nm nx nh p2 c2 p3 c3 p4 c4 g4 f)) (fun i _ => nd - (intOf i).toNat)
  case atStart => exact ⟨0, 0, [], none, 0, Nat.zero_le _, rfl, Lib.hid rfl, Lib.hid ⟨rfl, Nat.le_refl _⟩, HL⟩
  case round =>
  clear HL
  obtain ⟨k, n, L, pL, cL, hk, rfl, HF, HLN, HL⟩ := hrel
  have y1 := HL.out.bp.cell (k := 1) rfl
  by_cases hkn : k < nd
  · have k0 : (0 : Int) ≤ k := by omega
    have k1 : (k : Int) < nd := by omega
    have hkl : k < (pDeps p).length := by rw [HLD.out]; exact hkn
    obtain ⟨bd, od, rfl, _, _, _, hc⟩ := (HP5.out.calm HL.out.gr).deps.cell (by omega)
    have x0 := hc k hkn
    clear hc
    by_cases hyd : (pDeps p)[k]?.getD 0 = d
    · have HF2 := Lib.hid (HF.out.trans (filt_no hkl hyd).symm)
      rw [hyd] at x0
      have e1 : ((d : Int) != (d : Int)) = false := by simp
      have HLN2 := Lib.hid (show L.length = n ∧ n ≤ k + 1 from ⟨HLN.out.1, by have := HLN.out.2; omega⟩)
      clear hyd
      go_wp2
      exact ⟨⟨k + 1, n, L, pL, cL, by omega, by go_num, HF2, HLN2, HL⟩, by simp [intOf]; omega⟩
    · have HF2 := Lib.hid (show L ++ [(pDeps p)[k]?.getD 0] = ((pDeps p).take (k + 1)).filter (fun x => decide (x ≠ d)) by rw [filt_yes hkl hyd, ← HF.out])
      generalize (pDeps p)[k]?.getD 0 = y at *
      have e1 : ((y : Int) != (d : Int)) = true := by simp; omega
      have HLN2 := Lib.hid (show (L ++ [y]).length = n + 1 ∧ n + 1 ≤ k + 1 from ⟨by rw [List.length_append, HLN.out.1]; rfl, by have := HLN.out.2; omega⟩)
      have hnk : n ≤ k := HLN.out.2
      clear hyd
      go_upto_region 20 with fail
      obtain ⟨i0, hi0, hz0', hz1, hz2⟩ := info_parts infoU32
      have z1 := HL.out.bq.cell (k := 1) rfl
      have HRW := Lib.hid HL.out.cp.d
      have hll : (ncells .u32 L).length = n * 1 := by rw [ncells_len, HLN.out.1, Nat.mul_one]
      have z1' := cell_calmQ (World.grownBy_alloc wr (.cells #[.int .u32 (y : Int)] 22) none) z1
      obtain ⟨wn, hwn⟩ : ∃ W, (World.drew wr).alloc (.cells #[.int .u32 (y : Int)] 22) = W := ⟨_, rfl⟩
      have HFIX : Hid (∀ p' c' w', AppR ((World.drew wr).alloc (.cells #[.int .u32 (y : Int)] 22)) 22 1 pL n cL 1 (ncells .u32 L) [.int .u32 (y : Int)] p' c' w' → AppR wn 22 1 pL n cL 1 (ncells .u32 L) [.int .u32 (y : Int)] p' c' w') := Lib.hid fun p' c' w' h => by rw [← hwn]; exact h
      have HGN : Hid (wr.grownBy wn none) := Lib.hid (by rw [← hwn]; exact grownBy_trans (grownBy_drewN wr 1 none) (World.grownBy_alloc _ _ none))
      clear hwn
      have HCN := Lib.hid (HL.out.cp.calm HGN.out)
      have HBN := Lib.hid (HL.out.bq.calm HGN.out)
      have HBM := Lib.hid (HL.out.bp.calm HGN.out)
      have HGM := Lib.hid (grownBy_trans HL.out.gr HGN.out)
      have HSN := Lib.hid (Nat.le_trans HL.out.ls HGN.out.size)
      go_region_law (refine step_append_row _ rfl (.tmp 90) (.tmp 96) 23 rfl 22 i0 (.int .u32 0) 1 4 Tryz.underlying23 hi0 hz0' hz1 hz2 rfl (by decide) lo pL n cL (ncells .u32 L) (by simp [Act.eval]) hll (by exact HRW.out.calm (grownBy_trans (grownBy_drewN wr 1 none) (World.grownBy_alloc _ _ none))) ⟨wr.heap.size, 0, none⟩ 1 1 [.int .u32 (y : Int)] (by simp [Act.eval]) rfl (by exact World.news_of_block (BoxV.new wr.drew [.int .u32 (y : Int)] 22)) (by simp [Value.oneCell']) (by unfold maxLen; omega) (by omega) ?_; intro p7 c7 w7 happ0; have happ := HFIX.out _ _ _ happ0; clear happ0; have t0 := (happ.box HCN.out.d HBN.out (by decide)).cell (k := 1) rfl; have f0 := (happ.box HCN.out.d HBN.out (by decide)).free 1)
      all_goals
        clear z1 z1' x0 y1
        have HR7 := Lib.hid (happ.gr HCN.out.d HGM.out HLO.out)
        have HB7 := Lib.hid (happ.box HCN.out.d HBN.out (by decide))
        have HP7 := Lib.hid (happ.box HCN.out.d HBM.out (by decide))
        have HS7 : Hid (lo ≤ w7.heap.size) := Lib.hid (by have := HR7.out.size; have := HLO.out; have := HB7.out.lt; have := HBL.out; omega)
        have HQ7 := Lib.hid (HCN.out.appU2 HSN.out (by omega) happ)
        have HNX : Hid (NdE w4' (w7.setCell ⟨bq, 1, none⟩ (.slice p7 (n + 1) c7)) bp [.int .u32 (id : Int), .slice (some ⟨bd, od, none⟩) nd cd, .slice pm nm cm, .slice px nx cx, .slice ph nh ch] bq lo id p (L ++ [y]) (n + 1) p7 c7 nm nx nh p2 c2 p3 c3 p4 c4 g4 f) := Lib.hid ⟨HP7.out.keepSet HNE.out 1 _, HB7.out.set 1 _, HQ7.out.away HB7.out 1 _, grownBy_setNew HR7.out HBW.out 1 _, by have := HS7.out; simpa using this⟩
        clear happ HR7 HB7 HP7 HQ7 HCN HBN HBM HGM HGN HFIX HRW HL HF HLN hll
        go_wp2
        exact ⟨⟨k + 1, n + 1, L ++ [y], p7, c7, by omega, by go_num, HF2, HLN2, HNX⟩, by simp [intOf]; omega⟩
  obtain rfl : nd = k := by omega
  have k1 : ¬ ((nd : Int) < nd) := by omega
  have HNO' : Hid (¬ IsPt (pID p, L, pMakes p, pDrops p, pHunks p)) := Lib.hid (spoil_needs (p := p) (d := d) rfl rfl HD.out (by
    show d ∉ L
    rw [HF.out, List.mem_filter]
    intro h
    simp at h))
  obtain ⟨q, hq⟩ : ∃ q, ((pID p, L, pMakes p, pDrops p, pHunks p) : Pt) = q := ⟨_, rfl⟩
  have HZ := Lib.hid HL.out.cp
  rw [hq] at HZ HNO'
  have HNO := HNO'
  have HID : Hid (pID q = id) := Lib.hid (by rw [← hq]; exact HNUM.out)
  have HBQ := Lib.hid HL.out.bq
  have HBP := Lib.hid HL.out.bp
  have HGZ := Lib.hid HL.out.gr
  have HPQ := HP
  have HP := HP5
  have HG2 := HG25
  go_upto_region 21 with fail
  clear hq HL HF HLN k1 hk hkn y1 HNO' HPQ
  generalize wr = wz at *
  have HPT := Lib.hid HZ.out.pt
  have HBI := Lib.hid (HZ.out.lim.big (by decide))
  obtain ⟨y0, y1, y2, y3, y4⟩ := HBQ.out.five
  clear HZ
  rw [HID.out] at HPT
  go_wp2_with fail
  refine (patIs_c sortU _ _ _ _ _ _ _ _ _ _ _ _ _ _ _ q false _ HPT.out HBI.out ⟨fun h => (by cases h), fun h => absurd h HNO.out⟩).mono ?_
  rintro e w9 ⟨rfl, hg9⟩
  obtain ⟨x0, x1, x2, x3, x4⟩ := (HBP.out.calm hg9).five
  have HPT := Lib.hid (HPT.out.calm hg9)
  have HBQ := Lib.hid (HBQ.out.calm hg9)
  have HGZ := Lib.hid (grownBy_trans HGZ.out hg9)
  have HPP := Lib.hid (HP.out.calm HGZ.out)
  clear y0 y1 y2 y3 y4 hg9
  obtain ⟨y0, y1, y2, y3, y4⟩ := HBQ.out.five
  go_wp2_with fail
  refine (patSame_c p q _ _ _ _ _ _ _ _ _ _ _ _ _ _ _ _ _ _ _ _ _ _ _ _ _ _ _ _ _ _ false _ HPP.out HPT.out HBG.out HBI.out ⟨fun h => (by cases h), fun h => absurd (h ▸ HIS.out) HNO.out⟩).mono ?_
  rintro e wa ⟨rfl, hga⟩
  have HGA := Lib.hid (grownBy_trans HG2.out (grownBy_trans HGZ.out hga))
  clear y0 y1 y2 y3 y4 x0 x1 x2 x3 x4 hga
  go_wp2
  go_ret
  exact ⟨rfl, HGA.out⟩

end Go.Proofs.YtcfhnfnhdhloiaaGreat
