/- The reference's patches: Is. -/
import Derived.Test.YtcfhnfnhdhloiaaGreatRefPk
import Derived.Test.YtcfhnfnhdhloiaaGreatPut
namespace Go.Proofs.YtcfhnfnhdhloiaaGreat
open Go.RowKit

theorem pathAt {l : List Hk} {j : Nat} (hj : j < l.length) : (l.map hPath)[j]?.getD .empty = hPath (l[j]?.getD hk0) := by
  rw [List.getElem?_map, List.getElem?_eq_getElem hj]
  rfl

set_option maxRecDepth 10000 in
set_option maxHeartbeats 64000000 in
theorem refIs_c (id : Nat) (pd : Option Addr) (nd cd : Nat) (pm : Option Addr) (nm cm : Nat) (px : Option Addr) (nx cx : Nat) (ph : Option Addr) (nh ch : Nat) (lo hi : Nat) (p : Pt) (r : Bool) (w : World)
    (h : PtAt w lo hi id pd nd cd pm nm cm px nx cx ph nh ch p) (hb : PBig p) (hr : r = true ↔ IsPt p) :
    Calls Tryz.prog 8 #[.agg #[.int .u32 (id : Int), .slice pd nd cd, .slice pm nm cm, .slice px nx cx, .slice ph nh ch]] w fun e w' => e = .returned (.bool r) ∧ w.grownBy w' none := by
  have HR := Lib.hid hr
  have HB := Lib.hid (BoxV.new w [.int .u32 (id : Int), .slice pd nd cd, .slice pm nm cm, .slice px nx cx, .slice ph nh ch] 27)
  have HG := Lib.hid (World.grownBy_alloc w (.cells #[.int .u32 (id : Int), .slice pd nd cd, .slice pm nm cm, .slice px nx cx, .slice ph nh ch] 27) none)
  have H := Lib.hid (h.calm HG.out)
  have HBG := Lib.hid hb
  have HLD := Lib.hid h.deps.len
  have HLM := Lib.hid h.makes.len
  have HLX := Lib.hid h.drops.len
  have HLH := Lib.hid h.hunks.len
  have HNUM := Lib.hid h.num
  have hd1 : nd ≤ 1000 := by have := hb.deps; have := HLD.out; omega
  have hm1 : nm ≤ 1000 := by have := hb.makes; have := HLM.out; omega
  have hx1 : nx ≤ 1000 := by have := hb.drops; have := HLX.out; omega
  have hh1 : nh ≤ 20 := by have := hb.hunks; have := HLH.out; omega
  clear hr h hb
  go_enter Tryz.func8, Tryz.ntmps8
  go_upto_region 1 with fail
  generalize World.alloc w _ = w1 at *
  generalize w.heap.size = g at *
  obtain ⟨a0, a1, a2, a3, a4⟩ := HB.out.five
  by_cases hid : id = 0
  · obtain rfl : r = false := no_false HR.out fun i => i.id (HNUM.out.trans hid)
    have e0 : ((id : Int) == 0) = true := by rw [hid]; rfl
    go_wp2
    go_ret
    exact ⟨rfl, HG.out⟩
  have e0 : ((id : Int) == 0) = false := by simp; omega
  have HI0 := Lib.hid hid
  clear hid
  obtain ⟨r1, hr1⟩ := bool_of ((∀ d ∈ pDeps p, d ≠ 0) ∧ risR ltN (pDeps p))
  have HR1 := Lib.hid hr1
  clear hr1
  go_wp2_with fail
  refine (refRising_c pd nd cd _ _ (pDeps p) r1 w1 H.out.deps (by omega) HR1.out).mono ?_
  rintro e w2 ⟨rfl, hg⟩
  have HG2 := Lib.hid (grownBy_trans HG.out hg)
  have HB2 := Lib.hid (HB.out.calm hg)
  have H2 := Lib.hid (H.out.calm hg)
  clear HG HB H hg a0 a1 a2 a3 a4
  obtain ⟨a0, a1, a2, a3, a4⟩ := HB2.out.five
  cases r1 with
  | false =>
    obtain rfl : r = false := no_false HR.out fun i => by have := HR1.out.2 ⟨i.deps, i.dris⟩; cases this
    go_wp2
    go_ret
    exact ⟨rfl, HG2.out⟩
  | true =>
  have HD1 := Lib.hid (HR1.out.1 rfl)
  clear HR1
  obtain ⟨r2, hr2⟩ := bool_of (id ∈ pDeps p)
  have HR2 := Lib.hid hr2
  clear hr2
  go_wp2_with fail
  refine (refHas_c pd nd cd _ _ id (pDeps p) r2 w2 H2.out.deps (by omega) HR2.out).mono ?_
  rintro e w3 ⟨rfl, h9⟩
  subst h9
  cases r2 with
  | true =>
    obtain rfl : r = false := no_false HR.out fun i => i.own (by rw [HNUM.out]; exact HR2.out.1 rfl)
    go_wp2
    go_ret
    exact ⟨rfl, HG2.out⟩
  | false =>
  have HD2 : Hid (id ∉ pDeps p) := Lib.hid fun h => by have := HR2.out.2 h; cases this
  clear HR2
  obtain ⟨r3, hr3⟩ := bool_of ((∀ s ∈ pMakes p, IsPath s) ∧ risR ltS (pMakes p))
  have HR3 := Lib.hid hr3
  clear hr3
  go_wp2_with fail
  refine (refPaths0_c pm nm cm _ _ (pMakes p) r3 w3 H2.out.makes HBG.out.ms (by omega) HR3.out).mono ?_
  rintro e w4 ⟨rfl, hg⟩
  have HG3 := Lib.hid (grownBy_trans HG2.out hg)
  have HB3 := Lib.hid (HB2.out.calm hg)
  have H3 := Lib.hid (H2.out.calm hg)
  clear HG2 HB2 H2 hg a0 a1 a2 a3 a4
  obtain ⟨a0, a1, a2, a3, a4⟩ := HB3.out.five
  cases r3 with
  | false =>
    obtain rfl : r = false := no_false HR.out fun i => by have := HR3.out.2 ⟨i.makes, i.mris⟩; cases this
    go_wp2
    go_ret
    exact ⟨rfl, HG3.out⟩
  | true =>
  have HD3 := Lib.hid (HR3.out.1 rfl)
  clear HR3
  obtain ⟨r4, hr4⟩ := bool_of ((∀ s ∈ pDrops p, IsPath s) ∧ risR ltS (pDrops p))
  have HR4 := Lib.hid hr4
  clear hr4
  go_wp2_with fail
  refine (refPaths0_c px nx cx _ _ (pDrops p) r4 w4 H3.out.drops HBG.out.xs (by omega) HR4.out).mono ?_
  rintro e w5 ⟨rfl, hg⟩
  have HG4 := Lib.hid (grownBy_trans HG3.out hg)
  have HB4 := Lib.hid (HB3.out.calm hg)
  have H4 := Lib.hid (H3.out.calm hg)
  clear HG3 HB3 H3 hg a0 a1 a2 a3 a4
  obtain ⟨a0, a1, a2, a3, a4⟩ := HB4.out.five
  cases r4 with
  | false =>
    obtain rfl : r = false := no_false HR.out fun i => by have := HR4.out.2 ⟨i.drops, i.xris⟩; cases this
    go_wp2
    go_ret
    exact ⟨rfl, HG4.out⟩
  | true =>
  have HD4 := Lib.hid (HR4.out.1 rfl)
  clear HR4
  by_cases hnh : 6 < nh
  · obtain rfl : r = false := no_false HR.out fun i => by have := i.nHunks; rw [HLH.out] at this; omega
    have f1 : (6 : Int) < nh := by omega
    go_wp2
    go_ret
    exact ⟨rfl, HG4.out⟩
  have f1 : ¬ (6 : Int) < nh := by omega
  by_cases hnd : 60 < nd
  · obtain rfl : r = false := no_false HR.out fun i => by have := i.nDeps; rw [HLD.out] at this; omega
    have f2 : (60 : Int) < nd := by omega
    go_wp2
    go_ret
    exact ⟨rfl, HG4.out⟩
  have f2 : ¬ (60 : Int) < nd := by omega
  by_cases hnm : 6 < nm
  · obtain rfl : r = false := no_false HR.out fun i => by have := i.nMakes; rw [HLM.out] at this; omega
    have f3 : (6 : Int) < nm := by omega
    go_wp2
    go_ret
    exact ⟨rfl, HG4.out⟩
  have f3 : ¬ (6 : Int) < nm := by omega
  by_cases hnx : 6 < nx
  · obtain rfl : r = false := no_false HR.out fun i => by have := i.nDrops; rw [HLX.out] at this; omega
    have f4 : (6 : Int) < nx := by omega
    go_wp2
    go_ret
    exact ⟨rfl, HG4.out⟩
  have f4 : ¬ (6 : Int) < nx := by omega
  go_wp2
  clear f1 f2 f3 f4 a0 a1 a2 a3 a4 e0
  go_loopw [3] (fun i wr => ∃ k : Nat, k ≤ nm ∧ i = .int .i64 k ∧ Hid (∀ j, j < k → (pMakes p)[j]?.getD .empty ∉ pDrops p) ∧ Hid (w5.grownBy wr none)) (fun i _ => nm - (intOf i).toNat)
  case atStart => exact ⟨0, Nat.zero_le _, rfl, Lib.hid (fun j hj => absurd hj (Nat.not_lt_zero _)), Lib.hid (grownBy_refl _ _)⟩
  case round =>
  obtain ⟨k, hk, rfl, HU, HGW⟩ := hrel
  obtain ⟨a0, a1, a2, a3, a4⟩ := (HB4.out.calm HGW.out).five
  by_cases hkn : k < nm
  · have k0 : (0 : Int) ≤ k := by omega
    have k1 : (k : Int) < nm := by omega
    obtain ⟨b, o, rfl, _, _, _, hc⟩ := (H4.out.makes.calm HGW.out).cell (by omega)
    have x0 := hc k hkn
    have HM := Lib.hid (get_mem (d := ByteArray.empty) (show k < (pMakes p).length by rw [HLM.out]; exact hkn))
    have HU2 := Lib.hid (show (pMakes p)[k]?.getD .empty ∉ pDrops p → ∀ j, j < k + 1 → (pMakes p)[j]?.getD .empty ∉ pDrops p from fun h => upto_succ (q := fun j => (pMakes p)[j]?.getD .empty ∉ pDrops p) HU.out h)
    clear hc HU
    generalize (pMakes p)[k]?.getD .empty = s at *
    obtain ⟨r5, hr5⟩ := bool_of (s ∈ pDrops p)
    have HR5 := Lib.hid hr5
    clear hr5
    have HCI : Hid (∀ X, wr.grownBy X none → Calls Tryz.prog 31 #[.slice px nx cx, .string s] X fun e w' => e = .returned (.bool r5) ∧ X.grownBy w' none) := Lib.hid fun X hX =>
      (refIn_c px nx cx _ _ (pDrops p) s r5 X ((H4.out.drops.calm HGW.out).calm hX) (by omega) HR5.out).mono fun e w' ⟨he, hw⟩ => ⟨he, by rw [hw]; exact grownBy_refl _ _⟩
    have HS : Hid (∀ X, wr.grownBy X none → X.cell? ⟨g, 2, none⟩ = some (.slice (some ⟨b, o, none⟩) nm cm) ∧ X.cell? ⟨g, 3, none⟩ = some (.slice px nx cx) ∧ X.cell? ⟨b, o + k, none⟩ = some (.string s)) := Lib.hid fun X hX => ⟨cell_calmQ hX a2, cell_calmQ hX a3, cell_calmQ hX x0⟩
    go_upto_region 6 with fail
    have henv : wr.grownBy (World.drew wr) none := grownBy_drewN wr 1 none
    go_region_held3 (fun X => X.cell? ⟨g, 2, none⟩ = some (.slice (some ⟨b, o, none⟩) nm cm) ∧ X.cell? ⟨g, 3, none⟩ = some (.slice px nx cx) ∧ X.cell? ⟨b, o + k, none⟩ = some (.string s))
      (first | exact HS.out _ henv | go_keep)
      (first | (go_at_call 31; (with_reducible refine (HCI.out _ henv).mono ?_); rintro e w6 ⟨rfl, hg⟩; have henv := grownBy_trans henv hg))
    have HGE := Lib.hid (grownBy_trans HGW.out henv)
    clear henv HS HCI a0 a1 a2 a3 a4 x0
    cases r5 with
    | true =>
      obtain rfl : r = false := no_false HR.out fun i => i.apart s HM.out (HR5.out.1 rfl)
      go_wp2
      go_ret
      exact ⟨rfl, grownBy_trans HG4.out HGE.out⟩
    | false =>
      have HU3 := Lib.hid (HU2.out fun h => by have := HR5.out.2 h; cases this)
      go_wp2
      exact ⟨⟨k + 1, by omega, by go_num, HU3, HGE⟩, by simp [intOf]; omega⟩
  obtain rfl : nm = k := by omega
  have k1 : ¬ ((nm : Int) < nm) := by omega
  have HAP : Hid (∀ s ∈ pMakes p, s ∉ pDrops p) := Lib.hid (upto_all HLM.out HU.out)
  have HAL := Lib.hid (addsN_le (hs := pHunks p) (m := 1000) fun x hx => (HBG.out.hs x hx).1)
  clear HU
  go_wp2
  clear a0 a1 a2 a3 a4 k1 hkn hk
  go_loopw [4, 5] (fun n i wr => ∃ k : Nat, k ≤ nh ∧ n = .int .i64 (addsN (pHunks p) k : Int) ∧ i = .int .i64 k ∧ Hid (∀ j, j < k → IsHk ((pHunks p)[j]?.getD hk0) id (addsN (pHunks p) j)) ∧ Hid (risB ltS .empty ((pHunks p).map hPath) k = true) ∧ Hid (w5.grownBy wr none)) (fun _ i _ => nh - (intOf i).toNat)
  case atStart => exact ⟨0, Nat.zero_le _, rfl, rfl, Lib.hid (fun j hj => absurd hj (Nat.not_lt_zero _)), Lib.hid rfl, HGW⟩
  case round =>
  clear HGW
  obtain ⟨k, hk, rfl, rfl, HU, HS, HGW⟩ := hrel
  obtain ⟨a0, a1, a2, a3, a4⟩ := (HB4.out.calm HGW.out).five
  by_cases hkn : k < nh
  · have k0 : (0 : Int) ≤ k := by omega
    have k1 : (k : Int) < nh := by omega
    have hkl : k < (pHunks p).length := by rw [HLH.out]; exact hkn
    obtain ⟨b, o, rfl, _, _, _, hc⟩ := (H4.out.hunks.calm HGW.out).cell (by omega)
    obtain ⟨pa, na, ca, pe, ne, ce, pk, nk, ck, c0, c1, c2, c3, hh⟩ := hc k hkn
    have HM := Lib.hid (get_mem (d := hk0) hkl)
    have HBH := Lib.hid (HBG.out.hs _ HM.out)
    have HA0 : Hid (addsN (pHunks p) k ≤ 20000) := Lib.hid (by have h1 := HAL.out k (by omega); have : k * 1000 ≤ 20 * 1000 := Nat.mul_le_mul_right _ (by omega); omega)
    have HSUC : Hid (addsN (pHunks p) (k + 1) = addsN (pHunks p) k + na) := Lib.hid (by rw [addsN_succ hkl, ← hh.adds.len, List.getElem?_eq_getElem hkl]; rfl)
    have HU2 := Lib.hid (show IsHk ((pHunks p)[k]?.getD hk0) id (addsN (pHunks p) k) → ∀ j, j < k + 1 → IsHk ((pHunks p)[j]?.getD hk0) id (addsN (pHunks p) j) from fun h => upto_succ (q := fun j => IsHk ((pHunks p)[j]?.getD hk0) id (addsN (pHunks p) j)) HU.out h)
    have HBAD := Lib.hid (show IsPt p → IsHk ((pHunks p)[k]?.getD hk0) id (addsN (pHunks p) k) from fun i => by
      have := i.hunks k hkl
      rw [HNUM.out] at this
      rw [List.getElem?_eq_getElem hkl]
      exact this)
    have HSU := Lib.hid (risB_succ (lt := ltS) .empty ((pHunks p).map hPath) k)
    rw [HS.out] at HSU
    have HRB := Lib.hid (show IsPt p → ∀ K, K + 1 = k → ltS (hPath ((pHunks p)[K]?.getD hk0)) (hPath ((pHunks p)[k]?.getD hk0)) = true from fun i K e => by
      subst e
      cases hq : ltS (hPath ((pHunks p)[K]?.getD hk0)) (hPath ((pHunks p)[K + 1]?.getD hk0)) with
      | true => rfl
      | false => exact absurd i.hris (ris_bad linS (d := ByteArray.empty) (by rw [List.length_map]; exact hkl) (by rw [pathAt (by omega), pathAt hkl]; exact hq)))
    have HPA := Lib.hid (show ∀ K, K + 1 = k → ltS (((pHunks p).map hPath)[K]?.getD .empty) (((pHunks p).map hPath)[k]?.getD .empty) = ltS (hPath ((pHunks p)[K]?.getD hk0)) (hPath ((pHunks p)[k]?.getD hk0)) from fun K e => by
      rw [pathAt (by omega), pathAt hkl])
    have HPC := Lib.hid (show ∀ K, K + 1 = k → wr.cell? ⟨b, o + K * 4, none⟩ = some (.string (hPath ((pHunks p)[K]?.getD hk0))) from fun K e => by
      obtain ⟨_, _, _, _, _, _, _, _, _, c, _⟩ := hc K (by omega)
      exact c)
    have HH := Lib.hid hh
    clear hc hh HU HS HM
    obtain ⟨a, hae⟩ : ∃ n, addsN (pHunks p) k = n := ⟨_, rfl⟩
    obtain ⟨a', hae'⟩ : ∃ n, addsN (pHunks p) (k + 1) = n := ⟨_, rfl⟩
    have HA2 := Lib.hid hae'
    rw [hae'] at HSUC
    rw [hae] at HA0 HSUC HU2 HBAD ⊢
    clear hae hae'
    have hle := HA0.out
    have hna : na ≤ 1000 := by have := HBH.out.1; rw [HH.out.adds.len] at this; exact this
    have hw : IntKind.i64.wrap ((a : Int) + na) = (a' : Int) := by rw [IntWalk.i64_in _ (by omega), HSUC.out]; omega
    generalize hE : (pHunks p)[k]?.getD hk0 = E at *
    have HE := Lib.hid hE
    clear hE
    obtain ⟨path, ts, es, ks⟩ := E
    replace c0 : wr.cell? ⟨b, o + k * 4, none⟩ = some (.string path) := c0
    obtain ⟨r1, hr1⟩ := bool_of (IsHk (path, ts, es, ks) id a)
    have HR1 := Lib.hid hr1
    clear hr1
    have q0 := fun z : Later wr => later_cell a0 z
    have q4 := fun z : Later wr => later_cell a4 z
    have q5 := fun z : Later wr => later_cell c0 z
    have q6 := fun z : Later wr => later_cell c1 z
    have q7 := fun z : Later wr => later_cell c2 z
    have q8 := fun z : Later wr => later_cell c3 z
    have hT := Lib.hid (fun z : Later wr => later_call (fun w' hg => refHunk_c path ts es ks id a pa na ca pe ne ce pk nk ck _ _ r1 w' (HH.out.calm hg) ⟨hna, by rw [← HH.out.edges.len]; exact HBH.out.2.1, by rw [← HH.out.kills.len]; exact HBH.out.2.2.1⟩ HBH.out.2.2.2.1 HBH.out.2.2.2.2 (by omega) HR1.out) z)
    have hne5 := later_one wr
    go_upto_region 12 with fail
    clear a0 a1 a2 a3 a4 c0 c1 c2 c3
    rcases Nat.eq_zero_or_pos k with hk0' | hk0'
    · have HS2 : Hid (risB ltS .empty ((pHunks p).map hPath) (k + 1) = true) := Lib.hid (by rw [HSU.out, hk0']; rfl)
      have f0 : decide ((0 : Int) < (k : Int)) = false := decide_eq_false (by omega)
      have f0' : decide (0 < k) = false := decide_eq_false (by omega)
      clear HSU hk0'
      cases r1 with
      | false =>
        obtain rfl : r = false := no_false HR.out fun i => by have := HR1.out.2 (HBAD.out i); cases this
        refine region_quiet_in (C := fun x => ∃ z : Later wr, x = z.at_) (by kernel_rfl) (by kernel_rfl) (later_drew wr) ?_
        repeat (go_big_quiet_step ((go_at_call 32; exact hT.out _)))
        refine wpQuiet_nil ?_
        intro w' hw'
        obtain ⟨z, hz⟩ := hw'
        subst hz
        have HG9 := Lib.hid (grownBy_trans HGW.out z.ok)
        go_wp2
        go_ret
        exact ⟨rfl, grownBy_trans HG4.out HG9.out⟩
      | true =>
        have HU3 := Lib.hid (HU2.out (HR1.out.1 rfl))
        refine region_quiet_in (C := fun x => ∃ z : Later wr, x = z.at_) (by kernel_rfl) (by kernel_rfl) (later_drew wr) ?_
        repeat (go_big_quiet_step ((go_at_call 32; exact hT.out _)))
        refine wpQuiet_nil ?_
        intro w' hw'
        obtain ⟨z, hz⟩ := hw'
        subst hz
        have HG9 := Lib.hid (grownBy_trans HGW.out z.ok)
        have y0 := q4 z
        have y1 := q6 z
        go_wp2
        exact ⟨⟨k + 1, by omega, by rw [HA2.out], by go_num, HU3, HS2, HG9⟩, by simp [intOf]; omega⟩
    · obtain ⟨K, rfl⟩ : ∃ K, k = K + 1 := ⟨k - 1, by omega⟩
      have cp := HPC.out K rfl
      have HRB2 := Lib.hid (fun h => HRB.out h K rfl)
      have HS2 := HSU
      rw [Nat.add_sub_cancel, HPA.out K rfl] at HS2
      have kw : IntKind.i64.wrap (((K + 1 : Nat) : Int) - 1) = (K : Int) := by rw [IntWalk.i64_in _ (by omega)]; omega
      have kp : (0 : Int) < ((K + 1 : Nat) : Int) := by omega
      have K0 : (0 : Int) ≤ K := by omega
      have K1 : (K : Int) < nh := by omega
      have HEK := HE
      clear HRB HSU HPC HE HPA hk0' hkl
      generalize hPath ((pHunks p)[K]?.getD hk0) = y at *
      have q9 := fun z : Later wr => later_cell cp z
      clear cp HEK
      generalize hkk : K + 1 = kk at *
      have HKK := Lib.hid hkk
      clear hkk
      have f0 : decide ((0 : Int) < (kk : Int)) = true := decide_eq_true kp
      have f0' : decide (0 < kk) = true := decide_eq_true (by have := HKK.out; omega)
      cases hxy : ltS y path with
      | false =>
        obtain rfl : r = false := no_false HR.out fun h => by have := HRB2.out h; rw [show ltS y (hPath (path, ts, es, ks)) = ltS y path from rfl, hxy] at this; cases this
        by_cases hne : path = y
        · subst hne
          have e3 : Op.bytesLess path.toList path.toList = false := less_irr _
          have e4 : (path.toList == path.toList) = true := toList_eqP rfl
          clear hxy
          refine region_quiet_in (C := fun x => ∃ z : Later wr, x = z.at_) (by kernel_rfl) (by kernel_rfl) (later_drew wr) ?_
          repeat (go_big_quiet_step (fail))
          refine wpQuiet_nil ?_
          intro w' hw'
          obtain ⟨z, hz⟩ := hw'
          subst hz
          have HG9 := Lib.hid (grownBy_trans HGW.out z.ok)
          go_wp2
          go_ret
          exact ⟨rfl, grownBy_trans HG4.out HG9.out⟩
        · have e3 : Op.bytesLess path.toList y.toList = true := (linS.tot path y hne).resolve_right (by rw [hxy]; decide)
          have e4 := toList_neP hne
          clear hxy hne
          refine region_quiet_in (C := fun x => ∃ z : Later wr, x = z.at_) (by kernel_rfl) (by kernel_rfl) (later_drew wr) ?_
          repeat (go_big_quiet_step (fail))
          refine wpQuiet_nil ?_
          intro w' hw'
          obtain ⟨z, hz⟩ := hw'
          subst hz
          have HG9 := Lib.hid (grownBy_trans HGW.out z.ok)
          go_wp2
          go_ret
          exact ⟨rfl, grownBy_trans HG4.out HG9.out⟩
      | true =>
        have e3 : Op.bytesLess path.toList y.toList = false := linS.not hxy
        have e4 : (path.toList == y.toList) = false := toList_neP fun e => by
          rw [e, linS.irr] at hxy
          cases hxy
        have HS3 : Hid (risB ltS .empty ((pHunks p).map hPath) (kk + 1) = true) := Lib.hid (by rw [HS2.out, show ltS y (hPath (path, ts, es, ks)) = ltS y path from rfl, hxy, Bool.or_true]; rfl)
        clear hxy
        cases r1 with
        | false =>
          obtain rfl : r = false := no_false HR.out fun i => by have := HR1.out.2 (HBAD.out i); cases this
          refine region_quiet_in (C := fun x => ∃ z : Later wr, x = z.at_) (by kernel_rfl) (by kernel_rfl) (later_drew wr) ?_
          repeat (go_big_quiet_step ((go_at_call 32; exact hT.out _)))
          refine wpQuiet_nil ?_
          intro w' hw'
          obtain ⟨z, hz⟩ := hw'
          subst hz
          have HG9 := Lib.hid (grownBy_trans HGW.out z.ok)
          go_wp2
          go_ret
          exact ⟨rfl, grownBy_trans HG4.out HG9.out⟩
        | true =>
          have HU3 := Lib.hid (HU2.out (HR1.out.1 rfl))
          refine region_quiet_in (C := fun x => ∃ z : Later wr, x = z.at_) (by kernel_rfl) (by kernel_rfl) (later_drew wr) ?_
          repeat (go_big_quiet_step ((go_at_call 32; exact hT.out _)))
          refine wpQuiet_nil ?_
          intro w' hw'
          obtain ⟨z, hz⟩ := hw'
          subst hz
          have HG9 := Lib.hid (grownBy_trans HGW.out z.ok)
          have y0 := q4 z
          have y1 := q6 z
          go_wp2
          exact ⟨⟨kk + 1, by omega, by rw [HA2.out], by go_num, HU3, HS3, HG9⟩, by have := HKK.out; simp [intOf]; omega⟩
  obtain rfl : nh = k := by omega
  have k1 : ¬ ((nh : Int) < nh) := by omega
  have HUH := HU
  have HUR := HS
  clear HU HS
  go_wp2_with fail
  refine (refNeeds_c id pd nd cd pm nm cm px nx cx ph nh ch _ _ p wr (H4.out.calm HGW.out) hh1 (fun x hx => ⟨(HBG.out.hs x hx).2.1, (HBG.out.hs x hx).2.2.1⟩)).mono ?_
  rintro e w6 ⟨q, m, c, rfl, hN, hmc, hz, hm, hg⟩
  have HG6 := Lib.hid (grownBy_trans HGW.out hg)
  have HN := Lib.hid hN
  clear hN hg hmc hz a0 a1 a2 a3 a4
  go_wp2
  clear k1
  go_loopw [7] (fun i wr => ∃ k : Nat, k ≤ m ∧ i = .int .i64 k ∧ Hid (∀ j, j < k → (needsL p)[j]?.getD 0 ∈ pDeps p) ∧ Hid (w6.grownBy wr none)) (fun i _ => m - (intOf i).toNat)
  case atStart => exact ⟨0, Nat.zero_le _, rfl, Lib.hid (fun j hj => absurd hj (Nat.not_lt_zero _)), Lib.hid (grownBy_refl _ _)⟩
  case round =>
  clear HGW
  obtain ⟨k, hk, rfl, HU, HGW⟩ := hrel
  have HG7 := Lib.hid (grownBy_trans HG6.out HGW.out)
  have a1 := (HB4.out.calm HG7.out).cell (k := 1) rfl
  by_cases hkn : k < m
  · have k0 : (0 : Int) ≤ k := by omega
    have k1 : (k : Int) < m := by omega
    obtain ⟨b, o, rfl, _, _, _, hc⟩ := (HN.out.calm HGW.out).cell (by omega)
    have x0 := hc k hkn
    have HM := Lib.hid (get_mem (d := 0) (show k < (needsL p).length by rw [HN.out.len]; exact hkn))
    have HU2 := Lib.hid (show (needsL p)[k]?.getD 0 ∈ pDeps p → ∀ j, j < k + 1 → (needsL p)[j]?.getD 0 ∈ pDeps p from fun h => upto_succ (q := fun j => (needsL p)[j]?.getD 0 ∈ pDeps p) HU.out h)
    clear hc HU
    generalize (needsL p)[k]?.getD 0 = s at *
    obtain ⟨r5, hr5⟩ := bool_of (s ∈ pDeps p)
    have HR5 := Lib.hid hr5
    clear hr5
    have HCI : Hid (∀ X, wr.grownBy X none → Calls Tryz.prog 22 #[.slice pd nd cd, .int .u32 (s : Int)] X fun e w' => e = .returned (.bool r5) ∧ X.grownBy w' none) := Lib.hid fun X hX =>
      (refHas_c pd nd cd _ _ s (pDeps p) r5 X ((H4.out.deps.calm HG7.out).calm hX) (by omega) HR5.out).mono fun e w' ⟨he, hw⟩ => ⟨he, by rw [hw]; exact grownBy_refl _ _⟩
    have HS : Hid (∀ X, wr.grownBy X none → X.cell? ⟨g, 1, none⟩ = some (.slice pd nd cd) ∧ X.cell? ⟨b, o + k, none⟩ = some (.int .u32 (s : Int))) := Lib.hid fun X hX => ⟨cell_calmQ hX a1, cell_calmQ hX x0⟩
    go_upto_region 19 with fail
    have henv : wr.grownBy (World.drew wr) none := grownBy_drewN wr 1 none
    go_region_held3 (fun X => X.cell? ⟨g, 1, none⟩ = some (.slice pd nd cd) ∧ X.cell? ⟨b, o + k, none⟩ = some (.int .u32 (s : Int)))
      (first | exact HS.out _ henv | go_keep)
      (first | (go_at_call 22; (with_reducible refine (HCI.out _ henv).mono ?_); rintro e w7 ⟨rfl, hg⟩; have henv := grownBy_trans henv hg))
    have HGE := Lib.hid (grownBy_trans HGW.out henv)
    clear henv HS HCI a1 x0
    cases r5 with
    | false =>
      obtain rfl : r = false := no_false HR.out fun i => by have := HR5.out.2 (i.needs s HM.out); cases this
      go_wp2
      go_ret
      exact ⟨rfl, grownBy_trans HG4.out (grownBy_trans HG6.out HGE.out)⟩
    | true =>
      have HU3 := Lib.hid (HU2.out (HR5.out.1 rfl))
      go_wp2
      exact ⟨⟨k + 1, by omega, by go_num, HU3, HGE⟩, by simp [intOf]; omega⟩
  obtain rfl : m = k := by omega
  have k1 : ¬ ((m : Int) < m) := by omega
  obtain rfl : r = true := HR.out.2 (isPt_iff.2 ⟨by rw [HNUM.out]; exact HI0.out, ⟨by rw [HLD.out]; omega, HD1.out.2, fun h0 => HD1.out.1 0 h0 rfl, by rw [HNUM.out]; exact HD2.out⟩, ⟨by rw [HLM.out]; omega, HD3.out.2, HD3.out.1⟩, ⟨by rw [HLX.out]; omega, HD4.out.2, HD4.out.1⟩, HAP.out,
    ⟨by rw [HLH.out]; omega, risB_all linS (d := ByteArray.empty) (by rw [List.length_map, HLH.out]; exact HUR.out), fun i hi => by
      have := HUH.out i (by rw [← HLH.out]; exact hi)
      rw [List.getElem?_eq_getElem hi] at this
      rw [HNUM.out]
      exact this⟩, upto_all HN.out.len HU.out⟩)
  go_wp2
  go_ret
  exact ⟨rfl, grownBy_trans HG4.out HG7.out⟩

end Go.Proofs.YtcfhnfnhdhloiaaGreat
