/- The law folder's known, over patches. -/
import Derived.Test.YtcfhnfnhdhloiaaGreatPup
import Derived.Test.YtcfhnfnhdhloiaaGreatPut
import Derived.Test.YtcfhnfnhdhloiaaGreatFew12
import Derived.Test.YtcfhnfnhdhloiaaGreatSrtJ
namespace Go.Proofs.YtcfhnfnhdhloiaaGreat
open Go.RowKit

def kAgg (pd : Option Addr) (cd : Nat) (pm : Option Addr) (cm : Nat) (px : Option Addr) (cx : Nat) (ph : Option Addr) (ch : Nat) : Value := .agg #[.int .u32 65537, .slice pd 0 cd, .slice pm 1 cm, .slice px 0 cx, .slice ph 1 ch]
structure KEnv (w : World) (g q g0 g3 : Nat) (p1 p3 : Option Addr) (c1 c2 c3 c4 lo hi : Nat) (m : ByteArray) (X : World) : Prop where
  hp : PtAt X g (g + 5) 65537 none 0 0 (some ⟨g, 0, none⟩) 1 1 none 0 0 (some ⟨g + 1 + 1 + 1, 0, none⟩) 1 1 kP
  hq : PtAt X lo hi 65537 p1 0 c1 (some ⟨g0, 0, none⟩) 1 c2 p3 0 c3 (some ⟨g3, 0, none⟩) 1 c4 (kR m kN kY)
  bp : BoxV X (g + 1 + 1 + 1 + 1) [.int .u32 65537, .slice none 0 0, .slice (some ⟨g, 0, none⟩) 1 1, .slice none 0 0, .slice (some ⟨g + 1 + 1 + 1, 0, none⟩) 1 1] 27
  bq : BoxV X q [.int .u32 65537, .slice p1 0 c1, .slice (some ⟨g0, 0, none⟩) 1 c2, .slice p3 0 c3, .slice (some ⟨g3, 0, none⟩) 1 c4] 27
  gr : w.grownBy X none
theorem KEnv.calm {w : World} {g q g0 g3 : Nat} {p1 p3 : Option Addr} {c1 c2 c3 c4 lo hi : Nat} {m : ByteArray} {X Y : World} (h : KEnv w g q g0 g3 p1 p3 c1 c2 c3 c4 lo hi m X) (hg : X.grownBy Y none) : KEnv w g q g0 g3 p1 p3 c1 c2 c3 c4 lo hi m Y :=
  ⟨h.hp.calm hg, h.hq.calm hg, h.bp.calm hg, h.bq.calm hg, grownBy_trans h.gr hg⟩
theorem KEnv.cells {w : World} {g q g0 g3 : Nat} {p1 p3 : Option Addr} {c1 c2 c3 c4 lo hi : Nat} {m : ByteArray} {X : World} (h : KEnv w g q g0 g3 p1 p3 c1 c2 c3 c4 lo hi m X) : X.cell? ⟨g + 1 + 1 + 1 + 1, 0, none⟩ = some (.int .u32 65537) ∧ X.cell? ⟨g + 1 + 1 + 1 + 1, 1, none⟩ = some (.slice none 0 0) ∧ X.cell? ⟨g + 1 + 1 + 1 + 1, 2, none⟩ = some (.slice (some ⟨g, 0, none⟩) 1 1) ∧ X.cell? ⟨g + 1 + 1 + 1 + 1, 3, none⟩ = some (.slice none 0 0) ∧ X.cell? ⟨g + 1 + 1 + 1 + 1, 4, none⟩ = some (.slice (some ⟨g + 1 + 1 + 1, 0, none⟩) 1 1) ∧ X.cell? ⟨q, 0, none⟩ = some (.int .u32 65537) ∧ X.cell? ⟨q, 1, none⟩ = some (.slice p1 0 c1) ∧ X.cell? ⟨q, 2, none⟩ = some (.slice (some ⟨g0, 0, none⟩) 1 c2) ∧ X.cell? ⟨q, 3, none⟩ = some (.slice p3 0 c3) ∧ X.cell? ⟨q, 4, none⟩ = some (.slice (some ⟨g3, 0, none⟩) 1 c4) :=
  ⟨h.bp.cell rfl, h.bp.cell rfl, h.bp.cell rfl, h.bp.cell rfl, h.bp.cell rfl, h.bq.cell rfl, h.bq.cell rfl, h.bq.cell rfl, h.bq.cell rfl, h.bq.cell rfl⟩
theorem zero_at (w : World) : PtAt w 0 w.heap.size 0 none 0 0 none 0 0 none 0 0 none 0 0 kZ where
  num := rfl
  deps := ⟨rfl, fun h => absurd h (Nat.lt_irrefl 0)⟩
  makes := ⟨rfl, fun h => absurd h (Nat.lt_irrefl 0)⟩
  drops := ⟨rfl, fun h => absurd h (Nat.lt_irrefl 0)⟩
  hunks := ⟨rfl, fun h => absurd h (Nat.lt_irrefl 0)⟩
  ld := Nat.le_refl _
  lm := Nat.le_refl _
  lx := Nat.le_refl _
  lh := Nat.le_refl _
  zd := fun _ => rfl
  zm := fun _ => rfl
  zx := fun _ => rfl
  zh := fun _ => rfl

set_option maxRecDepth 8000 in
set_option maxHeartbeats 16000000 in
theorem known12_c (w : World) : Calls Tryz.prog 5 #[] w fun e w' => e = .returned (.bool true) ∧ w.grownBy w' none := by
  have F := Lib.hid (kW_facts w 9 46 50 27)
  go_enter Tryz.func5, Tryz.ntmps5
  go_upto_region 2 with fail
  change Code.wp _ _ _ _ (kW w 9 46 50 27)
  generalize kW w 9 46 50 27 = W at *
  have HG := Lib.hid F.out.1
  have HK := Lib.hid F.out.2.1
  have HB := Lib.hid F.out.2.2.1
  have HWS := Lib.hid F.out.2.2.2
  clear F
  obtain ⟨g, hgs⟩ : ∃ g, w.heap.size = g := ⟨_, rfl⟩
  have HGS := Lib.hid hgs
  rw [hgs] at HK HB HWS ⊢
  clear hgs
  obtain ⟨a0, a1, a2, a3, a4⟩ := HB.out.five
  have HP : Hid (PtAt W g (g + 5) 65537 none 0 0 (some ⟨g, 0, none⟩) 1 1 none 0 0 (some ⟨g + 1 + 1 + 1, 0, none⟩) 1 1 kP) := Lib.hid (HK.out.pt (fun _ => rfl) (fun _ => rfl) (Nat.le_refl _) (Nat.le_refl _))
  have HBG : Hid (PBig kP) := Lib.hid (big_kR (by decide +kernel) (by decide +kernel) (by decide +kernel))
  go_wp2_with fail
  refine (patCopy_p 65537 none 0 0 (some ⟨g, 0, none⟩) 1 1 none 0 0 (some ⟨g + 1 + 1 + 1, 0, none⟩) 1 1 g (g + 5) kP W HP.out HBG.out).mono ?_
  rintro e w2 ⟨p1, c1, p2, c2, p3, c3, p4, c4, rfl, hc, _, hg⟩
  have HC := Lib.hid hc
  have HG2 := Lib.hid (grownBy_trans HG.out hg)
  have HPW := Lib.hid (HP.out.calm hg)
  have HBW := Lib.hid (HB.out.calm hg)
  have HSZ : Hid (W.heap.size ≤ w2.heap.size) := Lib.hid hg.size
  clear hc hg HG HP HB HK a0 a1 a2 a3 a4
  go_upto_region 3 with fail
  obtain ⟨q, hq⟩ : ∃ q, w2.heap.size = q := ⟨_, rfl⟩
  have HG3 := Lib.hid (World.grownBy_alloc w2 (.cells #[.int .u32 65537, .slice p1 0 c1, .slice p2 1 c2, .slice p3 0 c3, .slice p4 1 c4] 27) none)
  have HBQ := Lib.hid (BoxV.new w2 [.int .u32 65537, .slice p1 0 c1, .slice p2 1 c2, .slice p3 0 c3, .slice p4 1 c4] 27)
  have HC3 := Lib.hid (HC.out.calm HG3.out)
  have HG4 := Lib.hid (grownBy_trans HG2.out HG3.out)
  have HP3 := Lib.hid (HPW.out.calm HG3.out)
  have HB3 := Lib.hid (HBW.out.calm HG3.out)
  clear HC HG2 HPW HBW HG3
  generalize w2.alloc _ = w3 at *
  rw [hq] at HBQ HSZ ⊢
  clear hq
  have HKQ := Lib.hid (kq_of HC3.out)
  clear HC3
  obtain ⟨g0, g1, g2, g3, ca, ce, ck, pk, m, rfl, rfl, hc2, hc4, z1, z3, k1, s0, s1, lo1, lt1, hm, hat⟩ := HKQ.out
  have HAT := Lib.hid hat
  have HLO := Lib.hid lo1
  clear hat lo1 lt1 HKQ
  obtain ⟨b0, b1, b2, b3, b4⟩ := HBQ.out.five
  have hqg : q ≠ g1 := fun e => by
    rw [e, s0] at b0
    cases b0
  have HQG := Lib.hid hqg
  clear hqg
  go_upto_region 6 with fail
  have HENV : Hid (KEnv w g q g0 g3 p1 p3 c1 c2 c3 c4 W.heap.size w3.heap.size m (w3.setCell ⟨g1, 0, none⟩ (.string kN))) := Lib.hid (by
    have h5 := HWS.out
    have h6 := HLO.out
    refine ⟨HP3.out.stay ⟨by simp, fun i h1 h2 => heap_set_ne w3 g1 0 _ (by omega)⟩, HAT.out.pt z1 z3 hc2 hc4, HB3.out.keepSet (by omega) 0 _, HBQ.out.keepSet HQG.out 0 _, ?_⟩
    exact grownBy_setCell_new _ HG4.out (by show w.heap.size ≤ g1; have := HGS.out; omega))
  change Code.wp _ _ _ _ (w3.setCell ⟨g1, 0, none⟩ (.string kN))
  clear HP3 HB3 HBQ HG4 HAT b0 b1 b2 b3 b4 s0 s1 k1
  generalize w3.setCell _ _ = w4 at *
  have HBQ2 : Hid (PBig (kR m kN kY)) := Lib.hid (big_kR hm (by decide +kernel) (by decide +kernel))
  have HBZ : Hid (PBig kZ) := Lib.hid ⟨Nat.zero_le _, Nat.zero_le _, Nat.zero_le _, Nat.zero_le _, fun s hs => (by cases hs), fun s hs => (by cases hs), fun s hs => (by cases hs)⟩
  generalize W.heap.size = lo at *
  generalize w3.heap.size = hi at *
  have RP : Hid (true = true ↔ IsPt kP) := Lib.hid ⟨fun _ => is_kP, fun _ => rfl⟩
  have RQ : Hid (false = true ↔ IsPt (kR m kN kY)) := Lib.hid ⟨fun h => (by cases h), fun h => absurd h (not_kR m kY)⟩
  have RZ : Hid (false = true ↔ IsPt kZ) := Lib.hid ⟨fun h => (by cases h), fun h => absurd h not_kZ⟩
  have IP : Hid (∀ X, KEnv w g q g0 g3 p1 p3 c1 c2 c3 c4 lo hi m X → Calls Tryz.prog 7 #[.agg #[.int .u32 65537, .slice none 0 0, .slice (some ⟨g, 0, none⟩) 1 1, .slice none 0 0, .slice (some ⟨g + 1 + 1 + 1, 0, none⟩) 1 1]] X fun e w' => e = .returned (.bool true) ∧ X.grownBy w' none) :=
    Lib.hid fun X h => patIs_c sortU 65537 none 0 0 _ 1 1 none 0 0 _ 1 1 _ _ kP true X h.hp HBG.out RP.out
  have IQ : Hid (∀ X, KEnv w g q g0 g3 p1 p3 c1 c2 c3 c4 lo hi m X → Calls Tryz.prog 7 #[.agg #[.int .u32 65537, .slice p1 0 c1, .slice (some ⟨g0, 0, none⟩) 1 c2, .slice p3 0 c3, .slice (some ⟨g3, 0, none⟩) 1 c4]] X fun e w' => e = .returned (.bool false) ∧ X.grownBy w' none) :=
    Lib.hid fun X h => patIs_c sortU 65537 p1 0 c1 _ 1 c2 p3 0 c3 _ 1 c4 _ _ (kR m kN kY) false X h.hq HBQ2.out RQ.out
  have IZ : Hid (∀ X, Calls Tryz.prog 7 #[.agg #[.int .u32 0, .slice none 0 0, .slice none 0 0, .slice none 0 0, .slice none 0 0]] X fun e w' => e = .returned (.bool false) ∧ X.grownBy w' none) :=
    Lib.hid fun X => patIs_c sortU 0 none 0 0 none 0 0 none 0 0 none 0 0 _ _ kZ false X (zero_at X) HBZ.out RZ.out
  have CP : Hid (∀ X, KEnv w g q g0 g3 p1 p3 c1 c2 c3 c4 lo hi m X → Calls Tryz.prog 23 #[.agg #[.int .u32 65537, .slice none 0 0, .slice (some ⟨g, 0, none⟩) 1 1, .slice none 0 0, .slice (some ⟨g + 1 + 1 + 1, 0, none⟩) 1 1]] X fun e w' => ∃ y1 z1 y2 z2 y3 z3 y4 z4 a b, e = .returned (.agg #[.int .u32 65537, .slice y1 0 z1, .slice y2 1 z2, .slice y3 0 z3, .slice y4 1 z4]) ∧ PtAt w' a b 65537 y1 0 z1 y2 1 z2 y3 0 z3 y4 1 z4 kP ∧ X.grownBy w' none) :=
    Lib.hid fun X h => (patCopy_p 65537 none 0 0 _ 1 1 none 0 0 _ 1 1 _ _ kP X h.hp HBG.out).mono fun e w' ⟨y1, z1, y2, z2, y3, z3, y4, z4, he, _, hpt, hg⟩ => ⟨y1, z1, y2, z2, y3, z3, y4, z4, _, _, he, hpt, hg⟩
  have SC : Hid (∀ X y1 z1 y2 z2 y3 z3 y4 z4 a b, KEnv w g q g0 g3 p1 p3 c1 c2 c3 c4 lo hi m X → PtAt X a b 65537 y1 0 z1 y2 1 z2 y3 0 z3 y4 1 z4 kP → Calls Tryz.prog 17 #[.agg #[.int .u32 65537, .slice none 0 0, .slice (some ⟨g, 0, none⟩) 1 1, .slice none 0 0, .slice (some ⟨g + 1 + 1 + 1, 0, none⟩) 1 1], .agg #[.int .u32 65537, .slice y1 0 z1, .slice y2 1 z2, .slice y3 0 z3, .slice y4 1 z4]] X fun e w' => e = .returned (.bool true) ∧ X.grownBy w' none) :=
    Lib.hid fun X y1 z1 y2 z2 y3 z3 y4 z4 a b h hpt => patSame_c kP kP 65537 none 0 0 _ 1 1 none 0 0 _ 1 1 65537 y1 0 z1 y2 1 z2 y3 0 z3 y4 1 z4 _ _ a b true X h.hp hpt HBG.out HBG.out ⟨fun _ => rfl, fun _ => rfl⟩
  have SQ : Hid (∀ X, KEnv w g q g0 g3 p1 p3 c1 c2 c3 c4 lo hi m X → Calls Tryz.prog 17 #[.agg #[.int .u32 65537, .slice none 0 0, .slice (some ⟨g, 0, none⟩) 1 1, .slice none 0 0, .slice (some ⟨g + 1 + 1 + 1, 0, none⟩) 1 1], .agg #[.int .u32 65537, .slice p1 0 c1, .slice (some ⟨g0, 0, none⟩) 1 c2, .slice p3 0 c3, .slice (some ⟨g3, 0, none⟩) 1 c4]] X fun e w' => e = .returned (.bool false) ∧ X.grownBy w' none) :=
    Lib.hid fun X h => patSame_c kP (kR m kN kY) 65537 none 0 0 _ 1 1 none 0 0 _ 1 1 65537 p1 0 c1 _ 1 c2 p3 0 c3 _ 1 c4 _ _ _ _ false X h.hp h.hq HBG.out HBQ2.out ⟨fun h => (by cases h), fun h => absurd h (ne_kR m kY)⟩
  have LN : Hid (∀ X, KEnv w g q g0 g3 p1 p3 c1 c2 c3 c4 lo hi m X → Calls Tryz.prog 15 #[.agg #[.int .u32 65537, .slice none 0 0, .slice (some ⟨g, 0, none⟩) 1 1, .slice none 0 0, .slice (some ⟨g + 1 + 1 + 1, 0, none⟩) 1 1]] X fun e w' => e = .returned (.int .i64 2) ∧ X.grownBy w' none) :=
    Lib.hid fun X h => (patLines_c 65537 none 0 0 _ 1 1 none 0 0 _ 1 1 _ _ kP X h.hp (by omega) (fun x hx => (HBG.out.hs x hx).1)).mono fun e w' ⟨he, hg⟩ => ⟨by rw [he, lines_kP]; rfl, hg⟩
  have ND : Hid (∀ X, KEnv w g q g0 g3 p1 p3 c1 c2 c3 c4 lo hi m X → Calls Tryz.prog 10 #[.agg #[.int .u32 65537, .slice none 0 0, .slice (some ⟨g, 0, none⟩) 1 1, .slice none 0 0, .slice (some ⟨g + 1 + 1 + 1, 0, none⟩) 1 1]] X fun e w' => ∃ y c, e = .returned (.slice y 0 c) ∧ X.grownBy w' none) :=
    Lib.hid fun X h => (needs_c sortU 65537 none 0 0 _ 1 1 none 0 0 _ 1 1 _ _ kP X h.hp HBG.out).mono fun e w' ⟨y, n, c, he, hN, _, _, _, hg⟩ => ⟨y, c, by rw [he, ← hN.len, needs_kP]; rfl, hg⟩
  have PH : Hid (∀ X, KEnv w g q g0 g3 p1 p3 c1 c2 c3 c4 lo hi m X → Calls Tryz.prog 13 #[.agg #[.int .u32 65537, .slice none 0 0, .slice (some ⟨g, 0, none⟩) 1 1, .slice none 0 0, .slice (some ⟨g + 1 + 1 + 1, 0, none⟩) 1 1]] X fun e w' => ∃ y c, e = .returned (.slice y 1 c) ∧ X.grownBy w' none) :=
    Lib.hid fun X h => (patPaths_c 65537 none 0 0 _ 1 1 none 0 0 _ 1 1 _ _ kP X h.hp HBG.out).mono fun e w' ⟨y, n, c, he, hN, _, _, hg⟩ => ⟨y, c, by rw [he, ← hN.len, paths_kP]; rfl, hg⟩
  have PA : Hid (∀ X, Calls Tryz.prog 19 #[.string ⟨#[97, 47, 98, 46, 99]⟩] X fun e w' => e = .returned (.bool true) ∧ X.grownBy w' none) := Lib.hid fun X => isPath_c _ true X (by decide +kernel) ⟨fun _ => path_abc, fun _ => rfl⟩
  have PB : Hid (∀ X, Calls Tryz.prog 19 #[.string ⟨#[65]⟩] X fun e w' => e = .returned (.bool false) ∧ X.grownBy w' none) := Lib.hid fun X => isPath_c _ false X (by decide +kernel) ⟨fun h => (by cases h), fun h => absurd h path_A⟩
  have ID : Hid (∀ X, Calls Tryz.prog 21 #[.int .i64 1, .int .i64 1] X fun e w' => e = .returned (.int .u32 65537) ∧ w' = X) := Lib.hid fun X => patID_c 1 1 X
  clear HBQ2 HBZ RP RQ RZ HBG
  have henv : KEnv w g q g0 g3 p1 p3 c1 c2 c3 c4 lo hi m (World.drew w4) := HENV.out.calm (grownBy_drewN w4 1 none)
  clear HENV
  go_region_held3 (fun X => X.cell? ⟨g + 1 + 1 + 1 + 1, 0, none⟩ = some (.int .u32 65537) ∧ X.cell? ⟨g + 1 + 1 + 1 + 1, 1, none⟩ = some (.slice none 0 0) ∧ X.cell? ⟨g + 1 + 1 + 1 + 1, 2, none⟩ = some (.slice (some ⟨g, 0, none⟩) 1 1) ∧ X.cell? ⟨g + 1 + 1 + 1 + 1, 3, none⟩ = some (.slice none 0 0) ∧ X.cell? ⟨g + 1 + 1 + 1 + 1, 4, none⟩ = some (.slice (some ⟨g + 1 + 1 + 1, 0, none⟩) 1 1) ∧ X.cell? ⟨q, 0, none⟩ = some (.int .u32 65537) ∧ X.cell? ⟨q, 1, none⟩ = some (.slice p1 0 c1) ∧ X.cell? ⟨q, 2, none⟩ = some (.slice (some ⟨g0, 0, none⟩) 1 c2) ∧ X.cell? ⟨q, 3, none⟩ = some (.slice p3 0 c3) ∧ X.cell? ⟨q, 4, none⟩ = some (.slice (some ⟨g3, 0, none⟩) 1 c4)) (first | exact henv.cells | go_keep)
    (first
      | (go_at_call 7; (first | (with_reducible refine (IP.out _ henv).mono ?_) | (with_reducible refine (IQ.out _ henv).mono ?_) | (with_reducible refine (IZ.out _).mono ?_)); rintro e w5 ⟨rfl, hg⟩; have henv := henv.calm hg)
      | (go_at_call 23; refine (CP.out _ henv).mono ?_; rintro e w5 ⟨y1, z1, y2, z2, y3, z3, y4, z4, a, b, rfl, hcp, hg⟩; have henv := henv.calm hg)
      | (go_at_call 17; (first | (with_reducible refine (SC.out _ _ _ _ _ _ _ _ _ _ _ henv hcp).mono ?_) | (with_reducible refine (SQ.out _ henv).mono ?_)); rintro e w5 ⟨rfl, hg⟩; have henv := henv.calm hg)
      | (go_at_call 15; refine (LN.out _ henv).mono ?_; rintro e w5 ⟨rfl, hg⟩; have henv := henv.calm hg)
      | (go_at_call 10; refine (ND.out _ henv).mono ?_; rintro e w5 ⟨yn, zn, rfl, hg⟩; have henv := henv.calm hg)
      | (go_at_call 13; refine (PH.out _ henv).mono ?_; rintro e w5 ⟨yp, zp, rfl, hg⟩; have henv := henv.calm hg)
      | (go_at_call 19; (first | (with_reducible refine (PA.out _).mono ?_) | (with_reducible refine (PB.out _).mono ?_)); rintro e w5 ⟨rfl, hg⟩; have henv := henv.calm hg)
      | (go_at_call 21; refine (ID.out _).mono ?_; rintro e w5 ⟨rfl, hg⟩; subst w5))
  have HGE := Lib.hid henv.gr
  clear henv
  go_wp2
  go_ret
  exact ⟨rfl, HGE.out⟩

end Go.Proofs.YtcfhnfnhdhloiaaGreat
