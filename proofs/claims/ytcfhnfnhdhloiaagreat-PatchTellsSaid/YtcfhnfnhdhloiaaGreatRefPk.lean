/- The reference's patches: hunk. -/
import Derived.Test.YtcfhnfnhdhloiaaGreatRefPa
import Derived.Test.YtcfhnfnhdhloiaaGreatSplR
import Derived.Test.YtcfhnfnhdhloiaaGreatQuie
namespace Go.Proofs.YtcfhnfnhdhloiaaGreat
open Go.RowKit

/-- An edge that may stand in a hunk. -/
def edOK (id a b : Nat) (e : Ed) : Prop := Named e.1 id a b ∧ Named e.2 id a b ∧ e.1 ≠ e.2
def lnOK (id : Nat) (x : Ln) : Prop := x.1 ≠ id ∧ 0 ≤ x.2 ∧ x.2 < 40
theorem upto_all {α : Type} {l : List α} {d : α} {q : α → Prop} {n : Nat} (hn : l.length = n) (h : ∀ j, j < n → q (l[j]?.getD d)) : ∀ x ∈ l, q x := fun x hx => by
  obtain ⟨j, hj, e⟩ := mem_get (d := d) hx
  rw [← e]
  exact h j (by rw [← hn]; exact hj)
theorem mk_hk {path : ByteArray} {ts : List ByteArray} {es : List Ed} {ks : List Ln} {id a na ne nk : Nat} (la : ts.length = na) (le : es.length = ne) (lk : ks.length = nk) (h1 : IsPath path) (h2 : na ≤ 40) (h3 : ne ≤ 80) (h4 : nk ≤ 40)
    (h5 : ∀ j, j < na → IsLine (ts[j]?.getD .empty)) (h6 : ∀ j, j < ne → edOK id a (a + na) (es[j]?.getD ((0, 0), (0, 0)))) (h7 : risB ltEd ((0, 0), (0, 0)) es ne = true) (h8 : ∀ j, j < nk → lnOK id (ks[j]?.getD (0, 0))) (h9 : risB ltLn (0, 0) ks nk = true) : IsHk (path, ts, es, ks) id a where
  path := h1
  nAdds := by show ts.length ≤ 40; omega
  nEdges := by show es.length ≤ 80; omega
  nKills := by show ks.length ≤ 40; omega
  adds := upto_all la h5
  edges := by
    show ∀ e ∈ es, Named e.1 id a (a + ts.length) ∧ Named e.2 id a (a + ts.length) ∧ e.1 ≠ e.2
    rw [la]
    exact upto_all le h6
  eris := risB_all linEd (d := ((0, 0), (0, 0))) (by show risB ltEd _ es es.length = true; rw [le]; exact h7)
  kills := upto_all lk h8
  kris := risB_all linLn (d := (0, 0)) (by show risB ltLn _ ks ks.length = true; rw [lk]; exact h9)

/-- The cells of an edge. -/
def Ed4 (w : World) (b o : Nat) (e : Ed) : Prop := w.cell? ⟨b, o, none⟩ = some (.int .u32 (e.1.1 : Int)) ∧ w.cell? ⟨b, o + 1, none⟩ = some (.int .i64 e.1.2) ∧ w.cell? ⟨b, o + 2, none⟩ = some (.int .u32 (e.2.1 : Int)) ∧ w.cell? ⟨b, o + 3, none⟩ = some (.int .i64 e.2.2)
theorem Ed4.calm {w w' : World} {b o : Nat} {e : Ed} (h : Ed4 w b o e) (hg : w.grownBy w' none) : Ed4 w' b o e := ⟨cell_calmQ hg h.1, cell_calmQ hg h.2.1, cell_calmQ hg h.2.2.1, cell_calmQ hg h.2.2.2⟩

def LsE (w : World) (g : Nat) (v : Value) (b o : Nat) (p : Ed) (gE : Nat) (e : Ed) : Prop := w.cell? ⟨g, 2, none⟩ = some v ∧ Ed4 w b o p ∧ Ed4 w gE 0 e
theorem LsE.calm {w w' : World} {g b o gE : Nat} {v : Value} {p e : Ed} (h : LsE w g v b o p gE e) (hg : w.grownBy w' none) : LsE w' g v b o p gE e := ⟨cell_calmQ hg h.1, h.2.1.calm hg, h.2.2.calm hg⟩

set_option maxRecDepth 8000 in
set_option maxHeartbeats 16000000 in
theorem refHunk_c (path : ByteArray) (ts : List ByteArray) (es : List Ed) (ks : List Ln) (id a : Nat) (pa : Option Addr) (na ca : Nat) (pe : Option Addr) (ne ce : Nat) (pk : Option Addr) (nk ck : Nat) (lo hi : Nat) (r : Bool) (w : World)
    (h : HkAt w lo hi pa na ca pe ne ce pk nk ck (path, ts, es, ks)) (hb : na ≤ 1000 ∧ ne ≤ 1000 ∧ nk ≤ 1000) (hp : path.size ≤ 1000000) (hs : ∀ s ∈ ts, s.size ≤ 1000000) (ha : a ≤ 1000000) (hr : r = true ↔ IsHk (path, ts, es, ks) id a) :
    Calls Tryz.prog 32 #[.agg #[.string path, .slice pa na ca, .slice pe ne ce, .slice pk nk ck], .int .u32 (id : Int), .int .i64 (a : Int)] w fun e w' => e = .returned (.bool r) ∧ w.grownBy w' none := by
  have HR := Lib.hid hr
  have HAS := Lib.hid (show StrsAt w lo hi pa na ts from h.adds)
  have HES := Lib.hid (show EdsAt w lo hi pe ne es from h.edges)
  have HKS := Lib.hid (show LnsAt w lo hi pk nk ks from h.kills)
  have HLA := Lib.hid HAS.out.len
  have HLE := Lib.hid HES.out.len
  have HLK := Lib.hid HKS.out.len
  have HSZ := Lib.hid hs
  have HPS := Lib.hid hp
  have HB := Lib.hid (BoxV.new w [.string path, .slice pa na ca, .slice pe ne ce, .slice pk nk ck] 50)
  have HG := Lib.hid (World.grownBy_alloc w (.cells [.string path, .slice pa na ca, .slice pe ne ce, .slice pk nk ck].toArray 50) none)
  clear hr h hs hp
  obtain ⟨rp, hrp⟩ := bool_of (IsPath path)
  have HRP := Lib.hid hrp
  clear hrp
  go_enter Tryz.func32, Tryz.ntmps32
  go_upto_region 1 with fail
  generalize w.alloc _ = w1 at *
  have HA1 := Lib.hid (HAS.out.calm HG.out)
  have HE1 := Lib.hid (HES.out.calm HG.out)
  have HK1 := Lib.hid (HKS.out.calm HG.out)
  clear HAS HES HKS
  generalize w.heap.size = g at *
  obtain ⟨a0, a1, a2, a3⟩ := HB.out.four
  go_wp2_with fail
  refine (refIsPath_c path rp _ HPS.out HRP.out).mono ?_
  rintro e w2 ⟨rfl, h9⟩
  subst w2
  cases rp with
  | false =>
    obtain rfl : r = false := no_false HR.out fun h => by have := HRP.out.2 h.path; cases this
    go_wp2
    go_ret
    exact ⟨rfl, HG.out⟩
  | true =>
    have HP0 := Lib.hid (HRP.out.1 rfl)
    clear HRP
    by_cases hna : 40 < na
    · obtain rfl : r = false := no_false HR.out fun h => by have := h.nAdds; rw [show (hAdds (path, ts, es, ks)).length = na from HLA.out] at this; omega
      have f1 : (40 : Int) < na := by omega
      go_wp2
      go_ret
      exact ⟨rfl, HG.out⟩
    · have f1 : ¬ (40 : Int) < na := by omega
      by_cases hne : 80 < ne
      · obtain rfl : r = false := no_false HR.out fun h => by have := h.nEdges; rw [show (hEdges (path, ts, es, ks)).length = ne from HLE.out] at this; omega
        have f2 : (80 : Int) < ne := by omega
        go_wp2
        go_ret
        exact ⟨rfl, HG.out⟩
      · have f2 : ¬ (80 : Int) < ne := by omega
        by_cases hnk : 40 < nk
        · obtain rfl : r = false := no_false HR.out fun h => by have := h.nKills; rw [show (hKills (path, ts, es, ks)).length = nk from HLK.out] at this; omega
          have f3 : (40 : Int) < nk := by omega
          go_wp2
          go_ret
          exact ⟨rfl, HG.out⟩
        · have f3 : ¬ (40 : Int) < nk := by omega
          go_wp2
          clear f1 f2 f3 a0 a1 a2 a3
          go_loopw [7] (fun i wr => ∃ k : Nat, k ≤ na ∧ i = .int .i64 k ∧ Hid (∀ j, j < k → IsLine (ts[j]?.getD .empty)) ∧ Hid (w1.grownBy wr none)) (fun i _ => na - (intOf i).toNat)
          case atStart => exact ⟨0, Nat.zero_le _, rfl, Lib.hid (fun j hj => absurd hj (Nat.not_lt_zero _)), Lib.hid (grownBy_refl _ _)⟩
          case round =>
            obtain ⟨k, hk, rfl, HU, HGW⟩ := hrel
            obtain ⟨a0, a1, a2, a3⟩ := (HB.out.calm HGW.out).four
            by_cases hkn : k < na
            · have k0 : (0 : Int) ≤ k := by omega
              have k1 : (k : Int) < na := by omega
              obtain ⟨b, o, rfl, _, _, _, hc⟩ := (HA1.out.calm HGW.out).cell (by omega)
              have x0 := hc k hkn
              have HM := Lib.hid (get_mem (d := ByteArray.empty) (show k < ts.length by rw [HLA.out]; exact hkn))
              have HS1 := Lib.hid (HSZ.out _ HM.out)
              have HU2 := Lib.hid (show IsLine (ts[k]?.getD .empty) → ∀ j, j < k + 1 → IsLine (ts[j]?.getD .empty) from fun h => upto_succ (q := fun j => IsLine (ts[j]?.getD .empty)) HU.out h)
              clear hc HU
              generalize ts[k]?.getD .empty = s at *
              have hs9 := HS1.out
              go_wp2_with fail
              refine (refLines_c s _ HS1.out).mono ?_
              rintro e w3 ⟨v, rfl, hrow, hg3⟩
              obtain ⟨p9, c9, rfl, _⟩ := strsAt_own3 rfl hrow
              have HG3 := Lib.hid (grownBy_trans HGW.out hg3)
              clear hrow hg3 a0 a1 a2 a3 x0
              by_cases h1 : (linesS s).length = 1
              · by_cases h2 : 60 < s.size
                · obtain rfl : r = false := no_false HR.out fun h => by have := (h.adds _ HM.out).hi; omega
                  have f1 : (((linesS s).length : Int) != 1) = false := by rw [h1]; rfl
                  have f2 : (60 : Int) < s.size := by omega
                  clear h1
                  generalize (linesS s).length = m at *
                  go_wp2
                  go_ret
                  exact ⟨rfl, grownBy_trans HG.out HG3.out⟩
                · have HU3 := Lib.hid (HU2.out ⟨h1, by omega⟩)
                  have f1 : (((linesS s).length : Int) != 1) = false := by rw [h1]; rfl
                  have f2 : ¬ (60 : Int) < s.size := by omega
                  clear h1
                  generalize (linesS s).length = m at *
                  go_wp2
                  exact ⟨⟨k + 1, by omega, by go_num, HU3, HG3⟩, by simp [intOf]; omega⟩
              · obtain rfl : r = false := no_false HR.out fun h => h1 (h.adds _ HM.out).one
                have f1 : (((linesS s).length : Int) != 1) = true := by simp; omega
                clear h1
                generalize (linesS s).length = m at *
                go_wp2
                go_ret
                exact ⟨rfl, grownBy_trans HG.out HG3.out⟩
            · obtain rfl : na = k := by omega
              have k1 : ¬ ((na : Int) < na) := by omega
              have HAD := HU
              obtain ⟨tt, hto⟩ : ∃ tt, tt = a + na := ⟨_, rfl⟩
              have hw : IntKind.i64.wrap ((a : Int) + na) = (tt : Int) := by rw [IntWalk.i64_in _ (by omega)]; omega
              have HTO := Lib.hid hto
              clear hto
              go_wp2
              clear a0 a1 a2 a3 hw
              go_loopw [11] (fun i wr => ∃ k : Nat, k ≤ ne ∧ i = .int .i64 k ∧ Hid (∀ j, j < k → edOK id a tt (es[j]?.getD ((0, 0), (0, 0)))) ∧ Hid (risB ltEd ((0, 0), (0, 0)) es k = true) ∧ Hid (w1.grownBy wr none)) (fun i _ => ne - (intOf i).toNat)
              case atStart => exact ⟨0, Nat.zero_le _, rfl, Lib.hid (fun j hj => absurd hj (Nat.not_lt_zero _)), Lib.hid rfl, HGW⟩
              case round =>
                clear HGW HU
                obtain ⟨k, hk, rfl, HU, HS, HGW⟩ := hrel
                obtain ⟨a0, a1, a2, a3⟩ := (HB.out.calm HGW.out).four
                by_cases hkn : k < ne
                · have k0 : (0 : Int) ≤ k := by omega
                  have k1 : (k : Int) < ne := by omega
                  obtain ⟨b, o, rfl, _, _, _, hc⟩ := (HE1.out.calm HGW.out).cell (by omega)
                  obtain ⟨x1, x2, x3, x4⟩ := hc k hkn
                  have HM := Lib.hid (get_mem (d := ((0, 0), (0, 0))) (show k < es.length by rw [HLE.out]; exact hkn))
                  have HU2 := Lib.hid (show edOK id a tt (es[k]?.getD ((0, 0), (0, 0))) → ∀ j, j < k + 1 → edOK id a tt (es[j]?.getD ((0, 0), (0, 0))) from fun h => upto_succ (q := fun j => edOK id a tt (es[j]?.getD ((0, 0), (0, 0)))) HU.out h)
                  have HBAD := Lib.hid (show IsHk (path, ts, es, ks) id a → edOK id a tt (es[k]?.getD ((0, 0), (0, 0))) from fun h => by have := h.edges _ HM.out; rw [show (hAdds (path, ts, es, ks)).length = na from HLA.out, ← HTO.out] at this; exact this)
                  have HSU := Lib.hid (risB_succ (lt := ltEd) ((0, 0), (0, 0)) es k)
                  rw [HS.out] at HSU
                  have HRB := Lib.hid (show IsHk (path, ts, es, ks) id a → ∀ K, K + 1 = k → ltEd (es[K]?.getD ((0, 0), (0, 0))) (es[k]?.getD ((0, 0), (0, 0))) = true from fun h K e => by
                    subst e
                    cases hq : ltEd (es[K]?.getD ((0, 0), (0, 0))) (es[K + 1]?.getD ((0, 0), (0, 0))) with
                    | true => rfl
                    | false => exact absurd h.eris (ris_bad linEd (d := ((0, 0), (0, 0))) (by show K + 1 < es.length; rw [HLE.out]; exact hkn) hq))
                  have HPC := Lib.hid (show ∀ K, K + 1 = k → Ed4 wr b (o + K * 4) (es[K]?.getD ((0, 0), (0, 0))) from fun K e => hc K (by omega))
                  clear hc HU HM HS
                  have HEE := Lib.hid (rfl : es[k]?.getD ((0, 0), (0, 0)) = es[k]?.getD ((0, 0), (0, 0)))
                  generalize hE : es[k]?.getD ((0, 0), (0, 0)) = E at *
                  have HE := Lib.hid hE
                  clear hE HEE
                  obtain ⟨⟨e1, e2⟩, e3, e4⟩ := E
                  simp only at x1 x2 x3 x4
                  obtain ⟨r1, hr1⟩ := bool_of (Named (e1, e2) id a tt)
                  obtain ⟨r2, hr2⟩ := bool_of (Named (e3, e4) id a tt)
                  have HR1 := Lib.hid hr1
                  have HR2 := Lib.hid hr2
                  clear hr1 hr2
                  go_upto_region 15 with fail
                  have HBE := Lib.hid (BoxV.new wr [.int .u32 (e1 : Int), .int .i64 e2, .int .u32 (e3 : Int), .int .i64 e4] 46)
                  have HGE := Lib.hid (grownBy_trans HGW.out (World.grownBy_alloc wr (.cells [.int .u32 (e1 : Int), .int .i64 e2, .int .u32 (e3 : Int), .int .i64 e4].toArray 46) none))
                  have HGA := Lib.hid (World.grownBy_alloc wr (.cells [.int .u32 (e1 : Int), .int .i64 e2, .int .u32 (e3 : Int), .int .i64 e4].toArray 46) none)
                  clear a0 a1 a2 a3 x1 x2 x3 x4 HGW
                  generalize wr.alloc _ = w3 at *
                  have HPC2 := Lib.hid (fun K e => (HPC.out K e).calm HGA.out)
                  clear HPC HGA
                  generalize wr.heap.size = gE at *
                  obtain ⟨y1, y2, y3, y4⟩ := HBE.out.four
                  go_wp2_with fail
                  refine (refNamed_c (e1, e2) id a tt r1 _ HR1.out).mono ?_
                  rintro e w4 ⟨rfl, hg4⟩
                  have HG4 := Lib.hid (grownBy_trans HGE.out hg4)
                  have HK4 := Lib.hid hg4
                  obtain ⟨y1, y2, y3, y4⟩ := (HBE.out.calm hg4).four
                  clear hg4
                  cases r1 with
                  | false =>
                    obtain rfl : r = false := no_false HR.out fun h => by have := HR1.out.2 (HBAD.out h).1; cases this
                    go_wp2
                    go_ret
                    exact ⟨rfl, grownBy_trans HG.out HG4.out⟩
                  | true =>
                    have HN1 := Lib.hid (HR1.out.1 rfl)
                    clear HR1
                    go_wp2_with fail
                    refine (refNamed_c (e3, e4) id a tt r2 _ HR2.out).mono ?_
                    rintro e w5 ⟨rfl, hg5⟩
                    have HG5 := Lib.hid (grownBy_trans HG4.out hg5)
                    have HK5 := Lib.hid (grownBy_trans HK4.out hg5)
                    obtain ⟨y1, y2, y3, y4⟩ := (HBE.out.calm HK5.out).four
                    clear hg5
                    cases r2 with
                    | false =>
                      obtain rfl : r = false := no_false HR.out fun h => by have := HR2.out.2 (HBAD.out h).2.1; cases this
                      go_wp2
                      go_ret
                      exact ⟨rfl, grownBy_trans HG.out HG5.out⟩
                    | true =>
                      have HN2 := Lib.hid (HR2.out.1 rfl)
                      clear HR2
                      have hq := ln_eql (e1 : Int) e3 e2 e4
                      by_cases hee : ((e1, e2) : Ln) = (e3, e4)
                      · obtain rfl : r = false := no_false HR.out fun h => (HBAD.out h).2.2 hee
                        have hb1 : ((e1 : Int) == (e3 : Int) && e2 == e4) = true := by
                          simp only [Prod.mk.injEq] at hee
                          obtain ⟨rfl, rfl⟩ := hee
                          simp
                        rw [hb1] at hq
                        clear hee hb1
                        go_wp2
                        go_ret
                        exact ⟨rfl, grownBy_trans HG.out HG5.out⟩
                      · have HU3 := Lib.hid (HU2.out ⟨HN1.out, HN2.out, hee⟩)
                        have hb1 : ((e1 : Int) == (e3 : Int) && e2 == e4) = false := by
                          rw [Bool.eq_false_iff]
                          intro h
                          simp only [Bool.and_eq_true, beq_iff_eq] at h
                          apply hee
                          simp only [Prod.mk.injEq]
                          omega
                        rw [hb1] at hq
                        clear hee hb1 HU2
                        go_upto_region 17 with fail
                        have a2 := (HB.out.calm HG5.out).cell (k := 2) rfl
                        cases k with
                        | zero =>
                          have HS2 : Hid (risB ltEd ((0, 0), (0, 0)) es (0 + 1) = true) := Lib.hid (by rw [HSU.out]; rfl)
                          have f0 : decide ((0 : Int) < ((0 : Nat) : Int)) = false := by decide
                          have HG7 := Lib.hid (fun z => grownBy_trans HG5.out (grownBy_drewN w5 z none))
                          go_quiet (fail)
                          go_wp2
                          exact ⟨⟨0 + 1, by omega, by go_num, HU3, HS2, Lib.hid (HG7.out _)⟩, by simp [intOf]; omega⟩
                        | succ K =>
                          have hp4 := (HPC2.out K rfl).calm HK5.out
                          have HRB2 := Lib.hid (fun h => HRB.out h K rfl)
                          have HS2 := HSU
                          rw [Nat.add_sub_cancel] at HS2
                          have kw : IntKind.i64.wrap (((K + 1 : Nat) : Int) - 1) = (K : Int) := by rw [IntWalk.i64_in _ (by omega)]; omega
                          have kp : (0 : Int) < ((K + 1 : Nat) : Int) := by omega
                          have K0 : (0 : Int) ≤ K := by omega
                          have K1 : (K : Int) < ne := by omega
                          have HEK := HE
                          clear HRB HSU HPC2 HE
                          generalize hP : es[K]?.getD ((0, 0), (0, 0)) = P at *
                          obtain ⟨⟨p1, p2⟩, p3, p4⟩ := P
                          have q0 := fun z : Later w5 => later_cell a2 z
                          have q1 := fun z : Later w5 => later_cell hp4.1 z
                          have q2 := fun z : Later w5 => later_cell hp4.2.1 z
                          have q3 := fun z : Later w5 => later_cell hp4.2.2.1 z
                          have q4 := fun z : Later w5 => later_cell hp4.2.2.2 z
                          have q5 := fun z : Later w5 => later_cell y1 z
                          have q6 := fun z : Later w5 => later_cell y2 z
                          have q7 := fun z : Later w5 => later_cell y3 z
                          have q8 := fun z : Later w5 => later_cell y4 z
                          have hne5 := later_one w5
                          simp only at q1 q2 q3 q4
                          clear hP hp4 a2 HEK y1 y2 y3 y4
                          generalize hkk : K + 1 = kk at *
                          have HKK := Lib.hid hkk
                          clear hkk
                          have f0 : decide ((0 : Int) < (kk : Int)) = true := decide_eq_true kp
                          have f0' : decide (0 < kk) = true := decide_eq_true (by have := HKK.out; omega)
                          cases h1 : ltLn (p1, p2) (e1, e2) with
                          | true =>
                            have hT := Lib.hid (fun z : Later w5 => later_call (fun w' hg => refLess_c (p1, p2) (e1, e2) true w' h1.symm) z)
                            have HS3 : Hid (risB ltEd ((0, 0), (0, 0)) es (kk + 1) = true) := Lib.hid (by rw [HS2.out]; simp [ltEd, h1])
                            clear h1
                            refine region_quiet_in (C := fun x => ∃ z : Later w5, x = z.at_) (by kernel_rfl) (by kernel_rfl) (later_drew w5) ?_
                            repeat (go_big_quiet_step ((first | (go_at_call 67; exact hT.out _))))
                            refine wpQuiet_nil ?_
                            intro w' hw'
                            obtain ⟨z, hz⟩ := hw'
                            subst hz
                            have HG9 := Lib.hid (grownBy_trans HG5.out z.ok)
                            go_wp2
                            exact ⟨⟨kk + 1, by omega, by go_num, HU3, HS3, HG9⟩, by have := HKK.out; simp [intOf]; omega⟩
                          | false =>
                            have hT := Lib.hid (fun z : Later w5 => later_call (fun w' hg => refLess_c (p1, p2) (e1, e2) false w' h1.symm) z)
                            have hq2 := ln_eql (p1 : Int) e1 p2 e2
                            by_cases hpe : ((p1, p2) : Ln) = (e1, e2)
                            · have hb2 : ((p1 : Int) == (e1 : Int) && p2 == e2) = true := by
                                simp only [Prod.mk.injEq] at hpe
                                obtain ⟨rfl, rfl⟩ := hpe
                                simp
                              rw [hb2] at hq2
                              cases h2 : ltLn (p3, p4) (e3, e4) with
                              | true =>
                                have hS := Lib.hid (fun z : Later w5 => later_call (fun w' hg => refLess_c (p3, p4) (e3, e4) true w' h2.symm) z)
                                have HS3 : Hid (risB ltEd ((0, 0), (0, 0)) es (kk + 1) = true) := Lib.hid (by rw [HS2.out]; simp [ltEd, h2, hpe])
                                clear h1 h2 hpe hb2
                                refine region_quiet_in (C := fun x => ∃ z : Later w5, x = z.at_) (by kernel_rfl) (by kernel_rfl) (later_drew w5) ?_
                                repeat (go_big_quiet_step ((first | (go_at_call 67; first | (with_reducible exact hT.out _) | (with_reducible exact hS.out _)))))
                                refine wpQuiet_nil ?_
                                intro w' hw'
                                obtain ⟨z, hz⟩ := hw'
                                subst hz
                                have HG9 := Lib.hid (grownBy_trans HG5.out z.ok)
                                go_wp2
                                exact ⟨⟨kk + 1, by omega, by go_num, HU3, HS3, HG9⟩, by have := HKK.out; simp [intOf]; omega⟩
                              | false =>
                                have hS := Lib.hid (fun z : Later w5 => later_call (fun w' hg => refLess_c (p3, p4) (e3, e4) false w' h2.symm) z)
                                obtain rfl : r = false := no_false HR.out fun h => by have := HRB2.out h; rw [show ltEd ((p1, p2), p3, p4) ((e1, e2), e3, e4) = (ltLn (p1, p2) (e1, e2) || (decide ((p1, p2) = (e1, e2)) && ltLn (p3, p4) (e3, e4))) from rfl, h1, h2, Bool.and_false] at this; cases this
                                clear h1 h2 hpe hb2
                                refine region_quiet_in (C := fun x => ∃ z : Later w5, x = z.at_) (by kernel_rfl) (by kernel_rfl) (later_drew w5) ?_
                                repeat (go_big_quiet_step ((first | (go_at_call 67; first | (with_reducible exact hT.out _) | (with_reducible exact hS.out _)))))
                                refine wpQuiet_nil ?_
                                intro w' hw'
                                obtain ⟨z, hz⟩ := hw'
                                subst hz
                                have HG9 := Lib.hid (grownBy_trans HG5.out z.ok)
                                go_wp2
                                go_ret
                                exact ⟨rfl, grownBy_trans HG.out HG9.out⟩
                            · have hb2 : ((p1 : Int) == (e1 : Int) && p2 == e2) = false := by
                                rw [Bool.eq_false_iff]
                                intro h
                                simp only [Bool.and_eq_true, beq_iff_eq] at h
                                apply hpe
                                simp only [Prod.mk.injEq]
                                omega
                              rw [hb2] at hq2
                              obtain rfl : r = false := no_false HR.out fun h => by
                                have := HRB2.out h
                                simp only [ltEd, Bool.or_eq_true, Bool.and_eq_true, decide_eq_true_eq] at this
                                rcases this with this | this
                                · rw [h1] at this; cases this
                                · exact hpe this.1
                              clear h1 hpe hb2
                              refine region_quiet_in (C := fun x => ∃ z : Later w5, x = z.at_) (by kernel_rfl) (by kernel_rfl) (later_drew w5) ?_
                              repeat (go_big_quiet_step ((first | (go_at_call 67; exact hT.out _))))
                              refine wpQuiet_nil ?_
                              intro w' hw'
                              obtain ⟨z, hz⟩ := hw'
                              subst hz
                              have HG9 := Lib.hid (grownBy_trans HG5.out z.ok)
                              go_wp2
                              go_ret
                              exact ⟨rfl, grownBy_trans HG.out HG9.out⟩
                · skip
                  obtain rfl : ne = k := by omega
                  have k1 : ¬ ((ne : Int) < ne) := by omega
                  have HED := HU
                  have HER := HS
                  go_wp2
                  clear a0 a1 a2 a3
                  go_loopw [13] (fun i wr => ∃ k : Nat, k ≤ nk ∧ i = .int .i64 k ∧ Hid (∀ j, j < k → lnOK id (ks[j]?.getD (0, 0))) ∧ Hid (risB ltLn (0, 0) ks k = true) ∧ Hid (w1.grownBy wr none)) (fun i _ => nk - (intOf i).toNat)
                  case atStart => exact ⟨0, Nat.zero_le _, rfl, Lib.hid (fun j hj => absurd hj (Nat.not_lt_zero _)), Lib.hid rfl, HGW⟩
                  case round =>
                    clear HGW HU HS
                    obtain ⟨k, hk, rfl, HU, HS, HGW⟩ := hrel
                    have a3 := (HB.out.calm HGW.out).cell (k := 3) rfl
                    by_cases hkn : k < nk
                    · have k0 : (0 : Int) ≤ k := by omega
                      have k1 : (k : Int) < nk := by omega
                      obtain ⟨b, o, rfl, _, _, _, hc⟩ := (HK1.out.calm HGW.out).cell (by omega)
                      obtain ⟨x1, x2⟩ := hc k hkn
                      have HM := Lib.hid (get_mem (d := ((0, 0) : Ln)) (show k < ks.length by rw [HLK.out]; exact hkn))
                      have HU2 := Lib.hid (show lnOK id (ks[k]?.getD (0, 0)) → ∀ j, j < k + 1 → lnOK id (ks[j]?.getD (0, 0)) from fun h => upto_succ (q := fun j => lnOK id (ks[j]?.getD (0, 0))) HU.out h)
                      have HBAD := Lib.hid (show IsHk (path, ts, es, ks) id a → lnOK id (ks[k]?.getD (0, 0)) from fun h => h.kills _ HM.out)
                      have HSU := Lib.hid (risB_succ (lt := ltLn) ((0, 0) : Ln) ks k)
                      rw [HS.out] at HSU
                      have HRB := Lib.hid (show IsHk (path, ts, es, ks) id a → ∀ K, K + 1 = k → ltLn (ks[K]?.getD (0, 0)) (ks[k]?.getD (0, 0)) = true from fun h K e => by
                        subst e
                        cases hq : ltLn (ks[K]?.getD (0, 0)) (ks[K + 1]?.getD (0, 0)) with
                        | true => rfl
                        | false => exact absurd h.kris (ris_bad linLn (d := ((0, 0) : Ln)) (by show K + 1 < ks.length; rw [HLK.out]; exact hkn) hq))
                      have HPC := Lib.hid (show ∀ K, K + 1 = k → wr.cell? ⟨b, o + K * 2, none⟩ = some (.int .u32 (((ks[K]?.getD (0, 0)).1 : Nat) : Int)) ∧ wr.cell? ⟨b, o + K * 2 + 1, none⟩ = some (.int .i64 (ks[K]?.getD (0, 0)).2) from fun K e => hc K (by omega))
                      clear hc HU HM HS
                      have HEE := Lib.hid (rfl : ks[k]?.getD (0, 0) = ks[k]?.getD (0, 0))
                      generalize hE : ks[k]?.getD ((0, 0) : Ln) = E at *
                      have HE := Lib.hid hE
                      clear hE HEE
                      obtain ⟨e1, e2⟩ := E
                      simp only at x1 x2
                      have q0 := fun z : Later wr => later_cell a3 z
                      have q1 := fun z : Later wr => later_cell x1 z
                      have q2 := fun z : Later wr => later_cell x2 z
                      have hne5 := later_one wr
                      obtain ⟨r1, hr1⟩ := bool_of (Named (e1, e2) id 0 0)
                      have HR1 := Lib.hid hr1
                      clear hr1
                      go_upto_region 22 with fail
                      clear a3 x1 x2
                      by_cases hid : e1 = id
                      · obtain rfl : r = false := no_false HR.out fun h => (HBAD.out h).1 hid
                        have hb1 : ((e1 : Int) == (id : Int)) = true := by rw [hid]; simp
                        clear hid
                        refine region_quiet_in (C := fun x => ∃ z : Later wr, x = z.at_) (by kernel_rfl) (by kernel_rfl) (later_drew wr) ?_
                        repeat (go_big_quiet_step (fail))
                        refine wpQuiet_nil ?_
                        intro w' hw'
                        obtain ⟨z, hz⟩ := hw'
                        subst hz
                        have HG9 := Lib.hid (grownBy_trans HGW.out z.ok)
                        go_wp2
                        go_ret
                        exact ⟨rfl, grownBy_trans HG.out HG9.out⟩
                      · have hb1 : ((e1 : Int) == (id : Int)) = false := by simp; omega
                        have hN := Lib.hid (fun z : Later wr => later_call (fun w' hg => refNamed_c (e1, e2) id 0 0 r1 w' HR1.out) z)
                        have HLN := Lib.hid (show Named (e1, e2) id 0 0 ↔ lnOK id (e1, e2) from ⟨fun h => ⟨hid, h.lo, h.hi⟩, fun h => ⟨h.2.1, h.2.2, fun e => absurd e hid⟩⟩)
                        clear hid
                        cases r1 with
                        | false =>
                          obtain rfl : r = false := no_false HR.out fun h => by have := HR1.out.2 (HLN.out.2 (HBAD.out h)); cases this
                          refine region_quiet_in (C := fun x => ∃ z : Later wr, x = z.at_) (by kernel_rfl) (by kernel_rfl) (later_drew wr) ?_
                          repeat (go_big_quiet_step ((first | (go_at_call 66; exact hN.out _))))
                          refine wpQuiet_nil ?_
                          intro w' hw'
                          obtain ⟨z, hz⟩ := hw'
                          subst hz
                          have HG9 := Lib.hid (grownBy_trans HGW.out z.ok)
                          go_wp2
                          go_ret
                          exact ⟨rfl, grownBy_trans HG.out HG9.out⟩
                        | true =>
                          have HU3 := Lib.hid (HU2.out (HLN.out.1 (HR1.out.1 rfl)))
                          clear HU2
                          rcases Nat.eq_zero_or_pos k with hk0 | hk0
                          · skip
                            have HS2 : Hid (risB ltLn ((0, 0) : Ln) ks (k + 1) = true) := Lib.hid (by rw [HSU.out, hk0]; rfl)
                            have f0 : decide ((0 : Int) < (k : Int)) = false := decide_eq_false (by omega)
                            have f0' : decide (0 < k) = false := decide_eq_false (by omega)
                            clear HSU hk0
                            refine region_quiet_in (C := fun x => ∃ z : Later wr, x = z.at_) (by kernel_rfl) (by kernel_rfl) (later_drew wr) ?_
                            repeat (go_big_quiet_step ((first | (go_at_call 66; exact hN.out _))))
                            refine wpQuiet_nil ?_
                            intro w' hw'
                            obtain ⟨z, hz⟩ := hw'
                            subst hz
                            have HG9 := Lib.hid (grownBy_trans HGW.out z.ok)
                            go_wp2
                            exact ⟨⟨k + 1, by omega, by go_num, HU3, HS2, HG9⟩, by simp [intOf]; omega⟩
                          · obtain ⟨K, rfl⟩ : ∃ K, k = K + 1 := ⟨k - 1, by omega⟩
                            obtain ⟨c1, c2⟩ := HPC.out K rfl
                            have HRB2 := Lib.hid (fun h => HRB.out h K rfl)
                            have HS2 := HSU
                            rw [Nat.add_sub_cancel] at HS2
                            have kw : IntKind.i64.wrap (((K + 1 : Nat) : Int) - 1) = (K : Int) := by rw [IntWalk.i64_in _ (by omega)]; omega
                            have kp : (0 : Int) < ((K + 1 : Nat) : Int) := by omega
                            have K0 : (0 : Int) ≤ K := by omega
                            have K1 : (K : Int) < nk := by omega
                            have HEK := HE
                            clear HRB HSU HPC HE
                            generalize hP : ks[K]?.getD ((0, 0) : Ln) = P at *
                            obtain ⟨p1, p2⟩ := P
                            simp only at c1 c2
                            have q5 := fun z : Later wr => later_cell c1 z
                            have q6 := fun z : Later wr => later_cell c2 z
                            clear hP HEK c1 c2
                            generalize hkk : K + 1 = kk at *
                            have HKK := Lib.hid hkk
                            clear hkk
                            have f0 : decide ((0 : Int) < (kk : Int)) = true := decide_eq_true kp
                            have f0' : decide (0 < kk) = true := decide_eq_true (by have := HKK.out; omega)
                            cases h1 : ltLn (p1, p2) (e1, e2) with
                            | true =>
                              have hT := Lib.hid (fun z : Later wr => later_call (fun w' hg => refLess_c (p1, p2) (e1, e2) true w' h1.symm) z)
                              have HS3 : Hid (risB ltLn ((0, 0) : Ln) ks (kk + 1) = true) := Lib.hid (by rw [HS2.out]; simp [h1])
                              clear h1
                              refine region_quiet_in (C := fun x => ∃ z : Later wr, x = z.at_) (by kernel_rfl) (by kernel_rfl) (later_drew wr) ?_
                              repeat (go_big_quiet_step ((first | (go_at_call 66; exact hN.out _) | (go_at_call 67; with_reducible exact hT.out _))))
                              refine wpQuiet_nil ?_
                              intro w' hw'
                              obtain ⟨z, hz⟩ := hw'
                              subst hz
                              have HG9 := Lib.hid (grownBy_trans HGW.out z.ok)
                              go_wp2
                              exact ⟨⟨kk + 1, by omega, by go_num, HU3, HS3, HG9⟩, by have := HKK.out; simp [intOf]; omega⟩
                            | false =>
                              have hT := Lib.hid (fun z : Later wr => later_call (fun w' hg => refLess_c (p1, p2) (e1, e2) false w' h1.symm) z)
                              obtain rfl : r = false := no_false HR.out fun h => by have := HRB2.out h; rw [h1] at this; cases this
                              clear h1
                              refine region_quiet_in (C := fun x => ∃ z : Later wr, x = z.at_) (by kernel_rfl) (by kernel_rfl) (later_drew wr) ?_
                              repeat (go_big_quiet_step ((first | (go_at_call 66; exact hN.out _) | (go_at_call 67; with_reducible exact hT.out _))))
                              refine wpQuiet_nil ?_
                              intro w' hw'
                              obtain ⟨z, hz⟩ := hw'
                              subst hz
                              have HG9 := Lib.hid (grownBy_trans HGW.out z.ok)
                              go_wp2
                              go_ret
                              exact ⟨rfl, grownBy_trans HG.out HG9.out⟩
                    · obtain rfl : nk = k := by omega
                      have k1 : ¬ ((nk : Int) < nk) := by omega
                      obtain rfl : r = true := HR.out.2 (mk_hk HLA.out HLE.out HLK.out HP0.out (by omega) (by omega) (by omega) HAD.out (by rw [← HTO.out]; exact HED.out) HER.out HU.out HS.out)
                      go_wp2
                      go_ret
                      exact ⟨rfl, grownBy_trans HG.out HGW.out⟩

end Go.Proofs.YtcfhnfnhdhloiaaGreat
