/- The walk of ColimPlain. -/
import Derived.Test.YthmebbnoicldcaaDoorKnow9
namespace Go.Proofs.YthmebbnoicldcaaDoor
open Go.RowKit Go.Shelf

/-- One object alone. -/
theorem colim_one {L : List ByteArray} {P : List (Int × Int)} (h : chk L P = 0) (hl : L.length ≤ 40) : ColV [(L, P)] [] L P [idL L.length] 0 := by
  have hs : stK [(L, P)] [(L, P)].length = L.length := by show 0 + L.length = _; omega
  have hd : diagB [(L, P)] [] = true := diag_mk ⟨by show 1 ≤ 6; decide, by show 0 ≤ 8; decide, fun k hk => (by match k, hk with | 0, _ => exact h), fun a ha => absurd ha (Nat.not_lt_zero _)⟩
  have hc : colR [(L, P)] [] = 0 := by
    unfold colR
    rw [if_neg (by rw [show manyB [(L, P)] [] = false from rfl]; decide), if_neg (by rw [hs]; omega), if_pos hd]
  have hj : joinsD [(L, P)] [] = List.range L.length := by
    unfold joinsD
    rw [hs]
    rfl
  refine ⟨hc.symm, ?_, ?_, ?_⟩
  · rw [if_pos hc, hj]
    exact (labG_range L).symm
  · rw [if_pos hc, hj]
    have e : prsK [(L, P)] [(L, P)].length = P := by
      show [] ++ shP 0 P = P
      rw [List.nil_append]
      unfold shP
      have : (fun x : Int × Int => (((0 : Nat) : Int) + x.1, ((0 : Nat) : Int) + x.2)) = id := by funext x; simp
      rw [this, List.map_id]
    rw [e]
    exact (gluP_range h).symm
  · rw [if_pos hc, hj]
    show _ = [((atZ (List.range L.length)).drop 0).take L.length]
    rw [List.drop_zero, atZ_range, List.take_of_length_le (by rw [idL_len']; exact Nat.le_refl _)]
theorem colim_none : ColV [] [] [] [] [] 0 := ⟨by decide +kernel, by decide +kernel, by decide +kernel, by decide +kernel⟩
def ringN (k : Nat) : List Nd := [(List.replicate k lx, [])]
def turnZ (k i : Nat) : List Int := (List.range i).map fun j => (((j + 1) % k : Nat) : Int)
def ringA (k : Nat) : List Ar := [(0, 0, turnZ k k)]
def ringOK (k : Nat) : Bool := decide (colR (ringN k) (ringA k) = 0) && (decide ((labG (labsK (ringN k) (ringN k).length) (joinsD (ringN k) (ringA k))).length = 1) && (decide ((gluP (joinsD (ringN k) (ringA k)) (prsK (ringN k) (ringN k).length)) = []) && decide ((legD (ringN k) (joinsD (ringN k) (ringA k)) 0) = List.replicate k 0)))
theorem ring_all : ((List.range 6).all fun k => ringOK (k + 2)) = true := by decide +kernel
theorem colim_ring {k : Nat} (h2 : 2 ≤ k) (h7 : k < 8) : ∃ x, ColV (ringN k) (ringA k) [x] [] [List.replicate k 0] 0 := by
  have h := List.all_eq_true.1 ring_all (k - 2) (List.mem_range.2 (by omega))
  rw [show k - 2 + 2 = k by omega] at h
  unfold ringOK at h
  simp only [Bool.and_eq_true, decide_eq_true_eq] at h
  obtain ⟨h1, h2, h3, h4⟩ := h
  obtain ⟨x, hx⟩ := List.length_eq_one_iff.1 h2
  refine ⟨x, h1.symm, ?_, ?_, ?_⟩
  · rw [if_pos h1, hx]
  · rw [if_pos h1, h3]
  · rw [if_pos h1]
    show _ = [legD (ringN k) (joinsD (ringN k) (ringA k)) 0]
    rw [h4]
theorem turnZ_succ (k i : Nat) : turnZ k (i + 1) = turnZ k i ++ [(((i + 1) % k : Nat) : Int)] := by simp [turnZ, List.range_succ]
theorem turnZ_len (k i : Nat) : (turnZ k i).length = i := by simp [turnZ]

/-- While the ring is made. -/
structure PE (w0 W : World) (g base : Nat) (vl vt : Value) (i k : Nat) : Prop where
  gr : w0.grownBy W none
  box : BoxO W g vl (.slice none 0 0)
  ol : W.ownsRow base 9 1 vl i (scells (List.replicate i lx))
  ot : W.ownsRow base 3 1 vt i (zcells (turnZ k i))
  lt : w0.heap.size ≤ g ∧ g < base ∧ base ≤ W.heap.size
theorem PE.calm {w0 W W' : World} {g base i k : Nat} {vl vt : Value} (h : PE w0 W g base vl vt i k) (hg : W.grownBy W' none) : PE w0 W' g base vl vt i k :=
  ⟨grownBy_trans h.gr hg, h.box.calm hg, ownsRow_calm h.ol hg, ownsRow_calm h.ot hg, h.lt.1, h.lt.2.1, Nat.le_trans h.lt.2.2 hg.size⟩

theorem zs_wide9 {w : World} {lo hi n : Nat} {p : Option Addr} {l : List Int} (h : ZsAt w lo hi p n l) : ZsAt w 0 w.heap.size p n l := ⟨h.len, fun hn => by
  obtain ⟨b, off, e, q1, q2, q3, hc⟩ := h.cell hn
  exact ⟨b, off, e, Nat.zero_le _, by omega, Nat.le_refl _, hc⟩⟩
theorem same_self (L : List ByteArray) (P : List (Int × Int)) : (decide (L = L) && decide (P = P)) = true := by simp
theorem dec_self (l : List Int) : decide (l = l) = true := by simp
/-- While what came of one object is held against it. -/
structure QE (W : World) (g g5 g7 bl ol lo hi lo5 hi5 loz hiz : Nat) (p q pa pb pc pd pm : Option Addr) (n c m d ca cb cc cd cm : Nat) (L : List ByteArray) (P : List (Int × Int)) : Prop where
  a : BoxO W g (.slice p n c) (.slice q m d)
  qb : BoxO W g5 (.slice pa n ca) (.slice pb m cb)
  ob : BoxO W g7 (.slice pc 0 cc) (.slice pd 0 cd)
  l : W.cell? ⟨bl, ol, none⟩ = some (.slice pm n cm)
  lt : bl < W.heap.size
  ao : ObjAt W lo hi p n q m L P
  qo : ObjAt W lo5 hi5 pa n pb m L P
  z : ZsAt W loz hiz pm n (idL n)
theorem QE.calm {W W' : World} {g g5 g7 bl ol lo hi lo5 hi5 loz hiz : Nat} {p q pa pb pc pd pm : Option Addr} {n c m d ca cb cc cd cm : Nat} {L : List ByteArray} {P : List (Int × Int)} (h : QE W g g5 g7 bl ol lo hi lo5 hi5 loz hiz p q pa pb pc pd pm n c m d ca cb cc cd cm L P) (hg : W.grownBy W' none) : QE W' g g5 g7 bl ol lo hi lo5 hi5 loz hiz p q pa pb pc pd pm n c m d ca cb cc cd cm L P :=
  ⟨h.a.calm hg, h.qb.calm hg, h.ob.calm hg, cell_calm hg h.l h.lt, Nat.lt_of_lt_of_le h.lt hg.size, h.ao.calm hg, h.qo.calm hg, h.z.calm hg⟩
theorem QE.cells {W : World} {g g5 g7 bl ol lo hi lo5 hi5 loz hiz : Nat} {p q pa pb pc pd pm : Option Addr} {n c m d ca cb cc cd cm : Nat} {L : List ByteArray} {P : List (Int × Int)} (h : QE W g g5 g7 bl ol lo hi lo5 hi5 loz hiz p q pa pb pc pd pm n c m d ca cb cc cd cm L P) :
    W.cell? ⟨g5, 0, none⟩ = some (.slice pa n ca) ∧ W.cell? ⟨g5, 1, none⟩ = some (.slice pb m cb) ∧ W.cell? ⟨g, 0, none⟩ = some (.slice p n c) ∧ W.cell? ⟨g, 1, none⟩ = some (.slice q m d) ∧ W.cell? ⟨bl, ol, none⟩ = some (.slice pm n cm) ∧ W.cell? ⟨g7, 0, none⟩ = some (.slice pc 0 cc) := ⟨h.qb.c0, h.qb.c1, h.a.c0, h.a.c1, h.l, h.ob.c0⟩

set_option maxRecDepth 20000 in
set_option maxHeartbeats 4000000 in
theorem colimPlain_in (p q : Option Addr) (n c m d lo hi t k : Nat) (L : List ByteArray) (P : List (Int × Int)) (w : World) (ho : ObjAt w lo hi p n q m L P) (m1 : n ≤ maxLen) (m2 : p = none → c = 0) (m3 : q = none → d = 0) (htt : t < 256) (hk : t % 6 + 2 = k) (ht : Tab w) :
    Calls Tryd.prog 6 #[.agg #[.slice p n c, .slice q m d], .int .u8 t] w fun e w' => e = .returned (.bool true) ∧ w.grownBy w' none := by
  obtain ⟨i0, hi0, hz0, hz1, hz2⟩ := info_parts Tryd.info9
  obtain ⟨j0, hj0, jz0, jz1, jz2⟩ := info_parts Tryd.infoI3
  have t0 : (0 : Int) ≤ t := by omega
  have t1 : (t : Int) < 256 := by omega
  have hk2 : 2 ≤ k := by omega
  have hk8 : k < 8 := by omega
  have HK := Lib.hid (show (t : Int) % 6 + 2 = (k : Int) by omega)
  have HO := Lib.hid ho
  have HT := Lib.hid ht
  have HOL := Lib.hid ho.ls.len
  have HPL := Lib.hid ho.ps.len
  have M1 := Lib.hid m1
  have M2 := Lib.hid m2
  have M3 := Lib.hid m3
  have hb := BoxO.new w (.slice p n c) (.slice q m d)
  have hg := World.grownBy_alloc w (.cells #[.slice p n c, .slice q m d] 29) none
  clear hk ho ht m1 m2 m3
  go_enter Tryd.func6, Tryd.ntmps6
  go_wp2_with fail
  generalize w.alloc (.cells #[.slice p n c, .slice q m d] 29) = W0 at *
  generalize w.heap.size = g at *
  refine (known9_c W0 (HT.out.grown hg (by simp))).mono ?_
  rintro e w1 ⟨rfl, hg1⟩
  have hb1 := hb.calm hg1
  have HB1 := Lib.hid hb1
  have HG1 := Lib.hid (grownBy_trans hg hg1)
  have x0 := hb1.c0
  have x1 := hb1.c1
  clear hb hg hg1 hb1
  go_wp2_with fail
  cases hfw : fewB L m with
  | false =>
    refine (few_r _ _ _ _ _ _ _ _ L P false _ (HO.out.calm HG1.out) M1.out hfw).mono ?_
    rintro e w2 ⟨rfl, hg⟩
    have HG := Lib.hid (grownBy_trans HG1.out hg)
    clear hg hfw
    go_wp2
    go_ret
    exact ⟨rfl, HG.out⟩
  | true =>
    have hsm := few_small hfw
    rw [HOL.out] at hsm
    refine (few_r _ _ _ _ _ _ _ _ L P true _ (HO.out.calm HG1.out) M1.out hfw).mono ?_
    rintro e w2 ⟨rfl, hg⟩
    have hb2 := HB1.out.calm hg
    have HB2 := Lib.hid hb2
    have HG2 := Lib.hid (grownBy_trans HG1.out hg)
    have HFW := Lib.hid hfw
    clear x0 x1
    have x0 := hb2.c0
    have x1 := hb2.c1
    clear hg hfw hb2 HB1 HG1
    go_wp2_with fail
    cases hck : (chk L P == 0) with
    | false =>
      refine (refIs_c p q n c m d _ _ L P false _ (HO.out.calm HG2.out) (by omega) hck).mono ?_
      rintro e w3 ⟨rfl, hg⟩
      have HG := Lib.hid (grownBy_trans HG2.out hg)
      clear hg hck
      go_wp2
      go_ret
      exact ⟨rfl, HG.out⟩
    | true =>
      have hck0 : chk L P = 0 := by simpa using hck
      have hn40 : n ≤ 40 := by have := lab_small (chk_in hck0).1; rw [HOL.out] at this; exact this
      have HCK := Lib.hid hck0
      refine (refIs_c p q n c m d _ _ L P true _ (HO.out.calm HG2.out) (by omega) hck).mono ?_
      rintro e w3 ⟨rfl, hg⟩
      have hb3 := HB2.out.calm hg
      have HB3 := Lib.hid hb3
      have HG3 := Lib.hid (grownBy_trans HG2.out hg)
      clear x0 x1
      have x0 := hb3.c0
      have x1 := hb3.c1
      clear hg hck hb3 HB2 HG2 hck0
      go_wp2_with fail
      have hga := World.grownBy_alloc w3 (.cells #[.slice p n c, .slice q m d] 29) none
      have hnb := heap_alloc_new w3 (.cells #[.slice p n c, .slice q m d] 29)
      have hlt : w3.heap.size < (w3.alloc (.cells #[.slice p n c, .slice q m d] 29)).heap.size := by simp
      have hb4 := HB3.out.calm hga
      have HB4 := Lib.hid hb4
      have HG4 := Lib.hid (grownBy_trans HG3.out hga)
      generalize w3.alloc (.cells #[.slice p n c, .slice q m d] 29) = w4 at *
      have hnod := nodes_of (g := w3.heap.size) (lo := 0) (hi := w4.heap.size) (xs := [(L, P)]) (vs := [.slice p n c, .slice q m d]) hnb (Nat.zero_le _) hlt (Nat.le_refl _) (fun j hj => by
        match j, hj with
        | 0, _ => exact ⟨_, _, _, _, _, _, rfl, rfl, objAt_wide (HO.out.calm HG4.out), M1.out, M2.out, M3.out⟩)
      generalize w3.heap.size = g3 at *
      have hfew : DFew [(L, P)] [] := ⟨by show 1 ≤ 10; decide, fun j hj => (by match j, hj with | 0, _ => exact ⟨(few_small HFW.out).1, by show P.length ≤ 200; rw [HPL.out]; exact hsm.2⟩), by show 0 ≤ 12; decide, fun a ha => absurd ha (Nat.not_lt_zero _)⟩
      clear hga hnb hlt hb4 HB3 HG3 x0 x1
      refine (of9_v _ _ 1 1 0 0 _ _ 0 0 [(L, P)] [] L P [idL L.length] 0 w4 (colim_one HCK.out (by rw [HOL.out]; exact hn40)) hnod (arrsAt_nil _ _ _) hfew (HT.out.grown HG4.out (by simp))).mono ?_
      rintro e w5 ⟨u, v, pl, cl, rfl, hob, hlg, hg5⟩
      obtain ⟨pa, ca, pb, cb, rfl, rfl, hoat, _, _⟩ := hob.form
      rw [show ([idL L.length] : List (List Int)).length = 1 from rfl] at *
      rw [HOL.out] at hoat
      rw [HOL.out, HPL.out]
      rw [HPL.out] at hoat
      have hga := World.grownBy_alloc w5 (.cells #[.slice pa n ca, .slice pb m cb] 29) none
      have hbx := BoxO.new w5 (.slice pa n ca) (.slice pb m cb)
      have HB6 := Lib.hid ((HB4.out.calm hg5).calm hga)
      have HG6 := Lib.hid (grownBy_trans HG4.out (grownBy_trans hg5 hga))
      have HQ6 := Lib.hid (hoat.calm hga)
      have HL6 := Lib.hid (hlg.calm hga)
      have HBX := Lib.hid hbx
      clear hob hoat hlg hg5 hga hbx hnod hfew HB4 HG4
      go_upto_region 6 with fail
      generalize w5.alloc (.cells #[.slice pa n ca, .slice pb m cb] 29) = w6 at *
      generalize w5.heap.size = g5 at *
      go_wp2_with fail
      refine (of9_v none none 0 0 0 0 0 0 0 0 [] [] [] [] [] 0 w6 colim_none (nodesAt_nil _ _ _) (arrsAt_nil _ _ _) ⟨by decide, by decide, by decide, by decide⟩ (HT.out.grown HG6.out (by simp))).mono ?_
      rintro e w7 ⟨u, v, pl2, cl2, rfl, hob, hlg, hg7⟩
      obtain ⟨pc, cc, pd, cd, rfl, rfl, hoat, _, _⟩ := hob.form
      rw [show ([] : List (List Int)).length = 0 from rfl] at *
      rw [show ([] : List ByteArray).length = 0 from rfl] at *
      rw [show ([] : List (Int × Int)).length = 0 from rfl] at *
      have hga := World.grownBy_alloc w7 (.cells #[.slice pc 0 cc, .slice pd 0 cd] 29) none
      have hbx2 := BoxO.new w7 (.slice pc 0 cc) (.slice pd 0 cd)
      have hb8 := (HB6.out.calm hg7).calm hga
      have hbx := (HBX.out.calm hg7).calm hga
      have HG8 := Lib.hid (grownBy_trans HG6.out (grownBy_trans hg7 hga))
      have HQ8 := Lib.hid ((HQ6.out.calm hg7).calm hga)
      have hl8 := (HL6.out.calm hg7).calm hga
      have HB8 := Lib.hid hb8
      have HBX8 := Lib.hid hbx
      have HBY8 := Lib.hid hbx2
      obtain ⟨bl, ol, rfl, _, r2, r3, hcl⟩ := hl8.cell (by decide)
      obtain ⟨pm, nm, cm, l0, z0⟩ := hcl 0 (by decide)
      rw [show ol + 0 = ol from rfl] at l0
      have z0' : ZsAt (w7.alloc (.cells #[.slice pc 0 cc, .slice pd 0 cd] 29)) _ _ pm nm (idL L.length) := z0
      rw [HOL.out] at z0'
      have hnm : nm = n := by rw [← z0'.len, idL_len']
      subst hnm
      have HZ0 := Lib.hid z0'
      clear hob hoat hlg hg7 hga hl8 hcl z0 z0' HQ6 HL6 HBX HB6 HG6
      go_upto_region 7 with fail
      generalize w7.alloc (.cells #[.slice pc 0 cc, .slice pd 0 cd] 29) = w8 at *
      generalize w7.heap.size = g7 at *
      have henv0 : QE w8 g g5 g7 bl ol _ _ _ _ _ _ p q pa pb pc pd pm nm c m d ca cb cc cd cm L P := ⟨HB8.out, HBX8.out, HBY8.out, l0, by omega, HO.out.calm HG8.out, HQ8.out, HZ0.out⟩
      have hgd : w8.grownBy w8.drew none := grownBy_drewN w8 1 none
      have henv := henv0.calm hgd
      have hbx := henv.cells
      have HGD := Lib.hid (grownBy_trans HG8.out hgd)
      have hid := Lib.hid (idN_nat (n := nm) (by omega))
      have hm6 : m ≤ 1000000 := by omega
      have hn6 : nm ≤ 1000000 := by omega
      clear hgd henv0 l0 HB8 HBX8 HBY8 HQ8 HZ0
      go_wp2
      go_region_held3 (fun w' => w'.cell? ⟨g5, 0, none⟩ = some (.slice pa nm ca) ∧ w'.cell? ⟨g5, 1, none⟩ = some (.slice pb m cb) ∧ w'.cell? ⟨g, 0, none⟩ = some (.slice p nm c) ∧ w'.cell? ⟨g, 1, none⟩ = some (.slice q m d) ∧ w'.cell? ⟨bl, ol, none⟩ = some (.slice pm nm cm) ∧ w'.cell? ⟨g7, 0, none⟩ = some (.slice pc 0 cc)) (first | exact hbx | go_keep)
        (first
        | (go_at_call 18; (with_reducible refine (refSame_r pa pb p q nm ca m cb nm c m d _ _ _ _ L L P P true _ henv.qo henv.ao hn6 hm6 (same_self L P)).mono ?_); rintro e wA ⟨rfl, hgA⟩; have henv := henv.calm hgA; have hbx := henv.cells)
        | (go_at_call 23; (with_reducible refine (ident_c (nm : Int) nm _ hid.out).mono ?_); rintro e wB ⟨gB, rfl, hgB0, hrB, hgB⟩; have henv := henv.calm hgB; have hbx := henv.cells)
        | (go_at_call 16; (with_reducible refine (arSame_r pm (some ⟨gB, 0, none⟩) nm (idL nm).length _ _ _ _ _ _ (idL nm) (idL nm) true _ henv.z hrB.at1 hn6 (dec_self (idL nm))).mono ?_); rintro e wC ⟨rfl, hgC⟩; have henv := henv.calm hgC; have hbx := henv.cells))
      have HGE := Lib.hid (grownBy_trans HGD.out (grownBy_trans hgA (grownBy_trans hgB hgC)))
      have hnb := BoxO.new wC (.slice none 0 0) (.slice none 0 0)
      have hga := World.grownBy_alloc wC (.cells #[.slice none 0 0, .slice none 0 0] 29) none
      have HP0 : Hid (PE wC (wC.alloc (.cells #[.slice none 0 0, .slice none 0 0] 29)) wC.heap.size (wC.heap.size + 1) (.slice none 0 0) (.slice none 0 0) 0 k) := Lib.hid ⟨hga, hnb, World.ownsRow_nil _ _ _ _, World.ownsRow_nil _ _ _ _, Nat.le_refl _, Nat.lt_succ_self _, by simp⟩
      clear henv hbx hgA hgB hgC hrB hgB0 hnb hga HGD
      go_wp2_with fail
      rw [HK.out]
      generalize hgw : wC.heap.size = gw at *
      have HGW := Lib.hid hgw
      clear hgw
      go_loopw [13, 14] (fun st si wr => ∃ (vl : Value) (gt ct i : Nat) (pt : Option Addr), i ≤ k ∧ st = .slice pt i ct ∧ si = .int .i64 i ∧ PE wC wr gw (gw + 1) vl (.slice pt i ct) i k) (fun _ si _ => k - (intOf si).toNat)
      case atStart => exact ⟨_, 0, 0, 0, none, Nat.zero_le _, rfl, rfl, HP0.out⟩
      case round =>
        obtain ⟨vl, _, ct, i, pt, hi, rfl, rfl, hpe⟩ := hrel
        have HPE := Lib.hid hpe
        by_cases hik : i < k
        · have i0' : (0 : Int) ≤ i := by omega
          have i1 : (i : Int) < k := by omega
          have k00 : (0 : Int) < k := by omega
          obtain ⟨pl', cl', rfl⟩ := ownsRow_sl hpe.ol
          have hga := World.grownBy_alloc wr (.cells #[.string ⟨#[120]⟩] 9) none
          have hpa := hpe.calm hga
          have x0 := hpe.box.c0
          have HPA := Lib.hid hpa
          have hz := hpe.lt
          clear hpe HP0
          go_upto_region 16 with (at_builtin; refine wpList_append_own _ rfl _ _ 26 rfl (gw + 1) 9 i0 (.string .empty) 1 16 Tryd.underlying26 hi0 hz0 hz1 hz2 rfl (by decide) (.slice pl' i cl') i (scells (List.replicate i lx)) rfl HPA.out.ol ⟨wr.heap.size, 0, none⟩ 1 1 [.string ⟨#[120]⟩] rfl rfl (World.news_of_block (heap_new wr _)) (by simp [Value.oneCell']) (by unfold maxLen; omega) (by omega) (by simp only [World.size_alloc]; omega) ?_; intro v' w2 hown' hgrow _; obtain ⟨p6, c6, rfl⟩ := ownsRow_sl hown'; have hbx := HPA.out.box.other hgrow (ne_own HPA.out.ol HPA.out.box (by decide)); have xf := hbx.free 0; have xc := hbx.c0; have HOW := Lib.hid hown'; have HGR := Lib.hid hgrow; have HBX2 := Lib.hid hbx; clear hown' hgrow hbx)
          have HP2 : Hid (PE wC (w2.setCell ⟨gw, 0, none⟩ (.slice p6 (i + 1) c6)) gw (gw + 1) (.slice p6 (i + 1) c6) (.slice pt i ct) i k → False ∨ True) := Lib.hid (fun _ => .inr trivial)
          have HBX3 := Lib.hid (HBX2.out.set0 (.slice p6 (i + 1) c6))
          have HOL3 : Hid ((w2.setCell ⟨gw, 0, none⟩ (.slice p6 (i + 1) c6)).ownsRow (gw + 1) 9 1 (.slice p6 (i + 1) c6) (i + 1) (scells (List.replicate (i + 1) lx))) := Lib.hid (by
            have := ownsRow_set HOW.out (p := ⟨gw, 0, none⟩) (Nat.lt_succ_self _) (.slice p6 (i + 1) c6)
            rw [List.replicate_succ', scells_app]
            exact this)
          have HOT3 := Lib.hid (ownsRow_set (own_other HPA.out.ot HPA.out.ol (by decide) HGR.out) (p := ⟨gw, 0, none⟩) (Nat.lt_succ_self _) (.slice p6 (i + 1) c6))
          have HG3 := Lib.hid (grownBy_setCell_new (p := ⟨gw, 0, none⟩) (.slice p6 (i + 1) c6) (ownsRow_new2 HPA.out.gr HPA.out.ol (by rw [HGW.out]; omega) HGR.out) (by show wC.heap.size ≤ gw; rw [HGW.out]; exact Nat.le_refl _))
          have hs3 : gw + 1 ≤ (w2.setCell ⟨gw, 0, none⟩ (.slice p6 (i + 1) c6)).heap.size := by
            have h1 := HPA.out.lt.2.2
            have h2 := HGR.out.size
            have h3 := (grownBy_setCell w2 ⟨gw, 0, none⟩ (.slice p6 (i + 1) c6)).size
            omega
          clear HP2 x0 xf xc HBX2 HOW HGR HPA HPE
          generalize w2.setCell ⟨gw, 0, none⟩ (.slice p6 (i + 1) c6) = w3' at *
          obtain ⟨y, hy⟩ : ∃ y, y = (i + 1) % k := ⟨_, rfl⟩
          have hmod : ((i : Int) + 1) % (k : Int) = (y : Int) := by rw [hy]; rfl
          have HTS : Hid (turnZ k (i + 1) = turnZ k i ++ [(y : Int)]) := Lib.hid (by rw [turnZ_succ, hy])
          have hga2 := World.grownBy_alloc w3' (.cells #[.int .i64 (y : Int)] 3) none
          have HBX4 := Lib.hid (HBX3.out.calm hga2)
          have HOL4 := Lib.hid (ownsRow_calm HOL3.out hga2)
          have HOT4 := Lib.hid (ownsRow_calm HOT3.out hga2)
          have HG4 := Lib.hid (grownBy_trans HG3.out hga2)
          clear hy hga2 HBX3 HOL3 HOT3 HG3
          go_wp2_with (at_builtin; refine wpList_append_own _ rfl _ _ 31 rfl (gw + 1) 3 j0 (.int .i64 0) 1 8 Tryd.underlying31 hj0 jz0 jz1 jz2 rfl (by decide) (.slice pt i ct) i (zcells (turnZ k i)) rfl HOT4.out ⟨w3'.heap.size, 0, none⟩ 1 1 [.int .i64 (y : Int)] rfl rfl (World.news_of_block (heap_new w3' _)) (by simp [Value.oneCell']) (by unfold maxLen; omega) (by omega) (by simp only [World.size_alloc]; omega) ?_; intro v' w5 hown' hgrow _; obtain ⟨p7, c7, rfl⟩ := ownsRow_sl hown'; have HOW := Lib.hid hown'; have HGR := Lib.hid hgrow; clear hown' hgrow)
          refine ⟨⟨.slice p6 (i + 1) c6, 0, c7, i + 1, p7, by omega, by go_num, by go_num, ⟨ownsRow_new2 HG4.out HOT4.out (by rw [HGW.out]; omega) HGR.out, HBX4.out.other HGR.out (ne_own HOT4.out HBX4.out (by decide)), own_other HOL4.out HOT4.out (by decide) HGR.out, ?_, by rw [HGW.out]; exact Nat.le_refl _, Nat.lt_succ_self _, ?_⟩⟩, by simp [intOf]; omega⟩
          · rw [HTS.out, zcells_snoc]
            exact HOW.out
          · have h1 := HGR.out.size
            rw [World.size_alloc] at h1
            omega
        · obtain rfl : i = k := by omega
          have i1 : ¬ ((i : Int) < i) := by omega
          clear HP0
          obtain ⟨pl', cl', rfl⟩ := ownsRow_sl hpe.ol
          have x0 := hpe.box.c0
          have x1 := hpe.box.c1
          have hst : StrsAt wr (gw + 1) wr.heap.size pl' i (List.replicate i lx) := by
            have h1 := hpe.ol
            have h2 : (List.replicate i lx).length = i := List.length_replicate
            rw [← h2] at h1
            obtain ⟨p9, c9, e9, h9⟩ := strsAt_own (l := List.replicate i lx) (by simpa using h1)
            rw [h2] at e9 h9
            cases e9
            exact h9
          have hzt : ZsAt wr (gw + 1) wr.heap.size pt i (turnZ i i) := by
            have h1 := hpe.ot
            have h2 : (turnZ i i).length = i := turnZ_len i i
            obtain ⟨p9, c9, e9, h9⟩ := zsAt_own (l := turnZ i i) (by rw [h2]; exact h1)
            rw [h2] at e9 h9
            cases e9
            exact h9
          have hpn : pl' = none → cl' = 0 := fun e => by
            obtain ⟨b, off, e2, _⟩ := hst.cell (by omega)
            rw [e] at e2
            cases e2
          have HGR := Lib.hid hpe.gr
          have HST := Lib.hid hst
          have HZT := Lib.hid hzt
          have HPN := Lib.hid hpn
          clear hpe hst hzt hpn
          go_wp2_with fail
          change Calls _ _ _ (allocL wr [.cells #[.slice pl' i cl', .slice none 0 0] 29, .cells #[.int .i64 0, .int .i64 0, .slice pt i ct] 50]) _
          obtain ⟨hg7, hb7⟩ := allocL_facts [.cells #[.slice pl' i cl', .slice none 0 0] 29, .cells #[.int .i64 0, .int .i64 0, .slice pt i ct] 50] wr
          generalize allocL wr [.cells #[.slice pl' i cl', .slice none 0 0] 29, .cells #[.int .i64 0, .int .i64 0, .slice pt i ct] 50] = W7 at *
          have hb0 : W7.heap[wr.heap.size]? = _ := hb7 0 (by simp)
          have hb1 : W7.heap[wr.heap.size + 1]? = _ := hb7 1 (by simp)
          have hlt : wr.heap.size + 1 < W7.heap.size := (Array.getElem?_eq_some_iff.1 hb1).1
          have hnod := nodes_of (g := wr.heap.size) (lo := 0) (hi := W7.heap.size) (xs := ringN i) (vs := [.slice pl' i cl', .slice none 0 0]) hb0 (Nat.zero_le _) (by omega) (Nat.le_refl _) (fun j hj => by
            match j, hj with
            | 0, _ => exact ⟨_, _, _, _, _, _, rfl, rfl, objAt_wide ⟨HST.out.calm hg7, pairsAt_nil _ _ _⟩, by unfold maxLen; omega, HPN.out, fun _ => rfl⟩)
          have harr := arrs_of (g := wr.heap.size + 1) (lo := 0) (hi := W7.heap.size) (xs := ringA i) (vs := [.int .i64 0, .int .i64 0, .slice pt i ct]) hb1 (Nat.zero_le _) (by omega) (Nat.le_refl _) (fun j hj => by
            match j, hj with
            | 0, _ => exact ⟨_, _, _, rfl, rfl, rfl, zs_wide9 (HZT.out.calm hg7)⟩)
          have hfew : DFew (ringN i) (ringA i) := ⟨by show 1 ≤ 10; decide, fun j hj => (by match j, hj with | 0, _ => exact ⟨by show (List.replicate i lx).length ≤ 50; rw [List.length_replicate]; omega, by show 0 ≤ 200; decide⟩), by show 1 ≤ 12; decide, fun j hj => (by match j, hj with | 0, _ => show (turnZ i i).length ≤ 60; rw [turnZ_len]; omega)⟩
          obtain ⟨x, hcol⟩ := colim_ring hk2 hk8
          have hht := HT.out.grown (grownBy_trans HGE.out (grownBy_trans HGR.out hg7)) (by simp)
          refine (of9_v _ _ 1 1 1 1 _ _ _ _ (ringN i) (ringA i) [x] [] [List.replicate i 0] 0 W7 hcol hnod harr hfew hht).mono ?_
          rintro e w9 ⟨u, v, pl3, cl3, rfl, hob, hlg, hg9⟩
          obtain ⟨pe, ce, pf, cf, rfl, rfl, _, _, _⟩ := hob.form
          rw [show ([List.replicate i 0] : List (List Int)).length = 1 from rfl] at *
          rw [show ([x] : List ByteArray).length = 1 from rfl]
          rw [show ([] : List (Int × Int)).length = 0 from rfl]
          have hga := World.grownBy_alloc w9 (.cells #[.slice pe 1 ce, .slice pf 0 cf] 29) none
          have hbx := BoxO.new w9 (.slice pe 1 ce) (.slice pf 0 cf)
          have HG9 := Lib.hid (grownBy_trans HGE.out (grownBy_trans HGR.out (grownBy_trans hg7 (grownBy_trans hg9 hga))))
          have hl9 := hlg.calm hga
          obtain ⟨bl', ol', rfl, _, _, _, hcl⟩ := hl9.cell (by decide)
          obtain ⟨pm', nm', cm', l0, z0⟩ := hcl 0 (by decide)
          rw [show ol' + 0 = ol' from rfl] at l0
          have z0' : ZsAt (w9.alloc (.cells #[.slice pe 1 ce, .slice pf 0 cf] 29)) _ _ pm' nm' (List.replicate i 0) := z0
          have hnm : nm' = i := by rw [← z0'.len, List.length_replicate]
          subst hnm
          obtain ⟨bm, om, rfl, _, _, _, hcm⟩ := z0'.cell (by omega)
          have y9 := hcm (nm' - 1) (by omega)
          rw [List.getElem?_replicate, if_pos (by omega)] at y9
          have y9' : (w9.alloc (.cells #[.slice pe 1 ce, .slice pf 0 cf] 29)).cell? ⟨bm, om + (nm' - 1), none⟩ = some (.int .i64 0) := y9
          have y0 := hbx.c0
          clear hob hlg hg9 hga hbx hl9 hcl z0 z0' hcm y9 hcol hnod harr hfew hht hb0 hb1 hlt hg7 hb7 x0 x1 HST HZT HPN HGR HGE HK
          obtain ⟨j, rfl⟩ : ∃ j, nm' = j + 1 := ⟨nm' - 1, by omega⟩
          rw [Nat.add_sub_cancel] at y9'
          have j1 : (0 : Int) ≤ j := by omega
          have j2 : (j : Int) < (j : Int) + 1 := by omega
          have j3 : (j : Int) ≤ 8 := by omega
          go_wp2
          go_ret
          exact ⟨rfl, HG9.out⟩

end Go.Proofs.YthmebbnoicldcaaDoor
