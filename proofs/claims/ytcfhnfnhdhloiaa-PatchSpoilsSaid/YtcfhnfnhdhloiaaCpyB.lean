/- PatchCopies: a copy of a patch goes its own way: the walk. -/
import Derived.Test.YtcfhnfnhdhloiaaCpyA
import Derived.Test.YtcfhnfnhdhloiaaKnow12
import Derived.Test.YtcfhnfnhdhloiaaArgT
namespace Go.Proofs.Ytcfhnfnhdhloiaa
open Go.RowKit

theorem BoxV.keepT {w : World} {g : Nat} {vs : List Value} {t : TypeId} (h : BoxV w g vs t) {b : Nat} {cur : Array Value} {t' : TypeId} (hb : w.heap[b]? = some (.cells cur t' (0, 0))) (ht : t ≠ t') (o : Nat) (v : Value) : BoxV (w.setCell ⟨b, o, none⟩ v) g vs t :=
  h.keepSet (fun e => by
    unfold BoxV at h
    rw [e, hb] at h
    exact ht (Obj.cells.inj (Option.some.inj h)).2.1.symm) o v
theorem PtAt.set {w : World} {lo hi id nd cd nm cm nx cx nh ch : Nat} {pd pm px ph : Option Addr} {p : Pt} (h : PtAt w lo hi id pd nd cd pm nm cm px nx cx ph nh ch p) {b : Nat} (hb : b < lo ∨ hi ≤ b) (o : Nat) (v : Value) : PtAt (w.setCell ⟨b, o, none⟩ v) lo hi id pd nd cd pm nm cm px nx cx ph nh ch p :=
  h.stay ⟨by simp, fun i h1 h2 => heap_set_ne w b o v (by omega)⟩
theorem Row0.low {w : World} {lo lo' hi : Nat} {t : TypeId} {size n c : Nat} {p : Option Addr} (h : Row0 w lo hi t size p n c) (hl : lo' ≤ lo) : Row0 w lo' hi t size p n c := by
  rcases h with h | ⟨g, cur, h1, h2, h3⟩
  · exact .inl h
  · exact .inr ⟨g, cur, h1, Nat.le_trans hl h2, h3⟩
theorem QAt.low {w : World} {lo lo' hi nd : Nat} {p1 : Option Addr} {c1 nm : Nat} {p2 : Option Addr} {c2 nh g4 : Nat} {A E K : Nat → Option Addr × Nat × Nat} (q : QAt w lo hi nd p1 c1 nm p2 c2 nh g4 A E K) (hl : lo' ≤ lo) : QAt w lo' hi nd p1 c1 nm p2 c2 nh g4 A E K :=
  ⟨q.d.low hl, q.m.low hl, fun hn => ⟨Nat.le_trans hl (q.h hn).1, (q.h hn).2⟩, fun i hi => (q.a i hi).low hl, fun i hi => (q.e i hi).low hl, fun i hi => (q.k i hi).low hl⟩

/-! Five cells of a box. -/
def set5 (w : World) (b : Nat) (v0 v1 v2 v3 v4 : Value) : World := ((((w.setCell ⟨b, 0, none⟩ v0).setCell ⟨b, 1, none⟩ v1).setCell ⟨b, 2, none⟩ v2).setCell ⟨b, 3, none⟩ v3).setCell ⟨b, 4, none⟩ v4
section
variable {w w0 : World}
theorem BoxV.set5 {b : Nat} {u0 u1 u2 u3 u4 : Value} {t : TypeId} (h : BoxV w b [u0, u1, u2, u3, u4] t) (v0 v1 v2 v3 v4 : Value) : BoxV (set5 w b v0 v1 v2 v3 v4) b [v0, v1, v2, v3, v4] t :=
  ((((h.set 0 v0).set 1 v1).set 2 v2).set 3 v3).set 4 v4
theorem BoxV.set5_ne {g b : Nat} {vs : List Value} {t : TypeId} (h : BoxV w g vs t) (hb : g ≠ b) (v0 v1 v2 v3 v4 : Value) : BoxV (Go.Proofs.Ytcfhnfnhdhloiaa.set5 w b v0 v1 v2 v3 v4) g vs t :=
  ((((h.keepSet hb 0 v0).keepSet hb 1 v1).keepSet hb 2 v2).keepSet hb 3 v3).keepSet hb 4 v4
theorem grownBy_set5 (h : w0.grownBy w none) {b : Nat} (hb : w0.heap.size ≤ b) (v0 v1 v2 v3 v4 : Value) : w0.grownBy (set5 w b v0 v1 v2 v3 v4) none :=
  grownBy_setNew (grownBy_setNew (grownBy_setNew (grownBy_setNew (grownBy_setNew h hb 0 v0) hb 1 v1) hb 2 v2) hb 3 v3) hb 4 v4
theorem le_set5 {n : Nat} (h : n ≤ w.heap.size) (b : Nat) (v0 v1 v2 v3 v4 : Value) : n ≤ (set5 w b v0 v1 v2 v3 v4).heap.size := by unfold set5; simpa using h
theorem PtAt.set5 {lo hi id nd cd nm cm nx cx nh ch : Nat} {pd pm px ph : Option Addr} {p : Pt} (h : PtAt w lo hi id pd nd cd pm nm cm px nx cx ph nh ch p) {b : Nat} (hb : b < lo ∨ hi ≤ b) (v0 v1 v2 v3 v4 : Value) : PtAt (Go.Proofs.Ytcfhnfnhdhloiaa.set5 w b v0 v1 v2 v3 v4) lo hi id pd nd cd pm nm cm px nx cx ph nh ch p :=
  ((((h.set hb 0 v0).set hb 1 v1).set hb 2 v2).set hb 3 v3).set hb 4 v4
theorem QAt.set5 {lo hi nd : Nat} {p1 : Option Addr} {c1 nm : Nat} {p2 : Option Addr} {c2 nh g4 : Nat} {A E K : Nat → Option Addr × Nat × Nat} (q : QAt w lo hi nd p1 c1 nm p2 c2 nh g4 A E K) {b : Nat} {u0 u1 u2 u3 u4 : Value} (hb : BoxV w b [u0, u1, u2, u3, u4] 27) (v0 v1 v2 v3 v4 : Value) : QAt (Go.Proofs.Ytcfhnfnhdhloiaa.set5 w b v0 v1 v2 v3 v4) lo hi nd p1 c1 nm p2 c2 nh g4 A E K :=
  have h0 := hb.set 0 v0
  have h1 := h0.set 1 v1
  have h2 := h1.set 2 v2
  have h3 := h2.set 3 v3
  ((((q.set hb (by decide) 0 v0).set h0 (by decide) 1 v1).set h1 (by decide) 2 v2).set h2 (by decide) 3 v3).set h3 (by decide) 4 v4
end

/-- What lies while the copy is written over. -/
structure CpS (w wr : World) (lo s1 s2 s3 id nd nm nx nh : Nat) (p : Pt) (bp : Nat) (vp : List Value) (b3 b4 : Nat) (p1 : Option Addr) (c1 : Nat) (p2 : Option Addr) (c2 : Nat) (p3 : Option Addr) (c3 : Nat) (p4 : Option Addr) (c4 : Nat) (r1 : Option Addr) (d1 : Nat) (r2 : Option Addr) (d2 : Nat) (r3 : Option Addr) (d3 : Nat) (r4 : Option Addr) (d4 : Nat) (g4 : Nat) (A E K : Nat → Option Addr × Nat × Nat) : Prop where
  box : BoxV wr bp vp 27
  b3 : BoxV wr b3 [.int .u32 (id : Int), .slice p1 nd c1, .slice p2 nm c2, .slice p3 nx c3, .slice p4 nh c4] 27
  b4 : BoxV wr b4 [.int .u32 (id : Int), .slice r1 nd d1, .slice r2 nm d2, .slice r3 nx d3, .slice r4 nh d4] 27
  q : QAt wr lo s1 nd p1 c1 nm p2 c2 nh g4 A E K
  r : PtAt wr s2 s3 id r1 nd d1 r2 nm d2 r3 nx d3 r4 nh d4 p
  s12 : s1 ≤ s2
  gr : w.grownBy wr none
  lw : w.heap.size ≤ lo
  ln : ∀ i, i < nh → (A i).2.1 ≤ 100 ∧ (E i).2.1 ≤ 100 ∧ (K i).2.1 ≤ 100
section
variable {w wr : World} {lo s1 s2 s3 id nd nm nx nh : Nat} {p : Pt} {bp : Nat} {vp : List Value} {b3 b4 : Nat} {p1 : Option Addr} {c1 : Nat} {p2 : Option Addr} {c2 : Nat} {p3 : Option Addr} {c3 : Nat} {p4 : Option Addr} {c4 : Nat} {r1 : Option Addr} {d1 : Nat} {r2 : Option Addr} {d2 : Nat} {r3 : Option Addr} {d3 : Nat} {r4 : Option Addr} {d4 : Nat} {g4 : Nat} {A E K : Nat → Option Addr × Nat × Nat}
theorem CpS.set (h : CpS w wr lo s1 s2 s3 id nd nm nx nh p bp vp b3 b4 p1 c1 p2 c2 p3 c3 p4 c4 r1 d1 r2 d2 r3 d3 r4 d4 g4 A E K) {b : Nat} {cur : Array Value} {t : TypeId} (hb : wr.heap[b]? = some (.cells cur t (0, 0))) (ht : 34 ≠ t) (ht' : 27 ≠ t) (hl : lo ≤ b) (hs : b < s1) (o : Nat) (v : Value) : CpS w (wr.setCell ⟨b, o, none⟩ v) lo s1 s2 s3 id nd nm nx nh p bp vp b3 b4 p1 c1 p2 c2 p3 c3 p4 c4 r1 d1 r2 d2 r3 d3 r4 d4 g4 A E K :=
  ⟨h.box.keepT hb ht' o v, h.b3.keepT hb ht' o v, h.b4.keepT hb ht' o v, h.q.set hb ht o v, h.r.set (.inl (Nat.lt_of_lt_of_le hs h.s12)) o v, h.s12, grownBy_setNew h.gr (Nat.le_trans h.lw hl) o v, h.lw, h.ln⟩
theorem CpS.path (h : CpS w wr lo s1 s2 s3 id nd nm nx nh p bp vp b3 b4 p1 c1 p2 c2 p3 c3 p4 c4 r1 d1 r2 d2 r3 d3 r4 d4 g4 A E K) (i : Nat) (hn : 0 < nh) (v : Value) : CpS w (wr.setCell ⟨g4, i * 4, none⟩ v) lo s1 s2 s3 id nd nm nx nh p bp vp b3 b4 p1 c1 p2 c2 p3 c3 p4 c4 r1 d1 r2 d2 r3 d3 r4 d4 g4 A E K := by
  obtain ⟨h1, h2, cur, h3, _⟩ := h.q.h hn
  exact ⟨h.box.keepT h3 (by decide) _ v, h.b3.keepT h3 (by decide) _ v, h.b4.keepT h3 (by decide) _ v, h.q.path i v, h.r.set (.inl (Nat.lt_of_lt_of_le h2 h.s12)) _ v, h.s12, grownBy_setNew h.gr (Nat.le_trans h.lw h1) _ v, h.lw, h.ln⟩
end


set_option maxRecDepth 10000 in
set_option maxHeartbeats 64000000 in
theorem copies_c (id : Nat) (pd : Option Addr) (nd cd : Nat) (pm : Option Addr) (nm cm : Nat) (px : Option Addr) (nx cx : Nat) (ph : Option Addr) (nh ch : Nat) (p : Pt) (w : World)
    (h : PArg w id pd nd cd pm nm cm px nx cx ph nh ch p) :
    Calls Try.prog 3 #[.agg #[.int .u32 (id : Int), .slice pd nd cd, .slice pm nm cm, .slice px nx cx, .slice ph nh ch]] w fun e w' => e = .returned (.bool true) ∧ w.grownBy w' none := by
  have HB := Lib.hid (BoxV.new w [.int .u32 (id : Int), .slice pd nd cd, .slice pm nm cm, .slice px nx cx, .slice ph nh ch] 27)
  have HG := Lib.hid (World.grownBy_alloc w (.cells #[.int .u32 (id : Int), .slice pd nd cd, .slice pm nm cm, .slice px nx cx, .slice ph nh ch] 27) none)
  have H := Lib.hid h
  clear h
  go_enter Try.func3, Try.ntmps3
  go_wp2_with fail
  generalize World.alloc w _ = w1 at *
  obtain ⟨bp, hbp⟩ : ∃ b, w.heap.size = b := ⟨_, rfl⟩
  rw [hbp] at HB ⊢
  have HBE := Lib.hid hbp
  clear hbp
  refine (known12_c w1).mono ?_
  rintro e w2 ⟨rfl, hg⟩
  have HG2 := Lib.hid (grownBy_trans HG.out hg)
  have HB2 := Lib.hid (HB.out.calm hg)
  clear HG HB hg
  have HP2 := Lib.hid (H.out.at'.calm HG2.out)
  obtain ⟨a0, a1, a2, a3, a4⟩ := HB2.out.five
  obtain ⟨fw, hfw⟩ := bool_of (PFew p)
  have HFW := Lib.hid hfw
  clear hfw
  go_wp2_with fail
  refine (few_c id pd nd cd pm nm cm px nx cx ph nh ch _ _ p fw w2 HP2.out H.out.mm H.out.mx H.out.mh HFW.out).mono ?_
  rintro e w3 ⟨rfl, hg⟩
  have HG3 := Lib.hid (grownBy_trans HG2.out hg)
  have HB3 := Lib.hid (HB2.out.calm hg)
  have HP := Lib.hid (H.out.at'.calm HG3.out)
  clear HG2 HB2 HP2 hg a0 a1 a2 a3 a4
  obtain ⟨a0, a1, a2, a3, a4⟩ := HB3.out.five
  cases fw with
  | false =>
    go_wp2
    go_ret
    exact ⟨rfl, HG3.out⟩
  | true =>
  have hfew := HFW.out.1 rfl
  have HBG := Lib.hid hfew.big
  have HLD := Lib.hid HP.out.deps.len
  have HLM := Lib.hid HP.out.makes.len
  have HLH := Lib.hid HP.out.hunks.len
  have hd1 : nd ≤ 100 := by have := hfew.deps; have := HLD.out; omega
  have hm1 : nm ≤ 100 := by have := hfew.makes; have := HLM.out; omega
  have hh1 : nh ≤ 100 := by have := hfew.hunks; have := HLH.out; omega
  have HFH := Lib.hid hfew.hs
  clear hfew HFW
  have HBP : Hid (bp < w3.heap.size) := Lib.hid HB3.out.lt
  have HCP : Hid (∀ X, w3.grownBy X none → Calls Try.prog 8 #[.agg #[.int .u32 (id : Int), .slice pd nd cd, .slice pm nm cm, .slice px nx cx, .slice ph nh ch]] X fun e w' => ∃ p1 c1 p2 c2 p3 c3 p4 c4 g4 A E K s1, e = .returned (.agg #[.int .u32 (id : Int), .slice p1 nd c1, .slice p2 nm c2, .slice p3 nx c3, .slice p4 nh c4]) ∧ (0 < nh → p4 = some ⟨g4, 0, none⟩) ∧ QAt w' w3.heap.size s1 nd p1 c1 nm p2 c2 nh g4 A E K ∧
      (∀ i, i < nh → (A i).2.1 ≤ 100 ∧ (E i).2.1 ≤ 100 ∧ (K i).2.1 ≤ 100) ∧ s1 ≤ w'.heap.size ∧ X.grownBy w' none) := Lib.hid fun X hX =>
    (patCopy_p id pd nd cd pm nm cm px nx cx ph nh ch _ _ p X (HP.out.calm hX) HBG.out).mono fun e w' ⟨p1, c1, p2, c2, p3, c3, p4, c4, he, hc, _, hg⟩ => by
      obtain ⟨g4, A, E, K, h1, h2, h3⟩ := hc.q HLH.out
      refine ⟨p1, c1, p2, c2, p3, c3, p4, c4, g4, A, E, K, w'.heap.size, he, h1, h2.low hX.size, fun i hi => ?_, Nat.le_refl _, hg⟩
      obtain ⟨x, hx, e1, e2, e3⟩ := h3 i hi
      obtain ⟨f1, f2, f3, _⟩ := HFH.out x hx
      omega
  have HCR : Hid (∀ X, w3.grownBy X none → Calls Try.prog 8 #[.agg #[.int .u32 (id : Int), .slice pd nd cd, .slice pm nm cm, .slice px nx cx, .slice ph nh ch]] X fun e w' => ∃ r1 d1 r2 d2 r3 d3 r4 d4 s2 s3, e = .returned (.agg #[.int .u32 (id : Int), .slice r1 nd d1, .slice r2 nm d2, .slice r3 nx d3, .slice r4 nh d4]) ∧ PtAt w' s2 s3 id r1 nd d1 r2 nm d2 r3 nx d3 r4 nh d4 p ∧ s2 = X.heap.size ∧ s3 ≤ w'.heap.size ∧ X.grownBy w' none) := Lib.hid fun X hX =>
    (patCopy_p id pd nd cd pm nm cm px nx cx ph nh ch _ _ p X (HP.out.calm hX) HBG.out).mono fun e w' ⟨p1, c1, p2, c2, p3, c3, p4, c4, he, _, hc, hg⟩ => ⟨p1, c1, p2, c2, p3, c3, p4, c4, _, _, he, hc, rfl, Nat.le_refl _, hg⟩
  have HEND : Hid (∀ wr s1 s2 s3 b3 b4 p1 c1 p2 c2 p3 c3 p4 c4 r1 d1 r2 d2 r3 d3 r4 d4 g4 A E K, BoxV wr bp [.int .u32 (id : Int), .slice pd nd cd, .slice pm nm cm, .slice px nx cx, .slice ph nh ch] 27 → BoxV wr b3 [.int .u32 (id : Int), .slice p1 nd c1, .slice p2 nm c2, .slice p3 nx c3, .slice p4 nh c4] 27 → BoxV wr b4 [.int .u32 (id : Int), .slice r1 nd d1, .slice r2 nm d2, .slice r3 nx d3, .slice r4 nh d4] 27 → QAt wr w3.heap.size s1 nd p1 c1 nm p2 c2 nh g4 A E K → PtAt wr s2 s3 id r1 nd d1 r2 nm d2 r3 nx d3 r4 nh d4 p → s1 ≤ s2 → w3.grownBy wr none →
      (∀ i, i < nh → (A i).2.1 ≤ 100 ∧ (E i).2.1 ≤ 100 ∧ (K i).2.1 ≤ 100) → CpS w wr w3.heap.size s1 s2 s3 id nd nm nx nh p bp [.int .u32 (id : Int), .slice pd nd cd, .slice pm nm cm, .slice px nx cx, .slice ph nh ch] b3 b4 p1 c1 p2 c2 p3 c3 p4 c4 r1 d1 r2 d2 r3 d3 r4 d4 g4 A E K) := Lib.hid fun wr s1 s2 s3 b3 b4 p1 c1 p2 c2 p3 c3 p4 c4 r1 d1 r2 d2 r3 d3 r4 d4 g4 A E K h1 h2 h3 h4 h5 h6 h7 h8 => ⟨h1, h2, h3, h4, h5, h6, grownBy_trans HG3.out h7, HG3.out.size, h8⟩
  go_upto_region 5 with fail
  go_cut [3, 4] from 16 to 19 (fun t3 t4 wx => ∃ b3 b4 s1 s2 s3 p1 p2 p3 p4 c1 c2 c3 c4 r1 r2 r3 r4 d1 d2 d3 d4 g4 A E K, t3 = .pointer (some ⟨b3, 0, none⟩) ∧ t4 = .pointer (some ⟨b4, 0, none⟩) ∧ (0 < nh → p4 = some ⟨g4, 0, none⟩) ∧ CpS w wx w3.heap.size s1 s2 s3 id nd nm nx nh p bp [.int .u32 (id : Int), .slice pd nd cd, .slice pm nm cm, .slice px nx cx, .slice ph nh ch] b3 b4 p1 c1 p2 c2 p3 c3 p4 c4 r1 d1 r2 d2 r3 d3 r4 d4 g4 A E K)
  case first =>
    have hbx := HB3.out
    clear HB3 HBG HP H HFH HG3 a0 a1 a2 a3 a4
    refine wp_region_held (S := fun X => X.cell? ⟨bp, 0, none⟩ = some (.int .u32 (id : Int)) ∧ X.cell? ⟨bp, 1, none⟩ = some (.slice pd nd cd) ∧ X.cell? ⟨bp, 2, none⟩ = some (.slice pm nm cm) ∧ X.cell? ⟨bp, 3, none⟩ = some (.slice px nx cx) ∧ X.cell? ⟨bp, 4, none⟩ = some (.slice ph nh ch)) (by kernel_rfl) ?_
    change wpAnyH _ _ _ _ _ _ _ _ w3.drew
    have hgr : w3.grownBy w3.drew none := grownBy_drewN w3 1 none
    have hbx := hbx.calm hgr
    generalize w3.drew = W0 at *
    refine wpAnyH_take (i := 0) (v := .agg #[.int .u32 (id : Int), .slice pd nd cd, .slice pm nm cm, .slice px nx cx, .slice ph nh ch]) rfl (by kernel_rfl) (by kernel_rfl) (by kernel_rfl) (fun _ _ _ h => h) (.inl ⟨by rfl, ?_⟩) hbx.five ?_
    · rintro w' ⟨u0, u1, u2, u3, u4⟩
      go_simp
    simp only [Act.put, List.getElem_toArray, List.getElem_cons_zero, List.setIfInBounds_toArray, List.set_cons_zero, List.set_cons_succ]
    refine wpAnyH_take (i := 2) (v := .agg #[.int .u32 (id : Int), .slice pd nd cd, .slice pm nm cm, .slice px nx cx, .slice ph nh ch]) rfl (by kernel_rfl) (by kernel_rfl) (by kernel_rfl) (fun _ _ _ h => h) (.inl ⟨by rfl, ?_⟩) hbx.five ?_
    · rintro w' ⟨u0, u1, u2, u3, u4⟩
      go_simp
    simp only [Act.put, List.getElem_toArray, List.getElem_cons_succ, List.getElem_cons_zero, List.setIfInBounds_toArray, List.set_cons_zero, List.set_cons_succ]
    refine held_threeP 1 4 5 (by kernel_rfl) rfl rfl rfl (fun KK hKK => ?_) (fun KK hKK => ?_) (fun KK hKK => ?_)
    · skip
      go_simp
      refine (HCP.out _ hgr).mono ?_
      rintro e W1 ⟨p1, c1, p2, c2, p3, c3, p4, c4, g4, A, E, K, s1, rfl, hq1, hq2, hq3, hq4, hg⟩
      have hbx := hbx.calm hg
      have hgr := grownBy_trans hgr hg
      have hP4 := hq1
      have hQ := hq2
      have hLN := hq3
      have hsC := hq4
      clear hq1 hq2 hq3 hq4 hg
      refine hKK _ _ hbx.five ?_
      clear hKK KK
      refine held_threeP 3 4 5 (by kernel_rfl) rfl rfl rfl (fun KK hKK => ?_) (fun KK hKK => ?_) (fun KK hKK => ?_)
      · skip
        go_simp
        refine (HCR.out _ hgr).mono ?_
        rintro e W2 ⟨r1, d1, r2, d2, r3, d3, r4, d4, s2, s3, rfl, hq1, hq2, hq3, hg⟩
        have hs12 : s1 ≤ s2 := by rw [hq2]; exact hsC
        have hbx := hbx.calm hg
        have hQ := hQ.calm hg
        have hsC := Nat.le_trans hsC hg.size
        have hgr := grownBy_trans hgr hg
        have hR := hq1
        have hsD := hq3
        clear hq1 hq2 hq3 hg
        refine hKK _ _ hbx.five ?_
        clear hKK KK
        refine held_two 4 5 (by kernel_rfl) rfl rfl (fun KK hKK => ?_) (fun KK hKK => ?_)
        · skip
          go_simp
          obtain ⟨b3, e3⟩ : ∃ b, W2.heap.size = b := ⟨_, rfl⟩
          have hm3 : w3.heap.size ≤ b3 := by rw [← e3]; exact hgr.size
          have hd3 : b3 < s2 ∨ s3 ≤ b3 := .inr (by rw [← e3]; exact hsD)
          have hn := BoxV.new W2 [.int .u32 0, .slice none 0 0, .slice none 0 0, .slice none 0 0, .slice none 0 0] 27
          rw [e3] at hn ⊢
          have hg := World.grownBy_alloc W2 (.cells #[.int .u32 0, .slice none 0 0, .slice none 0 0, .slice none 0 0, .slice none 0 0] 27) none
          generalize hWW : World.alloc W2 _ = W3 at *
          clear hWW e3
          have hbx := hbx.calm hg
          have hQ := hQ.calm hg
          have hsC := Nat.le_trans hsC hg.size
          have hR := hR.calm hg
          have hsD := Nat.le_trans hsD hg.size
          have hgr := grownBy_trans hgr hg
          have hb3 := hn
          clear hn hg
          refine hKK _ _ hbx.five ?_
          clear hKK KK
          refine held_next 5 (by kernel_rfl) rfl ?_
          intro KK hKK
          go_simp
          obtain ⟨b4, e4⟩ : ∃ b, W3.heap.size = b := ⟨_, rfl⟩
          have hm4 : w3.heap.size ≤ b4 := by rw [← e4]; exact hgr.size
          have hd4 : b4 < s2 ∨ s3 ≤ b4 := .inr (by rw [← e4]; exact hsD)
          have h34 : b3 ≠ b4 := by have := hb3.lt; omega
          have hn := BoxV.new W3 [.int .u32 0, .slice none 0 0, .slice none 0 0, .slice none 0 0, .slice none 0 0] 27
          rw [e4] at hn ⊢
          have hg := World.grownBy_alloc W3 (.cells #[.int .u32 0, .slice none 0 0, .slice none 0 0, .slice none 0 0, .slice none 0 0] 27) none
          generalize hWW : World.alloc W3 _ = W4 at *
          clear hWW e4
          have hbx := hbx.calm hg
          have hb3 := hb3.calm hg
          have hQ := hQ.calm hg
          have hsC := Nat.le_trans hsC hg.size
          have hR := hR.calm hg
          have hsD := Nat.le_trans hsD hg.size
          have hgr := grownBy_trans hgr hg
          have hb4 := hn
          clear hn hg
          refine hKK _ _ hbx.five ?_
          clear hKK KK
          refine held_next 6 (by kernel_rfl) rfl ?_
          intro KK hKK
          obtain ⟨t0, t1, t2, t3, t4⟩ := hb3.five
          have f0 := hb3.free 0
          have f1 := hb3.free 1
          have f2 := hb3.free 2
          have f3 := hb3.free 3
          have f4 := hb3.free 4
          go_simp
          clear t0 t1 t2 t3 t4 f0 f1 f2 f3 f4
          have hnb : bp ≠ b3 := by have := HBP.out; omega
          have hQ := hQ.set5 (b := b3) hb3 (.int .u32 (id : Int)) (.slice p1 nd c1) (.slice p2 nm c2) (.slice p3 nx c3) (.slice p4 nh c4)
          have hR := hR.set5 hd3 (.int .u32 (id : Int)) (.slice p1 nd c1) (.slice p2 nm c2) (.slice p3 nx c3) (.slice p4 nh c4)
          have hsD := le_set5 hsD b3 (.int .u32 (id : Int)) (.slice p1 nd c1) (.slice p2 nm c2) (.slice p3 nx c3) (.slice p4 nh c4)
          have hb4 := hb4.set5_ne (b := b3) h34.symm (.int .u32 (id : Int)) (.slice p1 nd c1) (.slice p2 nm c2) (.slice p3 nx c3) (.slice p4 nh c4)
          have hbx := hbx.set5_ne hnb (.int .u32 (id : Int)) (.slice p1 nd c1) (.slice p2 nm c2) (.slice p3 nx c3) (.slice p4 nh c4)
          have hgr := grownBy_set5 hgr hm3 (.int .u32 (id : Int)) (.slice p1 nd c1) (.slice p2 nm c2) (.slice p3 nx c3) (.slice p4 nh c4)
          have hsC := le_set5 hsC b3 (.int .u32 (id : Int)) (.slice p1 nd c1) (.slice p2 nm c2) (.slice p3 nx c3) (.slice p4 nh c4)
          have hb3 := hb3.set5 (.int .u32 (id : Int)) (.slice p1 nd c1) (.slice p2 nm c2) (.slice p3 nx c3) (.slice p4 nh c4)
          simp only [set5] at *
          generalize World.setCell _ ⟨b3, 4, none⟩ _ = W5 at *
          clear hnb
          refine hKK _ _ hbx.five ?_
          clear hKK KK
          refine held_next 7 (by kernel_rfl) rfl ?_
          intro KK hKK
          obtain ⟨t0, t1, t2, t3, t4⟩ := hb4.five
          have f0 := hb4.free 0
          have f1 := hb4.free 1
          have f2 := hb4.free 2
          have f3 := hb4.free 3
          have f4 := hb4.free 4
          go_simp
          clear t0 t1 t2 t3 t4 f0 f1 f2 f3 f4
          have hnb : bp ≠ b4 := by have := HBP.out; omega
          have hQ := hQ.set5 (b := b4) hb4 (.int .u32 (id : Int)) (.slice r1 nd d1) (.slice r2 nm d2) (.slice r3 nx d3) (.slice r4 nh d4)
          have hR := hR.set5 hd4 (.int .u32 (id : Int)) (.slice r1 nd d1) (.slice r2 nm d2) (.slice r3 nx d3) (.slice r4 nh d4)
          have hsD := le_set5 hsD b4 (.int .u32 (id : Int)) (.slice r1 nd d1) (.slice r2 nm d2) (.slice r3 nx d3) (.slice r4 nh d4)
          have hb3 := hb3.set5_ne (b := b4) h34 (.int .u32 (id : Int)) (.slice r1 nd d1) (.slice r2 nm d2) (.slice r3 nx d3) (.slice r4 nh d4)
          have hbx := hbx.set5_ne hnb (.int .u32 (id : Int)) (.slice r1 nd d1) (.slice r2 nm d2) (.slice r3 nx d3) (.slice r4 nh d4)
          have hgr := grownBy_set5 hgr hm4 (.int .u32 (id : Int)) (.slice r1 nd d1) (.slice r2 nm d2) (.slice r3 nx d3) (.slice r4 nh d4)
          have hsC := le_set5 hsC b4 (.int .u32 (id : Int)) (.slice r1 nd d1) (.slice r2 nm d2) (.slice r3 nx d3) (.slice r4 nh d4)
          have hb4 := hb4.set5 (.int .u32 (id : Int)) (.slice r1 nd d1) (.slice r2 nm d2) (.slice r3 nx d3) (.slice r4 nh d4)
          simp only [set5] at *
          generalize World.setCell _ ⟨b4, 4, none⟩ _ = W6 at *
          clear hnb
          refine hKK _ _ hbx.five ?_
          clear hKK KK
          refine wpAnyH_done (by kernel_rfl) ?_ _
          go_wp2
          go_meet
          exact ⟨b3, b4, s1, s2, s3, p1, p2, p3, p4, c1, c2, c3, c4, r1, r2, r3, r4, d1, d2, d3, d4, g4, A, E, K, rfl, rfl, hP4, HEND.out _ _ _ _ _ _ _ _ _ _ _ _ _ _ _ _ _ _ _ _ _ _ _ _ _ _ hbx hb3 hb4 hQ hR hs12 hgr hLN⟩
        · skip
          go_simp
          obtain ⟨b4, e4⟩ : ∃ b, W2.heap.size = b := ⟨_, rfl⟩
          have hm4 : w3.heap.size ≤ b4 := by rw [← e4]; exact hgr.size
          have hd4 : b4 < s2 ∨ s3 ≤ b4 := .inr (by rw [← e4]; exact hsD)
          have hn := BoxV.new W2 [.int .u32 0, .slice none 0 0, .slice none 0 0, .slice none 0 0, .slice none 0 0] 27
          rw [e4] at hn ⊢
          have hg := World.grownBy_alloc W2 (.cells #[.int .u32 0, .slice none 0 0, .slice none 0 0, .slice none 0 0, .slice none 0 0] 27) none
          generalize hWW : World.alloc W2 _ = W3 at *
          clear hWW e4
          have hbx := hbx.calm hg
          have hQ := hQ.calm hg
          have hsC := Nat.le_trans hsC hg.size
          have hR := hR.calm hg
          have hsD := Nat.le_trans hsD hg.size
          have hgr := grownBy_trans hgr hg
          have hb4 := hn
          clear hn hg
          refine hKK _ _ hbx.five ?_
          clear hKK KK
          refine held_next 4 (by kernel_rfl) rfl ?_
          intro KK hKK
          go_simp
          obtain ⟨b3, e3⟩ : ∃ b, W3.heap.size = b := ⟨_, rfl⟩
          have hm3 : w3.heap.size ≤ b3 := by rw [← e3]; exact hgr.size
          have hd3 : b3 < s2 ∨ s3 ≤ b3 := .inr (by rw [← e3]; exact hsD)
          have h34 : b3 ≠ b4 := by have := hb4.lt; omega
          have hn := BoxV.new W3 [.int .u32 0, .slice none 0 0, .slice none 0 0, .slice none 0 0, .slice none 0 0] 27
          rw [e3] at hn ⊢
          have hg := World.grownBy_alloc W3 (.cells #[.int .u32 0, .slice none 0 0, .slice none 0 0, .slice none 0 0, .slice none 0 0] 27) none
          generalize hWW : World.alloc W3 _ = W4 at *
          clear hWW e3
          have hbx := hbx.calm hg
          have hb4 := hb4.calm hg
          have hQ := hQ.calm hg
          have hsC := Nat.le_trans hsC hg.size
          have hR := hR.calm hg
          have hsD := Nat.le_trans hsD hg.size
          have hgr := grownBy_trans hgr hg
          have hb3 := hn
          clear hn hg
          refine hKK _ _ hbx.five ?_
          clear hKK KK
          refine held_next 6 (by kernel_rfl) rfl ?_
          intro KK hKK
          obtain ⟨t0, t1, t2, t3, t4⟩ := hb3.five
          have f0 := hb3.free 0
          have f1 := hb3.free 1
          have f2 := hb3.free 2
          have f3 := hb3.free 3
          have f4 := hb3.free 4
          go_simp
          clear t0 t1 t2 t3 t4 f0 f1 f2 f3 f4
          have hnb : bp ≠ b3 := by have := HBP.out; omega
          have hQ := hQ.set5 (b := b3) hb3 (.int .u32 (id : Int)) (.slice p1 nd c1) (.slice p2 nm c2) (.slice p3 nx c3) (.slice p4 nh c4)
          have hR := hR.set5 hd3 (.int .u32 (id : Int)) (.slice p1 nd c1) (.slice p2 nm c2) (.slice p3 nx c3) (.slice p4 nh c4)
          have hsD := le_set5 hsD b3 (.int .u32 (id : Int)) (.slice p1 nd c1) (.slice p2 nm c2) (.slice p3 nx c3) (.slice p4 nh c4)
          have hb4 := hb4.set5_ne (b := b3) h34.symm (.int .u32 (id : Int)) (.slice p1 nd c1) (.slice p2 nm c2) (.slice p3 nx c3) (.slice p4 nh c4)
          have hbx := hbx.set5_ne hnb (.int .u32 (id : Int)) (.slice p1 nd c1) (.slice p2 nm c2) (.slice p3 nx c3) (.slice p4 nh c4)
          have hgr := grownBy_set5 hgr hm3 (.int .u32 (id : Int)) (.slice p1 nd c1) (.slice p2 nm c2) (.slice p3 nx c3) (.slice p4 nh c4)
          have hsC := le_set5 hsC b3 (.int .u32 (id : Int)) (.slice p1 nd c1) (.slice p2 nm c2) (.slice p3 nx c3) (.slice p4 nh c4)
          have hb3 := hb3.set5 (.int .u32 (id : Int)) (.slice p1 nd c1) (.slice p2 nm c2) (.slice p3 nx c3) (.slice p4 nh c4)
          simp only [set5] at *
          generalize World.setCell _ ⟨b3, 4, none⟩ _ = W5 at *
          clear hnb
          refine hKK _ _ hbx.five ?_
          clear hKK KK
          refine held_next 7 (by kernel_rfl) rfl ?_
          intro KK hKK
          obtain ⟨t0, t1, t2, t3, t4⟩ := hb4.five
          have f0 := hb4.free 0
          have f1 := hb4.free 1
          have f2 := hb4.free 2
          have f3 := hb4.free 3
          have f4 := hb4.free 4
          go_simp
          clear t0 t1 t2 t3 t4 f0 f1 f2 f3 f4
          have hnb : bp ≠ b4 := by have := HBP.out; omega
          have hQ := hQ.set5 (b := b4) hb4 (.int .u32 (id : Int)) (.slice r1 nd d1) (.slice r2 nm d2) (.slice r3 nx d3) (.slice r4 nh d4)
          have hR := hR.set5 hd4 (.int .u32 (id : Int)) (.slice r1 nd d1) (.slice r2 nm d2) (.slice r3 nx d3) (.slice r4 nh d4)
          have hsD := le_set5 hsD b4 (.int .u32 (id : Int)) (.slice r1 nd d1) (.slice r2 nm d2) (.slice r3 nx d3) (.slice r4 nh d4)
          have hb3 := hb3.set5_ne (b := b4) h34 (.int .u32 (id : Int)) (.slice r1 nd d1) (.slice r2 nm d2) (.slice r3 nx d3) (.slice r4 nh d4)
          have hbx := hbx.set5_ne hnb (.int .u32 (id : Int)) (.slice r1 nd d1) (.slice r2 nm d2) (.slice r3 nx d3) (.slice r4 nh d4)
          have hgr := grownBy_set5 hgr hm4 (.int .u32 (id : Int)) (.slice r1 nd d1) (.slice r2 nm d2) (.slice r3 nx d3) (.slice r4 nh d4)
          have hsC := le_set5 hsC b4 (.int .u32 (id : Int)) (.slice r1 nd d1) (.slice r2 nm d2) (.slice r3 nx d3) (.slice r4 nh d4)
          have hb4 := hb4.set5 (.int .u32 (id : Int)) (.slice r1 nd d1) (.slice r2 nm d2) (.slice r3 nx d3) (.slice r4 nh d4)
          simp only [set5] at *
          generalize World.setCell _ ⟨b4, 4, none⟩ _ = W6 at *
          clear hnb
          refine hKK _ _ hbx.five ?_
          clear hKK KK
          refine wpAnyH_done (by kernel_rfl) ?_ _
          go_wp2
          go_meet
          exact ⟨b3, b4, s1, s2, s3, p1, p2, p3, p4, c1, c2, c3, c4, r1, r2, r3, r4, d1, d2, d3, d4, g4, A, E, K, rfl, rfl, hP4, HEND.out _ _ _ _ _ _ _ _ _ _ _ _ _ _ _ _ _ _ _ _ _ _ _ _ _ _ hbx hb3 hb4 hQ hR hs12 hgr hLN⟩
      · skip
        go_simp
        obtain ⟨b3, e3⟩ : ∃ b, W1.heap.size = b := ⟨_, rfl⟩
        have hm3 : w3.heap.size ≤ b3 := by rw [← e3]; exact hgr.size
        have hn := BoxV.new W1 [.int .u32 0, .slice none 0 0, .slice none 0 0, .slice none 0 0, .slice none 0 0] 27
        rw [e3] at hn ⊢
        have hg := World.grownBy_alloc W1 (.cells #[.int .u32 0, .slice none 0 0, .slice none 0 0, .slice none 0 0, .slice none 0 0] 27) none
        generalize hWW : World.alloc W1 _ = W2 at *
        clear hWW e3
        have hbx := hbx.calm hg
        have hQ := hQ.calm hg
        have hsC := Nat.le_trans hsC hg.size
        have hgr := grownBy_trans hgr hg
        have hb3 := hn
        clear hn hg
        refine hKK _ _ hbx.five ?_
        clear hKK KK
        refine held_two 3 5 (by kernel_rfl) rfl rfl (fun KK hKK => ?_) (fun KK hKK => ?_)
        · skip
          go_simp
          refine (HCR.out _ hgr).mono ?_
          rintro e W3 ⟨r1, d1, r2, d2, r3, d3, r4, d4, s2, s3, rfl, hq1, hq2, hq3, hg⟩
          have hs12 : s1 ≤ s2 := by rw [hq2]; exact hsC
          have hd3 : b3 < s2 ∨ s3 ≤ b3 := .inl (by rw [hq2]; exact hb3.lt)
          have hbx := hbx.calm hg
          have hb3 := hb3.calm hg
          have hQ := hQ.calm hg
          have hsC := Nat.le_trans hsC hg.size
          have hgr := grownBy_trans hgr hg
          have hR := hq1
          have hsD := hq3
          clear hq1 hq2 hq3 hg
          refine hKK _ _ hbx.five ?_
          clear hKK KK
          refine held_next 5 (by kernel_rfl) rfl ?_
          intro KK hKK
          go_simp
          obtain ⟨b4, e4⟩ : ∃ b, W3.heap.size = b := ⟨_, rfl⟩
          have hm4 : w3.heap.size ≤ b4 := by rw [← e4]; exact hgr.size
          have hd4 : b4 < s2 ∨ s3 ≤ b4 := .inr (by rw [← e4]; exact hsD)
          have h34 : b3 ≠ b4 := by have := hb3.lt; omega
          have hn := BoxV.new W3 [.int .u32 0, .slice none 0 0, .slice none 0 0, .slice none 0 0, .slice none 0 0] 27
          rw [e4] at hn ⊢
          have hg := World.grownBy_alloc W3 (.cells #[.int .u32 0, .slice none 0 0, .slice none 0 0, .slice none 0 0, .slice none 0 0] 27) none
          generalize hWW : World.alloc W3 _ = W4 at *
          clear hWW e4
          have hbx := hbx.calm hg
          have hb3 := hb3.calm hg
          have hQ := hQ.calm hg
          have hsC := Nat.le_trans hsC hg.size
          have hR := hR.calm hg
          have hsD := Nat.le_trans hsD hg.size
          have hgr := grownBy_trans hgr hg
          have hb4 := hn
          clear hn hg
          refine hKK _ _ hbx.five ?_
          clear hKK KK
          refine held_next 6 (by kernel_rfl) rfl ?_
          intro KK hKK
          obtain ⟨t0, t1, t2, t3, t4⟩ := hb3.five
          have f0 := hb3.free 0
          have f1 := hb3.free 1
          have f2 := hb3.free 2
          have f3 := hb3.free 3
          have f4 := hb3.free 4
          go_simp
          clear t0 t1 t2 t3 t4 f0 f1 f2 f3 f4
          have hnb : bp ≠ b3 := by have := HBP.out; omega
          have hQ := hQ.set5 (b := b3) hb3 (.int .u32 (id : Int)) (.slice p1 nd c1) (.slice p2 nm c2) (.slice p3 nx c3) (.slice p4 nh c4)
          have hR := hR.set5 hd3 (.int .u32 (id : Int)) (.slice p1 nd c1) (.slice p2 nm c2) (.slice p3 nx c3) (.slice p4 nh c4)
          have hsD := le_set5 hsD b3 (.int .u32 (id : Int)) (.slice p1 nd c1) (.slice p2 nm c2) (.slice p3 nx c3) (.slice p4 nh c4)
          have hb4 := hb4.set5_ne (b := b3) h34.symm (.int .u32 (id : Int)) (.slice p1 nd c1) (.slice p2 nm c2) (.slice p3 nx c3) (.slice p4 nh c4)
          have hbx := hbx.set5_ne hnb (.int .u32 (id : Int)) (.slice p1 nd c1) (.slice p2 nm c2) (.slice p3 nx c3) (.slice p4 nh c4)
          have hgr := grownBy_set5 hgr hm3 (.int .u32 (id : Int)) (.slice p1 nd c1) (.slice p2 nm c2) (.slice p3 nx c3) (.slice p4 nh c4)
          have hsC := le_set5 hsC b3 (.int .u32 (id : Int)) (.slice p1 nd c1) (.slice p2 nm c2) (.slice p3 nx c3) (.slice p4 nh c4)
          have hb3 := hb3.set5 (.int .u32 (id : Int)) (.slice p1 nd c1) (.slice p2 nm c2) (.slice p3 nx c3) (.slice p4 nh c4)
          simp only [set5] at *
          generalize World.setCell _ ⟨b3, 4, none⟩ _ = W5 at *
          clear hnb
          refine hKK _ _ hbx.five ?_
          clear hKK KK
          refine held_next 7 (by kernel_rfl) rfl ?_
          intro KK hKK
          obtain ⟨t0, t1, t2, t3, t4⟩ := hb4.five
          have f0 := hb4.free 0
          have f1 := hb4.free 1
          have f2 := hb4.free 2
          have f3 := hb4.free 3
          have f4 := hb4.free 4
          go_simp
          clear t0 t1 t2 t3 t4 f0 f1 f2 f3 f4
          have hnb : bp ≠ b4 := by have := HBP.out; omega
          have hQ := hQ.set5 (b := b4) hb4 (.int .u32 (id : Int)) (.slice r1 nd d1) (.slice r2 nm d2) (.slice r3 nx d3) (.slice r4 nh d4)
          have hR := hR.set5 hd4 (.int .u32 (id : Int)) (.slice r1 nd d1) (.slice r2 nm d2) (.slice r3 nx d3) (.slice r4 nh d4)
          have hsD := le_set5 hsD b4 (.int .u32 (id : Int)) (.slice r1 nd d1) (.slice r2 nm d2) (.slice r3 nx d3) (.slice r4 nh d4)
          have hb3 := hb3.set5_ne (b := b4) h34 (.int .u32 (id : Int)) (.slice r1 nd d1) (.slice r2 nm d2) (.slice r3 nx d3) (.slice r4 nh d4)
          have hbx := hbx.set5_ne hnb (.int .u32 (id : Int)) (.slice r1 nd d1) (.slice r2 nm d2) (.slice r3 nx d3) (.slice r4 nh d4)
          have hgr := grownBy_set5 hgr hm4 (.int .u32 (id : Int)) (.slice r1 nd d1) (.slice r2 nm d2) (.slice r3 nx d3) (.slice r4 nh d4)
          have hsC := le_set5 hsC b4 (.int .u32 (id : Int)) (.slice r1 nd d1) (.slice r2 nm d2) (.slice r3 nx d3) (.slice r4 nh d4)
          have hb4 := hb4.set5 (.int .u32 (id : Int)) (.slice r1 nd d1) (.slice r2 nm d2) (.slice r3 nx d3) (.slice r4 nh d4)
          simp only [set5] at *
          generalize World.setCell _ ⟨b4, 4, none⟩ _ = W6 at *
          clear hnb
          refine hKK _ _ hbx.five ?_
          clear hKK KK
          refine wpAnyH_done (by kernel_rfl) ?_ _
          go_wp2
          go_meet
          exact ⟨b3, b4, s1, s2, s3, p1, p2, p3, p4, c1, c2, c3, c4, r1, r2, r3, r4, d1, d2, d3, d4, g4, A, E, K, rfl, rfl, hP4, HEND.out _ _ _ _ _ _ _ _ _ _ _ _ _ _ _ _ _ _ _ _ _ _ _ _ _ _ hbx hb3 hb4 hQ hR hs12 hgr hLN⟩
        · skip
          go_simp
          obtain ⟨b4, e4⟩ : ∃ b, W2.heap.size = b := ⟨_, rfl⟩
          have hm4 : w3.heap.size ≤ b4 := by rw [← e4]; exact hgr.size
          have h34 : b3 ≠ b4 := by have := hb3.lt; omega
          have hn := BoxV.new W2 [.int .u32 0, .slice none 0 0, .slice none 0 0, .slice none 0 0, .slice none 0 0] 27
          rw [e4] at hn ⊢
          have hg := World.grownBy_alloc W2 (.cells #[.int .u32 0, .slice none 0 0, .slice none 0 0, .slice none 0 0, .slice none 0 0] 27) none
          generalize hWW : World.alloc W2 _ = W3 at *
          clear hWW e4
          have hbx := hbx.calm hg
          have hb3 := hb3.calm hg
          have hQ := hQ.calm hg
          have hsC := Nat.le_trans hsC hg.size
          have hgr := grownBy_trans hgr hg
          have hb4 := hn
          clear hn hg
          refine hKK _ _ hbx.five ?_
          clear hKK KK
          refine held_next 3 (by kernel_rfl) rfl ?_
          intro KK hKK
          go_simp
          refine (HCR.out _ hgr).mono ?_
          rintro e W4 ⟨r1, d1, r2, d2, r3, d3, r4, d4, s2, s3, rfl, hq1, hq2, hq3, hg⟩
          have hs12 : s1 ≤ s2 := by rw [hq2]; exact hsC
          have hd3 : b3 < s2 ∨ s3 ≤ b3 := .inl (by rw [hq2]; exact hb3.lt)
          have hd4 : b4 < s2 ∨ s3 ≤ b4 := .inl (by rw [hq2]; exact hb4.lt)
          have hbx := hbx.calm hg
          have hb3 := hb3.calm hg
          have hb4 := hb4.calm hg
          have hQ := hQ.calm hg
          have hsC := Nat.le_trans hsC hg.size
          have hgr := grownBy_trans hgr hg
          have hR := hq1
          have hsD := hq3
          clear hq1 hq2 hq3 hg
          refine hKK _ _ hbx.five ?_
          clear hKK KK
          refine held_next 6 (by kernel_rfl) rfl ?_
          intro KK hKK
          obtain ⟨t0, t1, t2, t3, t4⟩ := hb3.five
          have f0 := hb3.free 0
          have f1 := hb3.free 1
          have f2 := hb3.free 2
          have f3 := hb3.free 3
          have f4 := hb3.free 4
          go_simp
          clear t0 t1 t2 t3 t4 f0 f1 f2 f3 f4
          have hnb : bp ≠ b3 := by have := HBP.out; omega
          have hQ := hQ.set5 (b := b3) hb3 (.int .u32 (id : Int)) (.slice p1 nd c1) (.slice p2 nm c2) (.slice p3 nx c3) (.slice p4 nh c4)
          have hR := hR.set5 hd3 (.int .u32 (id : Int)) (.slice p1 nd c1) (.slice p2 nm c2) (.slice p3 nx c3) (.slice p4 nh c4)
          have hsD := le_set5 hsD b3 (.int .u32 (id : Int)) (.slice p1 nd c1) (.slice p2 nm c2) (.slice p3 nx c3) (.slice p4 nh c4)
          have hb4 := hb4.set5_ne (b := b3) h34.symm (.int .u32 (id : Int)) (.slice p1 nd c1) (.slice p2 nm c2) (.slice p3 nx c3) (.slice p4 nh c4)
          have hbx := hbx.set5_ne hnb (.int .u32 (id : Int)) (.slice p1 nd c1) (.slice p2 nm c2) (.slice p3 nx c3) (.slice p4 nh c4)
          have hgr := grownBy_set5 hgr hm3 (.int .u32 (id : Int)) (.slice p1 nd c1) (.slice p2 nm c2) (.slice p3 nx c3) (.slice p4 nh c4)
          have hsC := le_set5 hsC b3 (.int .u32 (id : Int)) (.slice p1 nd c1) (.slice p2 nm c2) (.slice p3 nx c3) (.slice p4 nh c4)
          have hb3 := hb3.set5 (.int .u32 (id : Int)) (.slice p1 nd c1) (.slice p2 nm c2) (.slice p3 nx c3) (.slice p4 nh c4)
          simp only [set5] at *
          generalize World.setCell _ ⟨b3, 4, none⟩ _ = W5 at *
          clear hnb
          refine hKK _ _ hbx.five ?_
          clear hKK KK
          refine held_next 7 (by kernel_rfl) rfl ?_
          intro KK hKK
          obtain ⟨t0, t1, t2, t3, t4⟩ := hb4.five
          have f0 := hb4.free 0
          have f1 := hb4.free 1
          have f2 := hb4.free 2
          have f3 := hb4.free 3
          have f4 := hb4.free 4
          go_simp
          clear t0 t1 t2 t3 t4 f0 f1 f2 f3 f4
          have hnb : bp ≠ b4 := by have := HBP.out; omega
          have hQ := hQ.set5 (b := b4) hb4 (.int .u32 (id : Int)) (.slice r1 nd d1) (.slice r2 nm d2) (.slice r3 nx d3) (.slice r4 nh d4)
          have hR := hR.set5 hd4 (.int .u32 (id : Int)) (.slice r1 nd d1) (.slice r2 nm d2) (.slice r3 nx d3) (.slice r4 nh d4)
          have hsD := le_set5 hsD b4 (.int .u32 (id : Int)) (.slice r1 nd d1) (.slice r2 nm d2) (.slice r3 nx d3) (.slice r4 nh d4)
          have hb3 := hb3.set5_ne (b := b4) h34 (.int .u32 (id : Int)) (.slice r1 nd d1) (.slice r2 nm d2) (.slice r3 nx d3) (.slice r4 nh d4)
          have hbx := hbx.set5_ne hnb (.int .u32 (id : Int)) (.slice r1 nd d1) (.slice r2 nm d2) (.slice r3 nx d3) (.slice r4 nh d4)
          have hgr := grownBy_set5 hgr hm4 (.int .u32 (id : Int)) (.slice r1 nd d1) (.slice r2 nm d2) (.slice r3 nx d3) (.slice r4 nh d4)
          have hsC := le_set5 hsC b4 (.int .u32 (id : Int)) (.slice r1 nd d1) (.slice r2 nm d2) (.slice r3 nx d3) (.slice r4 nh d4)
          have hb4 := hb4.set5 (.int .u32 (id : Int)) (.slice r1 nd d1) (.slice r2 nm d2) (.slice r3 nx d3) (.slice r4 nh d4)
          simp only [set5] at *
          generalize World.setCell _ ⟨b4, 4, none⟩ _ = W6 at *
          clear hnb
          refine hKK _ _ hbx.five ?_
          clear hKK KK
          refine wpAnyH_done (by kernel_rfl) ?_ _
          go_wp2
          go_meet
          exact ⟨b3, b4, s1, s2, s3, p1, p2, p3, p4, c1, c2, c3, c4, r1, r2, r3, r4, d1, d2, d3, d4, g4, A, E, K, rfl, rfl, hP4, HEND.out _ _ _ _ _ _ _ _ _ _ _ _ _ _ _ _ _ _ _ _ _ _ _ _ _ _ hbx hb3 hb4 hQ hR hs12 hgr hLN⟩
      · skip
        go_simp
        obtain ⟨b4, e4⟩ : ∃ b, W1.heap.size = b := ⟨_, rfl⟩
        have hm4 : w3.heap.size ≤ b4 := by rw [← e4]; exact hgr.size
        have hn := BoxV.new W1 [.int .u32 0, .slice none 0 0, .slice none 0 0, .slice none 0 0, .slice none 0 0] 27
        rw [e4] at hn ⊢
        have hg := World.grownBy_alloc W1 (.cells #[.int .u32 0, .slice none 0 0, .slice none 0 0, .slice none 0 0, .slice none 0 0] 27) none
        generalize hWW : World.alloc W1 _ = W2 at *
        clear hWW e4
        have hbx := hbx.calm hg
        have hQ := hQ.calm hg
        have hsC := Nat.le_trans hsC hg.size
        have hgr := grownBy_trans hgr hg
        have hb4 := hn
        clear hn hg
        refine hKK _ _ hbx.five ?_
        clear hKK KK
        refine held_two 3 4 (by kernel_rfl) rfl rfl (fun KK hKK => ?_) (fun KK hKK => ?_)
        · skip
          go_simp
          refine (HCR.out _ hgr).mono ?_
          rintro e W3 ⟨r1, d1, r2, d2, r3, d3, r4, d4, s2, s3, rfl, hq1, hq2, hq3, hg⟩
          have hs12 : s1 ≤ s2 := by rw [hq2]; exact hsC
          have hd4 : b4 < s2 ∨ s3 ≤ b4 := .inl (by rw [hq2]; exact hb4.lt)
          have hbx := hbx.calm hg
          have hb4 := hb4.calm hg
          have hQ := hQ.calm hg
          have hsC := Nat.le_trans hsC hg.size
          have hgr := grownBy_trans hgr hg
          have hR := hq1
          have hsD := hq3
          clear hq1 hq2 hq3 hg
          refine hKK _ _ hbx.five ?_
          clear hKK KK
          refine held_next 4 (by kernel_rfl) rfl ?_
          intro KK hKK
          go_simp
          obtain ⟨b3, e3⟩ : ∃ b, W3.heap.size = b := ⟨_, rfl⟩
          have hm3 : w3.heap.size ≤ b3 := by rw [← e3]; exact hgr.size
          have hd3 : b3 < s2 ∨ s3 ≤ b3 := .inr (by rw [← e3]; exact hsD)
          have h34 : b3 ≠ b4 := by have := hb4.lt; omega
          have hn := BoxV.new W3 [.int .u32 0, .slice none 0 0, .slice none 0 0, .slice none 0 0, .slice none 0 0] 27
          rw [e3] at hn ⊢
          have hg := World.grownBy_alloc W3 (.cells #[.int .u32 0, .slice none 0 0, .slice none 0 0, .slice none 0 0, .slice none 0 0] 27) none
          generalize hWW : World.alloc W3 _ = W4 at *
          clear hWW e3
          have hbx := hbx.calm hg
          have hb4 := hb4.calm hg
          have hQ := hQ.calm hg
          have hsC := Nat.le_trans hsC hg.size
          have hR := hR.calm hg
          have hsD := Nat.le_trans hsD hg.size
          have hgr := grownBy_trans hgr hg
          have hb3 := hn
          clear hn hg
          refine hKK _ _ hbx.five ?_
          clear hKK KK
          refine held_next 6 (by kernel_rfl) rfl ?_
          intro KK hKK
          obtain ⟨t0, t1, t2, t3, t4⟩ := hb3.five
          have f0 := hb3.free 0
          have f1 := hb3.free 1
          have f2 := hb3.free 2
          have f3 := hb3.free 3
          have f4 := hb3.free 4
          go_simp
          clear t0 t1 t2 t3 t4 f0 f1 f2 f3 f4
          have hnb : bp ≠ b3 := by have := HBP.out; omega
          have hQ := hQ.set5 (b := b3) hb3 (.int .u32 (id : Int)) (.slice p1 nd c1) (.slice p2 nm c2) (.slice p3 nx c3) (.slice p4 nh c4)
          have hR := hR.set5 hd3 (.int .u32 (id : Int)) (.slice p1 nd c1) (.slice p2 nm c2) (.slice p3 nx c3) (.slice p4 nh c4)
          have hsD := le_set5 hsD b3 (.int .u32 (id : Int)) (.slice p1 nd c1) (.slice p2 nm c2) (.slice p3 nx c3) (.slice p4 nh c4)
          have hb4 := hb4.set5_ne (b := b3) h34.symm (.int .u32 (id : Int)) (.slice p1 nd c1) (.slice p2 nm c2) (.slice p3 nx c3) (.slice p4 nh c4)
          have hbx := hbx.set5_ne hnb (.int .u32 (id : Int)) (.slice p1 nd c1) (.slice p2 nm c2) (.slice p3 nx c3) (.slice p4 nh c4)
          have hgr := grownBy_set5 hgr hm3 (.int .u32 (id : Int)) (.slice p1 nd c1) (.slice p2 nm c2) (.slice p3 nx c3) (.slice p4 nh c4)
          have hsC := le_set5 hsC b3 (.int .u32 (id : Int)) (.slice p1 nd c1) (.slice p2 nm c2) (.slice p3 nx c3) (.slice p4 nh c4)
          have hb3 := hb3.set5 (.int .u32 (id : Int)) (.slice p1 nd c1) (.slice p2 nm c2) (.slice p3 nx c3) (.slice p4 nh c4)
          simp only [set5] at *
          generalize World.setCell _ ⟨b3, 4, none⟩ _ = W5 at *
          clear hnb
          refine hKK _ _ hbx.five ?_
          clear hKK KK
          refine held_next 7 (by kernel_rfl) rfl ?_
          intro KK hKK
          obtain ⟨t0, t1, t2, t3, t4⟩ := hb4.five
          have f0 := hb4.free 0
          have f1 := hb4.free 1
          have f2 := hb4.free 2
          have f3 := hb4.free 3
          have f4 := hb4.free 4
          go_simp
          clear t0 t1 t2 t3 t4 f0 f1 f2 f3 f4
          have hnb : bp ≠ b4 := by have := HBP.out; omega
          have hQ := hQ.set5 (b := b4) hb4 (.int .u32 (id : Int)) (.slice r1 nd d1) (.slice r2 nm d2) (.slice r3 nx d3) (.slice r4 nh d4)
          have hR := hR.set5 hd4 (.int .u32 (id : Int)) (.slice r1 nd d1) (.slice r2 nm d2) (.slice r3 nx d3) (.slice r4 nh d4)
          have hsD := le_set5 hsD b4 (.int .u32 (id : Int)) (.slice r1 nd d1) (.slice r2 nm d2) (.slice r3 nx d3) (.slice r4 nh d4)
          have hb3 := hb3.set5_ne (b := b4) h34 (.int .u32 (id : Int)) (.slice r1 nd d1) (.slice r2 nm d2) (.slice r3 nx d3) (.slice r4 nh d4)
          have hbx := hbx.set5_ne hnb (.int .u32 (id : Int)) (.slice r1 nd d1) (.slice r2 nm d2) (.slice r3 nx d3) (.slice r4 nh d4)
          have hgr := grownBy_set5 hgr hm4 (.int .u32 (id : Int)) (.slice r1 nd d1) (.slice r2 nm d2) (.slice r3 nx d3) (.slice r4 nh d4)
          have hsC := le_set5 hsC b4 (.int .u32 (id : Int)) (.slice r1 nd d1) (.slice r2 nm d2) (.slice r3 nx d3) (.slice r4 nh d4)
          have hb4 := hb4.set5 (.int .u32 (id : Int)) (.slice r1 nd d1) (.slice r2 nm d2) (.slice r3 nx d3) (.slice r4 nh d4)
          simp only [set5] at *
          generalize World.setCell _ ⟨b4, 4, none⟩ _ = W6 at *
          clear hnb
          refine hKK _ _ hbx.five ?_
          clear hKK KK
          refine wpAnyH_done (by kernel_rfl) ?_ _
          go_wp2
          go_meet
          exact ⟨b3, b4, s1, s2, s3, p1, p2, p3, p4, c1, c2, c3, c4, r1, r2, r3, r4, d1, d2, d3, d4, g4, A, E, K, rfl, rfl, hP4, HEND.out _ _ _ _ _ _ _ _ _ _ _ _ _ _ _ _ _ _ _ _ _ _ _ _ _ _ hbx hb3 hb4 hQ hR hs12 hgr hLN⟩
        · skip
          go_simp
          obtain ⟨b3, e3⟩ : ∃ b, W2.heap.size = b := ⟨_, rfl⟩
          have hm3 : w3.heap.size ≤ b3 := by rw [← e3]; exact hgr.size
          have h34 : b3 ≠ b4 := by have := hb4.lt; omega
          have hn := BoxV.new W2 [.int .u32 0, .slice none 0 0, .slice none 0 0, .slice none 0 0, .slice none 0 0] 27
          rw [e3] at hn ⊢
          have hg := World.grownBy_alloc W2 (.cells #[.int .u32 0, .slice none 0 0, .slice none 0 0, .slice none 0 0, .slice none 0 0] 27) none
          generalize hWW : World.alloc W2 _ = W3 at *
          clear hWW e3
          have hbx := hbx.calm hg
          have hb4 := hb4.calm hg
          have hQ := hQ.calm hg
          have hsC := Nat.le_trans hsC hg.size
          have hgr := grownBy_trans hgr hg
          have hb3 := hn
          clear hn hg
          refine hKK _ _ hbx.five ?_
          clear hKK KK
          refine held_next 3 (by kernel_rfl) rfl ?_
          intro KK hKK
          go_simp
          refine (HCR.out _ hgr).mono ?_
          rintro e W4 ⟨r1, d1, r2, d2, r3, d3, r4, d4, s2, s3, rfl, hq1, hq2, hq3, hg⟩
          have hs12 : s1 ≤ s2 := by rw [hq2]; exact hsC
          have hd3 : b3 < s2 ∨ s3 ≤ b3 := .inl (by rw [hq2]; exact hb3.lt)
          have hd4 : b4 < s2 ∨ s3 ≤ b4 := .inl (by rw [hq2]; exact hb4.lt)
          have hbx := hbx.calm hg
          have hb3 := hb3.calm hg
          have hb4 := hb4.calm hg
          have hQ := hQ.calm hg
          have hsC := Nat.le_trans hsC hg.size
          have hgr := grownBy_trans hgr hg
          have hR := hq1
          have hsD := hq3
          clear hq1 hq2 hq3 hg
          refine hKK _ _ hbx.five ?_
          clear hKK KK
          refine held_next 6 (by kernel_rfl) rfl ?_
          intro KK hKK
          obtain ⟨t0, t1, t2, t3, t4⟩ := hb3.five
          have f0 := hb3.free 0
          have f1 := hb3.free 1
          have f2 := hb3.free 2
          have f3 := hb3.free 3
          have f4 := hb3.free 4
          go_simp
          clear t0 t1 t2 t3 t4 f0 f1 f2 f3 f4
          have hnb : bp ≠ b3 := by have := HBP.out; omega
          have hQ := hQ.set5 (b := b3) hb3 (.int .u32 (id : Int)) (.slice p1 nd c1) (.slice p2 nm c2) (.slice p3 nx c3) (.slice p4 nh c4)
          have hR := hR.set5 hd3 (.int .u32 (id : Int)) (.slice p1 nd c1) (.slice p2 nm c2) (.slice p3 nx c3) (.slice p4 nh c4)
          have hsD := le_set5 hsD b3 (.int .u32 (id : Int)) (.slice p1 nd c1) (.slice p2 nm c2) (.slice p3 nx c3) (.slice p4 nh c4)
          have hb4 := hb4.set5_ne (b := b3) h34.symm (.int .u32 (id : Int)) (.slice p1 nd c1) (.slice p2 nm c2) (.slice p3 nx c3) (.slice p4 nh c4)
          have hbx := hbx.set5_ne hnb (.int .u32 (id : Int)) (.slice p1 nd c1) (.slice p2 nm c2) (.slice p3 nx c3) (.slice p4 nh c4)
          have hgr := grownBy_set5 hgr hm3 (.int .u32 (id : Int)) (.slice p1 nd c1) (.slice p2 nm c2) (.slice p3 nx c3) (.slice p4 nh c4)
          have hsC := le_set5 hsC b3 (.int .u32 (id : Int)) (.slice p1 nd c1) (.slice p2 nm c2) (.slice p3 nx c3) (.slice p4 nh c4)
          have hb3 := hb3.set5 (.int .u32 (id : Int)) (.slice p1 nd c1) (.slice p2 nm c2) (.slice p3 nx c3) (.slice p4 nh c4)
          simp only [set5] at *
          generalize World.setCell _ ⟨b3, 4, none⟩ _ = W5 at *
          clear hnb
          refine hKK _ _ hbx.five ?_
          clear hKK KK
          refine held_next 7 (by kernel_rfl) rfl ?_
          intro KK hKK
          obtain ⟨t0, t1, t2, t3, t4⟩ := hb4.five
          have f0 := hb4.free 0
          have f1 := hb4.free 1
          have f2 := hb4.free 2
          have f3 := hb4.free 3
          have f4 := hb4.free 4
          go_simp
          clear t0 t1 t2 t3 t4 f0 f1 f2 f3 f4
          have hnb : bp ≠ b4 := by have := HBP.out; omega
          have hQ := hQ.set5 (b := b4) hb4 (.int .u32 (id : Int)) (.slice r1 nd d1) (.slice r2 nm d2) (.slice r3 nx d3) (.slice r4 nh d4)
          have hR := hR.set5 hd4 (.int .u32 (id : Int)) (.slice r1 nd d1) (.slice r2 nm d2) (.slice r3 nx d3) (.slice r4 nh d4)
          have hsD := le_set5 hsD b4 (.int .u32 (id : Int)) (.slice r1 nd d1) (.slice r2 nm d2) (.slice r3 nx d3) (.slice r4 nh d4)
          have hb3 := hb3.set5_ne (b := b4) h34 (.int .u32 (id : Int)) (.slice r1 nd d1) (.slice r2 nm d2) (.slice r3 nx d3) (.slice r4 nh d4)
          have hbx := hbx.set5_ne hnb (.int .u32 (id : Int)) (.slice r1 nd d1) (.slice r2 nm d2) (.slice r3 nx d3) (.slice r4 nh d4)
          have hgr := grownBy_set5 hgr hm4 (.int .u32 (id : Int)) (.slice r1 nd d1) (.slice r2 nm d2) (.slice r3 nx d3) (.slice r4 nh d4)
          have hsC := le_set5 hsC b4 (.int .u32 (id : Int)) (.slice r1 nd d1) (.slice r2 nm d2) (.slice r3 nx d3) (.slice r4 nh d4)
          have hb4 := hb4.set5 (.int .u32 (id : Int)) (.slice r1 nd d1) (.slice r2 nm d2) (.slice r3 nx d3) (.slice r4 nh d4)
          simp only [set5] at *
          generalize World.setCell _ ⟨b4, 4, none⟩ _ = W6 at *
          clear hnb
          refine hKK _ _ hbx.five ?_
          clear hKK KK
          refine wpAnyH_done (by kernel_rfl) ?_ _
          go_wp2
          go_meet
          exact ⟨b3, b4, s1, s2, s3, p1, p2, p3, p4, c1, c2, c3, c4, r1, r2, r3, r4, d1, d2, d3, d4, g4, A, E, K, rfl, rfl, hP4, HEND.out _ _ _ _ _ _ _ _ _ _ _ _ _ _ _ _ _ _ _ _ _ _ _ _ _ _ hbx hb3 hb4 hQ hR hs12 hgr hLN⟩
    · skip
      go_simp
      obtain ⟨b3, e3⟩ : ∃ b, W0.heap.size = b := ⟨_, rfl⟩
      have hm3 : w3.heap.size ≤ b3 := by rw [← e3]; exact hgr.size
      have hn := BoxV.new W0 [.int .u32 0, .slice none 0 0, .slice none 0 0, .slice none 0 0, .slice none 0 0] 27
      rw [e3] at hn ⊢
      have hg := World.grownBy_alloc W0 (.cells #[.int .u32 0, .slice none 0 0, .slice none 0 0, .slice none 0 0, .slice none 0 0] 27) none
      generalize hWW : World.alloc W0 _ = W1 at *
      clear hWW e3
      have hbx := hbx.calm hg
      have hgr := grownBy_trans hgr hg
      have hb3 := hn
      clear hn hg
      refine hKK _ _ hbx.five ?_
      clear hKK KK
      refine held_two 1 5 (by kernel_rfl) rfl rfl (fun KK hKK => ?_) (fun KK hKK => ?_)
      · skip
        go_simp
        refine (HCP.out _ hgr).mono ?_
        rintro e W2 ⟨p1, c1, p2, c2, p3, c3, p4, c4, g4, A, E, K, s1, rfl, hq1, hq2, hq3, hq4, hg⟩
        have hbx := hbx.calm hg
        have hb3 := hb3.calm hg
        have hgr := grownBy_trans hgr hg
        have hP4 := hq1
        have hQ := hq2
        have hLN := hq3
        have hsC := hq4
        clear hq1 hq2 hq3 hq4 hg
        refine hKK _ _ hbx.five ?_
        clear hKK KK
        refine held_two 3 5 (by kernel_rfl) rfl rfl (fun KK hKK => ?_) (fun KK hKK => ?_)
        · skip
          go_simp
          refine (HCR.out _ hgr).mono ?_
          rintro e W3 ⟨r1, d1, r2, d2, r3, d3, r4, d4, s2, s3, rfl, hq1, hq2, hq3, hg⟩
          have hs12 : s1 ≤ s2 := by rw [hq2]; exact hsC
          have hd3 : b3 < s2 ∨ s3 ≤ b3 := .inl (by rw [hq2]; exact hb3.lt)
          have hbx := hbx.calm hg
          have hb3 := hb3.calm hg
          have hQ := hQ.calm hg
          have hsC := Nat.le_trans hsC hg.size
          have hgr := grownBy_trans hgr hg
          have hR := hq1
          have hsD := hq3
          clear hq1 hq2 hq3 hg
          refine hKK _ _ hbx.five ?_
          clear hKK KK
          refine held_next 5 (by kernel_rfl) rfl ?_
          intro KK hKK
          go_simp
          obtain ⟨b4, e4⟩ : ∃ b, W3.heap.size = b := ⟨_, rfl⟩
          have hm4 : w3.heap.size ≤ b4 := by rw [← e4]; exact hgr.size
          have hd4 : b4 < s2 ∨ s3 ≤ b4 := .inr (by rw [← e4]; exact hsD)
          have h34 : b3 ≠ b4 := by have := hb3.lt; omega
          have hn := BoxV.new W3 [.int .u32 0, .slice none 0 0, .slice none 0 0, .slice none 0 0, .slice none 0 0] 27
          rw [e4] at hn ⊢
          have hg := World.grownBy_alloc W3 (.cells #[.int .u32 0, .slice none 0 0, .slice none 0 0, .slice none 0 0, .slice none 0 0] 27) none
          generalize hWW : World.alloc W3 _ = W4 at *
          clear hWW e4
          have hbx := hbx.calm hg
          have hb3 := hb3.calm hg
          have hQ := hQ.calm hg
          have hsC := Nat.le_trans hsC hg.size
          have hR := hR.calm hg
          have hsD := Nat.le_trans hsD hg.size
          have hgr := grownBy_trans hgr hg
          have hb4 := hn
          clear hn hg
          refine hKK _ _ hbx.five ?_
          clear hKK KK
          refine held_next 6 (by kernel_rfl) rfl ?_
          intro KK hKK
          obtain ⟨t0, t1, t2, t3, t4⟩ := hb3.five
          have f0 := hb3.free 0
          have f1 := hb3.free 1
          have f2 := hb3.free 2
          have f3 := hb3.free 3
          have f4 := hb3.free 4
          go_simp
          clear t0 t1 t2 t3 t4 f0 f1 f2 f3 f4
          have hnb : bp ≠ b3 := by have := HBP.out; omega
          have hQ := hQ.set5 (b := b3) hb3 (.int .u32 (id : Int)) (.slice p1 nd c1) (.slice p2 nm c2) (.slice p3 nx c3) (.slice p4 nh c4)
          have hR := hR.set5 hd3 (.int .u32 (id : Int)) (.slice p1 nd c1) (.slice p2 nm c2) (.slice p3 nx c3) (.slice p4 nh c4)
          have hsD := le_set5 hsD b3 (.int .u32 (id : Int)) (.slice p1 nd c1) (.slice p2 nm c2) (.slice p3 nx c3) (.slice p4 nh c4)
          have hb4 := hb4.set5_ne (b := b3) h34.symm (.int .u32 (id : Int)) (.slice p1 nd c1) (.slice p2 nm c2) (.slice p3 nx c3) (.slice p4 nh c4)
          have hbx := hbx.set5_ne hnb (.int .u32 (id : Int)) (.slice p1 nd c1) (.slice p2 nm c2) (.slice p3 nx c3) (.slice p4 nh c4)
          have hgr := grownBy_set5 hgr hm3 (.int .u32 (id : Int)) (.slice p1 nd c1) (.slice p2 nm c2) (.slice p3 nx c3) (.slice p4 nh c4)
          have hsC := le_set5 hsC b3 (.int .u32 (id : Int)) (.slice p1 nd c1) (.slice p2 nm c2) (.slice p3 nx c3) (.slice p4 nh c4)
          have hb3 := hb3.set5 (.int .u32 (id : Int)) (.slice p1 nd c1) (.slice p2 nm c2) (.slice p3 nx c3) (.slice p4 nh c4)
          simp only [set5] at *
          generalize World.setCell _ ⟨b3, 4, none⟩ _ = W5 at *
          clear hnb
          refine hKK _ _ hbx.five ?_
          clear hKK KK
          refine held_next 7 (by kernel_rfl) rfl ?_
          intro KK hKK
          obtain ⟨t0, t1, t2, t3, t4⟩ := hb4.five
          have f0 := hb4.free 0
          have f1 := hb4.free 1
          have f2 := hb4.free 2
          have f3 := hb4.free 3
          have f4 := hb4.free 4
          go_simp
          clear t0 t1 t2 t3 t4 f0 f1 f2 f3 f4
          have hnb : bp ≠ b4 := by have := HBP.out; omega
          have hQ := hQ.set5 (b := b4) hb4 (.int .u32 (id : Int)) (.slice r1 nd d1) (.slice r2 nm d2) (.slice r3 nx d3) (.slice r4 nh d4)
          have hR := hR.set5 hd4 (.int .u32 (id : Int)) (.slice r1 nd d1) (.slice r2 nm d2) (.slice r3 nx d3) (.slice r4 nh d4)
          have hsD := le_set5 hsD b4 (.int .u32 (id : Int)) (.slice r1 nd d1) (.slice r2 nm d2) (.slice r3 nx d3) (.slice r4 nh d4)
          have hb3 := hb3.set5_ne (b := b4) h34 (.int .u32 (id : Int)) (.slice r1 nd d1) (.slice r2 nm d2) (.slice r3 nx d3) (.slice r4 nh d4)
          have hbx := hbx.set5_ne hnb (.int .u32 (id : Int)) (.slice r1 nd d1) (.slice r2 nm d2) (.slice r3 nx d3) (.slice r4 nh d4)
          have hgr := grownBy_set5 hgr hm4 (.int .u32 (id : Int)) (.slice r1 nd d1) (.slice r2 nm d2) (.slice r3 nx d3) (.slice r4 nh d4)
          have hsC := le_set5 hsC b4 (.int .u32 (id : Int)) (.slice r1 nd d1) (.slice r2 nm d2) (.slice r3 nx d3) (.slice r4 nh d4)
          have hb4 := hb4.set5 (.int .u32 (id : Int)) (.slice r1 nd d1) (.slice r2 nm d2) (.slice r3 nx d3) (.slice r4 nh d4)
          simp only [set5] at *
          generalize World.setCell _ ⟨b4, 4, none⟩ _ = W6 at *
          clear hnb
          refine hKK _ _ hbx.five ?_
          clear hKK KK
          refine wpAnyH_done (by kernel_rfl) ?_ _
          go_wp2
          go_meet
          exact ⟨b3, b4, s1, s2, s3, p1, p2, p3, p4, c1, c2, c3, c4, r1, r2, r3, r4, d1, d2, d3, d4, g4, A, E, K, rfl, rfl, hP4, HEND.out _ _ _ _ _ _ _ _ _ _ _ _ _ _ _ _ _ _ _ _ _ _ _ _ _ _ hbx hb3 hb4 hQ hR hs12 hgr hLN⟩
        · skip
          go_simp
          obtain ⟨b4, e4⟩ : ∃ b, W2.heap.size = b := ⟨_, rfl⟩
          have hm4 : w3.heap.size ≤ b4 := by rw [← e4]; exact hgr.size
          have h34 : b3 ≠ b4 := by have := hb3.lt; omega
          have hn := BoxV.new W2 [.int .u32 0, .slice none 0 0, .slice none 0 0, .slice none 0 0, .slice none 0 0] 27
          rw [e4] at hn ⊢
          have hg := World.grownBy_alloc W2 (.cells #[.int .u32 0, .slice none 0 0, .slice none 0 0, .slice none 0 0, .slice none 0 0] 27) none
          generalize hWW : World.alloc W2 _ = W3 at *
          clear hWW e4
          have hbx := hbx.calm hg
          have hb3 := hb3.calm hg
          have hQ := hQ.calm hg
          have hsC := Nat.le_trans hsC hg.size
          have hgr := grownBy_trans hgr hg
          have hb4 := hn
          clear hn hg
          refine hKK _ _ hbx.five ?_
          clear hKK KK
          refine held_next 3 (by kernel_rfl) rfl ?_
          intro KK hKK
          go_simp
          refine (HCR.out _ hgr).mono ?_
          rintro e W4 ⟨r1, d1, r2, d2, r3, d3, r4, d4, s2, s3, rfl, hq1, hq2, hq3, hg⟩
          have hs12 : s1 ≤ s2 := by rw [hq2]; exact hsC
          have hd3 : b3 < s2 ∨ s3 ≤ b3 := .inl (by rw [hq2]; exact hb3.lt)
          have hd4 : b4 < s2 ∨ s3 ≤ b4 := .inl (by rw [hq2]; exact hb4.lt)
          have hbx := hbx.calm hg
          have hb3 := hb3.calm hg
          have hb4 := hb4.calm hg
          have hQ := hQ.calm hg
          have hsC := Nat.le_trans hsC hg.size
          have hgr := grownBy_trans hgr hg
          have hR := hq1
          have hsD := hq3
          clear hq1 hq2 hq3 hg
          refine hKK _ _ hbx.five ?_
          clear hKK KK
          refine held_next 6 (by kernel_rfl) rfl ?_
          intro KK hKK
          obtain ⟨t0, t1, t2, t3, t4⟩ := hb3.five
          have f0 := hb3.free 0
          have f1 := hb3.free 1
          have f2 := hb3.free 2
          have f3 := hb3.free 3
          have f4 := hb3.free 4
          go_simp
          clear t0 t1 t2 t3 t4 f0 f1 f2 f3 f4
          have hnb : bp ≠ b3 := by have := HBP.out; omega
          have hQ := hQ.set5 (b := b3) hb3 (.int .u32 (id : Int)) (.slice p1 nd c1) (.slice p2 nm c2) (.slice p3 nx c3) (.slice p4 nh c4)
          have hR := hR.set5 hd3 (.int .u32 (id : Int)) (.slice p1 nd c1) (.slice p2 nm c2) (.slice p3 nx c3) (.slice p4 nh c4)
          have hsD := le_set5 hsD b3 (.int .u32 (id : Int)) (.slice p1 nd c1) (.slice p2 nm c2) (.slice p3 nx c3) (.slice p4 nh c4)
          have hb4 := hb4.set5_ne (b := b3) h34.symm (.int .u32 (id : Int)) (.slice p1 nd c1) (.slice p2 nm c2) (.slice p3 nx c3) (.slice p4 nh c4)
          have hbx := hbx.set5_ne hnb (.int .u32 (id : Int)) (.slice p1 nd c1) (.slice p2 nm c2) (.slice p3 nx c3) (.slice p4 nh c4)
          have hgr := grownBy_set5 hgr hm3 (.int .u32 (id : Int)) (.slice p1 nd c1) (.slice p2 nm c2) (.slice p3 nx c3) (.slice p4 nh c4)
          have hsC := le_set5 hsC b3 (.int .u32 (id : Int)) (.slice p1 nd c1) (.slice p2 nm c2) (.slice p3 nx c3) (.slice p4 nh c4)
          have hb3 := hb3.set5 (.int .u32 (id : Int)) (.slice p1 nd c1) (.slice p2 nm c2) (.slice p3 nx c3) (.slice p4 nh c4)
          simp only [set5] at *
          generalize World.setCell _ ⟨b3, 4, none⟩ _ = W5 at *
          clear hnb
          refine hKK _ _ hbx.five ?_
          clear hKK KK
          refine held_next 7 (by kernel_rfl) rfl ?_
          intro KK hKK
          obtain ⟨t0, t1, t2, t3, t4⟩ := hb4.five
          have f0 := hb4.free 0
          have f1 := hb4.free 1
          have f2 := hb4.free 2
          have f3 := hb4.free 3
          have f4 := hb4.free 4
          go_simp
          clear t0 t1 t2 t3 t4 f0 f1 f2 f3 f4
          have hnb : bp ≠ b4 := by have := HBP.out; omega
          have hQ := hQ.set5 (b := b4) hb4 (.int .u32 (id : Int)) (.slice r1 nd d1) (.slice r2 nm d2) (.slice r3 nx d3) (.slice r4 nh d4)
          have hR := hR.set5 hd4 (.int .u32 (id : Int)) (.slice r1 nd d1) (.slice r2 nm d2) (.slice r3 nx d3) (.slice r4 nh d4)
          have hsD := le_set5 hsD b4 (.int .u32 (id : Int)) (.slice r1 nd d1) (.slice r2 nm d2) (.slice r3 nx d3) (.slice r4 nh d4)
          have hb3 := hb3.set5_ne (b := b4) h34 (.int .u32 (id : Int)) (.slice r1 nd d1) (.slice r2 nm d2) (.slice r3 nx d3) (.slice r4 nh d4)
          have hbx := hbx.set5_ne hnb (.int .u32 (id : Int)) (.slice r1 nd d1) (.slice r2 nm d2) (.slice r3 nx d3) (.slice r4 nh d4)
          have hgr := grownBy_set5 hgr hm4 (.int .u32 (id : Int)) (.slice r1 nd d1) (.slice r2 nm d2) (.slice r3 nx d3) (.slice r4 nh d4)
          have hsC := le_set5 hsC b4 (.int .u32 (id : Int)) (.slice r1 nd d1) (.slice r2 nm d2) (.slice r3 nx d3) (.slice r4 nh d4)
          have hb4 := hb4.set5 (.int .u32 (id : Int)) (.slice r1 nd d1) (.slice r2 nm d2) (.slice r3 nx d3) (.slice r4 nh d4)
          simp only [set5] at *
          generalize World.setCell _ ⟨b4, 4, none⟩ _ = W6 at *
          clear hnb
          refine hKK _ _ hbx.five ?_
          clear hKK KK
          refine wpAnyH_done (by kernel_rfl) ?_ _
          go_wp2
          go_meet
          exact ⟨b3, b4, s1, s2, s3, p1, p2, p3, p4, c1, c2, c3, c4, r1, r2, r3, r4, d1, d2, d3, d4, g4, A, E, K, rfl, rfl, hP4, HEND.out _ _ _ _ _ _ _ _ _ _ _ _ _ _ _ _ _ _ _ _ _ _ _ _ _ _ hbx hb3 hb4 hQ hR hs12 hgr hLN⟩
      · skip
        go_simp
        obtain ⟨b4, e4⟩ : ∃ b, W1.heap.size = b := ⟨_, rfl⟩
        have hm4 : w3.heap.size ≤ b4 := by rw [← e4]; exact hgr.size
        have h34 : b3 ≠ b4 := by have := hb3.lt; omega
        have hn := BoxV.new W1 [.int .u32 0, .slice none 0 0, .slice none 0 0, .slice none 0 0, .slice none 0 0] 27
        rw [e4] at hn ⊢
        have hg := World.grownBy_alloc W1 (.cells #[.int .u32 0, .slice none 0 0, .slice none 0 0, .slice none 0 0, .slice none 0 0] 27) none
        generalize hWW : World.alloc W1 _ = W2 at *
        clear hWW e4
        have hbx := hbx.calm hg
        have hb3 := hb3.calm hg
        have hgr := grownBy_trans hgr hg
        have hb4 := hn
        clear hn hg
        refine hKK _ _ hbx.five ?_
        clear hKK KK
        refine held_next 1 (by kernel_rfl) rfl ?_
        intro KK hKK
        go_simp
        refine (HCP.out _ hgr).mono ?_
        rintro e W3 ⟨p1, c1, p2, c2, p3, c3, p4, c4, g4, A, E, K, s1, rfl, hq1, hq2, hq3, hq4, hg⟩
        have hbx := hbx.calm hg
        have hb3 := hb3.calm hg
        have hb4 := hb4.calm hg
        have hgr := grownBy_trans hgr hg
        have hP4 := hq1
        have hQ := hq2
        have hLN := hq3
        have hsC := hq4
        clear hq1 hq2 hq3 hq4 hg
        refine hKK _ _ hbx.five ?_
        clear hKK KK
        refine held_next 3 (by kernel_rfl) rfl ?_
        intro KK hKK
        go_simp
        refine (HCR.out _ hgr).mono ?_
        rintro e W4 ⟨r1, d1, r2, d2, r3, d3, r4, d4, s2, s3, rfl, hq1, hq2, hq3, hg⟩
        have hs12 : s1 ≤ s2 := by rw [hq2]; exact hsC
        have hd3 : b3 < s2 ∨ s3 ≤ b3 := .inl (by rw [hq2]; exact hb3.lt)
        have hd4 : b4 < s2 ∨ s3 ≤ b4 := .inl (by rw [hq2]; exact hb4.lt)
        have hbx := hbx.calm hg
        have hb3 := hb3.calm hg
        have hb4 := hb4.calm hg
        have hQ := hQ.calm hg
        have hsC := Nat.le_trans hsC hg.size
        have hgr := grownBy_trans hgr hg
        have hR := hq1
        have hsD := hq3
        clear hq1 hq2 hq3 hg
        refine hKK _ _ hbx.five ?_
        clear hKK KK
        refine held_next 6 (by kernel_rfl) rfl ?_
        intro KK hKK
        obtain ⟨t0, t1, t2, t3, t4⟩ := hb3.five
        have f0 := hb3.free 0
        have f1 := hb3.free 1
        have f2 := hb3.free 2
        have f3 := hb3.free 3
        have f4 := hb3.free 4
        go_simp
        clear t0 t1 t2 t3 t4 f0 f1 f2 f3 f4
        have hnb : bp ≠ b3 := by have := HBP.out; omega
        have hQ := hQ.set5 (b := b3) hb3 (.int .u32 (id : Int)) (.slice p1 nd c1) (.slice p2 nm c2) (.slice p3 nx c3) (.slice p4 nh c4)
        have hR := hR.set5 hd3 (.int .u32 (id : Int)) (.slice p1 nd c1) (.slice p2 nm c2) (.slice p3 nx c3) (.slice p4 nh c4)
        have hsD := le_set5 hsD b3 (.int .u32 (id : Int)) (.slice p1 nd c1) (.slice p2 nm c2) (.slice p3 nx c3) (.slice p4 nh c4)
        have hb4 := hb4.set5_ne (b := b3) h34.symm (.int .u32 (id : Int)) (.slice p1 nd c1) (.slice p2 nm c2) (.slice p3 nx c3) (.slice p4 nh c4)
        have hbx := hbx.set5_ne hnb (.int .u32 (id : Int)) (.slice p1 nd c1) (.slice p2 nm c2) (.slice p3 nx c3) (.slice p4 nh c4)
        have hgr := grownBy_set5 hgr hm3 (.int .u32 (id : Int)) (.slice p1 nd c1) (.slice p2 nm c2) (.slice p3 nx c3) (.slice p4 nh c4)
        have hsC := le_set5 hsC b3 (.int .u32 (id : Int)) (.slice p1 nd c1) (.slice p2 nm c2) (.slice p3 nx c3) (.slice p4 nh c4)
        have hb3 := hb3.set5 (.int .u32 (id : Int)) (.slice p1 nd c1) (.slice p2 nm c2) (.slice p3 nx c3) (.slice p4 nh c4)
        simp only [set5] at *
        generalize World.setCell _ ⟨b3, 4, none⟩ _ = W5 at *
        clear hnb
        refine hKK _ _ hbx.five ?_
        clear hKK KK
        refine held_next 7 (by kernel_rfl) rfl ?_
        intro KK hKK
        obtain ⟨t0, t1, t2, t3, t4⟩ := hb4.five
        have f0 := hb4.free 0
        have f1 := hb4.free 1
        have f2 := hb4.free 2
        have f3 := hb4.free 3
        have f4 := hb4.free 4
        go_simp
        clear t0 t1 t2 t3 t4 f0 f1 f2 f3 f4
        have hnb : bp ≠ b4 := by have := HBP.out; omega
        have hQ := hQ.set5 (b := b4) hb4 (.int .u32 (id : Int)) (.slice r1 nd d1) (.slice r2 nm d2) (.slice r3 nx d3) (.slice r4 nh d4)
        have hR := hR.set5 hd4 (.int .u32 (id : Int)) (.slice r1 nd d1) (.slice r2 nm d2) (.slice r3 nx d3) (.slice r4 nh d4)
        have hsD := le_set5 hsD b4 (.int .u32 (id : Int)) (.slice r1 nd d1) (.slice r2 nm d2) (.slice r3 nx d3) (.slice r4 nh d4)
        have hb3 := hb3.set5_ne (b := b4) h34 (.int .u32 (id : Int)) (.slice r1 nd d1) (.slice r2 nm d2) (.slice r3 nx d3) (.slice r4 nh d4)
        have hbx := hbx.set5_ne hnb (.int .u32 (id : Int)) (.slice r1 nd d1) (.slice r2 nm d2) (.slice r3 nx d3) (.slice r4 nh d4)
        have hgr := grownBy_set5 hgr hm4 (.int .u32 (id : Int)) (.slice r1 nd d1) (.slice r2 nm d2) (.slice r3 nx d3) (.slice r4 nh d4)
        have hsC := le_set5 hsC b4 (.int .u32 (id : Int)) (.slice r1 nd d1) (.slice r2 nm d2) (.slice r3 nx d3) (.slice r4 nh d4)
        have hb4 := hb4.set5 (.int .u32 (id : Int)) (.slice r1 nd d1) (.slice r2 nm d2) (.slice r3 nx d3) (.slice r4 nh d4)
        simp only [set5] at *
        generalize World.setCell _ ⟨b4, 4, none⟩ _ = W6 at *
        clear hnb
        refine hKK _ _ hbx.five ?_
        clear hKK KK
        refine wpAnyH_done (by kernel_rfl) ?_ _
        go_wp2
        go_meet
        exact ⟨b3, b4, s1, s2, s3, p1, p2, p3, p4, c1, c2, c3, c4, r1, r2, r3, r4, d1, d2, d3, d4, g4, A, E, K, rfl, rfl, hP4, HEND.out _ _ _ _ _ _ _ _ _ _ _ _ _ _ _ _ _ _ _ _ _ _ _ _ _ _ hbx hb3 hb4 hQ hR hs12 hgr hLN⟩
    · skip
      go_simp
      obtain ⟨b4, e4⟩ : ∃ b, W0.heap.size = b := ⟨_, rfl⟩
      have hm4 : w3.heap.size ≤ b4 := by rw [← e4]; exact hgr.size
      have hn := BoxV.new W0 [.int .u32 0, .slice none 0 0, .slice none 0 0, .slice none 0 0, .slice none 0 0] 27
      rw [e4] at hn ⊢
      have hg := World.grownBy_alloc W0 (.cells #[.int .u32 0, .slice none 0 0, .slice none 0 0, .slice none 0 0, .slice none 0 0] 27) none
      generalize hWW : World.alloc W0 _ = W1 at *
      clear hWW e4
      have hbx := hbx.calm hg
      have hgr := grownBy_trans hgr hg
      have hb4 := hn
      clear hn hg
      refine hKK _ _ hbx.five ?_
      clear hKK KK
      refine held_two 1 4 (by kernel_rfl) rfl rfl (fun KK hKK => ?_) (fun KK hKK => ?_)
      · skip
        go_simp
        refine (HCP.out _ hgr).mono ?_
        rintro e W2 ⟨p1, c1, p2, c2, p3, c3, p4, c4, g4, A, E, K, s1, rfl, hq1, hq2, hq3, hq4, hg⟩
        have hbx := hbx.calm hg
        have hb4 := hb4.calm hg
        have hgr := grownBy_trans hgr hg
        have hP4 := hq1
        have hQ := hq2
        have hLN := hq3
        have hsC := hq4
        clear hq1 hq2 hq3 hq4 hg
        refine hKK _ _ hbx.five ?_
        clear hKK KK
        refine held_two 3 4 (by kernel_rfl) rfl rfl (fun KK hKK => ?_) (fun KK hKK => ?_)
        · skip
          go_simp
          refine (HCR.out _ hgr).mono ?_
          rintro e W3 ⟨r1, d1, r2, d2, r3, d3, r4, d4, s2, s3, rfl, hq1, hq2, hq3, hg⟩
          have hs12 : s1 ≤ s2 := by rw [hq2]; exact hsC
          have hd4 : b4 < s2 ∨ s3 ≤ b4 := .inl (by rw [hq2]; exact hb4.lt)
          have hbx := hbx.calm hg
          have hb4 := hb4.calm hg
          have hQ := hQ.calm hg
          have hsC := Nat.le_trans hsC hg.size
          have hgr := grownBy_trans hgr hg
          have hR := hq1
          have hsD := hq3
          clear hq1 hq2 hq3 hg
          refine hKK _ _ hbx.five ?_
          clear hKK KK
          refine held_next 4 (by kernel_rfl) rfl ?_
          intro KK hKK
          go_simp
          obtain ⟨b3, e3⟩ : ∃ b, W3.heap.size = b := ⟨_, rfl⟩
          have hm3 : w3.heap.size ≤ b3 := by rw [← e3]; exact hgr.size
          have hd3 : b3 < s2 ∨ s3 ≤ b3 := .inr (by rw [← e3]; exact hsD)
          have h34 : b3 ≠ b4 := by have := hb4.lt; omega
          have hn := BoxV.new W3 [.int .u32 0, .slice none 0 0, .slice none 0 0, .slice none 0 0, .slice none 0 0] 27
          rw [e3] at hn ⊢
          have hg := World.grownBy_alloc W3 (.cells #[.int .u32 0, .slice none 0 0, .slice none 0 0, .slice none 0 0, .slice none 0 0] 27) none
          generalize hWW : World.alloc W3 _ = W4 at *
          clear hWW e3
          have hbx := hbx.calm hg
          have hb4 := hb4.calm hg
          have hQ := hQ.calm hg
          have hsC := Nat.le_trans hsC hg.size
          have hR := hR.calm hg
          have hsD := Nat.le_trans hsD hg.size
          have hgr := grownBy_trans hgr hg
          have hb3 := hn
          clear hn hg
          refine hKK _ _ hbx.five ?_
          clear hKK KK
          refine held_next 6 (by kernel_rfl) rfl ?_
          intro KK hKK
          obtain ⟨t0, t1, t2, t3, t4⟩ := hb3.five
          have f0 := hb3.free 0
          have f1 := hb3.free 1
          have f2 := hb3.free 2
          have f3 := hb3.free 3
          have f4 := hb3.free 4
          go_simp
          clear t0 t1 t2 t3 t4 f0 f1 f2 f3 f4
          have hnb : bp ≠ b3 := by have := HBP.out; omega
          have hQ := hQ.set5 (b := b3) hb3 (.int .u32 (id : Int)) (.slice p1 nd c1) (.slice p2 nm c2) (.slice p3 nx c3) (.slice p4 nh c4)
          have hR := hR.set5 hd3 (.int .u32 (id : Int)) (.slice p1 nd c1) (.slice p2 nm c2) (.slice p3 nx c3) (.slice p4 nh c4)
          have hsD := le_set5 hsD b3 (.int .u32 (id : Int)) (.slice p1 nd c1) (.slice p2 nm c2) (.slice p3 nx c3) (.slice p4 nh c4)
          have hb4 := hb4.set5_ne (b := b3) h34.symm (.int .u32 (id : Int)) (.slice p1 nd c1) (.slice p2 nm c2) (.slice p3 nx c3) (.slice p4 nh c4)
          have hbx := hbx.set5_ne hnb (.int .u32 (id : Int)) (.slice p1 nd c1) (.slice p2 nm c2) (.slice p3 nx c3) (.slice p4 nh c4)
          have hgr := grownBy_set5 hgr hm3 (.int .u32 (id : Int)) (.slice p1 nd c1) (.slice p2 nm c2) (.slice p3 nx c3) (.slice p4 nh c4)
          have hsC := le_set5 hsC b3 (.int .u32 (id : Int)) (.slice p1 nd c1) (.slice p2 nm c2) (.slice p3 nx c3) (.slice p4 nh c4)
          have hb3 := hb3.set5 (.int .u32 (id : Int)) (.slice p1 nd c1) (.slice p2 nm c2) (.slice p3 nx c3) (.slice p4 nh c4)
          simp only [set5] at *
          generalize World.setCell _ ⟨b3, 4, none⟩ _ = W5 at *
          clear hnb
          refine hKK _ _ hbx.five ?_
          clear hKK KK
          refine held_next 7 (by kernel_rfl) rfl ?_
          intro KK hKK
          obtain ⟨t0, t1, t2, t3, t4⟩ := hb4.five
          have f0 := hb4.free 0
          have f1 := hb4.free 1
          have f2 := hb4.free 2
          have f3 := hb4.free 3
          have f4 := hb4.free 4
          go_simp
          clear t0 t1 t2 t3 t4 f0 f1 f2 f3 f4
          have hnb : bp ≠ b4 := by have := HBP.out; omega
          have hQ := hQ.set5 (b := b4) hb4 (.int .u32 (id : Int)) (.slice r1 nd d1) (.slice r2 nm d2) (.slice r3 nx d3) (.slice r4 nh d4)
          have hR := hR.set5 hd4 (.int .u32 (id : Int)) (.slice r1 nd d1) (.slice r2 nm d2) (.slice r3 nx d3) (.slice r4 nh d4)
          have hsD := le_set5 hsD b4 (.int .u32 (id : Int)) (.slice r1 nd d1) (.slice r2 nm d2) (.slice r3 nx d3) (.slice r4 nh d4)
          have hb3 := hb3.set5_ne (b := b4) h34 (.int .u32 (id : Int)) (.slice r1 nd d1) (.slice r2 nm d2) (.slice r3 nx d3) (.slice r4 nh d4)
          have hbx := hbx.set5_ne hnb (.int .u32 (id : Int)) (.slice r1 nd d1) (.slice r2 nm d2) (.slice r3 nx d3) (.slice r4 nh d4)
          have hgr := grownBy_set5 hgr hm4 (.int .u32 (id : Int)) (.slice r1 nd d1) (.slice r2 nm d2) (.slice r3 nx d3) (.slice r4 nh d4)
          have hsC := le_set5 hsC b4 (.int .u32 (id : Int)) (.slice r1 nd d1) (.slice r2 nm d2) (.slice r3 nx d3) (.slice r4 nh d4)
          have hb4 := hb4.set5 (.int .u32 (id : Int)) (.slice r1 nd d1) (.slice r2 nm d2) (.slice r3 nx d3) (.slice r4 nh d4)
          simp only [set5] at *
          generalize World.setCell _ ⟨b4, 4, none⟩ _ = W6 at *
          clear hnb
          refine hKK _ _ hbx.five ?_
          clear hKK KK
          refine wpAnyH_done (by kernel_rfl) ?_ _
          go_wp2
          go_meet
          exact ⟨b3, b4, s1, s2, s3, p1, p2, p3, p4, c1, c2, c3, c4, r1, r2, r3, r4, d1, d2, d3, d4, g4, A, E, K, rfl, rfl, hP4, HEND.out _ _ _ _ _ _ _ _ _ _ _ _ _ _ _ _ _ _ _ _ _ _ _ _ _ _ hbx hb3 hb4 hQ hR hs12 hgr hLN⟩
        · skip
          go_simp
          obtain ⟨b3, e3⟩ : ∃ b, W2.heap.size = b := ⟨_, rfl⟩
          have hm3 : w3.heap.size ≤ b3 := by rw [← e3]; exact hgr.size
          have h34 : b3 ≠ b4 := by have := hb4.lt; omega
          have hn := BoxV.new W2 [.int .u32 0, .slice none 0 0, .slice none 0 0, .slice none 0 0, .slice none 0 0] 27
          rw [e3] at hn ⊢
          have hg := World.grownBy_alloc W2 (.cells #[.int .u32 0, .slice none 0 0, .slice none 0 0, .slice none 0 0, .slice none 0 0] 27) none
          generalize hWW : World.alloc W2 _ = W3 at *
          clear hWW e3
          have hbx := hbx.calm hg
          have hb4 := hb4.calm hg
          have hQ := hQ.calm hg
          have hsC := Nat.le_trans hsC hg.size
          have hgr := grownBy_trans hgr hg
          have hb3 := hn
          clear hn hg
          refine hKK _ _ hbx.five ?_
          clear hKK KK
          refine held_next 3 (by kernel_rfl) rfl ?_
          intro KK hKK
          go_simp
          refine (HCR.out _ hgr).mono ?_
          rintro e W4 ⟨r1, d1, r2, d2, r3, d3, r4, d4, s2, s3, rfl, hq1, hq2, hq3, hg⟩
          have hs12 : s1 ≤ s2 := by rw [hq2]; exact hsC
          have hd3 : b3 < s2 ∨ s3 ≤ b3 := .inl (by rw [hq2]; exact hb3.lt)
          have hd4 : b4 < s2 ∨ s3 ≤ b4 := .inl (by rw [hq2]; exact hb4.lt)
          have hbx := hbx.calm hg
          have hb3 := hb3.calm hg
          have hb4 := hb4.calm hg
          have hQ := hQ.calm hg
          have hsC := Nat.le_trans hsC hg.size
          have hgr := grownBy_trans hgr hg
          have hR := hq1
          have hsD := hq3
          clear hq1 hq2 hq3 hg
          refine hKK _ _ hbx.five ?_
          clear hKK KK
          refine held_next 6 (by kernel_rfl) rfl ?_
          intro KK hKK
          obtain ⟨t0, t1, t2, t3, t4⟩ := hb3.five
          have f0 := hb3.free 0
          have f1 := hb3.free 1
          have f2 := hb3.free 2
          have f3 := hb3.free 3
          have f4 := hb3.free 4
          go_simp
          clear t0 t1 t2 t3 t4 f0 f1 f2 f3 f4
          have hnb : bp ≠ b3 := by have := HBP.out; omega
          have hQ := hQ.set5 (b := b3) hb3 (.int .u32 (id : Int)) (.slice p1 nd c1) (.slice p2 nm c2) (.slice p3 nx c3) (.slice p4 nh c4)
          have hR := hR.set5 hd3 (.int .u32 (id : Int)) (.slice p1 nd c1) (.slice p2 nm c2) (.slice p3 nx c3) (.slice p4 nh c4)
          have hsD := le_set5 hsD b3 (.int .u32 (id : Int)) (.slice p1 nd c1) (.slice p2 nm c2) (.slice p3 nx c3) (.slice p4 nh c4)
          have hb4 := hb4.set5_ne (b := b3) h34.symm (.int .u32 (id : Int)) (.slice p1 nd c1) (.slice p2 nm c2) (.slice p3 nx c3) (.slice p4 nh c4)
          have hbx := hbx.set5_ne hnb (.int .u32 (id : Int)) (.slice p1 nd c1) (.slice p2 nm c2) (.slice p3 nx c3) (.slice p4 nh c4)
          have hgr := grownBy_set5 hgr hm3 (.int .u32 (id : Int)) (.slice p1 nd c1) (.slice p2 nm c2) (.slice p3 nx c3) (.slice p4 nh c4)
          have hsC := le_set5 hsC b3 (.int .u32 (id : Int)) (.slice p1 nd c1) (.slice p2 nm c2) (.slice p3 nx c3) (.slice p4 nh c4)
          have hb3 := hb3.set5 (.int .u32 (id : Int)) (.slice p1 nd c1) (.slice p2 nm c2) (.slice p3 nx c3) (.slice p4 nh c4)
          simp only [set5] at *
          generalize World.setCell _ ⟨b3, 4, none⟩ _ = W5 at *
          clear hnb
          refine hKK _ _ hbx.five ?_
          clear hKK KK
          refine held_next 7 (by kernel_rfl) rfl ?_
          intro KK hKK
          obtain ⟨t0, t1, t2, t3, t4⟩ := hb4.five
          have f0 := hb4.free 0
          have f1 := hb4.free 1
          have f2 := hb4.free 2
          have f3 := hb4.free 3
          have f4 := hb4.free 4
          go_simp
          clear t0 t1 t2 t3 t4 f0 f1 f2 f3 f4
          have hnb : bp ≠ b4 := by have := HBP.out; omega
          have hQ := hQ.set5 (b := b4) hb4 (.int .u32 (id : Int)) (.slice r1 nd d1) (.slice r2 nm d2) (.slice r3 nx d3) (.slice r4 nh d4)
          have hR := hR.set5 hd4 (.int .u32 (id : Int)) (.slice r1 nd d1) (.slice r2 nm d2) (.slice r3 nx d3) (.slice r4 nh d4)
          have hsD := le_set5 hsD b4 (.int .u32 (id : Int)) (.slice r1 nd d1) (.slice r2 nm d2) (.slice r3 nx d3) (.slice r4 nh d4)
          have hb3 := hb3.set5_ne (b := b4) h34 (.int .u32 (id : Int)) (.slice r1 nd d1) (.slice r2 nm d2) (.slice r3 nx d3) (.slice r4 nh d4)
          have hbx := hbx.set5_ne hnb (.int .u32 (id : Int)) (.slice r1 nd d1) (.slice r2 nm d2) (.slice r3 nx d3) (.slice r4 nh d4)
          have hgr := grownBy_set5 hgr hm4 (.int .u32 (id : Int)) (.slice r1 nd d1) (.slice r2 nm d2) (.slice r3 nx d3) (.slice r4 nh d4)
          have hsC := le_set5 hsC b4 (.int .u32 (id : Int)) (.slice r1 nd d1) (.slice r2 nm d2) (.slice r3 nx d3) (.slice r4 nh d4)
          have hb4 := hb4.set5 (.int .u32 (id : Int)) (.slice r1 nd d1) (.slice r2 nm d2) (.slice r3 nx d3) (.slice r4 nh d4)
          simp only [set5] at *
          generalize World.setCell _ ⟨b4, 4, none⟩ _ = W6 at *
          clear hnb
          refine hKK _ _ hbx.five ?_
          clear hKK KK
          refine wpAnyH_done (by kernel_rfl) ?_ _
          go_wp2
          go_meet
          exact ⟨b3, b4, s1, s2, s3, p1, p2, p3, p4, c1, c2, c3, c4, r1, r2, r3, r4, d1, d2, d3, d4, g4, A, E, K, rfl, rfl, hP4, HEND.out _ _ _ _ _ _ _ _ _ _ _ _ _ _ _ _ _ _ _ _ _ _ _ _ _ _ hbx hb3 hb4 hQ hR hs12 hgr hLN⟩
      · skip
        go_simp
        obtain ⟨b3, e3⟩ : ∃ b, W1.heap.size = b := ⟨_, rfl⟩
        have hm3 : w3.heap.size ≤ b3 := by rw [← e3]; exact hgr.size
        have h34 : b3 ≠ b4 := by have := hb4.lt; omega
        have hn := BoxV.new W1 [.int .u32 0, .slice none 0 0, .slice none 0 0, .slice none 0 0, .slice none 0 0] 27
        rw [e3] at hn ⊢
        have hg := World.grownBy_alloc W1 (.cells #[.int .u32 0, .slice none 0 0, .slice none 0 0, .slice none 0 0, .slice none 0 0] 27) none
        generalize hWW : World.alloc W1 _ = W2 at *
        clear hWW e3
        have hbx := hbx.calm hg
        have hb4 := hb4.calm hg
        have hgr := grownBy_trans hgr hg
        have hb3 := hn
        clear hn hg
        refine hKK _ _ hbx.five ?_
        clear hKK KK
        refine held_next 1 (by kernel_rfl) rfl ?_
        intro KK hKK
        go_simp
        refine (HCP.out _ hgr).mono ?_
        rintro e W3 ⟨p1, c1, p2, c2, p3, c3, p4, c4, g4, A, E, K, s1, rfl, hq1, hq2, hq3, hq4, hg⟩
        have hbx := hbx.calm hg
        have hb3 := hb3.calm hg
        have hb4 := hb4.calm hg
        have hgr := grownBy_trans hgr hg
        have hP4 := hq1
        have hQ := hq2
        have hLN := hq3
        have hsC := hq4
        clear hq1 hq2 hq3 hq4 hg
        refine hKK _ _ hbx.five ?_
        clear hKK KK
        refine held_next 3 (by kernel_rfl) rfl ?_
        intro KK hKK
        go_simp
        refine (HCR.out _ hgr).mono ?_
        rintro e W4 ⟨r1, d1, r2, d2, r3, d3, r4, d4, s2, s3, rfl, hq1, hq2, hq3, hg⟩
        have hs12 : s1 ≤ s2 := by rw [hq2]; exact hsC
        have hd3 : b3 < s2 ∨ s3 ≤ b3 := .inl (by rw [hq2]; exact hb3.lt)
        have hd4 : b4 < s2 ∨ s3 ≤ b4 := .inl (by rw [hq2]; exact hb4.lt)
        have hbx := hbx.calm hg
        have hb3 := hb3.calm hg
        have hb4 := hb4.calm hg
        have hQ := hQ.calm hg
        have hsC := Nat.le_trans hsC hg.size
        have hgr := grownBy_trans hgr hg
        have hR := hq1
        have hsD := hq3
        clear hq1 hq2 hq3 hg
        refine hKK _ _ hbx.five ?_
        clear hKK KK
        refine held_next 6 (by kernel_rfl) rfl ?_
        intro KK hKK
        obtain ⟨t0, t1, t2, t3, t4⟩ := hb3.five
        have f0 := hb3.free 0
        have f1 := hb3.free 1
        have f2 := hb3.free 2
        have f3 := hb3.free 3
        have f4 := hb3.free 4
        go_simp
        clear t0 t1 t2 t3 t4 f0 f1 f2 f3 f4
        have hnb : bp ≠ b3 := by have := HBP.out; omega
        have hQ := hQ.set5 (b := b3) hb3 (.int .u32 (id : Int)) (.slice p1 nd c1) (.slice p2 nm c2) (.slice p3 nx c3) (.slice p4 nh c4)
        have hR := hR.set5 hd3 (.int .u32 (id : Int)) (.slice p1 nd c1) (.slice p2 nm c2) (.slice p3 nx c3) (.slice p4 nh c4)
        have hsD := le_set5 hsD b3 (.int .u32 (id : Int)) (.slice p1 nd c1) (.slice p2 nm c2) (.slice p3 nx c3) (.slice p4 nh c4)
        have hb4 := hb4.set5_ne (b := b3) h34.symm (.int .u32 (id : Int)) (.slice p1 nd c1) (.slice p2 nm c2) (.slice p3 nx c3) (.slice p4 nh c4)
        have hbx := hbx.set5_ne hnb (.int .u32 (id : Int)) (.slice p1 nd c1) (.slice p2 nm c2) (.slice p3 nx c3) (.slice p4 nh c4)
        have hgr := grownBy_set5 hgr hm3 (.int .u32 (id : Int)) (.slice p1 nd c1) (.slice p2 nm c2) (.slice p3 nx c3) (.slice p4 nh c4)
        have hsC := le_set5 hsC b3 (.int .u32 (id : Int)) (.slice p1 nd c1) (.slice p2 nm c2) (.slice p3 nx c3) (.slice p4 nh c4)
        have hb3 := hb3.set5 (.int .u32 (id : Int)) (.slice p1 nd c1) (.slice p2 nm c2) (.slice p3 nx c3) (.slice p4 nh c4)
        simp only [set5] at *
        generalize World.setCell _ ⟨b3, 4, none⟩ _ = W5 at *
        clear hnb
        refine hKK _ _ hbx.five ?_
        clear hKK KK
        refine held_next 7 (by kernel_rfl) rfl ?_
        intro KK hKK
        obtain ⟨t0, t1, t2, t3, t4⟩ := hb4.five
        have f0 := hb4.free 0
        have f1 := hb4.free 1
        have f2 := hb4.free 2
        have f3 := hb4.free 3
        have f4 := hb4.free 4
        go_simp
        clear t0 t1 t2 t3 t4 f0 f1 f2 f3 f4
        have hnb : bp ≠ b4 := by have := HBP.out; omega
        have hQ := hQ.set5 (b := b4) hb4 (.int .u32 (id : Int)) (.slice r1 nd d1) (.slice r2 nm d2) (.slice r3 nx d3) (.slice r4 nh d4)
        have hR := hR.set5 hd4 (.int .u32 (id : Int)) (.slice r1 nd d1) (.slice r2 nm d2) (.slice r3 nx d3) (.slice r4 nh d4)
        have hsD := le_set5 hsD b4 (.int .u32 (id : Int)) (.slice r1 nd d1) (.slice r2 nm d2) (.slice r3 nx d3) (.slice r4 nh d4)
        have hb3 := hb3.set5_ne (b := b4) h34 (.int .u32 (id : Int)) (.slice r1 nd d1) (.slice r2 nm d2) (.slice r3 nx d3) (.slice r4 nh d4)
        have hbx := hbx.set5_ne hnb (.int .u32 (id : Int)) (.slice r1 nd d1) (.slice r2 nm d2) (.slice r3 nx d3) (.slice r4 nh d4)
        have hgr := grownBy_set5 hgr hm4 (.int .u32 (id : Int)) (.slice r1 nd d1) (.slice r2 nm d2) (.slice r3 nx d3) (.slice r4 nh d4)
        have hsC := le_set5 hsC b4 (.int .u32 (id : Int)) (.slice r1 nd d1) (.slice r2 nm d2) (.slice r3 nx d3) (.slice r4 nh d4)
        have hb4 := hb4.set5 (.int .u32 (id : Int)) (.slice r1 nd d1) (.slice r2 nm d2) (.slice r3 nx d3) (.slice r4 nh d4)
        simp only [set5] at *
        generalize World.setCell _ ⟨b4, 4, none⟩ _ = W6 at *
        clear hnb
        refine hKK _ _ hbx.five ?_
        clear hKK KK
        refine wpAnyH_done (by kernel_rfl) ?_ _
        go_wp2
        go_meet
        exact ⟨b3, b4, s1, s2, s3, p1, p2, p3, p4, c1, c2, c3, c4, r1, r2, r3, r4, d1, d2, d3, d4, g4, A, E, K, rfl, rfl, hP4, HEND.out _ _ _ _ _ _ _ _ _ _ _ _ _ _ _ _ _ _ _ _ _ _ _ _ _ _ hbx hb3 hb4 hQ hR hs12 hgr hLN⟩
  case rest =>
    clear HB3 a0 a1 a2 a3 a4
    obtain ⟨b3, b4, s1, s2, s3, p1, p2, p3, p4, c1, c2, c3, c4, r1, r2, r3, r4, d1, d2, d3, d4, g4, A, E, K, rfl, rfl, hp4, hcs⟩ := hcut
    have HP4 := Lib.hid hp4
    have HL := Lib.hid hcs
    clear hp4 hcs HCP HCR HEND
    obtain ⟨lo, hlo⟩ : ∃ n, w3.heap.size = n := ⟨_, rfl⟩
    rw [hlo] at HL
    clear hlo
    go_wp2
    go_loopw [5] (fun vv wr => ∃ k : Nat, k ≤ nd ∧ vv = .int .i64 k ∧ Hid (CpS w wr lo s1 s2 s3 id nd nm nx nh p bp [.int .u32 (id : Int), .slice pd nd cd, .slice pm nm cm, .slice px nx cx, .slice ph nh ch] b3 b4 p1 c1 p2 c2 p3 c3 p4 c4 r1 d1 r2 d2 r3 d3 r4 d4 g4 A E K)) (fun vv _ => nd - (intOf vv).toNat)
    case atStart => exact ⟨0, Nat.zero_le _, rfl, HL⟩
    case round =>
      clear HL
      obtain ⟨k, hk, rfl, HL⟩ := hrel
      by_cases hkn : k < nd
      · have k0 : (0 : Int) ≤ k := by omega
        have k1 : (k : Int) < nd := by omega
        obtain ⟨g, cur, v, hp, hg1, hg2, hb, hc, hf⟩ := HL.out.q.d.cell (j := 0) hkn Nat.one_pos
        rw [Nat.mul_one, Nat.add_zero] at hc hf
        have y1 := HL.out.b3.cell (k := 1) rfl
        subst hp
        have HN := Lib.hid (HL.out.set hb (by decide) (by decide) hg1 hg2 k (.int .u32 99))
        clear HL hb hg1 hg2
        go_wp2
        exact ⟨⟨k + 1, by omega, by go_num, HN⟩, by simp [intOf]; omega⟩
      · obtain rfl : nd = k := by omega
        have k1 : ¬ ((nd : Int) < nd) := by omega
        have y1 := HL.out.b3.cell (k := 1) rfl
        go_wp2
        clear y1 k1 hkn hk
        go_loopw [6] (fun vv wr => ∃ k : Nat, k ≤ nm ∧ vv = .int .i64 k ∧ Hid (CpS w wr lo s1 s2 s3 id nd nm nx nh p bp [.int .u32 (id : Int), .slice pd nd cd, .slice pm nm cm, .slice px nx cx, .slice ph nh ch] b3 b4 p1 c1 p2 c2 p3 c3 p4 c4 r1 d1 r2 d2 r3 d3 r4 d4 g4 A E K)) (fun vv _ => nm - (intOf vv).toNat)
        case atStart => exact ⟨0, Nat.zero_le _, rfl, HL⟩
        case round =>
          clear HL
          obtain ⟨k, hk, rfl, HL⟩ := hrel
          by_cases hkn : k < nm
          · have k0 : (0 : Int) ≤ k := by omega
            have k1 : (k : Int) < nm := by omega
            obtain ⟨g, cur, v, hp, hg1, hg2, hb, hc, hf⟩ := HL.out.q.m.cell (j := 0) hkn Nat.one_pos
            rw [Nat.mul_one, Nat.add_zero] at hc hf
            have y1 := HL.out.b3.cell (k := 2) rfl
            subst hp
            have HN := Lib.hid (HL.out.set hb (by decide) (by decide) hg1 hg2 k (.string ⟨#[115, 112, 111, 105, 108, 116]⟩))
            clear HL hb hg1 hg2
            go_wp2
            exact ⟨⟨k + 1, by omega, by go_num, HN⟩, by simp [intOf]; omega⟩
          · obtain rfl : nm = k := by omega
            have k1 : ¬ ((nm : Int) < nm) := by omega
            have y1 := HL.out.b3.cell (k := 2) rfl
            go_wp2
            clear y1 k1 hkn hk
            go_loopw [7] (fun vv wr => ∃ i : Nat, i ≤ nh ∧ vv = .int .i64 i ∧ Hid (CpS w wr lo s1 s2 s3 id nd nm nx nh p bp [.int .u32 (id : Int), .slice pd nd cd, .slice pm nm cm, .slice px nx cx, .slice ph nh ch] b3 b4 p1 c1 p2 c2 p3 c3 p4 c4 r1 d1 r2 d2 r3 d3 r4 d4 g4 A E K)) (fun vv _ => nh - (intOf vv).toNat)
            case atStart => exact ⟨0, Nat.zero_le _, rfl, HL⟩
            case round =>
              clear HL
              obtain ⟨i, hk, rfl, HL⟩ := hrel
              by_cases hkn : i < nh
              · have k0 : (0 : Int) ≤ i := by omega
                have k1 : (i : Int) < nh := by omega
                have hin := hkn
                have hp4 := HP4.out (by omega)
                subst hp4
                have y1 := HL.out.b3.cell (k := 4) rfl
                go_wp2
                clear y1
                obtain ⟨⟨paA, naA, caA⟩, hA⟩ : ∃ z, A i = z := ⟨_, rfl⟩
                have hnaA : naA ≤ 100 := by have := (HL.out.ln i hin).1; rw [hA] at this; exact this
                go_loopw [8] (fun vv wr => ∃ k : Nat, k ≤ naA ∧ vv = .int .i64 k ∧ Hid (CpS w wr lo s1 s2 s3 id nd nm nx nh p bp [.int .u32 (id : Int), .slice pd nd cd, .slice pm nm cm, .slice px nx cx, .slice ph nh ch] b3 b4 p1 c1 p2 c2 p3 c3 (some ⟨g4, 0, none⟩) c4 r1 d1 r2 d2 r3 d3 r4 d4 g4 A E K)) (fun vv _ => naA - (intOf vv).toNat)
                case atStart => exact ⟨0, Nat.zero_le _, rfl, HL⟩
                case round =>
                  clear HL
                  obtain ⟨k, hk, rfl, HL⟩ := hrel
                  by_cases hkn : k < naA
                  · have k0 : (0 : Int) ≤ k := by omega
                    have k1 : (k : Int) < naA := by omega
                    obtain ⟨g, cur, v, hp, hg1, hg2, hb, hc, hf⟩ := (HL.out.q.a i hin).cell (k := k) (j := 0) (by rw [hA]; exact hkn) (by decide)
                    obtain ⟨z1, z2, z3⟩ := HL.out.q.heads hin
                    rw [hA] at z1 hp
                    simp only at z1 hp
                    rw [Nat.mul_one, Nat.add_zero] at hc hf
                    have y1 := HL.out.b3.cell (k := 4) rfl
                    subst hp
                    have HN := Lib.hid (HL.out.set hb (by decide) (by decide) hg1 hg2 (k) (.string ⟨#[115, 112, 111, 105, 108, 116]⟩))
                    clear HL hb hg1 hg2
                    go_wp2
                    exact ⟨⟨k + 1, by omega, by go_num, HN⟩, by simp [intOf]; omega⟩
                  · obtain rfl : naA = k := by omega
                    have k1 : ¬ ((naA : Int) < naA) := by omega
                    obtain ⟨z1, z2, z3⟩ := HL.out.q.heads hin
                    rw [hA] at z1
                    simp only at z1
                    have y1 := HL.out.b3.cell (k := 4) rfl
                    go_wp2
                    clear y1 z1 z2 z3 k1 hkn hk
                    obtain ⟨⟨paE, naE, caE⟩, hE⟩ : ∃ z, E i = z := ⟨_, rfl⟩
                    have hnaE : naE ≤ 100 := by have := (HL.out.ln i hin).2.1; rw [hE] at this; exact this
                    go_loopw [9] (fun vv wr => ∃ k : Nat, k ≤ naE ∧ vv = .int .i64 k ∧ Hid (CpS w wr lo s1 s2 s3 id nd nm nx nh p bp [.int .u32 (id : Int), .slice pd nd cd, .slice pm nm cm, .slice px nx cx, .slice ph nh ch] b3 b4 p1 c1 p2 c2 p3 c3 (some ⟨g4, 0, none⟩) c4 r1 d1 r2 d2 r3 d3 r4 d4 g4 A E K)) (fun vv _ => naE - (intOf vv).toNat)
                    case atStart => exact ⟨0, Nat.zero_le _, rfl, HL⟩
                    case round =>
                      clear HL
                      obtain ⟨k, hk, rfl, HL⟩ := hrel
                      by_cases hkn : k < naE
                      · have k0 : (0 : Int) ≤ k := by omega
                        have k1 : (k : Int) < naE := by omega
                        obtain ⟨g, cur, v, hp, hg1, hg2, hb, hc, hf⟩ := (HL.out.q.e i hin).cell (k := k) (j := 1) (by rw [hE]; exact hkn) (by decide)
                        obtain ⟨z1, z2, z3⟩ := HL.out.q.heads hin
                        rw [hE] at z2 hp
                        simp only at z2 hp
                        have y1 := HL.out.b3.cell (k := 4) rfl
                        subst hp
                        have HN := Lib.hid (HL.out.set hb (by decide) (by decide) hg1 hg2 (k * 4 + 1) (.int .i64 77))
                        clear HL hb hg1 hg2
                        go_wp2
                        exact ⟨⟨k + 1, by omega, by go_num, HN⟩, by simp [intOf]; omega⟩
                      · obtain rfl : naE = k := by omega
                        have k1 : ¬ ((naE : Int) < naE) := by omega
                        obtain ⟨z1, z2, z3⟩ := HL.out.q.heads hin
                        rw [hE] at z2
                        simp only at z2
                        have y1 := HL.out.b3.cell (k := 4) rfl
                        go_wp2
                        clear y1 z1 z2 z3 k1 hkn hk
                        obtain ⟨⟨paK, naK, caK⟩, hK⟩ : ∃ z, K i = z := ⟨_, rfl⟩
                        have hnaK : naK ≤ 100 := by have := (HL.out.ln i hin).2.2; rw [hK] at this; exact this
                        go_loopw [10] (fun vv wr => ∃ k : Nat, k ≤ naK ∧ vv = .int .i64 k ∧ Hid (CpS w wr lo s1 s2 s3 id nd nm nx nh p bp [.int .u32 (id : Int), .slice pd nd cd, .slice pm nm cm, .slice px nx cx, .slice ph nh ch] b3 b4 p1 c1 p2 c2 p3 c3 (some ⟨g4, 0, none⟩) c4 r1 d1 r2 d2 r3 d3 r4 d4 g4 A E K)) (fun vv _ => naK - (intOf vv).toNat)
                        case atStart => exact ⟨0, Nat.zero_le _, rfl, HL⟩
                        case round =>
                          clear HL
                          obtain ⟨k, hk, rfl, HL⟩ := hrel
                          by_cases hkn : k < naK
                          · have k0 : (0 : Int) ≤ k := by omega
                            have k1 : (k : Int) < naK := by omega
                            obtain ⟨g, cur, v, hp, hg1, hg2, hb, hc, hf⟩ := (HL.out.q.k i hin).cell (k := k) (j := 1) (by rw [hK]; exact hkn) (by decide)
                            obtain ⟨z1, z2, z3⟩ := HL.out.q.heads hin
                            rw [hK] at z3 hp
                            simp only at z3 hp
                            have y1 := HL.out.b3.cell (k := 4) rfl
                            subst hp
                            have HN := Lib.hid (HL.out.set hb (by decide) (by decide) hg1 hg2 (k * 2 + 1) (.int .i64 77))
                            clear HL hb hg1 hg2
                            go_wp2
                            exact ⟨⟨k + 1, by omega, by go_num, HN⟩, by simp [intOf]; omega⟩
                          · obtain rfl : naK = k := by omega
                            have k1 : ¬ ((naK : Int) < naK) := by omega
                            obtain ⟨z1, z2, z3⟩ := HL.out.q.heads hin
                            rw [hK] at z3
                            simp only at z3
                            have y1 := HL.out.b3.cell (k := 4) rfl
                            obtain ⟨vv, z4, z5⟩ := HL.out.q.spot hin
                            have HN := Lib.hid (HL.out.path i (by omega) (.string ⟨#[115, 112, 111, 105, 108, 116]⟩))
                            clear HL
                            go_wp2
                            exact ⟨⟨i + 1, by omega, by go_num, HN⟩, by simp [intOf]; omega⟩
              · obtain rfl : nh = i := by omega
                have k1 : ¬ ((nh : Int) < nh) := by omega
                have y1 := HL.out.b3.cell (k := 4) rfl
                go_upto_region 30 with fail
                clear y1 k1 hkn hk
                have y := HL.out
                clear HL
                have HBX := Lib.hid y.box
                have HBY := Lib.hid y.b4
                have HGR := Lib.hid y.gr
                have HPW := Lib.hid (H.out.at'.calm y.gr)
                have HRW := Lib.hid y.r
                clear y
                generalize wr = wz at *
                obtain ⟨r, hr⟩ := bool_of (IsPt p)
                have HR := Lib.hid hr
                clear hr
                have IP : Hid (∀ X, wz.grownBy X none → Calls Try.prog 10 #[.agg #[.int .u32 (id : Int), .slice pd nd cd, .slice pm nm cm, .slice px nx cx, .slice ph nh ch]] X fun e w' => e = .returned (.bool r) ∧ X.grownBy w' none) := Lib.hid fun X h => patIs_c sortU id pd nd cd pm nm cm px nx cx ph nh ch _ _ p r X (HPW.out.calm h) HBG.out HR.out
                have IR : Hid (∀ X, wz.grownBy X none → Calls Try.prog 10 #[.agg #[.int .u32 (id : Int), .slice r1 nd d1, .slice r2 nm d2, .slice r3 nx d3, .slice r4 nh d4]] X fun e w' => e = .returned (.bool r) ∧ X.grownBy w' none) := Lib.hid fun X h => patIs_c sortU id r1 nd d1 r2 nm d2 r3 nx d3 r4 nh d4 _ _ p r X (HRW.out.calm h) HBG.out HR.out
                have SM : Hid (∀ X, wz.grownBy X none → Calls Try.prog 9 #[.agg #[.int .u32 (id : Int), .slice pd nd cd, .slice pm nm cm, .slice px nx cx, .slice ph nh ch], .agg #[.int .u32 (id : Int), .slice r1 nd d1, .slice r2 nm d2, .slice r3 nx d3, .slice r4 nh d4]] X fun e w' => e = .returned (.bool true) ∧ X.grownBy w' none) := Lib.hid fun X h => patSame_c p p id pd nd cd pm nm cm px nx cx ph nh ch id r1 nd d1 r2 nm d2 r3 nx d3 r4 nh d4 _ _ _ _ true X (HPW.out.calm h) (HRW.out.calm h) HBG.out HBG.out ⟨fun _ => rfl, fun _ => rfl⟩
                clear HPW HRW HR
                have HS : Hid (∀ X, wz.grownBy X none → X.cell? ⟨bp, 0, none⟩ = some (.int .u32 (id : Int)) ∧ X.cell? ⟨bp, 1, none⟩ = some (.slice pd nd cd) ∧ X.cell? ⟨bp, 2, none⟩ = some (.slice pm nm cm) ∧ X.cell? ⟨bp, 3, none⟩ = some (.slice px nx cx) ∧ X.cell? ⟨bp, 4, none⟩ = some (.slice ph nh ch) ∧ X.cell? ⟨b4, 0, none⟩ = some (.int .u32 (id : Int)) ∧ X.cell? ⟨b4, 1, none⟩ = some (.slice r1 nd d1) ∧ X.cell? ⟨b4, 2, none⟩ = some (.slice r2 nm d2) ∧ X.cell? ⟨b4, 3, none⟩ = some (.slice r3 nx d3) ∧ X.cell? ⟨b4, 4, none⟩ = some (.slice r4 nh d4)) := Lib.hid fun X hX => by
                  obtain ⟨a0, a1, a2, a3, a4⟩ := (HBX.out.calm hX).five
                  obtain ⟨y0, y1, y2, y3, y4⟩ := (HBY.out.calm hX).five
                  exact ⟨a0, a1, a2, a3, a4, y0, y1, y2, y3, y4⟩
                clear HBX HBY
                have henv : wz.grownBy (World.drew wz) none := grownBy_drewN wz 1 none
                go_region_held3 (fun X => X.cell? ⟨bp, 0, none⟩ = some (.int .u32 (id : Int)) ∧ X.cell? ⟨bp, 1, none⟩ = some (.slice pd nd cd) ∧ X.cell? ⟨bp, 2, none⟩ = some (.slice pm nm cm) ∧ X.cell? ⟨bp, 3, none⟩ = some (.slice px nx cx) ∧ X.cell? ⟨bp, 4, none⟩ = some (.slice ph nh ch) ∧ X.cell? ⟨b4, 0, none⟩ = some (.int .u32 (id : Int)) ∧ X.cell? ⟨b4, 1, none⟩ = some (.slice r1 nd d1) ∧ X.cell? ⟨b4, 2, none⟩ = some (.slice r2 nm d2) ∧ X.cell? ⟨b4, 3, none⟩ = some (.slice r3 nx d3) ∧ X.cell? ⟨b4, 4, none⟩ = some (.slice r4 nh d4))
                  (first | exact HS.out _ henv | go_keep)
                  (first
                    | (go_at_call 10; (first | (with_reducible refine (IP.out _ henv).mono ?_) | (with_reducible refine (IR.out _ henv).mono ?_)); rintro e w5 ⟨rfl, hg⟩; have henv := grownBy_trans henv hg)
                    | (go_at_call 9; (with_reducible refine (SM.out _ henv).mono ?_); rintro e w5 ⟨rfl, hg⟩; have henv := grownBy_trans henv hg))
                have HGE := Lib.hid (grownBy_trans HGR.out henv)
                clear henv
                have hrr : (r == r) = true := by simp
                go_wp2
                go_ret
                exact ⟨by simp, HGE.out⟩

end Go.Proofs.Ytcfhnfnhdhloiaa
