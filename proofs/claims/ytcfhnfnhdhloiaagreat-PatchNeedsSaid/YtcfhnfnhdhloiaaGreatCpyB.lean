/- PatchCopies: a copy of a patch goes its own way: the walk. -/
import Derived.Test.YtcfhnfnhdhloiaaGreatCpyA
import Derived.Test.YtcfhnfnhdhloiaaGreatKnow12
import Derived.Test.YtcfhnfnhdhloiaaGreatArgT
namespace Go.Proofs.YtcfhnfnhdhloiaaGreat
open Go.RowKit

theorem BoxV.keepT {w : World} {g : Nat} {vs : List Value} {t : TypeId} (h : BoxV w g vs t) {b : Nat} {cur : Array Value} {t' : TypeId} (hb : w.heap[b]? = some (.cells cur t' (0, 0))) (ht : t ≠ t') (o : Nat) (v : Value) : BoxV (w.setCell ⟨b, o, none⟩ v) g vs t :=
  h.keepSet (fun e => by
    unfold BoxV at h
    rw [e, hb] at h
    exact ht (Obj.cells.inj (Option.some.inj h)).2.1.symm) o v
theorem PtAt.set {w : World} {lo hi id nd cd nm cm nx cx nh ch : Nat} {pd pm px ph : Option Addr} {p : Pt} (h : PtAt w lo hi id pd nd cd pm nm cm px nx cx ph nh ch p) {b : Nat} (hb : b < lo ∨ hi ≤ b) (o : Nat) (v : Value) : PtAt (w.setCell ⟨b, o, none⟩ v) lo hi id pd nd cd pm nm cm px nx cx ph nh ch p :=
  h.stay ⟨by simp, fun i h1 h2 => heap_set_ne w b o v (by omega)⟩
theorem Row0.low {w : World} {lo lo' hi : Nat} {t : TypeId} {size n c : Nat} {p : Option Addr} (h : Row0 w lo hi t size p n c) (hl : lo' ≤ lo) : Row0 w lo' hi t size p n c := by
  rcases h with h | ⟨g, cur, h1, h2, h3⟩
  · exact .inl h
  · exact .inr ⟨g, cur, h1, Nat.le_trans hl h2, h3⟩
theorem QAt.low {w : World} {lo lo' hi nd : Nat} {p1 : Option Addr} {c1 nm : Nat} {p2 : Option Addr} {c2 nh g4 : Nat} {A E K : Nat → Option Addr × Nat × Nat} (q : QAt w lo hi nd p1 c1 nm p2 c2 nh g4 A E K) (hl : lo' ≤ lo) : QAt w lo' hi nd p1 c1 nm p2 c2 nh g4 A E K :=
  ⟨q.d.low hl, q.m.low hl, fun hn => ⟨Nat.le_trans hl (q.h hn).1, (q.h hn).2⟩, fun i hi => (q.a i hi).low hl, fun i hi => (q.e i hi).low hl, fun i hi => (q.k i hi).low hl⟩

/-! Five cells of a box. -/
def set5 (w : World) (b : Nat) (v0 v1 v2 v3 v4 : Value) : World := ((((w.setCell ⟨b, 0, none⟩ v0).setCell ⟨b, 1, none⟩ v1).setCell ⟨b, 2, none⟩ v2).setCell ⟨b, 3, none⟩ v3).setCell ⟨b, 4, none⟩ v4
section
variable {w w0 : World}
theorem BoxV.set5 {b : Nat} {u0 u1 u2 u3 u4 : Value} {t : TypeId} (h : BoxV w b [u0, u1, u2, u3, u4] t) (v0 v1 v2 v3 v4 : Value) : BoxV (set5 w b v0 v1 v2 v3 v4) b [v0, v1, v2, v3, v4] t :=
  ((((h.set 0 v0).set 1 v1).set 2 v2).set 3 v3).set 4 v4
theorem BoxV.set5_ne {g b : Nat} {vs : List Value} {t : TypeId} (h : BoxV w g vs t) (hb : g ≠ b) (v0 v1 v2 v3 v4 : Value) : BoxV (Go.Proofs.YtcfhnfnhdhloiaaGreat.set5 w b v0 v1 v2 v3 v4) g vs t :=
  ((((h.keepSet hb 0 v0).keepSet hb 1 v1).keepSet hb 2 v2).keepSet hb 3 v3).keepSet hb 4 v4
theorem grownBy_set5 (h : w0.grownBy w none) {b : Nat} (hb : w0.heap.size ≤ b) (v0 v1 v2 v3 v4 : Value) : w0.grownBy (set5 w b v0 v1 v2 v3 v4) none :=
  grownBy_setNew (grownBy_setNew (grownBy_setNew (grownBy_setNew (grownBy_setNew h hb 0 v0) hb 1 v1) hb 2 v2) hb 3 v3) hb 4 v4
theorem le_set5 {n : Nat} (h : n ≤ w.heap.size) (b : Nat) (v0 v1 v2 v3 v4 : Value) : n ≤ (set5 w b v0 v1 v2 v3 v4).heap.size := by unfold set5; simpa using h
theorem PtAt.set5 {lo hi id nd cd nm cm nx cx nh ch : Nat} {pd pm px ph : Option Addr} {p : Pt} (h : PtAt w lo hi id pd nd cd pm nm cm px nx cx ph nh ch p) {b : Nat} (hb : b < lo ∨ hi ≤ b) (v0 v1 v2 v3 v4 : Value) : PtAt (Go.Proofs.YtcfhnfnhdhloiaaGreat.set5 w b v0 v1 v2 v3 v4) lo hi id pd nd cd pm nm cm px nx cx ph nh ch p :=
  ((((h.set hb 0 v0).set hb 1 v1).set hb 2 v2).set hb 3 v3).set hb 4 v4
theorem QAt.set5 {lo hi nd : Nat} {p1 : Option Addr} {c1 nm : Nat} {p2 : Option Addr} {c2 nh g4 : Nat} {A E K : Nat → Option Addr × Nat × Nat} (q : QAt w lo hi nd p1 c1 nm p2 c2 nh g4 A E K) {b : Nat} {u0 u1 u2 u3 u4 : Value} (hb : BoxV w b [u0, u1, u2, u3, u4] 27) (v0 v1 v2 v3 v4 : Value) : QAt (Go.Proofs.YtcfhnfnhdhloiaaGreat.set5 w b v0 v1 v2 v3 v4) lo hi nd p1 c1 nm p2 c2 nh g4 A E K :=
  have h0 := hb.set 0 v0
  have h1 := h0.set 1 v1
  have h2 := h1.set 2 v2
  have h3 := h2.set 3 v3
  ((((q.set hb (by decide) 0 v0).set h0 (by decide) 1 v1).set h1 (by decide) 2 v2).set h2 (by decide) 3 v3).set h3 (by decide) 4 v4
end

/-- What lies while the copy is written over. -/
structure CpS (w wr : World) (lo s1 s2 s3 id nd nm nx nh : Nat) (p : Pt) (bp : Nat) (vp : List Value) (b3 b4 : Nat) (p1 : Option Addr) (c1 : Nat) (p2 : Option Addr) (c2 : Nat) (p3 : Option Addr) (c3 : Nat) (p4 : Option Addr) (c4 : Nat) (r1 : Option Addr) (d1 : Nat) (r2 : Option Addr) (d2 : Nat) (r3 : Option Addr) (d3 : Nat) (r4 : Option Addr) (d4 : Nat) (g4 : Nat) (A E K : Nat → Option Addr × Nat × Nat) : Prop where
  box : BoxV wr bp vp 27
  b3 : BoxV wr b3 [.int .u32 (id : Int), .slice p1 nd c1, .slice p2 nm c2, .slice p3 nx c3, .slice p4 nh c4] 27
  b4 : BoxV wr b4 [.int .u32 (id : Int), .slice r1 nd d1, .slice r2 nm d2, .slice r3 nx d3, .slice r4 nh d4] 27
  q : QAt wr lo s1 nd p1 c1 nm p2 c2 nh g4 A E K
  r : PtAt wr s2 s3 id r1 nd d1 r2 nm d2 r3 nx d3 r4 nh d4 p
  s12 : s1 ≤ s2
  gr : w.grownBy wr none
  lw : w.heap.size ≤ lo
  ln : ∀ i, i < nh → (A i).2.1 ≤ 100 ∧ (E i).2.1 ≤ 100 ∧ (K i).2.1 ≤ 100
section
variable {w wr : World} {lo s1 s2 s3 id nd nm nx nh : Nat} {p : Pt} {bp : Nat} {vp : List Value} {b3 b4 : Nat} {p1 : Option Addr} {c1 : Nat} {p2 : Option Addr} {c2 : Nat} {p3 : Option Addr} {c3 : Nat} {p4 : Option Addr} {c4 : Nat} {r1 : Option Addr} {d1 : Nat} {r2 : Option Addr} {d2 : Nat} {r3 : Option Addr} {d3 : Nat} {r4 : Option Addr} {d4 : Nat} {g4 : Nat} {A E K : Nat → Option Addr × Nat × Nat}
theorem CpS.set (h : CpS w wr lo s1 s2 s3 id nd nm nx nh p bp vp b3 b4 p1 c1 p2 c2 p3 c3 p4 c4 r1 d1 r2 d2 r3 d3 r4 d4 g4 A E K) {b : Nat} {cur : Array Value} {t : TypeId} (hb : wr.heap[b]? = some (.cells cur t (0, 0))) (ht : 50 ≠ t) (ht' : 27 ≠ t) (hl : lo ≤ b) (hs : b < s1) (o : Nat) (v : Value) : CpS w (wr.setCell ⟨b, o, none⟩ v) lo s1 s2 s3 id nd nm nx nh p bp vp b3 b4 p1 c1 p2 c2 p3 c3 p4 c4 r1 d1 r2 d2 r3 d3 r4 d4 g4 A E K :=
  ⟨h.box.keepT hb ht' o v, h.b3.keepT hb ht' o v, h.b4.keepT hb ht' o v, h.q.set hb ht o v, h.r.set (.inl (Nat.lt_of_lt_of_le hs h.s12)) o v, h.s12, grownBy_setNew h.gr (Nat.le_trans h.lw hl) o v, h.lw, h.ln⟩
theorem CpS.path (h : CpS w wr lo s1 s2 s3 id nd nm nx nh p bp vp b3 b4 p1 c1 p2 c2 p3 c3 p4 c4 r1 d1 r2 d2 r3 d3 r4 d4 g4 A E K) (i : Nat) (hn : 0 < nh) (v : Value) : CpS w (wr.setCell ⟨g4, i * 4, none⟩ v) lo s1 s2 s3 id nd nm nx nh p bp vp b3 b4 p1 c1 p2 c2 p3 c3 p4 c4 r1 d1 r2 d2 r3 d3 r4 d4 g4 A E K := by
  obtain ⟨h1, h2, cur, h3, _⟩ := h.q.h hn
  exact ⟨h.box.keepT h3 (by decide) _ v, h.b3.keepT h3 (by decide) _ v, h.b4.keepT h3 (by decide) _ v, h.q.path i v, h.r.set (.inl (Nat.lt_of_lt_of_le h2 h.s12)) _ v, h.s12, grownBy_setNew h.gr (Nat.le_trans h.lw h1) _ v, h.lw, h.ln⟩
end


end Go.Proofs.YtcfhnfnhdhloiaaGreat
