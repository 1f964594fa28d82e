/- A copy as a patch in memory; of the law folder's own. -/
import Derived.Test.YtcfhnfnhdhloiaaGreatPuo
import Derived.Test.YtcfhnfnhdhloiaaGreatKnwA
/-! Package patch: a copy is a patch in memory. -/
namespace Go.Proofs.YtcfhnfnhdhloiaaGreat
open Go.RowKit

theorem OwnB.at_ {w : World} {lo : Nat} {t : TypeId} {size n c : Nat} {p : Option Addr} {cs : List Value} (h : OwnB w lo t size p n c cs) (hn : 0 < n) : ∃ g, p = some ⟨g, 0, none⟩ ∧ lo ≤ g ∧ g < w.heap.size ∧ ∀ j u, cs[j]? = some u → w.cell? ⟨g, j, none⟩ = some u := by
  rcases h with ⟨_, h0, _⟩ | ⟨g, cur, rfl, h2, h3, h4, h5, h6⟩
  · omega
  · exact ⟨g, rfl, h2, (Array.getElem?_eq_some_iff.1 h3).1, fun j u hj => by simpa [World.cell?, h3] using h6 j u hj⟩
theorem OwnB.cap {w : World} {lo : Nat} {t : TypeId} {size n c : Nat} {p : Option Addr} {cs : List Value} (h : OwnB w lo t size p n c cs) : n ≤ c ∧ (p = none → c = 0) := by
  rcases h with ⟨h1, h2, h3⟩ | ⟨g, cur, h1, h2, h3, h4, h5, h6⟩
  · exact ⟨by omega, fun _ => h3⟩
  · exact ⟨h5, fun h => by rw [h1] at h; cases h⟩
theorem OwnB.ns {k : IntKind} {w : World} {lo : Nat} {t : TypeId} {n c : Nat} {p : Option Addr} {l : List Nat} (h : OwnB w lo t 1 p n c (ncells k l)) (hl : l.length = n) : NsAt k w lo w.heap.size p n l := ⟨hl, fun hn => by
  obtain ⟨g, e, h1, h2, hc⟩ := h.at_ hn
  exact ⟨g, 0, e, h1, h2, Nat.le_refl _, fun i hi => by rw [Nat.zero_add]; exact hc i _ (ncells_get (by omega))⟩⟩
theorem scells_getP {l : List ByteArray} {i : Nat} (hi : i < l.length) : (scells l)[i]? = some (.string (l[i]?.getD .empty)) := scells_get hi
theorem OwnB.strs {w : World} {lo : Nat} {t : TypeId} {n c : Nat} {p : Option Addr} {l : List ByteArray} (h : OwnB w lo t 1 p n c (scells l)) (hl : l.length = n) : StrsAt w lo w.heap.size p n l := ⟨hl, fun hn => by
  obtain ⟨g, e, h1, h2, hc⟩ := h.at_ hn
  exact ⟨g, 0, e, h1, h2, Nat.le_refl _, fun i hi => by rw [Nat.zero_add]; exact hc i _ (scells_getP (by omega))⟩⟩
theorem OwnB.lns {w : World} {lo : Nat} {t : TypeId} {n c : Nat} {p : Option Addr} {l : List Ln} (h : OwnB w lo t 2 p n c (lcells l)) (hl : l.length = n) : LnsAt w lo w.heap.size p n l := ⟨hl, fun hn => by
  obtain ⟨g, e, h1, h2, hc⟩ := h.at_ hn
  exact ⟨g, 0, e, h1, h2, Nat.le_refl _, fun i hi => by
    obtain ⟨g0, g1⟩ := lcells_get (l := l) (i := i) (by omega)
    rw [Nat.zero_add]
    exact ⟨hc _ _ g0, hc _ _ g1⟩⟩⟩
theorem OwnB.eds {w : World} {lo : Nat} {t : TypeId} {n c : Nat} {p : Option Addr} {l : List Ed} (h : OwnB w lo t 4 p n c (ecells l)) (hl : l.length = n) : EdsAt w lo w.heap.size p n l := ⟨hl, fun hn => by
  obtain ⟨g, e, h1, h2, hc⟩ := h.at_ hn
  exact ⟨g, 0, e, h1, h2, Nat.le_refl _, fun i hi => by
    obtain ⟨g0, g1, g2, g3⟩ := ecells_get (l := l) (i := i) (by omega)
    rw [Nat.zero_add]
    exact ⟨hc _ _ g0, hc _ _ g1, hc _ _ g2, hc _ _ g3⟩⟩⟩
theorem CpH.hk {w : World} {lo : Nat} {r : HRw} {h : Hk} (c : CpH w lo r h) : ∃ pa na ca pe ne ce pk nk ck, r = (hPath h, .slice pa na ca, .slice pe ne ce, .slice pk nk ck) ∧ HkAt w lo w.heap.size pa na ca pe ne ce pk nk ck h := by
  obtain ⟨pa, na, ca, pe, ne, ce, pk, nk, ck, e, l1, l2, l3, h1, h2, h3⟩ := c
  exact ⟨pa, na, ca, pe, ne, ce, pk, nk, ck, e, h1.strs l1, h2.eds l2, h3.lns l3, h1.cap.1, h2.cap.1, h3.cap.1, h1.cap.2, h2.cap.2, h3.cap.2⟩
theorem CopyAt.pt {w : World} {lo id : Nat} {p : Pt} {nd nm nx nh : Nat} {p1 : Option Addr} {c1 : Nat} {p2 : Option Addr} {c2 : Nat} {p3 : Option Addr} {c3 : Nat} {p4 : Option Addr} {c4 : Nat} (h : CopyAt w lo p nd nm nx nh p1 c1 p2 c2 p3 c3 p4 c4)
    (hi : pID p = id) (l1 : (pDeps p).length = nd) (l2 : (pMakes p).length = nm) (l3 : (pDrops p).length = nx) (l4 : (pHunks p).length = nh) : PtAt w lo w.heap.size id p1 nd c1 p2 nm c2 p3 nx c3 p4 nh c4 p where
  num := hi
  deps := h.d.ns l1
  makes := h.m.strs l2
  drops := h.x.strs l3
  hunks := ⟨l4, fun hn => by
    obtain ⟨g, f, e, h1, h2, h3⟩ := h.hs hn
    refine ⟨g, 0, e, h1, h2.lt, Nat.le_refl _, fun i hi => ?_⟩
    obtain ⟨pa, na, ca, pe, ne, ce, pk, nk, ck, e2, hh⟩ := (h3 i hi).hk
    obtain ⟨c0, c1, c2, c3⟩ := h2.four hi e2
    rw [Nat.zero_add]
    exact ⟨pa, na, ca, pe, ne, ce, pk, nk, ck, c0, c1, c2, c3, hh⟩⟩
  ld := h.d.cap.1
  lm := h.m.cap.1
  lx := h.x.cap.1
  lh := h.l4
  zd := h.d.cap.2
  zm := h.m.cap.2
  zx := h.x.cap.2
  zh := h.z4
theorem CpH.low {w : World} {lo lo' : Nat} {r : HRw} {h : Hk} (c : CpH w lo r h) (hl : lo' ≤ lo) : CpH w lo' r h := by
  obtain ⟨pa, na, ca, pe, ne, ce, pk, nk, ck, e, l1, l2, l3, h1, h2, h3⟩ := c
  exact ⟨pa, na, ca, pe, ne, ce, pk, nk, ck, e, l1, l2, l3, h1.low hl, h2.low hl, h3.low hl⟩
theorem CopyAt.low {w : World} {lo lo' : Nat} {p : Pt} {nd nm nx nh : Nat} {p1 : Option Addr} {c1 : Nat} {p2 : Option Addr} {c2 : Nat} {p3 : Option Addr} {c3 : Nat} {p4 : Option Addr} {c4 : Nat} (h : CopyAt w lo p nd nm nx nh p1 c1 p2 c2 p3 c3 p4 c4) (hl : lo' ≤ lo) : CopyAt w lo' p nd nm nx nh p1 c1 p2 c2 p3 c3 p4 c4 :=
  ⟨h.d.low hl, h.m.low hl, h.x.low hl, fun hn => by
    obtain ⟨g, f, e, h1, h2, h3⟩ := h.hs hn
    exact ⟨g, f, e, Nat.le_trans hl h1, h2, fun i hi => (h3 i hi).low hl⟩, h.z4, h.l4⟩
/-- .. as a call hands it back. -/
theorem patCopy_p (id : Nat) (pd : Option Addr) (nd cd : Nat) (pm : Option Addr) (nm cm : Nat) (px : Option Addr) (nx cx : Nat) (ph : Option Addr) (nh ch : Nat) (lo hi : Nat) (p : Pt) (w : World)
    (h : PtAt w lo hi id pd nd cd pm nm cm px nx cx ph nh ch p) (hb : PBig p) :
    Calls Tryz.prog 23 #[.agg #[.int .u32 (id : Int), .slice pd nd cd, .slice pm nm cm, .slice px nx cx, .slice ph nh ch]] w fun e w' => ∃ p1 c1 p2 c2 p3 c3 p4 c4, e = .returned (.agg #[.int .u32 (id : Int), .slice p1 nd c1, .slice p2 nm c2, .slice p3 nx c3, .slice p4 nh c4]) ∧
      CopyAt w' w.heap.size p nd nm nx nh p1 c1 p2 c2 p3 c3 p4 c4 ∧ PtAt w' w.heap.size w'.heap.size id p1 nd c1 p2 nm c2 p3 nx c3 p4 nh c4 p ∧ w.grownBy w' none := by
  refine (patCopy_c id pd nd cd pm nm cm px nx cx ph nh ch lo hi p w h hb).mono ?_
  rintro e w' ⟨p1, c1, p2, c2, p3, c3, p4, c4, rfl, hc, hg⟩
  have hc' : CopyAt w' w.heap.size p nd nm nx nh p1 c1 p2 c2 p3 c3 p4 c4 := hc.low (by omega)
  exact ⟨p1, c1, p2, c2, p3, c3, p4, c4, rfl, hc', hc'.pt h.num h.deps.len h.makes.len h.drops.len h.hunks.len, hg⟩

end Go.Proofs.YtcfhnfnhdhloiaaGreat
/-! The law folder's own patch: a copy of it, spoilt. -/
namespace Go.Proofs.YtcfhnfnhdhloiaaGreat
open Go.RowKit

theorem cell_block {w : World} {g : Nat} {cur : Array Value} {t : TypeId} (h : w.heap[g]? = some (.cells cur t (0, 0))) {j : Nat} {u : Value} (hj : cur[j]? = some u) : w.cell? ⟨g, j, none⟩ = some u := by
  simpa [World.cell?, h] using hj
theorem cell_away {w : World} {g b : Nat} (hb : g ≠ b) {j o : Nat} {u v : Value} (h : w.cell? ⟨g, j, none⟩ = some u) : (w.setCell ⟨b, o, none⟩ v).cell? ⟨g, j, none⟩ = some u :=
  (World.cell?_of_block (a := ⟨g, j, none⟩) (heap_set_ne w b o v hb)).trans h
theorem CopyAt.calm {w w' : World} {lo : Nat} {p : Pt} {nd nm nx nh : Nat} {p1 : Option Addr} {c1 : Nat} {p2 : Option Addr} {c2 : Nat} {p3 : Option Addr} {c3 : Nat} {p4 : Option Addr} {c4 : Nat} (h : CopyAt w lo p nd nm nx nh p1 c1 p2 c2 p3 c3 p4 c4) (hg : w.grownBy w' none) :
    CopyAt w' lo p nd nm nx nh p1 c1 p2 c2 p3 c3 p4 c4 :=
  ⟨h.d.calm hg, h.m.calm hg, h.x.calm hg, fun hn => by
    obtain ⟨g, f, h1, h2, h3, h4⟩ := h.hs hn
    exact ⟨g, f, h1, h2, h3.calm hg, fun i hi => (h4 i hi).calm hg⟩, h.z4, h.l4⟩
/-- Where the copy's rows lie. -/
theorem kq_of {w : World} {lo : Nat} {p1 p2 p3 p4 : Option Addr} {c1 c2 c3 c4 : Nat} (h : CopyAt w lo kP 0 1 0 1 p1 c1 p2 c2 p3 c3 p4 c4) :
    ∃ (g0 g1 g2 g3 ca ce ck : Nat) (pk : Option Addr) (m : ByteArray), p2 = some ⟨g0, 0, none⟩ ∧ p4 = some ⟨g3, 0, none⟩ ∧ 1 ≤ c2 ∧ 1 ≤ c4 ∧ (p1 = none → c1 = 0) ∧ (p3 = none → c3 = 0) ∧
      w.cell? ⟨g3, 1, none⟩ = some (.slice (some ⟨g1, 0, none⟩) 2 ca) ∧ w.cell? ⟨g1, 0, none⟩ = some (.string kX) ∧ w.frozen? ⟨g1, 0, none⟩ = false ∧ lo ≤ g1 ∧ g1 < w.heap.size ∧ m.size ≤ 40 ∧
      KAt (w.setCell ⟨g1, 0, none⟩ (.string kN)) lo w.heap.size g0 g1 g2 g3 ca ce pk ck m kN kY := by
  obtain ⟨g3, f, rfl, hg3, hr, hc⟩ := h.hs Nat.one_pos
  obtain ⟨pa, na, ca, pe, ne, ce, pk, nk, ck, ef, l1, l2, l3, o1, o2, o3⟩ := hc 0 Nat.one_pos
  obtain rfl : na = 2 := l1.symm
  obtain rfl : ne = 1 := l2.symm
  obtain rfl : nk = 0 := l3.symm
  rcases o1 with ⟨_, h0, _⟩ | ⟨g1, u1, rfl, hg1, hh1, hs1, hc1, hv1⟩
  · cases h0
  rcases o2 with ⟨_, h0, _⟩ | ⟨g2, u2, rfl, hg2, hh2, hs2, hc2, hv2⟩
  · cases h0
  rcases h.m with ⟨_, h0, _⟩ | ⟨g0, u0, rfl, hg0, hh0, hs0, hc0, hv0⟩
  · cases h0
  have zk : pk = none → ck = 0 := by
    rcases o3 with ⟨_, _, h0⟩ | ⟨g, u, rfl, _⟩
    · exact fun _ => h0
    · exact fun e => by cases e
  have z1 : p1 = none → c1 = 0 := by
    rcases h.d with ⟨_, _, h0⟩ | ⟨g, u, rfl, _⟩
    · exact fun _ => h0
    · exact fun e => by cases e
  have z3 : p3 = none → c3 = 0 := by
    rcases h.x with ⟨_, _, h0⟩ | ⟨g, u, rfl, _⟩
    · exact fun _ => h0
    · exact fun e => by cases e
  obtain ⟨u3, hh3, hs3, hv3⟩ := id hr
  have n2 : g2 ≠ g1 := fun e => by rw [e, hh1] at hh2; exact absurd (Obj.cells.inj (Option.some.inj hh2)).2.1 (by decide)
  have n3 : g3 ≠ g1 := fun e => by rw [e, hh1] at hh3; exact absurd (Obj.cells.inj (Option.some.inj hh3)).2.1 (by decide)
  have f0 : hkc (f 0) = [.string kA, .slice (some ⟨g1, 0, none⟩) 2 ca, .slice (some ⟨g2, 0, none⟩) 1 ce, .slice pk 0 ck] := by rw [ef]; rfl
  have k0 := hr.cell (i := 0) (j := 0) Nat.one_pos (by rw [f0]; rfl)
  have k1 := hr.cell (i := 0) (j := 1) Nat.one_pos (by rw [f0]; rfl)
  have k2 := hr.cell (i := 0) (j := 2) Nat.one_pos (by rw [f0]; rfl)
  have k3 := hr.cell (i := 0) (j := 3) Nat.one_pos (by rw [f0]; rfl)
  have hn := heap_set_same w g1 0 (.string kN) hh1
  have a0 : (w.setCell ⟨g1, 0, none⟩ (.string kN)).cell? ⟨g1, 0, none⟩ = some (.string kN) := cell_block hn (by
    have : 0 < u1.size := by omega
    simp [this])
  have a1 : (w.setCell ⟨g1, 0, none⟩ (.string kN)).cell? ⟨g1, 1, none⟩ = some (.string kY) := cell_block hn (by
    have := hv1 1 (.string kY) rfl
    simpa using this)
  have hsz : (w.setCell ⟨g1, 0, none⟩ (.string kN)).heap.size = w.heap.size := by simp
  have lt0 := (Array.getElem?_eq_some_iff.1 hh0).1
  have lt1 := (Array.getElem?_eq_some_iff.1 hh1).1
  have lt2 := (Array.getElem?_eq_some_iff.1 hh2).1
  have lt3 := (Array.getElem?_eq_some_iff.1 hh3).1
  have hm : ∃ m : ByteArray, m.size ≤ 40 ∧ (w.setCell ⟨g1, 0, none⟩ (.string kN)).cell? ⟨g0, 0, none⟩ = some (.string m) := by
    by_cases e : g0 = g1
    · subst e
      exact ⟨kN, by decide +kernel, a0⟩
    · exact ⟨kA, by decide +kernel, cell_away e (cell_block hh0 (hv0 0 (.string kA) rfl))⟩
  obtain ⟨m, hm1, hm2⟩ := hm
  refine ⟨g0, g1, g2, g3, ca, ce, ck, pk, m, rfl, rfl, hc0, h.l4, z1, z3, k1, cell_block hh1 (hv1 0 (.string kX) rfl), by simp [World.frozen?, hh1], hg1, lt1, hm1, ?_⟩
  exact ⟨hm2, a0, a1, cell_away n2 (cell_block hh2 (hv2 0 _ rfl)), cell_away n2 (cell_block hh2 (hv2 1 _ rfl)), cell_away n2 (cell_block hh2 (hv2 2 _ rfl)), cell_away n2 (cell_block hh2 (hv2 3 _ rfl)),
    cell_away n3 k0, cell_away n3 k1, cell_away n3 k2, cell_away n3 k3, ⟨hg0, lt0⟩, ⟨hg1, lt1⟩, ⟨hg2, lt2⟩, ⟨hg3, lt3⟩, Nat.le_of_eq hsz.symm, hc1, hc2, zk⟩

end Go.Proofs.YtcfhnfnhdhloiaaGreat
