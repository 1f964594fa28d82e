/- Contracts and plain facts, put together: StaM. -/
import Derived.Test.YtnknejokneddbaaGreatDoorPatP
import Derived.Test.YtnknejokneddbaaGreatDoorApps
namespace Go.Proofs.YtnknejokneddbaaGreatDoor
open Go.RowKit

theorem cell_calmP {w w' : World} (hg : w.grownBy w' none) {b o : Nat} {v : Value} (h : w.cell? ⟨b, o, none⟩ = some v) (hb : b < w.heap.size) : w'.cell? ⟨b, o, none⟩ = some v :=
 (World.cell?_of_block (a := ⟨b, o, none⟩) (hg.block b hb (by simp))).trans h
/-- What lies in a range of blocks stays. -/
structure Stay (lo hi : Nat) (w w' : World) : Prop where
 size : w.heap.size ≤ w'.heap.size
 block : ∀ i, lo ≤ i → i < hi → w'.heap[i]? = w.heap[i]?
theorem Stay.of {lo hi : Nat} {w w' : World} (hg : w.grownBy w' none) (hh : hi ≤ w.heap.size) : Stay lo hi w w' := ⟨hg.size, fun i _ h => hg.block i (by omega) (by simp)⟩
theorem Stay.cell {lo hi : Nat} {w w' : World} (h : Stay lo hi w w') {b o : Nat} {v : Value} (hc : w.cell? ⟨b, o, none⟩ = some v) (h1 : lo ≤ b) (h2 : b < hi) : w'.cell? ⟨b, o, none⟩ = some v :=
 (World.cell?_of_block (a := ⟨b, o, none⟩) (h.block b h1 h2)).trans hc
theorem Stay.trans {lo hi : Nat} {a b c : World} (h : Stay lo hi a b) (k : Stay lo hi b c) : Stay lo hi a c := ⟨Nat.le_trans h.size k.size, fun i h1 h2 => (k.block i h1 h2).trans (h.block i h1 h2)⟩

/-- Numbers of a kind. -/
structure NsAt (k : IntKind) (w : World) (lo hi : Nat) (p : Option Addr) (n : Nat) (l : List Nat) : Prop where
 len : l.length = n
 cell : 0 < n → ∃ b off, p = some ⟨b, off, none⟩ ∧ lo ≤ b ∧ b < hi ∧ hi ≤ w.heap.size ∧ ∀ i, i < n → w.cell? ⟨b, off + i, none⟩ = some (.int k ((l[i]?.getD 0 : Nat) : Int))
/-- Lines' numbers. -/
structure LnsAt (w : World) (lo hi : Nat) (p : Option Addr) (n : Nat) (l : List Ln) : Prop where
 len : l.length = n
 cell : 0 < n → ∃ b off, p = some ⟨b, off, none⟩ ∧ lo ≤ b ∧ b < hi ∧ hi ≤ w.heap.size ∧ ∀ i, i < n → w.cell? ⟨b, off + i * 2, none⟩ = some (.int .u32 (((l[i]?.getD (0, 0)).1 : Nat) : Int)) ∧ w.cell? ⟨b, off + i * 2 + 1, none⟩ = some (.int .i64 (l[i]?.getD (0, 0)).2)
/-- Edges. -/
structure EdsAt (w : World) (lo hi : Nat) (p : Option Addr) (n : Nat) (l : List Ed) : Prop where
 len : l.length = n
 cell : 0 < n → ∃ b off, p = some ⟨b, off, none⟩ ∧ lo ≤ b ∧ b < hi ∧ hi ≤ w.heap.size ∧ ∀ i, i < n →
  w.cell? ⟨b, off + i * 4, none⟩ = some (.int .u32 (((l[i]?.getD ((0, 0), (0, 0))).1.1 : Nat) : Int)) ∧ w.cell? ⟨b, off + i * 4 + 1, none⟩ = some (.int .i64 (l[i]?.getD ((0, 0), (0, 0))).1.2) ∧
  w.cell? ⟨b, off + i * 4 + 2, none⟩ = some (.int .u32 (((l[i]?.getD ((0, 0), (0, 0))).2.1 : Nat) : Int)) ∧ w.cell? ⟨b, off + i * 4 + 3, none⟩ = some (.int .i64 (l[i]?.getD ((0, 0), (0, 0))).2.2)
def hk0 : Hk := (.empty, [], [], [])
/-- A hunk whose slices are there. -/
structure HkAt (w : World) (lo hi : Nat) (pa : Option Addr) (na ca : Nat) (pe : Option Addr) (ne ce : Nat) (pk : Option Addr) (nk ck : Nat) (h : Hk) : Prop where
 adds : StrsAt w lo hi pa na (hAdds h)
 edges : EdsAt w lo hi pe ne (hEdges h)
 kills : LnsAt w lo hi pk nk (hKills h)
 la : na ≤ ca
 le : ne ≤ ce
 lk : nk ≤ ck
 za : pa = none → ca = 0
 ze : pe = none → ce = 0
 zk : pk = none → ck = 0
/-- Hunks. -/
structure HksAt (w : World) (lo hi : Nat) (p : Option Addr) (n : Nat) (l : List Hk) : Prop where
 len : l.length = n
 cell : 0 < n → ∃ b off, p = some ⟨b, off, none⟩ ∧ lo ≤ b ∧ b < hi ∧ hi ≤ w.heap.size ∧ ∀ i, i < n → ∃ pa na ca pe ne ce pk nk ck,
  w.cell? ⟨b, off + i * 4, none⟩ = some (.string (hPath (l[i]?.getD hk0))) ∧ w.cell? ⟨b, off + i * 4 + 1, none⟩ = some (.slice pa na ca) ∧ w.cell? ⟨b, off + i * 4 + 2, none⟩ = some (.slice pe ne ce) ∧ w.cell? ⟨b, off + i * 4 + 3, none⟩ = some (.slice pk nk ck) ∧
  HkAt w lo hi pa na ca pe ne ce pk nk ck (l[i]?.getD hk0)

section
variable {k : IntKind} {w w' : World} {lo hi : Nat} {p : Option Addr} {n : Nat}
theorem NsAt.stay {l : List Nat} (h : NsAt k w lo hi p n l) (hg : Stay lo hi w w') : NsAt k w' lo hi p n l :=
 ⟨h.len, fun hn => by
  obtain ⟨b, off, e, h1, h2, h3, hc⟩ := h.cell hn
  exact ⟨b, off, e, h1, h2, Nat.le_trans h3 hg.size, fun i hi => hg.cell (hc i hi) h1 h2⟩⟩
theorem LnsAt.stay {l : List Ln} (h : LnsAt w lo hi p n l) (hg : Stay lo hi w w') : LnsAt w' lo hi p n l :=
 ⟨h.len, fun hn => by
  obtain ⟨b, off, e, h1, h2, h3, hc⟩ := h.cell hn
  exact ⟨b, off, e, h1, h2, Nat.le_trans h3 hg.size, fun i hi => ⟨hg.cell (hc i hi).1 h1 h2, hg.cell (hc i hi).2 h1 h2⟩⟩⟩
theorem EdsAt.stay {l : List Ed} (h : EdsAt w lo hi p n l) (hg : Stay lo hi w w') : EdsAt w' lo hi p n l :=
 ⟨h.len, fun hn => by
  obtain ⟨b, off, e, h1, h2, h3, hc⟩ := h.cell hn
  exact ⟨b, off, e, h1, h2, Nat.le_trans h3 hg.size, fun i hi => ⟨hg.cell (hc i hi).1 h1 h2, hg.cell (hc i hi).2.1 h1 h2, hg.cell (hc i hi).2.2.1 h1 h2, hg.cell (hc i hi).2.2.2 h1 h2⟩⟩⟩
theorem StrsAt.stay {l : List ByteArray} (h : StrsAt w lo hi p n l) (hg : Stay lo hi w w') : StrsAt w' lo hi p n l :=
 ⟨h.len, fun hn => by
  obtain ⟨b, off, e, h1, h2, h3, hc⟩ := h.cell hn
  exact ⟨b, off, e, h1, h2, Nat.le_trans h3 hg.size, fun i hi => hg.cell (hc i hi) h1 h2⟩⟩
theorem HkAt.stay {pa pe pk : Option Addr} {na ca ne ce nk ck : Nat} {x : Hk} (h : HkAt w lo hi pa na ca pe ne ce pk nk ck x) (hg : Stay lo hi w w') : HkAt w' lo hi pa na ca pe ne ce pk nk ck x :=
 ⟨h.adds.stay hg, h.edges.stay hg, h.kills.stay hg, h.la, h.le, h.lk, h.za, h.ze, h.zk⟩
theorem HksAt.stay {l : List Hk} (h : HksAt w lo hi p n l) (hg : Stay lo hi w w') : HksAt w' lo hi p n l :=
 ⟨h.len, fun hn => by
  obtain ⟨b, off, e, h1, h2, h3, hc⟩ := h.cell hn
  refine ⟨b, off, e, h1, h2, Nat.le_trans h3 hg.size, fun i hi => ?_⟩
  obtain ⟨pa, na, ca, pe, ne, ce, pk, nk, ck, c0, c1, c2, c3, hh⟩ := hc i hi
  exact ⟨pa, na, ca, pe, ne, ce, pk, nk, ck, hg.cell c0 h1 h2, hg.cell c1 h1 h2, hg.cell c2 h1 h2, hg.cell c3 h1 h2, hh.stay hg⟩⟩
theorem NsAt.calm {l : List Nat} (h : NsAt k w lo hi p n l) (hg : w.grownBy w' none) : NsAt k w' lo hi p n l :=
 ⟨h.len, fun hn => by
  obtain ⟨b, off, e, h1, h2, h3, hc⟩ := h.cell hn
  exact ⟨b, off, e, h1, h2, Nat.le_trans h3 hg.size, fun i hi => cell_calmP hg (hc i hi) (by omega)⟩⟩
theorem LnsAt.calm {l : List Ln} (h : LnsAt w lo hi p n l) (hg : w.grownBy w' none) : LnsAt w' lo hi p n l :=
 ⟨h.len, fun hn => by
  obtain ⟨b, off, e, h1, h2, h3, hc⟩ := h.cell hn
  exact ⟨b, off, e, h1, h2, Nat.le_trans h3 hg.size, fun i hi => ⟨cell_calmP hg (hc i hi).1 (by omega), cell_calmP hg (hc i hi).2 (by omega)⟩⟩⟩
theorem EdsAt.calm {l : List Ed} (h : EdsAt w lo hi p n l) (hg : w.grownBy w' none) : EdsAt w' lo hi p n l :=
 ⟨h.len, fun hn => by
  obtain ⟨b, off, e, h1, h2, h3, hc⟩ := h.cell hn
  exact ⟨b, off, e, h1, h2, Nat.le_trans h3 hg.size, fun i hi => ⟨cell_calmP hg (hc i hi).1 (by omega), cell_calmP hg (hc i hi).2.1 (by omega), cell_calmP hg (hc i hi).2.2.1 (by omega), cell_calmP hg (hc i hi).2.2.2 (by omega)⟩⟩⟩
theorem HkAt.calm {pa pe pk : Option Addr} {na ca ne ce nk ck : Nat} {x : Hk} (h : HkAt w lo hi pa na ca pe ne ce pk nk ck x) (hg : w.grownBy w' none) : HkAt w' lo hi pa na ca pe ne ce pk nk ck x :=
 ⟨h.adds.calm hg, h.edges.calm hg, h.kills.calm hg, h.la, h.le, h.lk, h.za, h.ze, h.zk⟩
theorem HksAt.calm {l : List Hk} (h : HksAt w lo hi p n l) (hg : w.grownBy w' none) : HksAt w' lo hi p n l :=
 ⟨h.len, fun hn => by
  obtain ⟨b, off, e, h1, h2, h3, hc⟩ := h.cell hn
  refine ⟨b, off, e, h1, h2, Nat.le_trans h3 hg.size, fun i hi => ?_⟩
  obtain ⟨pa, na, ca, pe, ne, ce, pk, nk, ck, c0, c1, c2, c3, hh⟩ := hc i hi
  exact ⟨pa, na, ca, pe, ne, ce, pk, nk, ck, cell_calmP hg c0 (by omega), cell_calmP hg c1 (by omega), cell_calmP hg c2 (by omega), cell_calmP hg c3 (by omega), hh.calm hg⟩⟩
end
theorem nsAt_nil (k : IntKind) (w : World) (lo hi : Nat) : NsAt k w lo hi none 0 [] := ⟨rfl, fun h => absurd h (by omega)⟩
theorem lnsAt_nil (w : World) (lo hi : Nat) : LnsAt w lo hi none 0 [] := ⟨rfl, fun h => absurd h (by omega)⟩
theorem edsAt_nil (w : World) (lo hi : Nat) : EdsAt w lo hi none 0 [] := ⟨rfl, fun h => absurd h (by omega)⟩
theorem hksAt_nil (w : World) (lo hi : Nat) : HksAt w lo hi none 0 [] := ⟨rfl, fun h => absurd h (by omega)⟩

/-- A patch: its slices in memory. -/
structure PtAt (w : World) (lo hi : Nat) (id : Nat) (pd : Option Addr) (nd cd : Nat) (pm : Option Addr) (nm cm : Nat) (px : Option Addr) (nx cx : Nat) (ph : Option Addr) (nh ch : Nat) (p : Pt) : Prop where
 num : pID p = id
 deps : NsAt .u32 w lo hi pd nd (pDeps p)
 makes : StrsAt w lo hi pm nm (pMakes p)
 drops : StrsAt w lo hi px nx (pDrops p)
 hunks : HksAt w lo hi ph nh (pHunks p)
 ld : nd ≤ cd
 lm : nm ≤ cm
 lx : nx ≤ cx
 lh : nh ≤ ch
 zd : pd = none → cd = 0
 zm : pm = none → cm = 0
 zx : px = none → cx = 0
 zh : ph = none → ch = 0
section
variable {w w' : World} {lo hi id nd cd nm cm nx cx nh ch : Nat} {pd pm px ph : Option Addr} {p : Pt}
theorem PtAt.stay (h : PtAt w lo hi id pd nd cd pm nm cm px nx cx ph nh ch p) (hg : Stay lo hi w w') : PtAt w' lo hi id pd nd cd pm nm cm px nx cx ph nh ch p :=
 ⟨h.num, h.deps.stay hg, h.makes.stay hg, h.drops.stay hg, h.hunks.stay hg, h.ld, h.lm, h.lx, h.lh, h.zd, h.zm, h.zx, h.zh⟩
theorem PtAt.calm (h : PtAt w lo hi id pd nd cd pm nm cm px nx cx ph nh ch p) (hg : w.grownBy w' none) : PtAt w' lo hi id pd nd cd pm nm cm px nx cx ph nh ch p :=
 ⟨h.num, h.deps.calm hg, h.makes.calm hg, h.drops.calm hg, h.hunks.calm hg, h.ld, h.lm, h.lx, h.lh, h.zd, h.zm, h.zx, h.zh⟩
end
/-- Few of all. -/
structure PFew (p : Pt) : Prop where
 hunks : (pHunks p).length ≤ 8
 deps : (pDeps p).length ≤ 70
 makes : (pMakes p).length ≤ 10
 drops : (pDrops p).length ≤ 10
 ms : ∀ s ∈ pMakes p, s.size ≤ 40
 xs : ∀ s ∈ pDrops p, s.size ≤ 40
 hs : ∀ h ∈ pHunks p, (hAdds h).length ≤ 50 ∧ (hEdges h).length ≤ 90 ∧ (hKills h).length ≤ 50 ∧ (hPath h).size ≤ 40 ∧ ∀ s ∈ hAdds h, s.size ≤ 100

end Go.Proofs.YtnknejokneddbaaGreatDoor

namespace Go.Proofs.YtnknejokneddbaaGreatDoor
open Go.RowKit

/-- A file's line: its number, its text, is it dead; a file: path, lines, pairs. -/
abbrev Lne := Ln × ByteArray × Bool
abbrev Fl := ByteArray × List Lne × List (Int × Int)
abbrev nID (x : Lne) : Ln := x.1
abbrev nTxt (x : Lne) : ByteArray := x.2.1
abbrev nDead (x : Lne) : Bool := x.2.2
abbrev fPath (f : Fl) : ByteArray := f.1
abbrev fLines (f : Fl) : List Lne := f.2.1
abbrev fPairs (f : Fl) : List (Int × Int) := f.2.2
def lne0 : Lne := ((0, 0), .empty, false)
def fl0 : Fl := (.empty, [], [])
def pt0 : Pt := (0, [], [], [], [])
/-- Lines. -/
structure LnesAt (w : World) (lo hi : Nat) (p : Option Addr) (n : Nat) (l : List Lne) : Prop where
 len : l.length = n
 cell : 0 < n → ∃ b off, p = some ⟨b, off, none⟩ ∧ lo ≤ b ∧ b < hi ∧ hi ≤ w.heap.size ∧ ∀ i, i < n →
  w.cell? ⟨b, off + i * 4, none⟩ = some (.int .u32 (((nID (l[i]?.getD lne0)).1 : Nat) : Int)) ∧ w.cell? ⟨b, off + i * 4 + 1, none⟩ = some (.int .i64 (nID (l[i]?.getD lne0)).2) ∧
  w.cell? ⟨b, off + i * 4 + 2, none⟩ = some (.string (nTxt (l[i]?.getD lne0))) ∧ w.cell? ⟨b, off + i * 4 + 3, none⟩ = some (.bool (nDead (l[i]?.getD lne0)))
/-- A file whose slices are there. -/
structure FlAt (w : World) (lo hi : Nat) (pl : Option Addr) (nl cl : Nat) (pp : Option Addr) (np cp : Nat) (f : Fl) : Prop where
 lines : LnesAt w lo hi pl nl (fLines f)
 pairs : PairsAt w lo hi pp np (fPairs f)
 ll : nl ≤ cl
 lp : np ≤ cp
 zl : pl = none → cl = 0
 zp : pp = none → cp = 0
/-- Files. -/
structure FlsAt (w : World) (lo hi : Nat) (p : Option Addr) (n : Nat) (l : List Fl) : Prop where
 len : l.length = n
 cell : 0 < n → ∃ b off, p = some ⟨b, off, none⟩ ∧ lo ≤ b ∧ b < hi ∧ hi ≤ w.heap.size ∧ ∀ i, i < n → ∃ pl nl cl pp np cp,
  w.cell? ⟨b, off + i * 3, none⟩ = some (.string (fPath (l[i]?.getD fl0))) ∧ w.cell? ⟨b, off + i * 3 + 1, none⟩ = some (.slice pl nl cl) ∧ w.cell? ⟨b, off + i * 3 + 2, none⟩ = some (.slice pp np cp) ∧ FlAt w lo hi pl nl cl pp np cp (l[i]?.getD fl0)
/-- Patches. -/
structure PtsAt (w : World) (lo hi : Nat) (p : Option Addr) (n : Nat) (l : List Pt) : Prop where
 len : l.length = n
 cell : 0 < n → ∃ b off, p = some ⟨b, off, none⟩ ∧ lo ≤ b ∧ b < hi ∧ hi ≤ w.heap.size ∧ ∀ i, i < n → ∃ pd nd cd pm nm cm px nx cx ph nh ch,
  w.cell? ⟨b, off + i * 5, none⟩ = some (.int .u32 ((pID (l[i]?.getD pt0) : Nat) : Int)) ∧ w.cell? ⟨b, off + i * 5 + 1, none⟩ = some (.slice pd nd cd) ∧ w.cell? ⟨b, off + i * 5 + 2, none⟩ = some (.slice pm nm cm) ∧
  w.cell? ⟨b, off + i * 5 + 3, none⟩ = some (.slice px nx cx) ∧ w.cell? ⟨b, off + i * 5 + 4, none⟩ = some (.slice ph nh ch) ∧ PtAt w lo hi (pID (l[i]?.getD pt0)) pd nd cd pm nm cm px nx cx ph nh ch (l[i]?.getD pt0)

section
variable {w w' : World} {lo hi : Nat} {p : Option Addr} {n : Nat}
theorem PairsAt.stay {l : List (Int × Int)} (h : PairsAt w lo hi p n l) (hg : Stay lo hi w w') : PairsAt w' lo hi p n l := h.kept hg.size hg.block
theorem LnesAt.stay {l : List Lne} (h : LnesAt w lo hi p n l) (hg : Stay lo hi w w') : LnesAt w' lo hi p n l :=
 ⟨h.len, fun hn => by
  obtain ⟨b, off, e, h1, h2, h3, hc⟩ := h.cell hn
  exact ⟨b, off, e, h1, h2, Nat.le_trans h3 hg.size, fun i hi => ⟨hg.cell (hc i hi).1 h1 h2, hg.cell (hc i hi).2.1 h1 h2, hg.cell (hc i hi).2.2.1 h1 h2, hg.cell (hc i hi).2.2.2 h1 h2⟩⟩⟩
theorem FlAt.stay {pl pp : Option Addr} {nl cl np cp : Nat} {f : Fl} (h : FlAt w lo hi pl nl cl pp np cp f) (hg : Stay lo hi w w') : FlAt w' lo hi pl nl cl pp np cp f := ⟨h.lines.stay hg, h.pairs.stay hg, h.ll, h.lp, h.zl, h.zp⟩
theorem FlsAt.stay {l : List Fl} (h : FlsAt w lo hi p n l) (hg : Stay lo hi w w') : FlsAt w' lo hi p n l :=
 ⟨h.len, fun hn => by
  obtain ⟨b, off, e, h1, h2, h3, hc⟩ := h.cell hn
  refine ⟨b, off, e, h1, h2, Nat.le_trans h3 hg.size, fun i hi => ?_⟩
  obtain ⟨pl, nl, cl, pp, np, cp, c0, c1, c2, hh⟩ := hc i hi
  exact ⟨pl, nl, cl, pp, np, cp, hg.cell c0 h1 h2, hg.cell c1 h1 h2, hg.cell c2 h1 h2, hh.stay hg⟩⟩
theorem PtsAt.stay {l : List Pt} (h : PtsAt w lo hi p n l) (hg : Stay lo hi w w') : PtsAt w' lo hi p n l :=
 ⟨h.len, fun hn => by
  obtain ⟨b, off, e, h1, h2, h3, hc⟩ := h.cell hn
  refine ⟨b, off, e, h1, h2, Nat.le_trans h3 hg.size, fun i hi => ?_⟩
  obtain ⟨pd, nd, cd, pm, nm, cm, px, nx, cx, ph, nh, ch, c0, c1, c2, c3, c4, hh⟩ := hc i hi
  exact ⟨pd, nd, cd, pm, nm, cm, px, nx, cx, ph, nh, ch, hg.cell c0 h1 h2, hg.cell c1 h1 h2, hg.cell c2 h1 h2, hg.cell c3 h1 h2, hg.cell c4 h1 h2, hh.stay hg⟩⟩
theorem LnesAt.calm {l : List Lne} (h : LnesAt w lo hi p n l) (hg : w.grownBy w' none) : LnesAt w' lo hi p n l :=
 ⟨h.len, fun hn => by
  obtain ⟨b, off, e, h1, h2, h3, hc⟩ := h.cell hn
  exact ⟨b, off, e, h1, h2, Nat.le_trans h3 hg.size, fun i hi => ⟨cell_calmP hg (hc i hi).1 (by omega), cell_calmP hg (hc i hi).2.1 (by omega), cell_calmP hg (hc i hi).2.2.1 (by omega), cell_calmP hg (hc i hi).2.2.2 (by omega)⟩⟩⟩
theorem FlAt.calm {pl pp : Option Addr} {nl cl np cp : Nat} {f : Fl} (h : FlAt w lo hi pl nl cl pp np cp f) (hg : w.grownBy w' none) : FlAt w' lo hi pl nl cl pp np cp f := ⟨h.lines.calm hg, h.pairs.calm hg, h.ll, h.lp, h.zl, h.zp⟩
theorem FlsAt.calm {l : List Fl} (h : FlsAt w lo hi p n l) (hg : w.grownBy w' none) : FlsAt w' lo hi p n l :=
 ⟨h.len, fun hn => by
  obtain ⟨b, off, e, h1, h2, h3, hc⟩ := h.cell hn
  refine ⟨b, off, e, h1, h2, Nat.le_trans h3 hg.size, fun i hi => ?_⟩
  obtain ⟨pl, nl, cl, pp, np, cp, c0, c1, c2, hh⟩ := hc i hi
  exact ⟨pl, nl, cl, pp, np, cp, cell_calmP hg c0 (by omega), cell_calmP hg c1 (by omega), cell_calmP hg c2 (by omega), hh.calm hg⟩⟩
theorem PtsAt.calm {l : List Pt} (h : PtsAt w lo hi p n l) (hg : w.grownBy w' none) : PtsAt w' lo hi p n l :=
 ⟨h.len, fun hn => by
  obtain ⟨b, off, e, h1, h2, h3, hc⟩ := h.cell hn
  refine ⟨b, off, e, h1, h2, Nat.le_trans h3 hg.size, fun i hi => ?_⟩
  obtain ⟨pd, nd, cd, pm, nm, cm, px, nx, cx, ph, nh, ch, c0, c1, c2, c3, c4, hh⟩ := hc i hi
  exact ⟨pd, nd, cd, pm, nm, cm, px, nx, cx, ph, nh, ch, cell_calmP hg c0 (by omega), cell_calmP hg c1 (by omega), cell_calmP hg c2 (by omega), cell_calmP hg c3 (by omega), cell_calmP hg c4 (by omega), hh.calm hg⟩⟩
end
theorem lnesAt_nil (w : World) (lo hi : Nat) : LnesAt w lo hi none 0 [] := ⟨rfl, fun h => absurd h (by omega)⟩
theorem flsAt_nil (w : World) (lo hi : Nat) : FlsAt w lo hi none 0 [] := ⟨rfl, fun h => absurd h (by omega)⟩
theorem ptsAt_nil (w : World) (lo hi : Nat) : PtsAt w lo hi none 0 [] := ⟨rfl, fun h => absurd h (by omega)⟩

end Go.Proofs.YtnknejokneddbaaGreatDoor
