/- centolaw9's own function withs. -/
import Derived.Test.YtemnbkenihldgaaDoorFew9
import Derived.Test.YtemnbkenihldgaaDoorColD
import Derived.Test.YtemnbkenihldgaaDoorColF
import Derived.Test.YtemnbkenihldgaaDoorColS
import Derived.Test.YtemnbkenihldgaaDoorConC
namespace Go.Proofs.YtemnbkenihldgaaDoor
open Go.RowKit Go.Shelf

theorem infoO9 : (Tryd.prog.info? 25).map (fun i => (i.zero, i.size, i.bytes)) = some (some (.agg #[.slice none 0 0, .slice none 0 0]), 2, 48) := by kernel_rfl

/-- A row of objects of one's own. -/
theorem nodesAt_own {w : World} {base : Nat} {p : Option Addr} {n c : Nat} {vs : List Value} {xs : List Nd} (h : w.ownsRow base 25 2 (.slice p n c) n vs) (hn : xs.length = n)
    (hc : ∀ k, k < xs.length → ∃ pl nl cl pq nq cq, vs[k * 2]? = some (.slice pl nl cl) ∧ vs[k * 2 + 1]? = some (.slice pq nq cq) ∧ ObjAt w 0 w.heap.size pl nl pq nq (ndA xs k).1 (ndA xs k).2 ∧ nl ≤ maxLen ∧ (pl = none → cl = 0) ∧ (pq = none → cq = 0)) : NodesAt w 0 w.heap.size p n xs := by
  refine ⟨hn, fun h0 => ?_⟩
  rcases h.2 with ⟨e, h1⟩ | ⟨g, cap, cur, e, hb, hg, _⟩
  · omega
  · simp only [Value.slice.injEq] at e
    obtain ⟨rfl, _, rfl⟩ := e
    refine ⟨g, 0, rfl, Nat.zero_le _, (Array.getElem?_eq_some_iff.1 hg).1, Nat.le_refl _, fun k hk => ?_⟩
    obtain ⟨pl, nl, cl, pq, nq, cq, c0, c1, hr⟩ := hc k (by omega)
    have h0 := h.cells (g := g) rfl (k * 2) _ c0
    have h1 := h.cells (g := g) rfl (k * 2 + 1) _ c1
    rw [add_off] at h0 h1
    exact ⟨pl, nl, cl, pq, nq, cq, h0, h1, hr⟩

/-- An object in memory, as a node of a diagram may be. -/
structure ObjN (w : World) (p : Option Addr) (n c : Nat) (q : Option Addr) (m d : Nat) (L : List ByteArray) (P : List (Int × Int)) : Prop where
  ob : ObjAt w 0 w.heap.size p n q m L P
  n : n ≤ maxLen
  p : p = none → c = 0
  q : q = none → d = 0
theorem ObjN.calm {w w' : World} {p q : Option Addr} {n c m d : Nat} {L : List ByteArray} {P : List (Int × Int)} (h : ObjN w p n c q m d L P) (hg : w.grownBy w' none) : ObjN w' p n c q m d L P := ⟨objAt_wide (h.ob.calm hg), h.n, h.p, h.q⟩
theorem ownsRow_far {w w' : World} {base b : Nat} {e : TypeId} {size n : Nat} {v : Value} {xs : List Value} (h : w.ownsRow base e size v n xs) (hg : w.grownBy w' (some b)) (hb : b < base) : w'.ownsRow base e size v n xs := by
  refine ⟨h.1, ?_⟩
  rcases h.2 with ⟨rfl, h0⟩ | ⟨g, cap, cur, rfl, hbb, hh, h1, h2, h3, h4⟩
  · exact .inl ⟨rfl, h0⟩
  · exact .inr ⟨g, cap, cur, rfl, hbb, (hg.block g (Array.getElem?_eq_some_iff.1 hh).1 (by intro e; injection e with e; omega)).trans hh, h1, h2, h3, h4⟩
theorem Blk.set0 {w : World} {g : Nat} {a x : Value} {l : List Value} {t : TypeId} (h : Blk w g ⟨a :: l⟩ t) : Blk (w.setCell ⟨g, 0, none⟩ x) g ⟨x :: l⟩ t := by
  have h' : w.heap[g]? = some (.cells ⟨a :: l⟩ t (0, 0)) := h
  rw [Blk]; simp only [World.setCell]; rw [Array.getElem?_modify, if_pos rfl, h']; simp
theorem Blk.set1 {w : World} {g : Nat} {a b x : Value} {l : List Value} {t : TypeId} (h : Blk w g ⟨a :: b :: l⟩ t) : Blk (w.setCell ⟨g, 1, none⟩ x) g ⟨a :: x :: l⟩ t := by
  have h' : w.heap[g]? = some (.cells ⟨a :: b :: l⟩ t (0, 0)) := h
  rw [Blk]; simp only [World.setCell]; rw [Array.getElem?_modify, if_pos rfl, h']; simp

/-- The boxes of withs: the diagram's, two objects', the result's. -/
structure WE (w W : World) (g : Nat) (u v ux vx uy vy : Value) : Prop where
  gr : w.grownBy W none
  le : w.heap.size ≤ g
  d : Blk W g #[u, v] 37
  x : Blk W (g + 1) #[ux, vx] 25
  y : Blk W (g + 1 + 1) #[uy, vy] 25
  r : Blk W (g + 1 + 1 + 1) #[.slice none 0 0, .slice none 0 0] 37
theorem WE.calm {w W W' : World} {g : Nat} {u v ux vx uy vy : Value} (h : WE w W g u v ux vx uy vy) (hg : W.grownBy W' none) : WE w W' g u v ux vx uy vy := ⟨grownBy_trans h.gr hg, h.le, h.d.calm hg, h.x.calm hg, h.y.calm hg, h.r.calm hg⟩
theorem WE.cells {w W : World} {g : Nat} {u v ux vx uy vy : Value} (h : WE w W g u v ux vx uy vy) : (W.cell? ⟨g, 0, none⟩ = some u ∧ W.cell? ⟨g, 1, none⟩ = some v) ∧ (W.cell? ⟨g + 1, 0, none⟩ = some ux ∧ W.cell? ⟨g + 1, 1, none⟩ = some vx) ∧ (W.cell? ⟨g + 1 + 1, 0, none⟩ = some uy ∧ W.cell? ⟨g + 1 + 1, 1, none⟩ = some vy) ∧ (W.frozen? ⟨g, 0, none⟩ = false ∧ W.frozen? ⟨g, 1, none⟩ = false) ∧ W.frozen? ⟨g + 1 + 1 + 1, 0, none⟩ = false ∧ W.frozen? ⟨g + 1 + 1 + 1, 1, none⟩ = false :=
  ⟨⟨h.d.c0, h.d.c1⟩, ⟨h.x.c0, h.x.c1⟩, ⟨h.y.c0, h.y.c1⟩, ⟨h.d.free 0, h.d.free 1⟩, h.r.free 0, h.r.free 1⟩

def WithPost (Ns : List Nd) (As : List Ar) (w : World) (e : Ending) (w' : World) : Prop :=
  ∃ pn cn ga, e = .returned (.agg #[.slice pn 5 cn, .slice (some ⟨ga, 0, none⟩) 4 4]) ∧ NodesAt w' 0 w'.heap.size pn 5 Ns ∧ ArrsAt w' 0 w'.heap.size (some ⟨ga, 0, none⟩) 4 As ∧ w.grownBy w' none

/-- The diagram's box once its nodes lie. -/
structure W5 (w W : World) (g base : Nat) (pB : Option Addr) (cB : Nat) (vs : List Value) : Prop where
  gr : w.grownBy W none
  le : w.heap.size ≤ g
  top : g + 1 + 1 + 1 < base
  row : W.ownsRow base 25 2 (.slice pB 5 cB) 5 vs
  d : Blk W g #[.slice pB 5 cB, .slice none 0 0] 37
  r : Blk W (g + 1 + 1 + 1) #[.slice none 0 0, .slice none 0 0] 37
theorem WE.next {w W : World} {g base : Nat} {u ux vx uy vy : Value} {pB : Option Addr} {cB : Nat} {vs : List Value} (h : WE w W g u (.slice none 0 0) ux vx uy vy) (ht : g + 1 + 1 + 1 < base) (hr : W.ownsRow base 25 2 (.slice pB 5 cB) 5 vs) : W5 w (W.setCell ⟨g, 0, none⟩ (.slice pB 5 cB)) g base pB cB vs := by
  have q := grownBy_setCell W ⟨g, 0, none⟩ (.slice pB 5 cB)
  exact ⟨grownBy_setCell_new _ h.gr h.le, h.le, ht, ownsRow_far hr q (by show g < base; omega), h.d.set0, h.r.other q (by intro e; have := Option.some.inj e; dsimp only at this; omega)⟩
set_option maxHeartbeats 1000000 in
theorem with_end {pb qb pc qc pe qe px qx py qy pf pg ph pk : Option Addr} {nb cb mb db nc cc mc dc ne ce me de nx cx mx dx ny cy my dy nf cf ng cg nh ch nk ck lof hif log hig loh hih lok hik g base : Nat} {Lb Lc Le Lx Ly : List ByteArray} {Pb Pc Pe Px Py : List (Int × Int)} {f g' h k : List Int} {w W : World} {pB : Option Addr} {cB : Nat} (hb : ObjN w pb nb cb qb mb db Lb Pb) (hc : ObjN w pc nc cc qc mc dc Lc Pc) (he : ObjN w pe ne ce qe me de Le Pe) (hx : ObjN w px nx cx qx mx dx Lx Px) (hy : ObjN w py ny cy qy my dy Ly Py) (zf : ZsAt w lof hif pf nf f) (zg : ZsAt w log hig pg ng g') (zh : ZsAt w loh hih ph nh h) (zk : ZsAt w lok hik pk nk k)
    (h5 : W5 w W g base pB cB [.slice pb nb cb, .slice qb mb db, .slice pc nc cc, .slice qc mc dc, .slice pe ne ce, .slice qe me de, .slice px nx cx, .slice qx mx dx, .slice py ny cy, .slice qy my dy]) : ∀ W6, W6 = (W.alloc (.cells #[.int .i64 3, .int .i64 0, .slice pf nf cf, .int .i64 3, .int .i64 1, .slice pg ng cg, .int .i64 4, .int .i64 1, .slice ph nh ch, .int .i64 4, .int .i64 2, .slice pk nk ck] 45)).setCell ⟨g, 1, none⟩ (.slice (some ⟨W.heap.size, 0, none⟩) 4 4) →
      (W6.cell? ⟨g, 0, none⟩ = some (.slice pB 5 cB) ∧ W6.cell? ⟨g, 1, none⟩ = some (.slice (some ⟨W.heap.size, 0, none⟩) 4 4) ∧ W6.frozen? ⟨g + 1 + 1 + 1, 0, none⟩ = false ∧ W6.frozen? ⟨g + 1 + 1 + 1, 1, none⟩ = false ∧ W6.cell? ⟨g + 1 + 1 + 1, 0, none⟩ = some (.slice none 0 0) ∧ W6.cell? ⟨g + 1 + 1 + 1, 1, none⟩ = some (.slice none 0 0)) ∧
      ∀ W7, W7 = (W6.setCell ⟨g + 1 + 1 + 1, 0, none⟩ (.slice pB 5 cB)).setCell ⟨g + 1 + 1 + 1, 1, none⟩ (.slice (some ⟨W.heap.size, 0, none⟩) 4 4) →
        W7.cell? ⟨g + 1 + 1 + 1, 0, none⟩ = some (.slice pB 5 cB) ∧ W7.cell? ⟨g + 1 + 1 + 1, 1, none⟩ = some (.slice (some ⟨W.heap.size, 0, none⟩) 4 4) ∧ WithPost (sN (Lb, Pb) (Lc, Pc) (Le, Pe) (Lx, Px) (Ly, Py)) (sA f g' h k) w (.returned (.agg #[.slice pB 5 cB, .slice (some ⟨W.heap.size, 0, none⟩) 4 4])) W7 := by
  rintro W6 rfl
  have hA := World.grownBy_alloc W (.cells #[.int .i64 3, .int .i64 0, .slice pf nf cf, .int .i64 3, .int .i64 1, .slice pg ng cg, .int .i64 4, .int .i64 1, .slice ph nh ch, .int .i64 4, .int .i64 2, .slice pk nk ck] 45) none
  have ha := Blk.new W #[.int .i64 3, .int .i64 0, .slice pf nf cf, .int .i64 3, .int .i64 1, .slice pg ng cg, .int .i64 4, .int .i64 1, .slice ph nh ch, .int .i64 4, .int .i64 2, .slice pk nk ck] 45
  have hd := h5.d.calm hA
  have hr := h5.r.calm hA
  have hrow := ownsRow_calm h5.row hA
  have hgA := grownBy_trans h5.gr hA
  have hle := h5.le
  have htop := h5.top
  have hlt : g < W.heap.size := h5.d.lt
  have hlt3 : g + 1 + 1 + 1 < W.heap.size := h5.r.lt
  generalize W.alloc (.cells #[.int .i64 3, .int .i64 0, .slice pf nf cf, .int .i64 3, .int .i64 1, .slice pg ng cg, .int .i64 4, .int .i64 1, .slice ph nh ch, .int .i64 4, .int .i64 2, .slice pk nk ck] 45) = X at *
  generalize W.heap.size = ga at *
  have q1 := grownBy_setCell X ⟨g, 1, none⟩ (.slice (some ⟨ga, 0, none⟩) 4 4)
  have hd1 := hd.set1 (x := .slice (some ⟨ga, 0, none⟩) 4 4)
  have hr1 := hr.other q1 (by intro e; have := Option.some.inj e; dsimp only at this; omega)
  have ha1 := ha.other q1 (by intro e; have := Option.some.inj e; dsimp only at this; omega)
  have hrow1 := ownsRow_far hrow q1 (by show g < base; omega)
  have hg1 := grownBy_setCell_new (p := ⟨g, 1, none⟩) (.slice (some ⟨ga, 0, none⟩) 4 4) hgA hle
  generalize X.setCell ⟨g, 1, none⟩ (.slice (some ⟨ga, 0, none⟩) 4 4) = Y at *
  refine ⟨⟨hd1.c0, hd1.c1, hr1.free 0, hr1.free 1, hr1.c0, hr1.c1⟩, ?_⟩
  rintro W7 rfl
  have q2 := grownBy_setCell Y ⟨g + 1 + 1 + 1, 0, none⟩ (.slice pB 5 cB)
  have q3 := grownBy_setCell (Y.setCell ⟨g + 1 + 1 + 1, 0, none⟩ (.slice pB 5 cB)) ⟨g + 1 + 1 + 1, 1, none⟩ (.slice (some ⟨ga, 0, none⟩) 4 4)
  have hr3 := (hr1.set0 (x := .slice pB 5 cB)).set1 (x := .slice (some ⟨ga, 0, none⟩) 4 4)
  have ha3 := (ha1.other q2 (by intro e; have := Option.some.inj e; dsimp only at this; omega)).other q3 (by intro e; have := Option.some.inj e; dsimp only at this; omega)
  have hrow3 := ownsRow_far (ownsRow_far hrow1 q2 (by show g + 1 + 1 + 1 < base; omega)) q3 (by show g + 1 + 1 + 1 < base; omega)
  have hgr := grownBy_setCell_new (p := ⟨g + 1 + 1 + 1, 1, none⟩) (.slice (some ⟨ga, 0, none⟩) 4 4) (grownBy_setCell_new (p := ⟨g + 1 + 1 + 1, 0, none⟩) (.slice pB 5 cB) hg1 (by show _ ≤ g + 1 + 1 + 1; omega)) (by show _ ≤ g + 1 + 1 + 1; omega)
  generalize (Y.setCell ⟨g + 1 + 1 + 1, 0, none⟩ (.slice pB 5 cB)).setCell ⟨g + 1 + 1 + 1, 1, none⟩ (.slice (some ⟨ga, 0, none⟩) 4 4) = Z at *
  refine ⟨hr3.c0, hr3.c1, pB, cB, ga, rfl, nodesAt_own hrow3 rfl (fun k hk => ?_), ?_, hgr⟩
  · match k, hk with
    | 0, _ => exact ⟨_, _, _, _, _, _, rfl, rfl, (hb.calm hgr).ob, hb.n, hb.p, hb.q⟩
    | 1, _ => exact ⟨_, _, _, _, _, _, rfl, rfl, (hc.calm hgr).ob, hc.n, hc.p, hc.q⟩
    | 2, _ => exact ⟨_, _, _, _, _, _, rfl, rfl, (he.calm hgr).ob, he.n, he.p, he.q⟩
    | 3, _ => exact ⟨_, _, _, _, _, _, rfl, rfl, (hx.calm hgr).ob, hx.n, hx.p, hx.q⟩
    | 4, _ => exact ⟨_, _, _, _, _, _, rfl, rfl, (hy.calm hgr).ob, hy.n, hy.p, hy.q⟩
  · refine arrs_of (g := ga) (lo := 0) (hi := Z.heap.size) (xs := sA f g' h k) (vs := [.int .i64 3, .int .i64 0, .slice pf nf cf, .int .i64 3, .int .i64 1, .slice pg ng cg, .int .i64 4, .int .i64 1, .slice ph nh ch, .int .i64 4, .int .i64 2, .slice pk nk ck]) ha3 (Nat.zero_le _) ha3.lt (Nat.le_refl _) (fun k hk => ?_)
    match k, hk with
    | 0, _ => exact ⟨_, _, _, rfl, rfl, rfl, (zf.calm hgr).wideZ⟩
    | 1, _ => exact ⟨_, _, _, rfl, rfl, rfl, (zg.calm hgr).wideZ⟩
    | 2, _ => exact ⟨_, _, _, rfl, rfl, rfl, (zh.calm hgr).wideZ⟩
    | 3, _ => exact ⟨_, _, _, rfl, rfl, rfl, (zk.calm hgr).wideZ⟩

set_option maxRecDepth 20000 in
set_option maxHeartbeats 4000000 in
theorem withs9_c (gd : Nat) (pb qb pc qc pe qe px qx py qy pf pg ph pk : Option Addr) (nb cb mb db nc cc mc dc ne ce me de nx cx mx dx ny cy my dy nf cf ng cg nh ch nk ck lof hif log hig loh hih lok hik : Nat) (Lb Lc Le Lx Ly : List ByteArray) (Pb Pc Pe Px Py : List (Int × Int)) (f g h k : List Int) (w : World) (hd : Blk w gd ⟨[.slice pb nb cb, .slice qb mb db, .slice pc nc cc, .slice qc mc dc, .slice pe ne ce, .slice qe me de]⟩ 25) (hb : ObjN w pb nb cb qb mb db Lb Pb) (hc : ObjN w pc nc cc qc mc dc Lc Pc) (he : ObjN w pe ne ce qe me de Le Pe) (hx : ObjN w px nx cx qx mx dx Lx Px) (hy : ObjN w py ny cy qy my dy Ly Py) (zf : ZsAt w lof hif pf nf f) (zg : ZsAt w log hig pg ng g) (zh : ZsAt w loh hih ph nh h) (zk : ZsAt w lok hik pk nk k) :
    Calls Tryd.prog 11 #[.agg #[.slice (some ⟨gd, 0, none⟩) 3 3, .slice none 0 0], .agg #[.slice px nx cx, .slice qx mx dx], .agg #[.slice py ny cy, .slice qy my dy], .slice pf nf cf, .slice pg ng cg, .slice ph nh ch, .slice pk nk ck] w (WithPost (sN (Lb, Pb) (Lc, Pc) (Le, Pe) (Lx, Px) (Ly, Py)) (sA f g h k) w) := by
  obtain ⟨i0, hi0, hz0, hz1, hz2⟩ := info_parts infoO9
  have Hb := Lib.hid hb
  have Hc := Lib.hid hc
  have He := Lib.hid he
  have Hx := Lib.hid hx
  have Hy := Lib.hid hy
  have Zf := Lib.hid zf
  have Zg := Lib.hid zg
  have Zh := Lib.hid zh
  have Zk := Lib.hid zk
  have HD := Lib.hid hd
  have HAL := Lib.hid (allocL_facts [.cells #[.slice (some ⟨gd, 0, none⟩) 3 3, .slice none 0 0] 37, .cells #[.slice px nx cx, .slice qx mx dx] 25, .cells #[.slice py ny cy, .slice qy my dy] 25, .cells #[.slice none 0 0, .slice none 0 0] 37] w)
  clear hd hb hc he hx hy zf zg zh zk
  go_enter Tryd.func11, Tryd.ntmps11
  go_upto_region 1 with fail
  have hwe : WE w (allocL w [.cells #[.slice (some ⟨gd, 0, none⟩) 3 3, .slice none 0 0] 37, .cells #[.slice px nx cx, .slice qx mx dx] 25, .cells #[.slice py ny cy, .slice qy my dy] 25, .cells #[.slice none 0 0, .slice none 0 0] 37]) w.heap.size (.slice (some ⟨gd, 0, none⟩) 3 3) (.slice none 0 0) (.slice px nx cx) (.slice qx mx dx) (.slice py ny cy) (.slice qy my dy) :=
    ⟨HAL.out.1, Nat.le_refl _, HAL.out.2 0 (by simp), HAL.out.2 1 (by simp), HAL.out.2 2 (by simp), HAL.out.2 3 (by simp)⟩
  change WE w ((((w.alloc (.cells #[.slice (some ⟨gd, 0, none⟩) 3 3, .slice none 0 0] 37)).alloc (.cells #[.slice px nx cx, .slice qx mx dx] 25)).alloc (.cells #[.slice py ny cy, .slice qy my dy] 25)).alloc (.cells #[.slice none 0 0, .slice none 0 0] 37)) _ _ _ _ _ _ _ at hwe
  generalize (((w.alloc (.cells #[.slice (some ⟨gd, 0, none⟩) 3 3, .slice none 0 0] 37)).alloc (.cells #[.slice px nx cx, .slice qx mx dx] 25)).alloc (.cells #[.slice py ny cy, .slice qy my dy] 25)).alloc (.cells #[.slice none 0 0, .slice none 0 0] 37) = w4 at *
  have HEX := Lib.hid hwe
  obtain ⟨⟨x0, x1⟩, ⟨x2, x3⟩, ⟨x4, x5⟩, ⟨f0, f1⟩, f2, f3⟩ := hwe.cells
  obtain ⟨gg, hgg⟩ : ∃ gg, w.heap.size = gg := ⟨_, rfl⟩
  rw [hgg] at x0 x1 x2 x3 x4 x5 f0 f1 f2 f3 HEX ⊢
  have HGG := Lib.hid hgg
  have HDB := Lib.hid (HD.out.calm hwe.gr)
  clear hwe hgg HAL
  obtain ⟨news, hnews⟩ : ∃ news : List Value, news = [.slice pb nb cb, .slice qb mb db, .slice pc nc cc, .slice qc mc dc, .slice pe ne ce, .slice qe me de] := ⟨_, rfl⟩
  obtain ⟨news2, hnews2⟩ : ∃ news2 : List Value, news2 = [.slice px nx cx, .slice qx mx dx, .slice py ny cy, .slice qy my dy] := ⟨_, rfl⟩
  have HN1 : Hid (news.length = 3 * 2 ∧ (∀ u ∈ news, u.oneCell' = true) ∧ ∀ W, w4.grownBy W none → ∀ j u, news[j]? = some u → W.cell? ((⟨gd, 0, none⟩ : Addr).add j) = some u) := Lib.hid (by
    refine ⟨by rw [hnews]; rfl, by rw [hnews]; simp [Value.oneCell'], fun W hW j u hu => ?_⟩
    have hb : W.heap[gd]? = _ := HDB.out.calm hW
    rw [add_off, Nat.zero_add]
    rw [hnews] at hu
    simp [World.cell?, hb, hu])
  have HN2 : Hid (news2.length = 2 * 2 ∧ (∀ u ∈ news2, u.oneCell' = true) ∧ ∀ W b, Blk W b #[.slice px nx cx, .slice qx mx dx, .slice py ny cy, .slice qy my dy] 25 → ∀ j u, news2[j]? = some u → W.cell? ((⟨b, 0, none⟩ : Addr).add j) = some u) := Lib.hid (by
    refine ⟨by rw [hnews2]; rfl, by rw [hnews2]; simp [Value.oneCell'], fun W b hB j u hu => ?_⟩
    have hb : W.heap[b]? = _ := hB
    rw [add_off, Nat.zero_add]
    rw [hnews2] at hu
    simp [World.cell?, hb, hu])
  have HNN := Lib.hid (show news ++ news2 = [.slice pb nb cb, .slice qb mb db, .slice pc nc cc, .slice qc mc dc, .slice pe ne ce, .slice qe me de, .slice px nx cx, .slice qx mx dx, .slice py ny cy, .slice qy my dy] by rw [hnews, hnews2]; rfl)
  clear hnews hnews2
  have hga4 := World.grownBy_alloc w4 (.cells #[.slice px nx cx, .slice qx mx dx, .slice py ny cy, .slice qy my dy] 25) none
  obtain ⟨⟨u0, u1⟩, ⟨u2, u3⟩, ⟨u4, u5⟩, ⟨uf0, uf1⟩, uf2, uf3⟩ := (HEX.out.calm hga4).cells
  have HGA4 := Lib.hid (grownBy_trans hga4 (grownBy_drewN _ 1 none))
  have HBN := Lib.hid ((Blk.new w4 #[.slice px nx cx, .slice qx mx dx, .slice py ny cy, .slice qy my dy] 25).calm (grownBy_drewN _ 1 none))
  clear hga4
  have HE1 : Hid (∀ pB cB wB, wB.ownsRow w4.heap.size 25 2 (.slice pB (0 + 3 + 2) cB) (0 + 3 + 2) ([] ++ news ++ news2) → w4.grownBy wB none → W5 w (wB.setCell ⟨gg, 0, none⟩ (.slice pB 5 cB)) gg w4.heap.size pB cB [.slice pb nb cb, .slice qb mb db, .slice pc nc cc, .slice qc mc dc, .slice pe ne ce, .slice qe me de, .slice px nx cx, .slice qx mx dx, .slice py ny cy, .slice qy my dy]) := Lib.hid (by
    intro pB cB wB hown hg
    rw [List.nil_append, HNN.out] at hown
    exact (HEX.out.calm hg).next HEX.out.r.lt hown)
  go_region_law (first
    | (refine step_append_any9 rfl (.const (.slice none 0 0)) (.tmp 16) 34 rfl w4.heap.size 25 i0 (.agg #[.slice none 0 0, .slice none 0 0]) 2 48 Tryd.underlying34 hi0 hz0 hz1 hz2 rfl (by decide) (.slice none 0 0) 0 [] (by simp [Act.eval]) (World.ownsRow_nil _ _ _ _) ⟨gd, 0, none⟩ 3 3 news (by simp [Act.eval]) HN1.out.1 (HN1.out.2.2 _ (by first | exact grownBy_drewN w4 1 none | exact HGA4.out)) HN1.out.2.1 (by unfold maxLen; omega) (by omega) (by first | exact (grownBy_drewN w4 1 none).size | exact HGA4.out.size) ?_; intro pA cA wA hownA hgrowA; have hgA : w4.grownBy wA none := (by first | exact grownBy_trans (grownBy_drewN w4 1 none) hgrowA | exact grownBy_trans HGA4.out hgrowA); have heA := HEX.out.calm hgA; obtain ⟨⟨y0, y1⟩, ⟨y2, y3⟩, ⟨y4, y5⟩, ⟨yf0, yf1⟩, yf2, yf3⟩ := heA.cells)
    | (refine step_append_any9 rfl (.tmp 17) (.tmp 20) 34 rfl w4.heap.size 25 i0 (.agg #[.slice none 0 0, .slice none 0 0]) 2 48 Tryd.underlying34 hi0 hz0 hz1 hz2 rfl (by decide) (.slice pA (0 + 3) cA) (0 + 3) _ (by simp [Act.eval]) (ownsRow_calm hownA (World.grownBy_alloc _ _ none)) ⟨wA.heap.size, 0, none⟩ 2 2 news2 (by simp [Act.eval]) HN2.out.1 (HN2.out.2.2 _ _ (Blk.new wA _ _)) HN2.out.2.1 (by unfold maxLen; omega) (by omega) (by exact (grownBy_trans hgA (World.grownBy_alloc _ _ none)).size) ?_; intro pB cB wB hownB hgrowB; have hgB : w4.grownBy wB none := ownsRow_new (grownBy_trans hgA (World.grownBy_alloc _ _ none)) (ownsRow_calm hownA (World.grownBy_alloc _ _ none)) hgrowB; have heB := HEX.out.calm hgB; obtain ⟨⟨z0, z1⟩, ⟨z2, z3⟩, ⟨z4, z5⟩, ⟨zf0, zf1⟩, zf2, zf3⟩ := heB.cells)
    | (refine step_append_any9 rfl (.tmp 17) (.tmp 20) 34 rfl w4.heap.size 25 i0 (.agg #[.slice none 0 0, .slice none 0 0]) 2 48 Tryd.underlying34 hi0 hz0 hz1 hz2 rfl (by decide) (.slice pA (0 + 3) cA) (0 + 3) _ (by simp [Act.eval]) hownA ⟨w4.heap.size, 0, none⟩ 2 2 news2 (by simp [Act.eval]) HN2.out.1 (HN2.out.2.2 _ _ (HBN.out.calm hgrowA)) HN2.out.2.1 (by unfold maxLen; omega) (by omega) (by exact hgA.size) ?_; intro pB cB wB hownB hgrowB; have hgB : w4.grownBy wB none := ownsRow_new hgA hownA hgrowB; have heB := HEX.out.calm hgB; obtain ⟨⟨z0, z1⟩, ⟨z2, z3⟩, ⟨z4, z5⟩, ⟨zf0, zf1⟩, zf2, zf3⟩ := heB.cells))
  all_goals
    have h5 := HE1.out pB cB wB hownB hgB
    clear hownB hownA hgrowA hgrowB hgA hgB heA heB y0 y1 y2 y3 y4 y5 z0 z1 z2 z3 z4 z5 zf0 zf1 zf2 zf3 yf0 yf1 yf2 yf3
    have HFIN := Lib.hid (with_end (cf := cf) (cg := cg) (ch := ch) (ck := ck) Hb.out Hc.out He.out Hx.out Hy.out Zf.out Zg.out Zh.out Zk.out h5)
    have hk5 := h5.d.calm (World.grownBy_alloc _ (.cells #[.int .i64 3, .int .i64 0, .slice pf nf cf, .int .i64 3, .int .i64 1, .slice pg ng cg, .int .i64 4, .int .i64 1, .slice ph nh ch, .int .i64 4, .int .i64 2, .slice pk nk ck] 45) none)
    have k0 := hk5.free 1
    have k1 := hk5.c1
    clear h5 hk5
    generalize wB.setCell ⟨gg, 0, none⟩ (.slice pB 5 cB) = w5 at *
    obtain ⟨⟨r0, r1, r2, r3, r4, r5⟩, hfin⟩ := HFIN.out _ rfl
    have HFI := Lib.hid hfin
    clear hfin HFIN
    go_wp2
    obtain ⟨y8, y9, hres⟩ := HFI.out _ rfl
    exact bodyPost_ret (v := .agg #[.slice pB 5 cB, .slice (some ⟨w5.heap.size, 0, none⟩) 4 4]) (by simp [results, Tryd.results11, go_sem, y8, y9]) rfl hres

end Go.Proofs.YtemnbkenihldgaaDoor
