/- The reference's package push: beside. -/
import Derived.Test.YtemnbkenihldgaaDoorRef7a
import Derived.Laws.OwnMore
namespace Go.Proofs.YtemnbkenihldgaaDoor
open Go.RowKit

/-- append of a slice that may be nil, as one step of a region that draws. -/
theorem step_append_src {P : Program} {ops : Array Oper} {o : Oper} {a : Act} {w : World} {K : Act → World → Prop} {Q : Exit → Act → World → Prop} {E : Prop} (hgd : o.guard = none) (s x : Operand) (t : TypeId)
    (ho : o.op = .call { callee := .builtin .append, args := #[s, x], argTypes := #[t, t] })
    (base : Nat) (e : TypeId) (i : TypeInfo) (z : Value) (size bytes : Nat) (ht : P.underlying t = some (.slice e)) (hi : P.info? e = some i) (hz : i.zero = some z)
    (hsize : i.size = size) (hby : i.bytes = bytes) (hzs : z.cells.size = size) (hsz : 0 < size)
    (v : Value) (n : Nat) (xs : List Value) (hs : a.eval s = v) (hown : w.ownsRow base e size v n xs)
    (px : Option Addr) (m c : Nat) (news : List Value) (hx : a.eval x = .slice px m c) (hl : news.length = m * size)
    (hsrc : (px = none ∧ m = 0 ∧ c = 0) ∨ ∃ ad, px = some ad ∧ ∀ j u, news[j]? = some u → w.cell? (ad.add j) = some u) (h1 : ∀ u ∈ news, u.oneCell' = true)
    (h63 : n + m ≤ maxLen) (hbytes : (n + m) * bytes ≤ 140737488355328) (hbase : base ≤ w.heap.size)
    (h : ∀ p' c' w', w'.ownsRow base e size (.slice p' (n + m) c') (n + m) (xs ++ news) → w.grownBy w' v.ownBlock → K (a.put o.dst (.slice p' (n + m) c')) w') :
    if Region.wanted o (yielded ops a.tmps) = true then Oper.wp P o a w K Q else E := by
  rcases hsrc with ⟨rfl, rfl, rfl⟩ | ⟨ad, rfl, hnews⟩
  · have hw : Region.wanted o (yielded ops a.tmps) = true := by simp [Region.wanted, hgd]
    rw [if_pos hw]
    obtain ⟨p', c', rfl⟩ := ownsRow_sl hown
    have hnl : news = [] := List.eq_nil_of_length_eq_zero (by omega)
    subst hnl
    have hrun := run_append_owned_none (P := P) (w := w) base t o.type e i size ht hi (.slice p' n c') n xs hown
    have hK := h p' c' w (by simpa using hown) (grownBy_refl _ _)
    unfold Oper.wp
    simp [execOp, ho, resolve, invoke, builtin, hs, hx, hrun, Result.andThen]
    exact hK
  · exact step_append_own hgd s x t ho base e i z size bytes ht hi hz hsize hby hzs hsz v n xs hs hown ad m c news hx hl hnews h1 h63 hbytes hbase h

theorem wrap_few (x : Int) (h0 : 0 ≤ x) (h1 : x ≤ 4000000) : IntKind.i64.wrap x = x := by
  simp [IntKind.wrap, IntKind.bits, IntKind.signed]
  omega

/-- What beside has made so far: a row of labels, a row of pairs, a box. -/
structure BE (w0 W : World) (vs : Value) (ns : Nat) (ls : List ByteArray) (vp : Value) (np : Nat) (lp : List (Int × Int)) (D : Option Nat) : Prop where
  gr : w0.grownBy W none
  rs : W.ownsRow w0.heap.size 9 1 vs ns (scells ls)
  rp : W.ownsRow w0.heap.size 74 2 vp np (pcells lp)
  bx : ∀ g, D = some g → w0.heap.size ≤ g ∧ BoxO W g (.slice none 0 0) (.slice none 0 0)
theorem ne_own {W : World} {base g n size : Nat} {e t : TypeId} {v : Value} {xs : List Value} {cur : Array Value} {fz : Nat × Nat} (hr : W.ownsRow base e size v n xs) (hg : W.heap[g]? = some (.cells cur t fz)) (hne : t ≠ e) : some g ≠ v.ownBlock := by
  rcases hr.2 with ⟨h5, _⟩ | ⟨g', cap, cur', h5, _, hgb, _⟩
  · rw [h5]; simp [Value.ownBlock]
  · rw [h5]
    intro e9
    obtain rfl : g = g' := by simpa [Value.ownBlock] using e9
    rw [hg] at hgb
    simp at hgb
    exact hne hgb.2.1
theorem own_other {W W' : World} {base base' n n' size size' : Nat} {e e' : TypeId} {v v' : Value} {xs xs' : List Value} (h : W.ownsRow base e size v n xs) (h' : W.ownsRow base' e' size' v' n' xs') (hne : e ≠ e') (hg : W.grownBy W' v'.ownBlock) : W'.ownsRow base e size v n xs := by
  refine ⟨h.1, ?_⟩
  rcases h.2 with h1 | ⟨g, cap, cur, e1, h1, h2, h3⟩
  · exact .inl h1
  · exact .inr ⟨g, cap, cur, e1, h1, (hg.block g (Array.getElem?_eq_some_iff.1 h2).1 (ne_own h' h2 hne)).trans h2, h3⟩
theorem BE.start (w0 : World) : BE w0 w0 (.slice none 0 0) 0 [] (.slice none 0 0) 0 [] none := ⟨grownBy_refl _ _, World.ownsRow_nil _ _ _ _, World.ownsRow_nil _ _ _ _, fun _ h => by cases h⟩
theorem BE.calm {w0 W W' : World} {vs vp : Value} {ns np : Nat} {ls : List ByteArray} {lp : List (Int × Int)} {D : Option Nat} (h : BE w0 W vs ns ls vp np lp D) (hg : W.grownBy W' none) : BE w0 W' vs ns ls vp np lp D :=
  ⟨grownBy_trans h.gr hg, ownsRow_calm h.rs hg, ownsRow_calm h.rp hg, fun g e => ⟨(h.bx g e).1, (h.bx g e).2.calm hg⟩⟩
theorem BE.alloc {w0 W : World} {vs vp : Value} {ns np : Nat} {ls : List ByteArray} {lp : List (Int × Int)} (h : BE w0 W vs ns ls vp np lp none) : BE w0 (W.alloc (.cells #[.slice none 0 0, .slice none 0 0] 25)) vs ns ls vp np lp (some W.heap.size) := by
  have h1 := h.calm (World.grownBy_alloc W (.cells #[.slice none 0 0, .slice none 0 0] 25) none)
  exact ⟨h1.gr, h1.rs, h1.rp, fun g e => by cases e; exact ⟨h.gr.size, BoxO.new W _ _⟩⟩
theorem BE.str {w0 W W' : World} {vs vp vs' : Value} {ns np ns' : Nat} {ls ls' : List ByteArray} {lp : List (Int × Int)} {D : Option Nat} (h : BE w0 W vs ns ls vp np lp D) (ho : W'.ownsRow w0.heap.size 9 1 vs' ns' (scells ls')) (hg : W.grownBy W' vs.ownBlock) : BE w0 W' vs' ns' ls' vp np lp D :=
  ⟨ownsRow_new h.gr h.rs hg, ho, own_other h.rp h.rs (by decide) hg, fun g e => ⟨(h.bx g e).1, (h.bx g e).2.other hg (ne_own h.rs (h.bx g e).2 (by decide))⟩⟩
theorem BE.prs {w0 W W' : World} {vs vp vp' : Value} {ns np np' : Nat} {ls : List ByteArray} {lp lp' : List (Int × Int)} {D : Option Nat} (h : BE w0 W vs ns ls vp np lp D) (ho : W'.ownsRow w0.heap.size 74 2 vp' np' (pcells lp')) (hg : W.grownBy W' vp.ownBlock) : BE w0 W' vs ns ls vp' np' lp' D :=
  ⟨ownsRow_new h.gr h.rp hg, own_other h.rs h.rp (by decide) hg, ho, fun g e => ⟨(h.bx g e).1, (h.bx g e).2.other hg (ne_own h.rp (h.bx g e).2 (by decide))⟩⟩

/-- What lies behind the region. -/
def BD (w0 W : World) (g : Nat) (pl : Option Addr) (cl : Nat) (pq : Option Addr) (cq nl m : Nat) (ls : List ByteArray) (lp : List (Int × Int)) : Prop :=
  w0.heap.size ≤ g ∧ BoxO W g (.slice pl nl cl) (.slice pq m cq) ∧ W.ownsRow w0.heap.size 9 1 (.slice pl nl cl) nl (scells ls) ∧ W.ownsRow w0.heap.size 74 2 (.slice pq m cq) m (pcells lp) ∧ w0.grownBy W none
theorem BE.last {w0 W : World} {pl pq : Option Addr} {cl cq nl m : Nat} {ls : List ByteArray} {lp : List (Int × Int)} (h : BE w0 W (.slice pl nl cl) nl ls (.slice pq m cq) m lp none) : BD w0 (W.alloc (.cells #[.slice pl nl cl, .slice pq m cq] 25)) W.heap.size pl cl pq cq nl m ls lp := by
  have hg := World.grownBy_alloc W (.cells #[.slice pl nl cl, .slice pq m cq] 25) none
  exact ⟨h.gr.size, BoxO.new W _ _, ownsRow_calm h.rs hg, ownsRow_calm h.rp hg, grownBy_trans h.gr hg⟩
theorem BE.set {w0 W : World} {g : Nat} {pl pq : Option Addr} {cl cq nl m : Nat} {ls : List ByteArray} {lp : List (Int × Int)} (h : BE w0 W (.slice pl nl cl) nl ls (.slice pq m cq) m lp (some g)) : BD w0 ((W.setCell ⟨g, 0, none⟩ (.slice pl nl cl)).setCell ⟨g, 1, none⟩ (.slice pq m cq)) g pl cl pq cq nl m ls lp := by
  obtain ⟨h1, h2⟩ := h.bx g rfl
  have q1 := grownBy_setCell' W g (.slice pl nl cl)
  have b1 := h2.set0 (.slice pl nl cl)
  have r1 := h.rs.kept q1 (.inr (ne_own h.rs h2 (by decide)).symm)
  have r2 := h.rp.kept q1 (.inr (ne_own h.rp h2 (by decide)).symm)
  have q2 := grownBy_setCell (W.setCell ⟨g, 0, none⟩ (.slice pl nl cl)) ⟨g, 1, none⟩ (.slice pq m cq)
  exact ⟨h1, b1.set1 _, r1.kept q2 (.inr (ne_own r1 b1 (by decide)).symm), r2.kept q2 (.inr (ne_own r2 b1 (by decide)).symm), grownBy_setCell_new _ (grownBy_setCell_new _ h.gr h1) h1⟩

/-- An object in memory of its own. -/
def OwnPost (L : List ByteArray) (P : List (Int × Int)) (w : World) (e : Ending) (w' : World) : Prop := ∃ u v, e = .returned (.agg #[u, v]) ∧ OwnObj w' w.heap.size u v L P ∧ w.grownBy w' none

set_option maxRecDepth 20000 in
set_option maxHeartbeats 4000000 in
theorem refBeside_o (p q p' q' : Option Addr) (n c m d n' c' m' d' lo hi lo' hi' : Nat) (L L' : List ByteArray) (P P' : List (Int × Int)) (w : World) (h : ObjAt w lo hi p n q m L P) (h' : ObjAt w lo' hi' p' n' q' m' L' P') (hn : n ≤ 1000000) (hn' : n' ≤ 1000000) (hm : m ≤ 1000000) (hm' : m' ≤ 1000000)
    (hp0 : p = none → c = 0) (hp0' : p' = none → c' = 0) (hq0 : q = none → d = 0) (hin : allIn n' P' = true) :
    Calls Tryd.prog 20 #[.agg #[.slice p n c, .slice q m d], .agg #[.slice p' n' c', .slice q' m' d']] w (OwnPost (L ++ L') (P ++ shP n P') w) := by
  obtain ⟨i0, hi0, hz0, hz1, hz2⟩ := info_parts Tryd.info9
  obtain ⟨j00, hj0, hy0, hy1, hy2⟩ := info_parts Tryd.info74
  have H := Lib.hid h
  have H' := Lib.hid h'
  have HIN := Lib.hid hin
  have HL := Lib.hid h.ls.len
  have HL' := Lib.hid h'.ls.len
  have HPl := Lib.hid h.ps.len
  have HPl' := Lib.hid h'.ps.len
  have HS1 : Hid (∀ W, w.grownBy W none → (p = none ∧ n = 0 ∧ c = 0) ∨ ∃ ad, p = some ad ∧ ∀ j u, (scells L)[j]? = some u → W.cell? (ad.add j) = some u) := Lib.hid (fun W hg => by
    cases p with
    | none =>
      refine .inl ⟨rfl, ?_, hp0 rfl⟩
      rcases Nat.eq_zero_or_pos n with e | e
      · exact e
      · obtain ⟨_, _, e2, _⟩ := h.ls.cell e; cases e2
    | some ad => exact .inr ⟨ad, rfl, strs_news (h.ls.calm hg)⟩)
  have HS2 : Hid (∀ W, w.grownBy W none → (p' = none ∧ n' = 0 ∧ c' = 0) ∨ ∃ ad, p' = some ad ∧ ∀ j u, (scells L')[j]? = some u → W.cell? (ad.add j) = some u) := Lib.hid (fun W hg => by
    cases p' with
    | none =>
      refine .inl ⟨rfl, ?_, hp0' rfl⟩
      rcases Nat.eq_zero_or_pos n' with e | e
      · exact e
      · obtain ⟨_, _, e2, _⟩ := h'.ls.cell e; cases e2
    | some ad => exact .inr ⟨ad, rfl, strs_news (h'.ls.calm hg)⟩)
  have HS3 : Hid (∀ W, w.grownBy W none → (q = none ∧ m = 0 ∧ d = 0) ∨ ∃ ad, q = some ad ∧ ∀ j u, (pcells P)[j]? = some u → W.cell? (ad.add j) = some u) := Lib.hid (fun W hg => by
    cases q with
    | none =>
      refine .inl ⟨rfl, ?_, hq0 rfl⟩
      rcases Nat.eq_zero_or_pos m with e | e
      · exact e
      · obtain ⟨_, _, e2, _⟩ := h.ps.cell e; cases e2
    | some ad => exact .inr ⟨ad, rfl, pairs_news (h.ps.calm hg)⟩)
  have he := boxEnv_three w (.slice p n c) (.slice q m d) (.slice p' n' c') (.slice q' m' d') (.slice none 0 0) (.slice none 0 0)
  clear h h' hin hp0 hp0' hq0
  obtain ⟨b00, b01, b10, b11⟩ := he.two
  have HE := Lib.hid he
  clear he
  go_enter Tryd.func20, Tryd.ntmps20
  go_wp2_with fail
  generalize ((w.alloc (.cells #[.slice p n c, .slice q m d] 25)).alloc (.cells #[.slice p' n' c', .slice q' m' d'] 25)).alloc (.cells #[.slice none 0 0, .slice none 0 0] 25) = W0 at *
  go_cut [6] (fun s6 wy => ∃ (g6 : Nat) (pl : Option Addr) (cl : Nat) (pq : Option Addr) (cq : Nat), s6 = .pointer (some ⟨g6, 0, none⟩) ∧ BD W0 wy g6 pl cl pq cq (n + n') m (L ++ L') P)
  case first =>
    have henv := (BE.start W0).calm (grownBy_drewN W0 1 none)
    have hsl : (scells L).length = n * 1 := by rw [scells_len, HL.out]; omega
    have hsl' : (scells L').length = n' * 1 := by rw [scells_len, HL'.out]; omega
    have hpl : (pcells P).length = m * 2 := by rw [pcells_len, HPl.out]
    have HSL := Lib.hid hsl
    have HSL' := Lib.hid hsl'
    have HPLL := Lib.hid hpl
    clear hsl hsl' hpl
    go_region_held3 (fun w' => w'.cell? ⟨w.heap.size, 0, none⟩ = some (.slice p n c) ∧ w'.cell? ⟨w.heap.size, 1, none⟩ = some (.slice q m d) ∧ w'.cell? ⟨w.heap.size + 1, 0, none⟩ = some (.slice p' n' c') ∧ w'.cell? ⟨w.heap.size + 1, 1, none⟩ = some (.slice q' m' d')) (first | exact (HE.out.calm henv.gr).two | exact (HE.out.calm henv.alloc.gr).two | exact (HE.out.calm (grownBy_trans henv.gr (World.grownBy_alloc _ _ none))).two | exact (HE.out.calm (grownBy_setCell_new _ (grownBy_setCell_new _ henv.gr (henv.bx _ rfl).1) (henv.bx _ rfl).1)).two | go_keep)
      (first
        | (refine step_append_src rfl (.const (.slice none 0 0)) (.tmp 12) 22 rfl W0.heap.size 9 i0 (.string .empty) 1 16 Tryd.underlying22 hi0 hz0 hz1 hz2 rfl (by decide) (.slice none 0 0) 0 [] (by rfl) (World.ownsRow_nil _ _ _ _) p n c (scells L) (by rfl) HSL.out (HS1.out _ (grownBy_trans HE.out.1 henv.gr)) (scells_one _) (by unfold maxLen; omega) (by omega) henv.gr.size ?_; intro pA cA wA hoA hgA; rw [Nat.zero_add] at hoA ⊢; have henv := henv.str (vs' := .slice pA n cA) (ns' := n) (ls' := L) (by simpa using hoA) hgA; try (have hbD := (henv.bx _ rfl).2; have x60 := hbD.c0; have x61 := hbD.c1; have y60 := hbD.free 0; have y61 := hbD.free 1))
        | (refine step_append_src rfl (.const (.slice none 0 0)) (.tmp 12) 22 rfl W0.heap.size 9 i0 (.string .empty) 1 16 Tryd.underlying22 hi0 hz0 hz1 hz2 rfl (by decide) (.slice none 0 0) 0 [] (by rfl) (World.ownsRow_nil _ _ _ _) p n c (scells L) (by rfl) HSL.out (HS1.out _ (grownBy_trans HE.out.1 henv.alloc.gr)) (scells_one _) (by unfold maxLen; omega) (by omega) henv.alloc.gr.size ?_; intro pA cA wA hoA hgA; rw [Nat.zero_add] at hoA ⊢; have henv := henv.alloc.str (vs' := .slice pA n cA) (ns' := n) (ls' := L) (by simpa using hoA) hgA; have henv : BE W0 wA (.slice pA n cA) n L (.slice none 0 0) 0 [] (some W0.heap.size) := henv; try (have hbD := (henv.bx _ rfl).2; have x60 := hbD.c0; have x61 := hbD.c1; have y60 := hbD.free 0; have y61 := hbD.free 1))
        | (refine step_append_src rfl (.tmp 13) (.tmp 15) 22 rfl W0.heap.size 9 i0 (.string .empty) 1 16 Tryd.underlying22 hi0 hz0 hz1 hz2 rfl (by decide) (.slice pA n cA) n (scells L) (by rfl) henv.rs p' n' c' (scells L') (by rfl) HSL'.out (HS2.out _ (grownBy_trans HE.out.1 henv.gr)) (scells_one _) (by unfold maxLen; omega) (by omega) henv.gr.size ?_; intro pB cB wB hoB hgB; have henv := henv.str (vs' := .slice pB (n + n') cB) (ns' := n + n') (ls' := L ++ L') (by rw [scells_app]; simpa using hoB) hgB; try (have hbD := (henv.bx _ rfl).2; have x60 := hbD.c0; have x61 := hbD.c1; have y60 := hbD.free 0; have y61 := hbD.free 1))
        | (refine step_append_src rfl (.tmp 13) (.tmp 15) 22 rfl W0.heap.size 9 i0 (.string .empty) 1 16 Tryd.underlying22 hi0 hz0 hz1 hz2 rfl (by decide) (.slice pA n cA) n (scells L) (by rfl) henv.alloc.rs p' n' c' (scells L') (by rfl) HSL'.out (HS2.out _ (grownBy_trans HE.out.1 henv.alloc.gr)) (scells_one _) (by unfold maxLen; omega) (by omega) henv.alloc.gr.size ?_; intro pB cB wB hoB hgB; have henv := henv.alloc.str (vs' := .slice pB (n + n') cB) (ns' := n + n') (ls' := L ++ L') (by rw [scells_app]; simpa using hoB) hgB; try (have hbD := (henv.bx _ rfl).2; have x60 := hbD.c0; have x61 := hbD.c1; have y60 := hbD.free 0; have y61 := hbD.free 1))
        | (refine step_append_src rfl (.const (.slice none 0 0)) (.tmp 18) 23 rfl W0.heap.size 74 j00 (.agg #[.int .i64 0, .int .i64 0]) 2 16 Tryd.underlying23 hj0 hy0 hy1 hy2 rfl (by decide) (.slice none 0 0) 0 [] (by rfl) (World.ownsRow_nil _ _ _ _) q m d (pcells P) (by rfl) HPLL.out (HS3.out _ (grownBy_trans HE.out.1 henv.gr)) (pcells_one' _) (by unfold maxLen; omega) (by omega) henv.gr.size ?_; intro pC cC wC hoC hgC; rw [Nat.zero_add] at hoC ⊢; have henv := henv.prs (vp' := .slice pC m cC) (np' := m) (lp' := P) (by simpa using hoC) hgC; try (have hbD := (henv.bx _ rfl).2; have x60 := hbD.c0; have x61 := hbD.c1; have y60 := hbD.free 0; have y61 := hbD.free 1))
        | (refine step_append_src rfl (.const (.slice none 0 0)) (.tmp 18) 23 rfl W0.heap.size 74 j00 (.agg #[.int .i64 0, .int .i64 0]) 2 16 Tryd.underlying23 hj0 hy0 hy1 hy2 rfl (by decide) (.slice none 0 0) 0 [] (by rfl) (World.ownsRow_nil _ _ _ _) q m d (pcells P) (by rfl) HPLL.out (HS3.out _ (grownBy_trans HE.out.1 henv.alloc.gr)) (pcells_one' _) (by unfold maxLen; omega) (by omega) henv.alloc.gr.size ?_; intro pC cC wC hoC hgC; rw [Nat.zero_add] at hoC ⊢; have henv := henv.alloc.prs (vp' := .slice pC m cC) (np' := m) (lp' := P) (by simpa using hoC) hgC; try (have hbD := (henv.bx _ rfl).2; have x60 := hbD.c0; have x61 := hbD.c1; have y60 := hbD.free 0; have y61 := hbD.free 1)))
    all_goals
      try go_wp2
      go_meet
      first
        | exact ⟨_, _, _, _, _, rfl, henv.last⟩
        | exact ⟨_, _, _, _, _, rfl, henv.set⟩
  case rest =>
    obtain ⟨g6, pl, cl, pq, cq, rfl, hbd⟩ := hcut
    have HBD := Lib.hid hbd
    clear hbd b00 b01 b10 b11
    go_wp2
    go_loopw [7] (fun i wr => ∃ (k : Nat) (pk : Option Addr) (ck : Nat), k ≤ m' ∧ i = .int .i64 k ∧ BD W0 wr g6 pl cl pk ck (n + n') (m + k) (L ++ L') (P ++ shP n (P'.take k))) (fun i _ => m' - (intOf i).toNat)
    case atStart => exact ⟨0, pq, cq, Nat.zero_le _, rfl, by simpa [shP] using HBD.out⟩
    case round =>
      obtain ⟨k, pk, ck, hk, rfl, hbd⟩ := hrel
      obtain ⟨h1, h2, h3, h4, h5⟩ := hbd
      have henv := HE.out.calm h5
      obtain ⟨b00, b01, b10, b11⟩ := henv.two
      by_cases hkm : k < m'
      · have k0 : (0 : Int) ≤ k := by omega
        have k1 : (k : Int) < m' := by omega
        obtain ⟨bp, op, rfl, q1, q2, q3, hcp⟩ := (H'.out.ps.calm henv.1).cell (by omega)
        obtain ⟨y0, y1⟩ := hcp k hkm
        have HI := Lib.hid (inI_of_all (k := k) HIN.out (by rw [HPl'.out]; exact hkm))
        have HST := Lib.hid (shP_take (n := n) (P := P') (k := k) (by rw [HPl'.out]; exact hkm))
        clear hcp
        obtain ⟨x, hx⟩ : ∃ x, x = P'[k]?.getD (0, 0) := ⟨_, rfl⟩
        rw [← hx] at y0 y1 HI HST
        obtain ⟨xa, xb⟩ := x
        have hX := hx
        clear hx
        obtain ⟨a0, a1, a2, a3⟩ : 0 ≤ xa ∧ xa < n' ∧ 0 ≤ xb ∧ xb < n' := by have := HI.out; unfold inI at this; simp only at this; omega
        simp only at y0 y1 HST
        have c61 := h2.c1
        have f61 := h2.free 1
        have hgN := grownBy_trans (World.grownBy_alloc wr (.cells #[.int .i64 (xa + (n : Int)), .int .i64 (xb + (n : Int))] 74) none) (grownBy_drewN (wr.alloc (.cells #[.int .i64 (xa + (n : Int)), .int .i64 (xb + (n : Int))] 74)) 1 none)
        have HNEW := Lib.hid (cell_two_new wr (.int .i64 (xa + (n : Int))) (.int .i64 (xb + (n : Int))) 74)
        have HOW := Lib.hid (ownsRow_calm h4 hgN)
        have HOS := Lib.hid (ownsRow_calm h3 hgN)
        have HB6 := Lib.hid (h2.calm hgN)
        have HGN := Lib.hid (grownBy_trans h5 hgN)
        have x61 : ((wr.alloc (.cells #[.int .i64 (xa + (n : Int)), .int .i64 (xb + (n : Int))] 74)).drew).cell? ⟨g6, 1, none⟩ = some (.slice pk (m + k) ck) := (h2.calm hgN).c1
        have HSS : Hid (∀ W', W0.grownBy W' none → W'.cell? ⟨w.heap.size + 1, 1, none⟩ = some (.slice (some ⟨bp, op, none⟩) m' d') ∧ W'.cell? ⟨bp, op + k * 2, none⟩ = some (.int .i64 xa) ∧ W'.cell? ⟨bp, op + k * 2 + 1, none⟩ = some (.int .i64 xb)) := Lib.hid (fun W' hg => by
          have henv := HE.out.calm hg
          obtain ⟨_, _, _, e11⟩ := henv.two
          obtain ⟨_, _, e2, _, _, _, hc⟩ := (H'.out.ps.calm henv.1).cell (by omega)
          cases e2
          have := hc k hkm
          rw [← hX] at this
          exact ⟨e11, this.1, this.2⟩)
        have hS := HSS.out _ (grownBy_trans h5 (grownBy_drewN wr 1 none))
        have hSN := HSS.out _ HGN.out
        have j0 : (0 : Int) ≤ xa + n := by omega
        clear henv b00 b01 b10 h3 h4 hgN
        go_wp2_with fail
        have hS0 : (fun w' => w'.cell? ⟨w.heap.size + 1, 1, none⟩ = some (.slice (some ⟨bp, op, none⟩) m' d') ∧ w'.cell? ⟨bp, op + k * 2, none⟩ = some (.int .i64 xa) ∧ w'.cell? ⟨bp, op + k * 2 + 1, none⟩ = some (.int .i64 xb)) wr.drew := hS
        refine wp_region_held (S := (fun w' => w'.cell? ⟨w.heap.size + 1, 1, none⟩ = some (.slice (some ⟨bp, op, none⟩) m' d') ∧ w'.cell? ⟨bp, op + k * 2, none⟩ = some (.int .i64 xa) ∧ w'.cell? ⟨bp, op + k * 2 + 1, none⟩ = some (.int .i64 xb))) (by kernel_rfl) ?_
        change wpAnyH _ _ _ _ _ _ _ _ wr.drew
        refine wpAnyH_take (i := 0) (v := .pointer (some ⟨g6, 1, none⟩)) rfl (by kernel_rfl) (by kernel_rfl) (by kernel_rfl) (fun _ _ _ h => h) (.inl ⟨by rfl, ?_⟩) hS0 ?_
        · rintro w' ⟨t0, t1, t2⟩
          go_simp
        refine wpAnyH_take (i := 2) (v := .pointer (some ⟨w.heap.size + 1, 1, none⟩)) rfl (by kernel_rfl) (by kernel_rfl) (by kernel_rfl) (fun _ _ _ h => h) (.inl ⟨by rfl, ?_⟩) hS0 ?_
        · rintro w' ⟨t0, t1, t2⟩
          go_simp
        refine wpAnyH_take (i := 3) (v := .slice (some ⟨bp, op, none⟩) m' d') rfl (by kernel_rfl) (by kernel_rfl) (by kernel_rfl) (fun _ _ _ h => h) (.inl ⟨by rfl, ?_⟩) hS0 ?_
        · rintro w' ⟨t0, t1, t2⟩
          go_simp
        refine wpAnyH_take (i := 4) (v := .int .i64 k) rfl (by kernel_rfl) (by kernel_rfl) (by kernel_rfl) (fun _ _ _ h => h) (.inl ⟨by rfl, ?_⟩) hS0 ?_
        · rintro w' ⟨t0, t1, t2⟩
          go_simp
        refine wpAnyH_take (i := 5) (v := .pointer (some ⟨bp, op + k * 2, none⟩)) rfl (by kernel_rfl) (by kernel_rfl) (by kernel_rfl) (fun _ _ _ h => h) (.inl ⟨by rfl, ?_⟩) hS0 ?_
        · rintro w' ⟨t0, t1, t2⟩
          go_simp
        refine wpAnyH_take (i := 6) (v := .pointer (some ⟨bp, op + k * 2, none⟩)) rfl (by kernel_rfl) (by kernel_rfl) (by kernel_rfl) (fun _ _ _ h => h) (.inl ⟨by rfl, ?_⟩) hS0 ?_
        · rintro w' ⟨t0, t1, t2⟩
          go_simp
        refine wpAnyH_take (i := 7) (v := .int .i64 xa) rfl (by kernel_rfl) (by kernel_rfl) (by kernel_rfl) (fun _ _ _ h => h) (.inl ⟨by rfl, ?_⟩) hS0 ?_
        · rintro w' ⟨t0, t1, t2⟩
          go_simp
        refine wpAnyH_take (i := 8) (v := .int .i64 n) rfl (by kernel_rfl) (by kernel_rfl) (by kernel_rfl) (fun _ _ _ h => h) (.inl ⟨by rfl, ?_⟩) hS0 ?_
        · rintro w' ⟨t0, t1, t2⟩
          go_simp
        refine wpAnyH_take (i := 9) (v := .int .i64 (xa + (n : Int))) rfl (by kernel_rfl) (by kernel_rfl) (by kernel_rfl) (fun _ _ _ h => h) (.inl ⟨by rfl, ?_⟩) hS0 ?_
        · rintro w' ⟨t0, t1, t2⟩
          go_simp
          exact wrap_few _ (by omega) (by omega)
        refine wpAnyH_take (i := 10) (v := .pointer (some ⟨w.heap.size + 1, 1, none⟩)) rfl (by kernel_rfl) (by kernel_rfl) (by kernel_rfl) (fun _ _ _ h => h) (.inl ⟨by rfl, ?_⟩) hS0 ?_
        · rintro w' ⟨t0, t1, t2⟩
          go_simp
        refine wpAnyH_take (i := 11) (v := .slice (some ⟨bp, op, none⟩) m' d') rfl (by kernel_rfl) (by kernel_rfl) (by kernel_rfl) (fun _ _ _ h => h) (.inl ⟨by rfl, ?_⟩) hS0 ?_
        · rintro w' ⟨t0, t1, t2⟩
          go_simp
        refine wpAnyH_take (i := 12) (v := .int .i64 k) rfl (by kernel_rfl) (by kernel_rfl) (by kernel_rfl) (fun _ _ _ h => h) (.inl ⟨by rfl, ?_⟩) hS0 ?_
        · rintro w' ⟨t0, t1, t2⟩
          go_simp
        refine wpAnyH_take (i := 13) (v := .pointer (some ⟨bp, op + k * 2, none⟩)) rfl (by kernel_rfl) (by kernel_rfl) (by kernel_rfl) (fun _ _ _ h => h) (.inl ⟨by rfl, ?_⟩) hS0 ?_
        · rintro w' ⟨t0, t1, t2⟩
          go_simp
        refine wpAnyH_take (i := 14) (v := .pointer (some ⟨bp, op + k * 2 + 1, none⟩)) rfl (by kernel_rfl) (by kernel_rfl) (by kernel_rfl) (fun _ _ _ h => h) (.inl ⟨by rfl, ?_⟩) hS0 ?_
        · rintro w' ⟨t0, t1, t2⟩
          go_simp
        refine wpAnyH_take (i := 15) (v := .int .i64 xb) rfl (by kernel_rfl) (by kernel_rfl) (by kernel_rfl) (fun _ _ _ h => h) (.inl ⟨by rfl, ?_⟩) hS0 ?_
        · rintro w' ⟨t0, t1, t2⟩
          go_simp
        refine wpAnyH_take (i := 16) (v := .int .i64 n) rfl (by kernel_rfl) (by kernel_rfl) (by kernel_rfl) (fun _ _ _ h => h) (.inl ⟨by rfl, ?_⟩) hS0 ?_
        · rintro w' ⟨t0, t1, t2⟩
          go_simp
        refine wpAnyH_take (i := 17) (v := .int .i64 (xb + (n : Int))) rfl (by kernel_rfl) (by kernel_rfl) (by kernel_rfl) (fun _ _ _ h => h) (.inl ⟨by rfl, ?_⟩) hS0 ?_
        · rintro w' ⟨t0, t1, t2⟩
          go_simp
          exact wrap_few _ (by omega) (by omega)
        refine wpAnyH_take (i := 18) (v := .agg #[.int .i64 (xa + (n : Int)), .int .i64 (xb + (n : Int))]) rfl (by kernel_rfl) (by kernel_rfl) (by kernel_rfl) (fun _ _ _ h => h) (.inl ⟨by rfl, ?_⟩) hS0 ?_
        · rintro w' ⟨t0, t1, t2⟩
          go_simp
        refine held_two 1 19 (by kernel_rfl) rfl rfl (fun K hK => ?_) (fun K hK => ?_)
        go_simp
        refine hK _ _ hS0 ?_
        clear hK K
        refine held_next 19 (by kernel_rfl) rfl ?_
        intro K hK
        go_simp
        refine hK _ _ hSN ?_
        clear hK K
        rotate_left
        go_simp
        refine hK _ _ hSN ?_
        clear hK K
        refine held_next 1 (by kernel_rfl) rfl ?_
        intro K hK
        go_simp
        refine hK _ _ hSN ?_
        clear hK K
        all_goals
          refine held_next 20 (by kernel_rfl) rfl ?_
          intro K hK
          refine step_append_own rfl (.tmp 29) (.tmp 47) 23 rfl W0.heap.size 74 j00 (.agg #[.int .i64 0, .int .i64 0]) 2 16 Tryd.underlying23 hj0 hy0 hy1 hy2 rfl (by decide) (.slice pk (m + k) ck) (m + k) (pcells (P ++ shP n (P'.take k))) (by rfl) HOW.out ⟨wr.heap.size, 0, none⟩ 1 1 [.int .i64 (xa + (n : Int)), .int .i64 (xb + (n : Int))] (by rfl) rfl HNEW.out (by simp [Value.oneCell']) (by unfold maxLen; omega) (by omega) HGN.out.size ?_
          intro p8 c8 w8 ho8 hg8
          have hb8 := HB6.out.other hg8 (ne_own HOW.out HB6.out (by decide))
          have x68 := hb8.c1
          have f68 := hb8.free 1
          have hgr8 := ownsRow_new HGN.out HOW.out hg8
          have hos8 := own_other HOS.out HOW.out (by decide) hg8
          have hS8 := HSS.out _ hgr8
          have hS9 := HSS.out _ (grownBy_setCell_new (.slice p8 (m + k + 1) c8) hgr8 (p := ⟨g6, 1, none⟩) h1)
          refine hK _ _ hS8 ?_
          clear hK K
          refine held_next 21 (by kernel_rfl) rfl ?_
          intro K hK
          go_simp
          refine hK _ _ hS8 ?_
          clear hK K
          refine held_next 22 (by kernel_rfl) rfl ?_
          intro K hK
          go_simp
          refine hK _ _ hS9 ?_
          clear hK K
          refine wpAnyH_done (by kernel_rfl) ?_ _
          have q8 := grownBy_setCell w8 ⟨g6, 1, none⟩ (.slice p8 (m + k + 1) c8)
          have HB8 := Lib.hid (show BD W0 (w8.setCell ⟨g6, 1, none⟩ (.slice p8 (m + k + 1) c8)) g6 pl cl p8 c8 (n + n') (m + (k + 1)) (L ++ L') (P ++ shP n (P'.take (k + 1))) from by
            refine ⟨h1, hb8.set1 _, hos8.kept q8 (.inr (ne_own hos8 hb8 (by decide)).symm), ?_, grownBy_setCell_new _ hgr8 h1⟩
            have ho9 := ho8.kept q8 (.inr (ne_own ho8 hb8 (by decide)).symm)
            rw [HST.out, ← List.append_assoc, pcells_snoc, Int.add_comm (n : Int) xa, Int.add_comm (n : Int) xb]
            exact ho9)
          clear q8 hb8 hos8 ho8 hgr8 hg8 hS8 hS9 x68 f68
          go_wp2
          exact ⟨⟨k + 1, p8, c8, by omega, by go_num, HB8.out⟩, by simp [intOf]; omega⟩
      · obtain rfl : k = m' := by omega
        have hb3 := henv.third
        obtain ⟨b20, b21, f20, f21⟩ := hb3
        have x60 := h2.c0
        have x61 := h2.c1
        rw [← HPl'.out, List.take_length, HPl'.out] at h4
        have hls : (L ++ L').length = n + n' := by rw [List.length_append, HL.out, HL'.out]
        have hps : (P ++ shP n P').length = m + k := by rw [List.length_append, shP_len, HPl.out, HPl'.out]
        have hown : OwnObj wr W0.heap.size (.slice pl (n + n') cl) (.slice pk (m + k) ck) (L ++ L') (P ++ shP n P') := ⟨by rw [hls]; exact h3, by rw [hps]; exact h4⟩
        have hb2 : w.heap.size + 1 + 1 < W0.heap.size := (HE.out.2 2 _ rfl).lt
        have hfin : ∀ W9, W9 = (wr.setCell ⟨w.heap.size + 1 + 1, 0, none⟩ (.slice pl (n + n') cl)).setCell ⟨w.heap.size + 1 + 1, 1, none⟩ (.slice pk (m + k) ck) → W9.cell? ⟨w.heap.size + 1 + 1, 0, none⟩ = some (.slice pl (n + n') cl) ∧ W9.cell? ⟨w.heap.size + 1 + 1, 1, none⟩ = some (.slice pk (m + k) ck) ∧ OwnPost (L ++ L') (P ++ shP n P') w (.returned (.agg #[.slice pl (n + n') cl, .slice pk (m + k) ck])) W9 := by
          rintro W9 rfl
          have heF := henv.set3 (.slice pl (n + n') cl) (.slice pk (m + k) ck)
          obtain ⟨c0, c1, _, _⟩ := heF.third
          have ho9 := (hown.set (p := ⟨w.heap.size + 1 + 1, 0, none⟩) hb2 (.slice pl (n + n') cl)).set (p := ⟨w.heap.size + 1 + 1, 1, none⟩) hb2 (.slice pk (m + k) ck)
          have hw0 := HE.out.1.size
          exact ⟨c0, c1, _, _, rfl, ⟨ownsRow_down ho9.ls hw0, ownsRow_down ho9.ps hw0⟩, heF.1⟩
        have HFIN := Lib.hid hfin
        clear hfin hown h3 h4 h2 henv hls hps b00 b01 b10
        have k1 : ¬ ((k : Int) < k) := by omega
        go_wp2
        obtain ⟨y8, y9, hres⟩ := HFIN.out _ rfl
        refine bodyPost_ret (v := .agg #[.slice pl (n + n') cl, .slice pk (m + k) ck]) ?_ rfl hres
        simp [results, Tryd.results20, go_sem, y8, y9]

theorem refBeside_c (p q p' q' : Option Addr) (n c m d n' c' m' d' lo hi lo' hi' : Nat) (L L' : List ByteArray) (P P' : List (Int × Int)) (w : World) (h : ObjAt w lo hi p n q m L P) (h' : ObjAt w lo' hi' p' n' q' m' L' P') (hn : n ≤ 1000000) (hn' : n' ≤ 1000000) (hm : m ≤ 1000000) (hm' : m' ≤ 1000000)
    (hp0 : p = none → c = 0) (hp0' : p' = none → c' = 0) (hq0 : q = none → d = 0) (hin : allIn n' P' = true) :
    Calls Tryd.prog 20 #[.agg #[.slice p n c, .slice q m d], .agg #[.slice p' n' c', .slice q' m' d']] w (RefMakePost (L ++ L') (P ++ shP n P') w) := by
  refine (refBeside_o p q p' q' n c m d n' c' m' d' lo hi lo' hi' L L' P P' w h h' hn hn' hm hm' hp0 hp0' hq0 hin).mono ?_
  rintro e w' ⟨u, v, rfl, ho, hg⟩
  obtain ⟨p9, c9, q9, d9, rfl, rfl, hoa, _, _⟩ := ho.form
  exact ⟨p9, c9, q9, d9, rfl, hoa, hg⟩

end Go.Proofs.YtemnbkenihldgaaDoor
