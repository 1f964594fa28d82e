/- Package colim: beside: nodes, one behind the other. -/
import Derived.Test.YtemnbkenihldgaaDoorColM
import Derived.Test.YtemnbkenihldgaaDoorRef7d
namespace Go.Proofs.YtemnbkenihldgaaDoor
open Go.RowKit Go.Shelf

/-- append of a slice that may be nil, in a plain region. -/
theorem wpList_append_src {P : Program} {w : World} {ops : Array Oper} {rest : List Oper} {o : Oper} {a : Act} {Q : Exit → Act → World → Prop} (hgd : o.guard = none) (s x : Operand) (t : TypeId)
    (ho : o.op = .call { callee := .builtin .append, args := #[s, x], argTypes := #[t, t] })
    (base : Nat) (e : TypeId) (i : TypeInfo) (z : Value) (size bytes : Nat) (ht : P.underlying t = some (.slice e)) (hi : P.info? e = some i) (hz : i.zero = some z)
    (hsize : i.size = size) (hby : i.bytes = bytes) (hzs : z.cells.size = size) (hsz : 0 < size)
    (v : Value) (n : Nat) (xs : List Value) (hs : a.eval s = v) (hown : w.ownsRow base e size v n xs)
    (px : Option Addr) (m c : Nat) (news : List Value) (hx : a.eval x = .slice px m c) (hl : news.length = m * size)
    (hsrc : (px = none ∧ m = 0 ∧ c = 0) ∨ ∃ ad, px = some ad ∧ ∀ j u, news[j]? = some u → w.cell? (ad.add j) = some u) (h1 : ∀ u ∈ news, u.oneCell' = true)
    (h63 : n + m ≤ maxLen) (hbytes : (n + m) * bytes ≤ 140737488355328) (hbase : base ≤ w.heap.size)
    (h : ∀ p' c' w', w'.ownsRow base e size (.slice p' (n + m) c') (n + m) (xs ++ news) → w.grownBy w' v.ownBlock → wpList P ops Q rest (a.put o.dst (.slice p' (n + m) c')) w') : wpList P ops Q (o :: rest) a w := by
  rcases hsrc with ⟨rfl, rfl, rfl⟩ | ⟨ad, rfl, hnews⟩
  · have hnl : news = [] := List.eq_nil_of_length_eq_zero (by omega)
    subst hnl
    obtain ⟨p', c', rfl⟩ := ownsRow_sl hown
    exact wpList_append_own_none hgd s x t ho base e i size ht hi (.slice p' n c') n xs hs hown hx (h p' c' w (by simpa using hown) (grownBy_refl _ _))
  · refine wpList_append_own _ hgd s x t ho base e i z size bytes ht hi hz hsize hby hzs hsz v n xs hs hown ad m c news hx hl hnews h1 h63 hbytes hbase fun v' w' h2 h3 _ => ?_
    obtain ⟨p', c', rfl⟩ := ownsRow_sl h2
    exact h p' c' w' h2 h3
theorem src_strs {w : World} {lo hi n c : Nat} {p : Option Addr} {l : List ByteArray} (h : StrsAt w lo hi p n l) (hp : p = none → c = 0) : (p = none ∧ n = 0 ∧ c = 0) ∨ ∃ ad, p = some ad ∧ ∀ j u, (scells l)[j]? = some u → w.cell? (ad.add j) = some u := by
  cases p with
  | none =>
    refine .inl ⟨rfl, ?_, hp rfl⟩
    rcases Nat.eq_zero_or_pos n with e | e
    · exact e
    · obtain ⟨_, _, e2, _⟩ := h.cell e; cases e2
  | some ad => exact .inr ⟨ad, rfl, strs_news h⟩

/-- Where nodes begin, the first k of them laid. -/
def stZ (Ns : List Nd) (n k : Nat) : List Int := ((List.range k).map fun j => (stK Ns j : Int)) ++ List.replicate (n - k) 0
theorem stZ_len {Ns : List Nd} {n k : Nat} (h : k ≤ n) : (stZ Ns n k).length = n := by simp [stZ]; omega
theorem stZ_zero (Ns : List Nd) (n : Nat) : stZ Ns n 0 = List.replicate n 0 := by simp [stZ]
theorem stZ_succ {Ns : List Nd} {n k : Nat} (h : k < n) : (stZ Ns n k).set k (stK Ns k : Int) = stZ Ns n (k + 1) := by
  unfold stZ
  have hl : ((List.range k).map fun j => (stK Ns j : Int)).length = k := by simp
  rw [List.set_append_right _ _ (by omega), hl, Nat.sub_self, show n - k = (n - (k + 1)) + 1 by omega, List.replicate_succ, List.set_cons_zero, List.range_succ, List.map_append, List.append_assoc]
  rfl
theorem stZ_get {Ns : List Nd} {n j : Nat} (h : j < n) : (stZ Ns n n)[j]?.getD 0 = (stK Ns j : Int) := by
  unfold stZ
  rw [List.getElem?_append_left (by simpa using h), List.getElem?_map, List.getElem?_range h]
  rfl
theorem prsK_len {Ns : List Nd} {n : Nat} (h : ∀ k, k < n → (ndA Ns k).2.length ≤ 200) : (prsK Ns n).length ≤ n * 200 := by
  induction n with
  | zero => simp [prsK]
  | succ n ih =>
    have h1 := ih (fun k hk => h k (by omega))
    have h2 := h n (by omega)
    rw [prsK, List.length_append, shP_len]
    omega

/-- What beside has laid so far: a box, a row of labels, a row of pairs, where nodes begin. -/
structure BS (w0 W : World) (g gs base : Nat) (vl vp : Value) (N m : Nat) (ls : List ByteArray) (lp : List (Int × Int)) (st : List Int) : Prop where
  gr : w0.grownBy W none
  box : BoxO W g vl vp
  rl : W.ownsRow base 9 1 vl N (scells ls)
  rp : W.ownsRow base 74 2 vp m (pcells lp)
  rs : RowZ W gs st
  lt : w0.heap.size ≤ g ∧ w0.heap.size ≤ gs ∧ g < base ∧ gs < base ∧ g ≠ gs ∧ base ≤ W.heap.size
theorem BS.calm {w0 W W' : World} {g gs base N m : Nat} {vl vp : Value} {ls : List ByteArray} {lp : List (Int × Int)} {st : List Int} (h : BS w0 W g gs base vl vp N m ls lp st) (hg : W.grownBy W' none) : BS w0 W' g gs base vl vp N m ls lp st :=
  ⟨grownBy_trans h.gr hg, h.box.calm hg, ownsRow_calm h.rl hg, ownsRow_calm h.rp hg, h.rs.calm hg, h.lt.1, h.lt.2.1, h.lt.2.2.1, h.lt.2.2.2.1, h.lt.2.2.2.2.1, Nat.le_trans h.lt.2.2.2.2.2 hg.size⟩
theorem BS.start {w0 W : World} {g gs base N m : Nat} {vl vp : Value} {ls : List ByteArray} {lp : List (Int × Int)} {st : List Int} (h : BS w0 W g gs base vl vp N m ls lp st) (k : Nat) (z : Int) : BS w0 (W.setCell ⟨gs, k, none⟩ (.int .i64 z)) g gs base vl vp N m ls lp (st.set k z) := by
  obtain ⟨h1, h2, h3, h4, h5, h6⟩ := h.lt
  have hg := grownBy_setCell W ⟨gs, k, none⟩ (.int .i64 z)
  refine ⟨grownBy_setCell_new _ h.gr h2, h.box.other hg (by intro e; exact h5 (Option.some.inj e)), ownsRow_set h.rl h4 _, ownsRow_set h.rp h4 _, h.rs.set _, h1, h2, h3, h4, h5, ?_⟩
  have := hg.size
  omega
theorem BS.lab {w0 W W' : World} {g gs base N m N' : Nat} {vl vp v' : Value} {ls ls' : List ByteArray} {lp : List (Int × Int)} {st : List Int} (h : BS w0 W g gs base vl vp N m ls lp st) (ho : W'.ownsRow base 9 1 v' N' (scells ls')) (hg : W.grownBy W' vl.ownBlock) :
    BoxO W' g vl vp ∧ BS w0 (W'.setCell ⟨g, 0, none⟩ v') g gs base v' vp N' m ls' lp st := by
  obtain ⟨h1, h2, h3, h4, h5, h6⟩ := h.lt
  have hb := h.box.other hg (ne_own h.rl h.box (by decide))
  have hs : RowZ W' gs st := (hg.block gs h.rs.lt (ne_own h.rl h.rs (by decide))).trans h.rs
  have hq := grownBy_setCell W' ⟨g, 0, none⟩ v'
  refine ⟨hb, grownBy_setCell_new _ (ownsRow_new2 h.gr h.rl (by omega) hg) h1, hb.set0 _, ownsRow_set ho h3 _, ownsRow_set (own_other h.rp h.rl (by decide) hg) h3 _, hs.other hq h5, h1, h2, h3, h4, h5, ?_⟩
  have := hg.size
  have := hq.size
  omega
theorem BS.prs {w0 W W' : World} {g gs base N m m' : Nat} {vl vp v' : Value} {ls : List ByteArray} {lp lp' : List (Int × Int)} {st : List Int} (h : BS w0 W g gs base vl vp N m ls lp st) (ho : W'.ownsRow base 74 2 v' m' (pcells lp')) (hg : W.grownBy W' vp.ownBlock) :
    BoxO W' g vl vp ∧ BS w0 (W'.setCell ⟨g, 1, none⟩ v') g gs base vl v' N m' ls lp' st := by
  obtain ⟨h1, h2, h3, h4, h5, h6⟩ := h.lt
  have hb := h.box.other hg (ne_own h.rp h.box (by decide))
  have hs : RowZ W' gs st := (hg.block gs h.rs.lt (ne_own h.rp h.rs (by decide))).trans h.rs
  have hq := grownBy_setCell W' ⟨g, 1, none⟩ v'
  refine ⟨hb, grownBy_setCell_new _ (ownsRow_new2 h.gr h.rp (by omega) hg) h1, hb.set1 _, ownsRow_set (own_other h.rl h.rp (by decide) hg) h3 _, ownsRow_set ho h3 _, hs.other hq h5, h1, h2, h3, h4, h5, ?_⟩
  have := hg.size
  have := hq.size
  omega

/-- What beside leaves. -/
def BesidePost (Ns : List Nd) (n : Nat) (w : World) (e : Ending) (w' : World) : Prop :=
  ∃ u v gs, e = .returned (.tuple #[.agg #[u, v], .slice (some ⟨gs, 0, none⟩) n n]) ∧ OwnObj w' w.heap.size u v (labsK Ns n) (prsK Ns n) ∧ w.heap.size ≤ gs ∧ RowZ w' gs (stZ Ns n n) ∧ w.grownBy w' none

set_option maxRecDepth 20000 in
set_option maxHeartbeats 4000000 in
theorem beside9_c (p : Option Addr) (n c lo hi : Nat) (Ns : List Nd) (w : World) (h : NodesAt w lo hi p n Ns) (hn : n ≤ 10) (hs : stK Ns n ≤ 40) (hm : ∀ k, k < n → (ndA Ns k).2.length ≤ 200) (hin : ∀ k, k < n → allIn (ndA Ns k).1.length (ndA Ns k).2 = true) :
    Calls Tryd.prog 24 #[.slice p n c] w (BesidePost Ns n w) := by
  obtain ⟨i0, hi0, hz0, hz1, hz2⟩ := info_parts Tryd.info9
  obtain ⟨j0', hj0, hy0, hy1, hy2⟩ := info_parts Tryd.info74
  have hmk := run_make_row' (P := Tryd.prog) 28 3 (.int .i64 0) 8 Tryd.underlying28 Tryd.infoZ3 rfl .i64 .i64 n (by omega) (by omega)
  have H := Lib.hid h
  have HM := Lib.hid hm
  have HIN := Lib.hid hin
  clear h hm hin
  have g1 := World.grownBy_alloc w (.cells #[.slice none 0 0, .slice none 0 0] 25) none
  have g2 := World.grownBy_alloc (w.alloc (.cells #[.slice none 0 0, .slice none 0 0] 25)) (.cells #[.slice none 0 0, .slice none 0 0] 25) none
  have g3 := World.grownBy_alloc ((w.alloc (.cells #[.slice none 0 0, .slice none 0 0] 25)).alloc (.cells #[.slice none 0 0, .slice none 0 0] 25)) (.cells (madeCells #[.int .i64 0] n) 3) none
  have HB0 := Lib.hid (((BoxO.new w (.slice none 0 0) (.slice none 0 0)).calm g2).calm g3)
  have hb1 := (BoxO.new (w.alloc (.cells #[.slice none 0 0, .slice none 0 0] 25)) (.slice none 0 0) (.slice none 0 0)).calm g3
  have hr := rowZ_made ((w.alloc (.cells #[.slice none 0 0, .slice none 0 0] 25)).alloc (.cells #[.slice none 0 0, .slice none 0 0] 25)) n
  have HS0 : Hid (BS w ((((w.alloc (.cells #[.slice none 0 0, .slice none 0 0] 25)).alloc (.cells #[.slice none 0 0, .slice none 0 0] 25)).alloc (.cells (madeCells #[.int .i64 0] n) 3))) (w.heap.size + 1) (w.heap.size + 1 + 1) (w.heap.size + 1 + 1 + 1) (.slice none 0 0) (.slice none 0 0) 0 0 [] [] (stZ Ns n 0)) := Lib.hid (by
    rw [World.size_alloc] at hb1
    rw [World.size_alloc, World.size_alloc] at hr
    rw [stZ_zero]
    exact ⟨grownBy_trans g1 (grownBy_trans g2 g3), hb1, World.ownsRow_nil _ _ _ _, World.ownsRow_nil _ _ _ _, hr, by omega, by omega, by omega, by omega, by omega, by simp⟩)
  clear g1 g2 g3 hb1 hr
  go_enter Tryd.func24, Tryd.ntmps24
  go_wp2
  generalize hgg : w.heap.size = g at *
  have HGG := Lib.hid hgg
  clear hgg
  go_loopw [16] (fun i wr => ∃ (k : Nat) (pl : Option Addr) (cl : Nat) (pq : Option Addr) (cq mm : Nat), k ≤ n ∧ i = .int .i64 k ∧ BoxO wr g (.slice none 0 0) (.slice none 0 0) ∧ Hid (mm = (prsK Ns k).length) ∧ BS w wr (g + 1) (g + 1 + 1) (g + 1 + 1 + 1) (.slice pl (stK Ns k) cl) (.slice pq mm cq) (stK Ns k) mm (labsK Ns k) (prsK Ns k) (stZ Ns n k)) (fun i _ => n - (intOf i).toNat)
  case atStart => exact ⟨0, none, 0, none, 0, 0, Nat.zero_le _, rfl, HB0.out, Lib.hid rfl, HS0.out⟩
  case round =>
    obtain ⟨k, pl, cl, pq, cq, mm, hk, rfl, hb0, HMM, hbs⟩ := hrel
    by_cases hkn : k < n
    · have k0 : (0 : Int) ≤ k := by omega
      have k1 : (k : Int) < n := by omega
      obtain ⟨b, off, rfl, q1, q2, q3, hc⟩ := H.out.cell (by omega)
      obtain ⟨pl', nl', cl', pq', nq', cq', c0, c1, ho, _, hcl, hcq⟩ := hc k hkn
      have c0' := cell_calm hbs.gr c0 (by omega)
      have c1' := cell_calm hbs.gr c1 (by omega)
      have hll := ho.ls.len
      have hlp := ho.ps.len
      have hfit := stK_fit Ns hkn
      have hm2 := HM.out k hkn
      have hmk2 := prsK_len (Ns := Ns) (n := k) (fun j hj => HM.out j (by omega))
      have HIK := Lib.hid (HIN.out k hkn)
      rw [hll] at hfit HIK
      rw [hlp] at hm2
      rw [← HMM.out] at hmk2
      have HSK : Hid (stK Ns (k + 1) = stK Ns k + nl') := Lib.hid (by rw [stK, hll])
      have HLK : Hid (labsK Ns (k + 1) = labsK Ns k ++ (ndA Ns k).1) := Lib.hid rfl
      have HPK : Hid (prsK Ns (k + 1) = prsK Ns k ++ shP (stK Ns k) (ndA Ns k).2) := Lib.hid rfl
      have HZK := Lib.hid (stZ_succ (Ns := Ns) hkn)
      have HZL := Lib.hid (stZ_len (Ns := Ns) hk)
      have HPL := Lib.hid hlp
      obtain ⟨⟨L', P'⟩, hx⟩ : ∃ x, x = ndA Ns k := ⟨_, rfl⟩
      rw [← hx] at ho HIK HLK HPK HPL hll
      clear hx
      simp only at ho HIK HLK HPK HPL hll
      have hga := World.grownBy_alloc wr (.cells #[.slice pl' nl' cl', .slice pq' nq' cq'] 25) none
      have hbx := BoxO.new wr (.slice pl' nl' cl') (.slice pq' nq' cq')
      have hbs1 := hbs.calm hga
      have x0 := hbs1.box.c0
      have zc := hbs1.rs.cell (k := k) (by rw [HZL.out]; exact hkn)
      have zf := hbs1.rs.free k
      have hbs2 := hbs1.start k (stK Ns k : Int)
      have x0' := hbs2.box.c0
      have hgs := grownBy_setCell (wr.alloc (.cells #[.slice pl' nl' cl', .slice pq' nq' cq'] 25)) ⟨g + 1 + 1, k, none⟩ (.int .i64 (stK Ns k : Int))
      obtain ⟨lt1, lt2, lt3, lt4, lt5, lt6⟩ := hbs.lt
      have hbx2 := hbx.other hgs (by intro e; have e2 : wr.heap.size = g + 1 + 1 := Option.some.inj e; omega)
      have hb01 := (hb0.calm hga).other hgs (by intro e; have e2 : g = g + 1 + 1 := Option.some.inj e; omega)
      have y0 := hbx2.c0
      have HBX := Lib.hid hbx2
      have HB01 := Lib.hid hb01
      have HBS2 := Lib.hid hbs2
      have HSR := Lib.hid (src_strs (c := cl') (ho.ls.calm hbs2.gr) hcl)
      have HSN : Hid ((scells L').length = nl' * 1) := Lib.hid (by rw [scells_len, hll]; omega)
      have HOP := Lib.hid ho.ps
      have hfree := hbs2.box.free 0
      clear hc c0 c1 ho hcl hcq hga hbx hbs1 hbs2 hgs hbx2 hb01 hbs hb0 hll hlp
      generalize stK Ns k = s at *
      generalize hzz : (stZ Ns n k)[k]?.getD 0 = zz at *
      clear hzz
      go_wp2_with (at_builtin; refine wpList_append_src rfl _ _ 22 rfl (g + 1 + 1 + 1) 9 i0 (.string .empty) 1 16 Tryd.underlying22 hi0 hz0 hz1 hz2 rfl (by decide) (.slice pl s cl) s (scells (labsK Ns k)) rfl HBS2.out.rl pl' nl' cl' (scells L') rfl HSN.out HSR.out (scells_one _) (by unfold maxLen; omega) (by omega) HBS2.out.lt.2.2.2.2.2 ?_; intro p3 c3 w3 hown hgrow; rw [← scells_app] at hown; obtain ⟨hb3, hbs3⟩ := HBS2.out.lab hown hgrow; have f3 := hb3.free 0; have b3 := hb3.c0; have hbx3 := HBX.out.other hgrow (ne_own HBS2.out.rl HBX.out (by decide)); have hb03 := HB01.out.other hgrow (ne_own HBS2.out.rl HB01.out (by decide)); have hq3 := grownBy_setCell w3 ⟨g + 1, 0, none⟩ (.slice p3 (s + nl') c3); have y1 := (hbx3.other hq3 (by intro e; have e2 := Option.some.inj e; have e3 : _ = g + 1 := e2; omega)).c1; have HB04 := Lib.hid (hb03.other hq3 (by intro e; have e2 : g = g + 1 := Option.some.inj e; omega)); have HBS4 := Lib.hid hbs3; clear hown hgrow hb3 hbx3 hb03 hq3 hbs3)
      generalize w3.setCell ⟨g + 1, 0, none⟩ (.slice p3 (s + nl') c3) = w4 at *
      clear x0 x0' y0 zc zf hfree c0' c1' f3 b3
      go_wp2
      go_loopw [37] (fun i wr => ∃ (j : Nat) (p5 : Option Addr) (c5 : Nat), j ≤ nq' ∧ i = .int .i64 j ∧ BoxO wr g (.slice none 0 0) (.slice none 0 0) ∧ BS w wr (g + 1) (g + 1 + 1) (g + 1 + 1 + 1) (.slice p3 (s + nl') c3) (.slice p5 (mm + j) c5) (s + nl') (mm + j) (labsK Ns k ++ L') (prsK Ns k ++ shP s (P'.take j)) ((stZ Ns n k).set k (s : Int))) (fun i _ => nq' - (intOf i).toNat)
      case atStart => exact ⟨0, pq, cq, Nat.zero_le _, rfl, HB04.out, by simpa [shP] using HBS4.out⟩
      case round =>
        obtain ⟨j, p5, c5, hj, rfl, hb5, hbs5⟩ := hrel
        generalize wr = wx at *
        have HB5 := Lib.hid hb5
        have HBS5 := Lib.hid hbs5
        obtain ⟨ht1, ht2, ht3, ht4, ht5, ht6⟩ := hbs5.lt
        by_cases hjm : j < nq'
        · have j0 : (0 : Int) ≤ j := by omega
          have j1 : (j : Int) < nq' := by omega
          obtain ⟨bp, op, rfl, r1, r2, r3, hcp⟩ := (HOP.out.calm hbs5.gr).cell (by omega)
          obtain ⟨u0, u1⟩ := hcp j hjm
          have HI := Lib.hid (inI_of_all (k := j) HIK.out (by rw [HPL.out]; exact hjm))
          have HST := Lib.hid (shP_take (n := s) (P := P') (k := j) (by rw [HPL.out]; exact hjm))
          clear hcp hb5 hbs5
          obtain ⟨x, hx⟩ : ∃ x, x = P'[j]?.getD (0, 0) := ⟨_, rfl⟩
          rw [← hx] at u0 u1 HI HST
          clear hx
          obtain ⟨xa, xb⟩ := x
          obtain ⟨a0, a1, a2, a3⟩ : 0 ≤ xa ∧ xa < nl' ∧ 0 ≤ xb ∧ xb < nl' := by have := HI.out; unfold inI at this; simp only at this; omega
          simp only at u0 u1
          have hgA := World.grownBy_alloc wx (.cells #[.int .i64 xa, .int .i64 xb] 74) none
          have hgB := World.grownBy_alloc (wx.alloc (.cells #[.int .i64 xa, .int .i64 xb] 74)) (.cells #[.int .i64 ((s : Int) + xa), .int .i64 ((s : Int) + xb)] 74) none
          have HGAB := Lib.hid (grownBy_trans hgA hgB)
          have HBS6 := Lib.hid (HBS5.out.calm HGAB.out)
          have bx1 := (HBS5.out.calm hgA).box.c1
          have HNW := Lib.hid (cell_two_new (wx.alloc (.cells #[.int .i64 xa, .int .i64 xb] 74)) (.int .i64 ((s : Int) + xa)) (.int .i64 ((s : Int) + xb)) 74)
          clear hgA hgB
          go_wp2_with (at_builtin; refine wpList_append_own _ rfl _ _ 23 rfl (g + 1 + 1 + 1) 74 j0' (.agg #[.int .i64 0, .int .i64 0]) 2 16 Tryd.underlying23 hj0 hy0 hy1 hy2 rfl (by decide) (.slice p5 (mm + j) c5) (mm + j) _ rfl HBS6.out.rp ⟨wx.heap.size + 1, 0, none⟩ 1 1 [.int .i64 ((s : Int) + xa), .int .i64 ((s : Int) + xb)] rfl rfl (by simpa using HNW.out) (by simp [Value.oneCell']) (by unfold maxLen; omega) (by omega) (by simp only [World.size_alloc]; omega) ?_; intro v' w2 hown' hgrow _; obtain ⟨p6, c6, rfl⟩ := ownsRow_sl hown'; have hown2 : w2.ownsRow (g + 1 + 1 + 1) 74 2 (.slice p6 (mm + j + 1) c6) (mm + j + 1) (pcells ((prsK Ns k ++ shP s (P'.take j)) ++ [((s : Int) + xa, (s : Int) + xb)])) := by { rw [pcells_snoc]; exact hown' }; obtain ⟨hb7, hbs7⟩ := HBS6.out.prs hown2 hgrow; have xf := hb7.free 1; have xc := hb7.c1; have hb8 := (HB5.out.calm HGAB.out).other hgrow (ne_own HBS6.out.rp (HB5.out.calm HGAB.out) (by decide)); have HB8 := Lib.hid (hb8.other (grownBy_setCell w2 ⟨g + 1, 1, none⟩ (.slice p6 (mm + j + 1) c6)) (by intro e; have e2 : g = g + 1 := Option.some.inj e; omega)); have HBS7 := Lib.hid hbs7; clear hown' hown2 hgrow hb7 hbs7 hb8)
          refine ⟨⟨j + 1, p6, c6, by omega, by go_num, HB8.out, ?_⟩, by simp [intOf]; omega⟩
          rw [HST.out, ← List.append_assoc]
          exact HBS7.out
        · obtain rfl : j = nq' := by omega
          have j1 : ¬ ((j : Int) < j) := by omega
          have hPj : P'.take j = P' := List.take_of_length_le (by rw [HPL.out]; exact Nat.le_refl _)
          rw [hPj, ← HPK.out, ← HLK.out, HZK.out] at HBS5
          have HMM2 : Hid (mm + j = (prsK Ns (k + 1)).length) := Lib.hid (by rw [HPK.out, List.length_append, shP_len, HPL.out, HMM.out])
          clear hPj hb5 hbs5
          go_wp2
          refine ⟨⟨k + 1, p3, c3, p5, c5, mm + j, by omega, by go_num, HB5.out, HMM2, ?_⟩, by simp [intOf]; omega⟩
          rw [HSK.out]
          exact HBS5.out
    · obtain rfl : k = n := by omega
      have k1 : ¬ ((k : Int) < k) := by omega
      have x0 := hbs.box.c0
      have x1 := hbs.box.c1
      have b0 := hb0.c0
      have b1 := hb0.c1
      have f0 := hb0.free 0
      have f1 := hb0.free 1
      have HB0' := Lib.hid hb0
      have HBS := Lib.hid hbs
      have hsz := hbs.gr.size
      have HFIN : Hid (∀ W8, W8 = ((wr.setCell ⟨g, 0, none⟩ (.slice pl (stK Ns k) cl)).setCell ⟨g, 1, none⟩ (.slice pq mm cq)) →
          BoxO W8 g (.slice pl (stK Ns k) cl) (.slice pq mm cq) ∧ OwnObj W8 g (.slice pl (stK Ns k) cl) (.slice pq mm cq) (labsK Ns k) (prsK Ns k) ∧ RowZ W8 (g + 1 + 1) (stZ Ns k k) ∧ w.grownBy W8 none) := Lib.hid (by
        rintro W8 rfl
        have q1 := grownBy_setCell wr ⟨g, 0, none⟩ (.slice pl (stK Ns k) cl)
        have q2 := grownBy_setCell (wr.setCell ⟨g, 0, none⟩ (.slice pl (stK Ns k) cl)) ⟨g, 1, none⟩ (.slice pq mm cq)
        have hl := ownsRow_set (ownsRow_set HBS.out.rl (p := ⟨g, 0, none⟩) (by show g < _; omega) (.slice pl (stK Ns k) cl)) (p := ⟨g, 1, none⟩) (by show g < _; omega) (.slice pq mm cq)
        have hp := ownsRow_set (ownsRow_set HBS.out.rp (p := ⟨g, 0, none⟩) (by show g < _; omega) (.slice pl (stK Ns k) cl)) (p := ⟨g, 1, none⟩) (by show g < _; omega) (.slice pq mm cq)
        refine ⟨(HB0'.out.set0 _).set1 _, ⟨?_, ?_⟩, (HBS.out.rs.other q1 (by show g ≠ g + 1 + 1; omega)).other q2 (by show g ≠ g + 1 + 1; omega), grownBy_setCell_new _ (grownBy_setCell_new _ HBS.out.gr (by show _ ≤ g; rw [HGG.out]; exact Nat.le_refl _)) (by show _ ≤ g; rw [HGG.out]; exact Nat.le_refl _)⟩
        · rw [labsK_len]
          exact ownsRow_down hl (by omega)
        · rw [← HMM.out]
          exact ownsRow_down hp (by omega))
      clear hb0 hbs
      go_wp2
      obtain ⟨z1, z2, z3, z4⟩ := HFIN.out _ rfl
      generalize ((wr.setCell ⟨g, 0, none⟩ (.slice pl (stK Ns k) cl)).setCell ⟨g, 1, none⟩ (.slice pq mm cq)) = W8 at *
      have y0 := z1.c0
      have y1 := z1.c1
      refine bodyPost_ret (v := .tuple #[.agg #[.slice pl (stK Ns k) cl, .slice pq mm cq], .slice (some ⟨g + 1 + 1, 0, none⟩) k k]) (by simp [results, Tryd.results24, go_sem, y0, y1]) rfl ⟨_, _, _, rfl, ?_, ?_, z3, z4⟩
      · rw [HGG.out]
        exact z2
      · rw [HGG.out]
        omega

end Go.Proofs.YtemnbkenihldgaaDoor
