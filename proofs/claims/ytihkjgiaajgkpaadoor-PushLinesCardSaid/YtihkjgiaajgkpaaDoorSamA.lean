/- centolaw7: inverse of an identity, behind; what Push answers over all of one, over nothing. -/
import Derived.Test.YtihkjgiaajgkpaaDoorSamP
import Derived.Test.YtihkjgiaajgkpaaDoorEquals7
namespace Go.Proofs.YtihkjgiaajgkpaaDoor
open Go.RowKit

set_option maxRecDepth 20000 in
set_option maxHeartbeats 1000000 in
theorem invId_c (p : Option Addr) (n c lo hi : Nat) (w : World) (h : ZsAt w lo hi p n (idL n)) (hn : n ≤ 40) :
    Calls Tryd.prog 25 #[.slice p n c] w (RowPost (idL n) w) := by
  have hmk := run_make_row' (P := Tryd.prog) 26 3 (.int .i64 0) 8 Tryd.underlying26 Tryd.infoZ3 rfl .i64 .i64 n (by omega) (by omega)
  have HR0 := Lib.hid (show RowZ (w.alloc (.cells (madeCells #[.int .i64 0] n) 3)) w.heap.size (idK n 0) by
    have := rowZ_made w n
    simpa [idK, idL] using this)
  have HG0 := Lib.hid (World.grownBy_alloc w (.cells (madeCells #[.int .i64 0] n) 3) none)
  have H := Lib.hid h
  clear h
  go_enter Tryd.func25, Tryd.ntmps25
  go_wp2
  generalize hgb : w.heap.size = gb at *
  have HGB := Lib.hid hgb
  clear hgb
  go_loopw [4] (fun i wr => ∃ k : Nat, k ≤ n ∧ i = .int .i64 k ∧ RowZ wr gb (idK n k) ∧ w.grownBy wr none) (fun i _ => n - (intOf i).toNat)
  case atStart => exact ⟨0, Nat.zero_le _, rfl, HR0.out, HG0.out⟩
  case round =>
    obtain ⟨k, hk, rfl, hrow, hgr⟩ := hrel
    by_cases hkn : k < n
    · have k0 : (0 : Int) ≤ k := by omega
      have k1 : (k : Int) < n := by omega
      have hc := hrow.cell (k := k) (by rw [idK_len hk]; exact hkn)
      have hfz := hrow.free k
      obtain ⟨bf, of', rfl, f1, f2, f3, hcf⟩ := (H.out.calm hgr).cell (by omega)
      have cf := hcf k hkn
      rw [idL_at hkn] at cf
      have HR2 := Lib.hid (show RowZ (wr.setCell ⟨gb, k, none⟩ (.int .i64 k)) gb (idK n (k + 1)) by rw [← idK_succ hkn]; exact hrow.set _)
      have HG2 := Lib.hid (grownBy_setCell_new (p := ⟨gb, k, none⟩) (.int .i64 (k : Int)) hgr (by rw [HGB.out]; exact Nat.le_refl _))
      generalize (idK n k)[k]?.getD 0 = z at *
      clear hrow hgr hcf
      go_wp2
      exact ⟨⟨k + 1, by omega, by go_num, HR2.out, HG2.out⟩, by simp [intOf]; omega⟩
    · obtain rfl : k = n := by omega
      have k1 : ¬ ((k : Int) < k) := by omega
      have HR2 := Lib.hid hrow
      have HG2 := Lib.hid hgr
      clear hrow hgr
      go_wp2
      go_ret
      rw [idK_end] at HR2
      exact ⟨gb, by rw [idL_len]; rfl, by rw [HGB.out]; exact Nat.le_refl _, HR2.out, HG2.out⟩

set_option maxRecDepth 20000 in
set_option maxHeartbeats 1000000 in
theorem behind7_c (p q : Option Addr) (n c m d lo hi lo' hi' : Nat) (f g : List Int) (w : World) (hf : ZsAt w lo hi p n f) (hg : ZsAt w lo' hi' q m g) (hn : n ≤ 1000000) (hb : thenB f g.length = true) :
    Calls Tryd.prog 26 #[.slice p n c, .slice q m d] w (RowPost (thenL f g) w) := by
  have HB := Lib.hid hb
  have HL := Lib.hid hf.len
  have HF := Lib.hid hf
  have HG := Lib.hid hg
  clear hb hf hg
  go_enter Tryd.func26, Tryd.ntmps26
  go_wp2_with fail
  refine (then_c p q n c m d _ _ _ _ f g _ HF.out HG.out hn).mono ?_
  rintro e w7 ⟨hg7, ⟨h1, gx, rfl, hgx, hrx⟩ | ⟨h1, rfl⟩⟩
  · have HRX := Lib.hid hrx
    have HG7 := Lib.hid hg7
    clear hrx hg7 h1
    go_wp2
    go_ret
    exact ⟨gx, by rw [thenL_len, HL.out]; rfl, hgx, HRX.out, HG7.out⟩
  · exact absurd h1 (by rw [HB.out]; decide)

/-- Over all of a: the other one as it is. -/
theorem samePush (p q p' q' pf pg : Option Addr) (n c m d n' c' m' d' nf cf cg : Nat) (lo hi lo' hi' lof hif log hig : Nat) (L L' : List ByteArray) (P P' : List (Int × Int)) (f : List Int) (w : World) (h : ObjAt w lo hi p n q m L P) (h' : ObjAt w lo' hi' p' n' q' m' L' P') (hf : ZsAt w lof hif pf nf f) (hg : ZsAt w log hig pg n (idL n)) (hm : m ≤ 400000) (hm' : m' ≤ 400000) (hl : n + n' ≤ 40) (ha : arB L P L' P' f = true) (ht : Tab w) (hp0 : p = none → c = 0) (hp0' : p' = none → c' = 0) (hq0' : q' = none → d' = 0) :
    Calls Tryd.prog 12 #[.agg #[.slice p n c, .slice q m d], .agg #[.slice p' n' c', .slice q' m' d'], .agg #[.slice p n c, .slice q m d], .slice pf nf cf, .slice pg n cg] w (Res4 L' P' (idL n') f 0 w) := by
  have hn : L.length = n := h.ls.len
  have hn' : L'.length = n' := h'.ls.len
  have hid : arB L P L P (idL n) = true := by rw [← hn]; exact arB_id (arB_chk ha).1
  obtain rfl : nf = n := by have := (arB_hasZ ha).1; have := hf.len; omega
  obtain ⟨e1, e2, e3, e4⟩ := over_all hn' hn ha
  have := push_ok p q p' q' p q pf pg nf c m d n' c' m' d' nf c m d nf cf cg lo hi lo' hi' lo hi lof hif log hig L L' L P P' P f (idL nf) w h h' h hf hg hm hm' hm (by omega) (by omega) (by omega) ha hid ht hp0' hp0 hq0'
  rw [e1, e2, e3, e4] at this
  exact this
/-- Over nothing: the sum. -/
theorem emptyPush (p q p' q' : Option Addr) (n c m d n' c' m' d' : Nat) (lo hi lo' hi' : Nat) (L L' : List ByteArray) (P P' : List (Int × Int)) (w : World) (h : ObjAt w lo hi p n q m L P) (h' : ObjAt w lo' hi' p' n' q' m' L' P') (hm : m ≤ 400000) (hm' : m' ≤ 400000) (hl : n + n' ≤ 40) (hc : chk L P = 0) (hc' : chk L' P' = 0) (ht : Tab w) (hp0 : p = none → c = 0) (hp0' : p' = none → c' = 0) (hq0 : q = none → d = 0) :
    Calls Tryd.prog 12 #[.agg #[.slice none 0 0, .slice none 0 0], .agg #[.slice p n c, .slice q m d], .agg #[.slice p' n' c', .slice q' m' d'], .slice none 0 0, .slice none 0 0] w (Res4 (L ++ L') (P ++ shP n P') (idL n) (shL n (idL n')) 0 w) := by
  have hn : L.length = n := h.ls.len
  have hn' : L'.length = n' := h'.ls.len
  have := push_ok none none p q p' q' none none 0 0 0 0 n c m d n' c' m' d' 0 0 0 0 0 lo hi lo' hi' 0 0 0 0 [] L L' [] P P' [] [] w ⟨strsAt_nil _ _ _, pairsAt_nil _ _ _⟩ h h' (zsAt_nil _ _ _) (zsAt_nil _ _ _) (by omega) hm hm' (by omega) (by omega) hl (arB_nil hc) (arB_nil hc') ht hp0 hp0' hq0
  have hs : (shL n []) = [] := rfl
  have hla : (L ++ L').length = n + n' := by rw [List.length_append, hn, hn']
  have hch : chk (L ++ L') (P ++ shP n P') = 0 := by rw [← hn]; exact chk_beside hc hc' (by omega)
  rw [hs, joinsL_nil, ← hla, labG_range, gluP_range hch, atZ_range, hla, idL_take, idL_drop] at this
  exact this

/-- What is handed back, its lengths named. -/
def ResN (na nb ni nj : Nat) (A : List ByteArray) (B : List (Int × Int)) (I J : List Int) (r : Int) (w : World) (e : Ending) (w' : World) : Prop :=
  ∃ p c q d pi ci pj cj lo hi, e = .returned (.tuple #[.agg #[.slice p na c, .slice q nb d], .slice pi ni ci, .slice pj nj cj, .int .i64 r]) ∧ w.heap.size ≤ lo ∧
    ObjAt w' lo hi p na q nb A B ∧ ZsAt w' lo hi pi ni I ∧ ZsAt w' lo hi pj nj J ∧ w.grownBy w' none
theorem resN_of {na nb ni nj : Nat} {A : List ByteArray} {B : List (Int × Int)} {I J : List Int} {r : Int} {w w' : World} {e : Ending} (h : Res4 A B I J r w e w') (h1 : A.length = na) (h2 : B.length = nb) (h3 : I.length = ni) (h4 : J.length = nj) : ResN na nb ni nj A B I J r w e w' := by
  subst h1 h2 h3 h4
  obtain ⟨p, c, q, d, pi, ci, pj, cj, rfl, a, b, c9, _, _, g⟩ := h
  exact ⟨p, c, q, d, pi, ci, pj, cj, _, _, rfl, Nat.le_refl _, a, b, c9, g⟩
def RowN (n : Nat) (l : List Int) (w : World) (e : Ending) (w' : World) : Prop := ∃ b, e = .returned (.slice (some ⟨b, 0, none⟩) n n) ∧ ZsAt w' b (b + 1) (some ⟨b, 0, none⟩) n l ∧ w.grownBy w' none
theorem rowN_of {n : Nat} {l : List Int} {w w' : World} {e : Ending} (h : RowPost l w e w') (hl : l.length = n) : RowN n l w e w' := by
  subst hl
  obtain ⟨b, rfl, _, hr, hg⟩ := h
  exact ⟨b, rfl, hr.at1, hg⟩

/-- What lies while PushSame's first call is made ready. -/
structure SE (Wx W : World) (D R : Option Nat) (n : Nat) : Prop where
  gr : Wx.grownBy W none
  bx : ∀ g, D = some g → Wx.heap.size ≤ g ∧ BoxO W g (.slice none 0 0) (.slice none 0 0)
  zr : ∀ g, R = some g → RowZ W g (idL n)
theorem SE.start (Wx : World) (n : Nat) : SE Wx Wx.drew none none n := by
  refine ⟨grownBy_drewN Wx 1 none, ?_, ?_⟩
  · intro _ e
    cases e
  · intro _ e
    cases e
theorem SE.calm {Wx W W' : World} {D R : Option Nat} {n : Nat} (h : SE Wx W D R n) (hg : W.grownBy W' none) : SE Wx W' D R n :=
  ⟨grownBy_trans h.gr hg, fun g e => ⟨(h.bx g e).1, (h.bx g e).2.calm hg⟩, fun g e => (h.zr g e).calm hg⟩
theorem SE.alloc {Wx W : World} {R : Option Nat} {n : Nat} (h : SE Wx W none R n) : SE Wx (W.alloc (.cells #[.slice none 0 0, .slice none 0 0] 25)) (some W.heap.size) R n := by
  have h1 := h.calm (World.grownBy_alloc W (.cells #[.slice none 0 0, .slice none 0 0] 25) none)
  exact ⟨h1.gr, fun g e => by cases e; exact ⟨h.gr.size, BoxO.new W _ _⟩, h1.zr⟩
theorem SE.start2 (Wx : World) (n : Nat) : SE Wx (Wx.alloc (.cells #[.slice none 0 0, .slice none 0 0] 25)).drew (some Wx.heap.size) none n := (SE.start Wx n).alloc
theorem SE.ident {Wx W : World} {D : Option Nat} {n : Nat} (h : SE Wx W D none n) (hid : idN n = n) : Calls Tryd.prog 23 #[.int .i64 n] W fun e w' => ∃ gB, e = .returned (.slice (some ⟨gB, 0, none⟩) n n) ∧ SE Wx w' D (some gB) n := by
  refine (ident_c (n : Int) n W hid).mono ?_
  rintro e w' ⟨gB, rfl, _, hr, hg⟩
  rw [idL_len]
  have h1 := h.calm hg
  exact ⟨gB, rfl, h1.gr, h1.bx, fun g e => by cases e; exact hr⟩
/-- What lies behind it. -/
def SD (Wx W : World) (g7 : Nat) (p5 : Option Addr) (c5 : Nat) (q5 : Option Addr) (d5 : Nat) (pi : Option Addr) (pj : Option Addr) (na nb ni nj : Nat) (A : List ByteArray) (B : List (Int × Int)) (I J : List Int) : Prop :=
  Wx.grownBy W none ∧ BoxO W g7 (.slice p5 na c5) (.slice q5 nb d5) ∧ ∃ lo hi, ObjAt W lo hi p5 na q5 nb A B ∧ ZsAt W lo hi pi ni I ∧ ZsAt W lo hi pj nj J
theorem SE.last {Wx W : World} {R : Option Nat} {n lo hi na nb ni nj c5 d5 : Nat} {p5 q5 pi pj : Option Addr} {A : List ByteArray} {B : List (Int × Int)} {I J : List Int} (h : SE Wx W none R n) (h1 : ObjAt W lo hi p5 na q5 nb A B) (h2 : ZsAt W lo hi pi ni I) (h3 : ZsAt W lo hi pj nj J) :
    SD Wx (W.alloc (.cells #[.slice p5 na c5, .slice q5 nb d5] 25)) W.heap.size p5 c5 q5 d5 pi pj na nb ni nj A B I J := by
  have hg := World.grownBy_alloc W (.cells #[.slice p5 na c5, .slice q5 nb d5] 25) none
  exact ⟨grownBy_trans h.gr hg, BoxO.new W _ _, lo, hi, h1.calm hg, h2.calm hg, h3.calm hg⟩
theorem SE.set {Wx W : World} {R : Option Nat} {g n lo hi na nb ni nj c5 d5 : Nat} {p5 q5 pi pj : Option Addr} {A : List ByteArray} {B : List (Int × Int)} {I J : List Int} (h : SE Wx W (some g) R n) (hl : g < lo) (h1 : ObjAt W lo hi p5 na q5 nb A B) (h2 : ZsAt W lo hi pi ni I) (h3 : ZsAt W lo hi pj nj J) :
    SD Wx ((W.setCell ⟨g, 0, none⟩ (.slice p5 na c5)).setCell ⟨g, 1, none⟩ (.slice q5 nb d5)) g p5 c5 q5 d5 pi pj na nb ni nj A B I J := by
  obtain ⟨hx, hb⟩ := h.bx g rfl
  have k1 := Kept.row (grownBy_setCell W ⟨g, 0, none⟩ (.slice p5 na c5)) (Nat.le_refl _) (Nat.lt_succ_self _)
  have k2 := Kept.row (grownBy_setCell (W.setCell ⟨g, 0, none⟩ (.slice p5 na c5)) ⟨g, 1, none⟩ (.slice q5 nb d5)) (Nat.le_refl _) (Nat.lt_succ_self _)
  exact ⟨grownBy_setCell_new _ (grownBy_setCell_new _ h.gr hx) hx, (hb.set0 _).set1 _, lo, hi, (h1.set (a := ⟨g, 0, none⟩) hl _).set (a := ⟨g, 1, none⟩) hl _, (h2.apart k1 (.inr hl)).apart k2 (.inr hl), (h3.apart k1 (.inr hl)).apart k2 (.inr hl)⟩

end Go.Proofs.YtihkjgiaajgkpaaDoor
