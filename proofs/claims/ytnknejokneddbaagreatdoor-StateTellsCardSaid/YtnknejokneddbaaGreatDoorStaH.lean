/- Package state: relate. -/
import Derived.Test.YtnknejokneddbaaGreatDoorStaK
import Derived.Test.YtnknejokneddbaaGreatDoorStaX
namespace Go.Proofs.YtnknejokneddbaaGreatDoor
set_option maxRecDepth 100000
set_option maxHeartbeats 16000000
open Go.RowKit Go.Shelf Go.Maps
attribute [local go_sem] Oper.semAt_some
structure ReI (w W0 : World) (base rlo rhi rp nl : Nat) (vl : Value) (ls : List Lne) (E : List Ed) (K : List Ln) (W : World) : Prop where
 rel : IsRel W rlo rhi rp nl (relE ls E)
 row : W.ownsRow base 62 4 vl nl (lncells (markK ls K))
 fx : ∀ k, k < W0.heap.size -> ¬ (rlo <= k /\ k < rhi) -> some k ≠ vl.ownBlock -> W.heap[k]? = W0.heap[k]?
 sz : W0.heap.size <= W.heap.size
 os : W.os = W0.os
 tape : W.tape = W0.tape
 output : W.output = W0.output
theorem ReI.kept {w W0 A C : World} {base rlo rhi rp nl : Nat} {vl : Value} {ls : List Lne} {E : List Ed} {K : List Ln} (h : ReI w W0 base rlo rhi rp nl vl ls E K A) (hr : rhi <= W0.heap.size) (hv : ∀ g, vl.ownBlock = some g -> g < W0.heap.size) (hg : Below W0.heap.size A C) : ReI w W0 base rlo rhi rp nl vl ls E K C := by
 refine ⟨h.rel.kept hg.size fun i _ h2 => hg.block i (by omega), ⟨h.row.1, ?_⟩, fun k h1 h2 h3 => (hg.block k h1).trans (h.fx k h1 h2 h3), Zn h.sz hg.size, hg.os.trans h.os, hg.tape.trans h.tape, hg.output.trans h.output⟩
 rcases h.row.2 with e | ⟨g, cap, cur, e, x1, x2, x3⟩
 ·exact .inl e
 ·exact .inr ⟨g, cap, cur, e, x1, (hg.block g (hv g (by rw [e]; rfl))).trans x2, x3⟩
structure Mv (n₀ m₀ Bp : Nat) (W W' : World) : Prop where
 bl : Below n₀ W W'
 up : ∀ k o, m₀ <= k -> W.heap[k]? = some o -> W'.heap[k]? = some o
 pa : ∀ o, W.heap[Bp]? = some o -> W'.heap[Bp]? = some o
theorem Mv.refl {n₀ m₀ Bp : Nat} (W : World) : Mv n₀ m₀ Bp W W := ⟨Below.refl _ _, fun _ _ _ h => h, fun _ h => h⟩
theorem Mv.trans {n₀ m₀ Bp : Nat} {A B C : World} (h : Mv n₀ m₀ Bp A B) (k : Mv n₀ m₀ Bp B C) : Mv n₀ m₀ Bp A C := ⟨h.bl.trans k.bl, fun i o hi ho => k.up i o hi (h.up i o hi ho), fun o ho => k.pa o (h.pa o ho)⟩
theorem Mv.calm {n₀ m₀ Bp : Nat} {A B : World} (h : A.grownBy B none) (hn : n₀ <= A.heap.size) : Mv n₀ m₀ Bp A B :=
 ⟨(Xo h).mono hn, fun _ _ _ ho => (h.block _ (Zp.1 ho).1 (by simp)).trans ho, fun _ ho => (h.block _ (Zp.1 ho).1 (by simp)).trans ho⟩
theorem Mv.keepH {n₀ m₀ Bp : Nat} {A B : World} (h : Mv n₀ m₀ Bp A B) : KeepH n₀ m₀ Bp A B := ⟨h.bl, fun g cur t hg _ hc => h.up g _ hg hc, h.pa, ⟨h.bl.size, fun k o hk ho _ => h.up k o (by omega) ho⟩⟩
theorem Mv.keeps {n₀ m₀ Bp : Nat} {A B : World} (h : Mv n₀ m₀ Bp A B) : KeepsFrom m₀ A B := ⟨h.bl.size, fun k o hk ho _ => h.up k o hk ho⟩
def edY {w : World} {lo hi : Nat} {l : List Pt} {path : ByteArray} (ys : List (YS w lo hi l path)) : List Ed := (keyL ys).flatMap fun y => hEdges y.2
def kiY {w : World} {lo hi : Nat} {l : List Pt} {path : ByteArray} (ys : List (YS w lo hi l path)) : List Ln := (keyL ys).flatMap fun y => hKills y.2
theorem edY_snoc {w : World} {lo hi : Nat} {l : List Pt} {path : ByteArray} (ys : List (YS w lo hi l path)) (y : YS w lo hi l path) : edY (ys ++ [y]) = edY ys ++ hEdges y.1.2.1 := by simp [edY, keyL_snoc]
theorem kiY_snoc {w : World} {lo hi : Nat} {l : List Pt} {path : ByteArray} (ys : List (YS w lo hi l path)) (y : YS w lo hi l path) : kiY (ys ++ [y]) = kiY ys ++ hKills y.1.2.1 := by simp [kiY, keyL_snoc]
theorem ReI.low {w W0 W : World} {base rlo rhi rp nl : Nat} {vl : Value} {ls : List Lne} {E : List Ed} {K : List Ln} (h : ReI w W0 base rlo rhi rp nl vl ls E K W) (hb : base <= rlo) (hw : base <= W0.heap.size) : Below base W0 W :=
 ⟨h.os, h.tape, h.output, h.sz, fun k hk => h.fx k (by omega) (by omega) fun e => by have := (own_ge h.row e.symm).1; omega⟩
theorem ReI.turn {w W0 A C : World} {base rlo rhi rp nl : Nat} {vl : Value} {ls : List Lne} {E E' : List Ed} {K : List Ln} (h : ReI w W0 base rlo rhi rp nl vl ls E K A) (hk : Kept rlo rhi A C) (hr : IsRel C rlo rhi rp nl (relE ls E')) (hv : ∀ g, vl.ownBlock = some g -> g < rlo) : ReI w W0 base rlo rhi rp nl vl ls E' K C := by
 refine ⟨hr, ⟨h.row.1, ?_⟩, fun k h1 h2 h3 => (hk.block k (Yt h1 h.sz) h2).trans (h.fx k h1 h2 h3), Zn h.sz hk.size, hk.os.trans h.os, hk.tape.trans h.tape, hk.output.trans h.output⟩
 rcases h.row.2 with e | ⟨g, cap, cur, e, x1, x2, x3⟩
 ·exact .inl e
 ·have := hv g (by rw [e]; rfl)
  exact .inr ⟨g, cap, cur, e, x1, (hk.block g (Zp.1 x2).1 (by omega)).trans x2, x3⟩
theorem Mv.turn {n₀ m₀ Bp rlo rhi : Nat} {A C : World} (hk : Kept rlo rhi A C) (hA : n₀ <= A.heap.size) (h1 : n₀ <= rlo) (h2 : rhi <= m₀) (h3 : rhi <= Bp) : Mv n₀ m₀ Bp A C :=
 ⟨⟨hk.os, hk.tape, hk.output, hk.size, fun k hk' => hk.block k (by omega) (by omega)⟩, fun k o hk' ho => (hk.block k (Zp.1 ho).1 (by omega)).trans ho, fun o ho => (hk.block _ (Zp.1 ho).1 (by omega)).trans ho⟩
theorem ReI.mark {w W0 A : World} {base rlo rhi rp nl cl gl i : Nat} {ls : List Lne} {E : List Ed} {K : List Ln} {k : Ln} (h : ReI w W0 base rlo rhi rp nl (.slice (some ⟨gl, 0, none⟩) nl cl) ls E K A) (hs : stL ls) (hat : atL ls k = some i) (hl : ls.length = nl) (hv : gl < rlo) : ReI w W0 base rlo rhi rp nl (.slice (some ⟨gl, 0, none⟩) nl cl) ls E (K ++ [k]) (A.setCell ⟨gl, i * 4 + 3, none⟩ (.bool true)) := by
 have hg := setN A gl (i * 4 + 3) (.bool true)
 have hi := atL_lt hat
 refine ⟨h.rel.kept hg.size fun j h1 _ => Below.heap_setCell _ _ _ _ (by show j ≠ gl; omega), ?_, fun j h1 h2 h3 => (Below.heap_setCell _ _ _ _ (fun e => h3 (by rw [e]; rfl))).trans (h.fx j h1 h2 h3), Zn h.sz hg.size, hg.os.trans h.os, hg.tape.trans h.tape, hg.output.trans h.output⟩
 have hm : i < (markK ls K).length := by rw [markK_len]; exact hi
 have e : lncells (markK ls (K ++ [k])) = (lncells (markK ls K)).set (i * 4 + 3) (.bool true) := by
  have hx : (markK ls K)[i]?.getD lne0 = (nID (ls[i]?.getD lne0), nTxt (ls[i]?.getD lne0), nDead (ls[i]?.getD lne0) || K.any fun k => decide (k = nID (ls[i]?.getD lne0))) := by
   rw [Zm hm, Zm hi]
   exact markK_at ls K hm hi
  rw [markK_yes hs hat, lncells_set _ hm (by rw [hx]) (by rw [hx])]
 rw [e]
 exact ownsRow_at4 h.row (by omega) _
theorem Mv.set {n₀ m₀ Bp gl j : Nat} {A : World} (v : Value) (h1 : n₀ <= gl) (h2 : gl < m₀) (h3 : gl ≠ Bp) : Mv n₀ m₀ Bp A (A.setCell ⟨gl, j, none⟩ v) :=
 ⟨(Below.refl _ A).setCell (p := ⟨gl, j, none⟩) h1 v, fun k o hk ho => (Below.heap_setCell _ _ _ _ (by show k ≠ gl; omega)).trans ho, fun o ho => (Below.heap_setCell _ _ _ _ (by show Bp ≠ gl; omega)).trans ho⟩
structure RelOut (w w' : World) (base gf o nl : Nat) (vl : Value) (ls : List Lne) (ks : List (Ln × Hk)) : Prop where
 row : w'.ownsRow base 62 4 vl nl (lncells (markL ls ks))
 pr : ∃ vp, w'.ownsRow w.heap.size 88 2 vp (pairsL nl (clo nl (relS ls ks)) nl).length (pcells (pairsL nl (clo nl (relS ls ks)) nl)) /\ ∀ cur t, w.heap[gf]? = some (.cells cur t (0, 0)) -> w'.heap[gf]? = some (.cells (cur.setIfInBounds (o + 2) vp) t (0, 0))
 fx : ∀ k, k < w.heap.size -> k ≠ gf -> some k ≠ vl.ownBlock -> w'.heap[k]? = w.heap[k]?
 sz : w.heap.size <= w'.heap.size
 os : w'.os = w.os
 tape : w'.tape = w.tape
 output : w'.output = w.output
theorem relate_in (n : Nat) (hn : 14 <= n) (lo hi : Nat) (p : Option Addr) (len cap : Nat) (xs : List HP) (gf o nl base : Nat) (path : ByteArray) (pl : Option Addr) (cl : Nat) (ls : List Lne) (cur : Array Value) (w : World) (ht : Tab w)
  (h : PsIn w lo hi p len xs) (hok : ∀ x ∈ xs, ∀ h ∈ pHunks x.1, (∀ e ∈ hEdges h, OkK e.1 /\ OkK e.2) /\ ∀ k ∈ hKills h, OkK k)
  (hgf : w.heap[gf]? = some (.cells cur 35 (0, 0))) (f0 : cur[o]? = some (.string path)) (f1 : cur[o + 1]? = some (.slice pl nl cl)) (f2 : o + 2 < cur.size)
  (hrow : w.ownsRow base 62 4 (.slice pl nl cl) nl (lncells ls)) (hst : stL ls) (hlk : ∀ x ∈ ls, OkK (nID x)) (hnl : nl <= 200) (hlen : ls.length = nl) (hb : hi <= base) (hbb : base <= w.heap.size) (htg : 0 < base) :
  CallsIn Fence.wide n Tryz.prog 36 #[.pointer (some ⟨gf, o, none⟩), .slice p len cap] w fun e w' => e = .returned (.tuple #[]) /\ ∃ ks, AllY (xs.map Prod.fst) path ks /\ RelOut w w' base gf o nl (.slice pl nl cl) ls ks := by
 have h1 : 1 <= n := by omega
 have hro : Fence.wide.round = none := rfl
 have H := Za h
 have HOK := Za hok
 have htop := h.top
 have hgl := (Zp.1 hgf).1
 have q0 : w.cell? ⟨gf, o, none⟩ = some (.string path) := by simp [World.cell?, hgf, f0]
 have q1 : w.cell? ⟨gf, o + 1, none⟩ = some (.slice pl nl cl) := by simp [World.cell?, hgf, f1]
 refine callsIn_of_wp_marks Tryz.func36 rfl trivial ?_ hro
 simp only [Tryz.ntmps36, Xg, Zt, Xh, Nat.reduceAdd, Nat.reduceSub, Xl, Xk, Xn, Xm, Ys, Xd]
 have hga := Zd w (.cells #[.pointer (some ⟨gf, o, none⟩)] 76) none
 have q0' := Zh hga q0
 have q1' := Zh hga q1
 have b0 := Boxed.new w 76 (.pointer (some ⟨gf, o, none⟩))
 obtain ⟨pl', cl', el, hlnes, _⟩ := lnesAt_own hlen hrow
 cases el
 have HLN := Za hlnes
 have HLK := Za hlk
 have HST := Za hst
 have HROW := Za hrow
 have HT := Za ht
 have HGF := Za hgf
 clear hlnes hlk hst hrow ht h hok hgf
 gi_wp2_with fail
 refine ⟨trivial, ?_⟩
 refine (callsIn_wide.2 (plcM_c pl nl cl base w.heap.size ls _ (HLN.out.calm hga) (by omega) HLK.out)).mono ?_
 rintro e w1 ⟨bm, rfl, hbm, hpm, hg1⟩
 have HBM : Hid (w.heap.size + 1 <= bm) := Za (by simpa using hbm)
 have hg01 := Zb hga hg1
 have hg1a := Zb hg01 (Zd w1 (.cells #[.map (some bm)] 90) none)
 have b0a := (b0.kept hg1 (by simp)).kept (Zd w1 (.cells #[.map (some bm)] 90) none) (by simp)
 have b4 := Boxed.new w1 90 (.map (some bm))
 have HPM := Za (hpm.calm (Zd w1 (.cells #[.map (some bm)] 90) none))
 have s0 := b0a.cell
 have q1a := Zh hg1a q1
 have hs1 : w.heap.size + 1 <= w1.heap.size := by have := hg1.size; simpa using this
 clear b0 hbm hpm hg1 hg01 q0' q1' hga
 gi_wp2_with fail
 refine ⟨trivial, ?_⟩
 refine (callsIn_wide.2 (relNew_mid nl _ hnl)).mono ?_
 rintro e w2 ⟨rp, rfl, hrel, hg2⟩
 have hg2a := Zb hg2 (Zd w2 (.cells #[.pointer (some ⟨rp, 0, none⟩)] 104) none)
 have b0b := b0a.kept hg2a (by simp)
 have b4b := b4.kept hg2a (by simp)
 have b5 := Boxed.new w2 104 (.pointer (some ⟨rp, 0, none⟩))
 have s0b := b0b.cell
 have q0b := Zh (Zb hg1a hg2a) q0
 have hs2 : w1.heap.size + 1 <= w2.heap.size := by have := hg2.size; simpa using this
 clear s0 q1a
 gi_wp2_with (refine ⟨trivial, ?_⟩; gi_at_call 60; refine (hunks_in (n - 1) _ _ _ _ _).mono ?_; rintro e w9 ⟨rfl, rfl⟩)
 have c1 := Boxed.new (w2.alloc (.cells #[.pointer (some ⟨rp, 0, none⟩)] 104)) 22 (.slice p len cap)
 have c2 := Boxed.new ((w2.alloc (.cells #[.pointer (some ⟨rp, 0, none⟩)] 104)).alloc (.cells #[.slice p len cap] 22)) 9 (.string path)
 rw [Yw] at c1
 rw [Yw, Yw] at c2
 have hg3 := Zb (Zd (w2.alloc (.cells #[.pointer (some ⟨rp, 0, none⟩)] 104)) (.cells #[.slice p len cap] 22) none) (Zd _ (.cells #[.string path] 9) none)
 have hg23 := Zb hg2a hg3
 have HG := Za (Zb hg1a hg23)
 have HC1 := Za (c1.alloc (.cells #[.string path] 9))
 have HC2 := Za c2
 have HB0 := Za (b0b.kept hg3 (by simp))
 have HB4 := Za (b4b.kept hg3 (by simp))
 have HB5 := Za (b5.kept hg3 (by simp))
 have HPL := Za (HPM.out.calm hg23)
 have hrt := hrel.top
 have HREL := Za ((hrel.calm (Zd w2 (.cells #[.pointer (some ⟨rp, 0, none⟩)] 104) none)).calm hg3)
 have HSZ : Hid (w2.heap.size + 1 + 1 + 1 = ((((w2.alloc (.cells #[.pointer (some ⟨rp, 0, none⟩)] 104)).alloc (.cells #[.slice p len cap] 22)).alloc (.cells #[.string path] 9))).heap.size) := Za (by simp)
 have hq : (w1.alloc (.cells #[.map (some bm)] 90)).heap.size = w1.heap.size + 1 := by simp
 rw [hq] at HREL
 have hbmw := HPM.out.lt
 rw [hq] at hbmw
 try rw [Yw]
 clear c1 c2 hg3 hg23 hg2a hg2 hg1a b0b b4b b5 b0a b4 s0b q0b hrel HPM hq
 generalize ((w2.alloc (.cells #[.pointer (some ⟨rp, 0, none⟩)] 104)).alloc (.cells #[.slice p len cap] 22)).alloc (.cells #[.string path] 9) = W0 at *
 generalize w2.heap.size = g2 at *
 generalize w1.heap.size = g1 at *
 have hsz := HSZ.out
 have hpm0 := HPL
 have hown : ∀ g, (Value.slice pl nl cl).ownBlock = some g -> g < W0.heap.size := fun g e => by have := (own_ge HROW.out e).2.1; omega
 have HOWN := Za hown
 have HI0 : Hid (ReI w W0 base (g1 + 1) g2 rp nl (.slice pl nl cl) ls (edY ([] : List (YS w lo hi (xs.map Prod.fst) path))) (kiY ([] : List (YS w lo hi (xs.map Prod.fst) path))) W0) := Za
  ⟨HREL.out, by
   have e : markK ls (kiY ([] : List (YS w lo hi (xs.map Prod.fst) path))) = ls := by
    unfold markK kiY keyL killK
    refine (List.map_congr_left (g := id) fun x _ => ?_).trans (List.map_id _)
    show (nID x, nTxt x, nDead x || false) = x
    rw [Bool.or_false]
   rw [e]
   exact row_kept HROW.out HG.out (fun g _ e => by cases e), fun _ _ _ _ => rfl, Zc _, rfl, rfl, rfl⟩
 have HBW0 : Hid (Below base w W0) := Za ((Xo HG.out).mono hbb)
 have hwW : w.heap.size <= W0.heap.size := HG.out.size
 have HOT : Hid (∀ (m₀ : Nat), m₀ = W0.heap.size -> OwnT m₀ 60 (fun (pre : List (YS w lo hi (xs.map Prod.fst) path)) W => ReI w W0 base (g1 + 1) g2 rp nl (.slice pl nl cl) ls (edY pre) (kiY pre) W)) := Za (by
  rintro m₀ rfl s A C row hs hg hr
  exact hs.kept (by omega) hown ⟨hg.os, hg.tape, hg.output, hg.size, fun k hk => hg.block k (Yt hk hs.sz) fun e => by have := (hr _ e.symm).1; omega⟩)
 refine rangeTurn (α := YS w lo hi (xs.map Prod.fst) path) (encs := fun y => encY y.1) 60 200 hro h1 (gf := 96) (lb := #[.pointer (some ⟨g2 + 1, 0, none⟩), .pointer (some ⟨g2 + 1 + 1, 0, none⟩)]) rfl trivial (enters_of Tryz.func96 (by kernel_rfl) rfl) (fun _ => rfl)
  (fun pre W => ReI w W0 base (g1 + 1) g2 rp nl (.slice pl nl cl) ls (edY pre) (kiY pre) W)
  (HOT.out _ rfl)
  HI0.out
  (fun ys => AllY (xs.map Prod.fst) path (keyL ys))
  (KeepH base W0.heap.size (g2 + 1 + 1)) KeepH.trans (fun W o o' hw hc => keepH_b (by omega) W o o' (by omega) hw hc)
  (fun l R W hR hsz hBW hI0 hR0 hYY => (hunks1_in (n - 1) (by omega) l (g2 + 1) (g2 + 1 + 1) base W0.heap.size lo hi p len cap xs path w W _ R
   (HOT.out _ rfl) hR hsz hYY H.out hb hbb (HBW0.out.trans (hBW.mono (by omega))) ((hBW.cell (p := ⟨g2 + 1, 0, none⟩) (by show g2 + 1 < _; omega)).trans HC1.out.cell) ((hBW.block _ (by omega)).trans HC2.out) hI0 hR0))
  (fun y a' W => ∃ B7, HkBox y.1 B7 W /\ W0.heap.size <= B7 /\ a' = { tmps := #[.pointer (some ⟨gf, o, none⟩), .slice p len cap, .pointer (some ⟨w.heap.size, 0, none⟩), undef, .pointer (some ⟨g1, 0, none⟩), .pointer (some ⟨g2, 0, none⟩), undef, .pointer (some ⟨B7, 0, none⟩), undef, undef, undef, undef, undef, undef, undef, undef, undef, undef, .pointer (some ⟨gf, o, none⟩), .pointer (some ⟨gf, o, none⟩), .pointer (some ⟨gf, o + 1, none⟩), .slice pl nl cl, .map (some bm), .pointer (some ⟨gf, o, none⟩), .pointer (some ⟨gf, o, none⟩), .pointer (some ⟨gf, o + 1, none⟩), .slice pl nl cl, .int .i64 nl, .pointer (some ⟨rp, 0, none⟩), .slice p len cap, .pointer (some ⟨gf, o, none⟩), .pointer (some ⟨gf, o, none⟩), .pointer (some ⟨gf, o, none⟩), .string path, .func (.func 96) #[] #[.pointer (some ⟨g2 + 1, 0, none⟩), .pointer (some ⟨g2 + 1 + 1, 0, none⟩)], (encY y.1)[0]!, (encY y.1)[1]!, undef, undef, undef, undef, undef, undef, undef, undef, undef, undef, undef, undef, undef, undef, undef, undef, undef, undef, undef, undef, undef, undef, undef, undef, undef, undef, undef, undef, undef, undef, undef, undef, undef, undef, undef, undef, undef, undef, undef, undef, undef, undef, undef, undef, undef, undef, undef, undef, undef, undef, undef, undef, undef, undef, undef, undef, undef, undef], defers := [] })
  ?hAx ?assign ?body ?done
 case hAx =>
  rintro x a' _ A B row ⟨b7, hb7, h2, h3⟩ hg hrow
  refine ⟨b7, (hg.block b7 (Zp.1 hb7).1 fun e => ?_).trans hb7, h2, h3⟩
  obtain ⟨_, o', ho, hoc⟩ := hrow b7 e.symm
  rw [show A.heap[b7]? = _ from hb7] at ho
  cases ho
  cases hoc
 case assign =>
  intro l pre y W K hI hK
  have HK := Za hK
  clear hK
  have hgs := hI.sz
  unfold encY
  gi_wp2
  have hg2 := Zd W (.cells #[.string (hPath y.1.2.1), .slice y.1.2.2.1.1 y.1.2.2.1.2.1 y.1.2.2.1.2.2, .slice y.1.2.2.2.1.1 y.1.2.2.2.1.2.1 y.1.2.2.2.1.2.2, .slice y.1.2.2.2.2.1 y.1.2.2.2.2.2.1 y.1.2.2.2.2.2.2] 68) none
  exact HK.out _ _ (keepsFrom_calm hg2) (KeepH.calm hg2 (by omega)) (hI.kept (by omega) hown ((Xo hg2).mono hgs)) ⟨W.heap.size, Vc W _, hgs, rfl⟩
 case body =>
  rintro l pre y a' W hl hlr hI ⟨B7, hb7, hg7, rfl⟩ hpn
  obtain ⟨u0, u1, u2, u3⟩ := hb7.cells
  have hf := y.2.few H.out.few
  have HAT := Za y.2.at_
  have hel := y.2.at_.edges.len
  have hkl := y.2.at_.kills.len
  have hfe := hf.edges
  have hfk := hf.kills
  have hne : y.1.2.2.2.1.2.1 <= 90 := by omega
  have hnk : y.1.2.2.2.2.2.1 <= 50 := by omega
  have HEL := Za hel
  have HKL := Za hkl
  have HOY : Hid ((∀ e ∈ hEdges y.1.2.1, OkK e.1 /\ OkK e.2) /\ ∀ k ∈ hKills y.1.2.1, OkK k) := Za (by
   obtain ⟨x, hx, hy⟩ := y.2.of
   obtain ⟨z, hz, rfl⟩ := Yi.1 hx
   obtain ⟨i, hi, e, _⟩ := hksK_mem hy
   have e2 : y.1.2.1 = (pHunks z.1)[i]?.getD hk0 := congrArg Prod.snd e
   rw [e2]
   exact HOK.out z hz _ (Zr (d := hk0) hi))
  have HI := Za hI
  have H7 := Za hb7
  have hWs := hI.sz
  have HES : Hid (edY (pre ++ [y]) = edY pre ++ hEdges y.1.2.1) := Za (edY_snoc pre y)
  have HKS : Hid (kiY (pre ++ [y]) = kiY pre ++ hKills y.1.2.1) := Za (kiY_snoc pre y)
  generalize edY pre = E0 at *
  generalize kiY pre = K0 at *
  clear hf hel hkl hfe hfk hI hb7
  gi_wp2
  gi_loopw [9, 10, 11, 12, 13, 40] (fun x9 x10 x11 x12 x13 i wr => ∃ k : Nat, k <= y.1.2.2.2.1.2.1 /\ i = .int .i64 k /\ Hid (ReI w W0 base (g1 + 1) g2 rp nl (.slice pl nl cl) ls (E0 ++ (hEdges y.1.2.1).take k) K0 wr /\ Mv base W0.heap.size (g2 + 1 + 1) W wr)) (fun _ _ _ _ _ i _ => y.1.2.2.2.1.2.1 - (intOf i).toNat)
  case atStart => exact ⟨0, Ze _, rfl, Za ⟨by simpa using HI.out, Mv.refl _⟩⟩
  case round =>
   obtain ⟨k, hk, rfl, HQ⟩ := hrel
   by_cases hkm : k < y.1.2.2.2.1.2.1
   ·obtain ⟨b', off', e0, e1, e2, e3, ec⟩ := HAT.out.edges.cell (by omega)
    obtain ⟨d0, d1, d2, d3⟩ := ec k hkm
    have hlow := HBW0.out.trans (HQ.out.1.low (by omega) (by omega))
    have hbk : b' < base := by omega
    replace d0 := (hlow.cell (p := ⟨b', off' + k * 4, none⟩) hbk).trans d0
    replace d1 := (hlow.cell (p := ⟨b', off' + k * 4 + 1, none⟩) hbk).trans d1
    replace d2 := (hlow.cell (p := ⟨b', off' + k * 4 + 2, none⟩) hbk).trans d2
    replace d3 := (hlow.cell (p := ⟨b', off' + k * 4 + 3, none⟩) hbk).trans d3
    have hkl : k < (hEdges y.1.2.1).length := by have := HEL.out; omega
    have HTK : Hid (E0 ++ (hEdges y.1.2.1).take (k + 1) = (E0 ++ (hEdges y.1.2.1).take k) ++ [(hEdges y.1.2.1)[k]?.getD ((0, 0), (0, 0))]) := Za (by
     rw [Xi hkl, Zm hkl, <- Xa]
     rfl)
    have HOE := Za (HOY.out.1 _ (Zr (d := ((0, 0), (0, 0))) hkl))
    rw [e0]
    clear e0 ec hlow
    generalize (hEdges y.1.2.1)[k]?.getD ((0, 0), (0, 0)) = ed at *
    generalize E0 ++ (hEdges y.1.2.1).take k = E at *
    have hga := Zd wr (.cells #[.int .u32 ((ed.1.1 : Nat) : Int), .int .i64 ed.1.2, .int .u32 ((ed.2.1 : Nat) : Int), .int .i64 ed.2.2] 70) none
    have hsz1 := HQ.out.1.sz
    have HR1 := Za (HQ.out.1.kept (by omega) HOWN.out ((Xo hga).mono hsz1))
    have HM1 := Za (HQ.out.2.trans (Mv.calm (m₀ := W0.heap.size) (Bp := g2 + 1 + 1) hga (by omega)))
    have hbx := BoxV.new wr [.int .u32 ((ed.1.1 : Nat) : Int), .int .i64 ed.1.2, .int .u32 ((ed.2.1 : Nat) : Int), .int .i64 ed.2.2] 70
    obtain ⟨v0, v1, v2, v3⟩ := hbx.four
    have hfx : ∀ i, i < W0.heap.size -> ¬ (g1 + 1 <= i /\ i < g2) -> w.heap.size <= i -> (wr.alloc (.cells #[.int .u32 ((ed.1.1 : Nat) : Int), .int .i64 ed.1.2, .int .u32 ((ed.2.1 : Nat) : Int), .int .i64 ed.2.2] 70)).heap[i]? = W0.heap[i]? := fun i h1 h2 h3 =>
     HR1.out.fx i h1 h2 fun e => by have := (own_ge HROW.out e.symm).2.1; omega
    have s4 : Boxed (wr.alloc (.cells #[.int .u32 ((ed.1.1 : Nat) : Int), .int .i64 ed.1.2, .int .u32 ((ed.2.1 : Nat) : Int), .int .i64 ed.2.2] 70)) g1 90 (.map (some bm)) := (hfx g1 (by omega) (by omega) (by omega)).trans HB4.out
    have s5 : Boxed (wr.alloc (.cells #[.int .u32 ((ed.1.1 : Nat) : Int), .int .i64 ed.1.2, .int .u32 ((ed.2.1 : Nat) : Int), .int .i64 ed.2.2] 70)) g2 104 (.pointer (some ⟨rp, 0, none⟩)) := (hfx g2 (by omega) (by omega) (by omega)).trans HB5.out
    have hpm : PlM (wr.alloc (.cells #[.int .u32 ((ed.1.1 : Nat) : Int), .int .i64 ed.1.2, .int .u32 ((ed.2.1 : Nat) : Int), .int .i64 ed.2.2] 70)) bm ls := HPL.out.keep fun o ho _ => (hfx bm (by have := HBM.out; omega) (by omega) (by have := HBM.out; omega)).trans ho
    have hl1 := hpm.look HOE.out.1 (atL ls ed.1) rfl
    have hl2 := hpm.look HOE.out.2 (atL ls ed.2) rfl
    have t4 := s4.cell
    have t5 := s5.cell
    clear hga hbx hfx s4 s5 hpm
    cases ha1 : atL ls ed.1 with
    | none =>
     have HN : Hid (relE ls (E ++ [ed]) = relE ls E) := Za (relE_no (.inl ha1))
     rw [ha1] at hl1
     simp only [Option.getD_none, Option.isSome_none] at hl1
     clear ha1
     cases ha2 : atL ls ed.2 with
     | none =>
      rw [ha2] at hl2
      simp only [Option.getD_none, Option.isSome_none] at hl2
      clear ha2
      gi_wp2
      exact ⟨⟨k + 1, by omega, by go_num, Za ⟨by rw [HTK.out]; exact { HR1.out with rel := by rw [HN.out]; exact HR1.out.rel }, HM1.out⟩⟩, by simp [intOf]; omega⟩
     | some j =>
      rw [ha2] at hl2
      simp only [Option.getD_some, Option.isSome_some] at hl2
      clear ha2
      gi_wp2
      exact ⟨⟨k + 1, by omega, by go_num, Za ⟨by rw [HTK.out]; exact { HR1.out with rel := by rw [HN.out]; exact HR1.out.rel }, HM1.out⟩⟩, by simp [intOf]; omega⟩
    | some i =>
     rw [ha1] at hl1
     simp only [Option.getD_some, Option.isSome_some] at hl1
     cases ha2 : atL ls ed.2 with
     | none =>
      have HN : Hid (relE ls (E ++ [ed]) = relE ls E) := Za (relE_no (.inr ha2))
      rw [ha2] at hl2
      simp only [Option.getD_none, Option.isSome_none] at hl2
      clear ha1 ha2
      gi_wp2
      exact ⟨⟨k + 1, by omega, by go_num, Za ⟨by rw [HTK.out]; exact { HR1.out with rel := by rw [HN.out]; exact HR1.out.rel }, HM1.out⟩⟩, by simp [intOf]; omega⟩
     | some j =>
      have HN : Hid (addI nl (relE ls E) ((i : Int), (j : Int)) = relE ls (E ++ [ed])) := Za (by rw [<- hlen]; exact relE_yes ha1 ha2)
      have HADD := Za (add_c (g1 + 1) g2 rp nl (i : Int) (j : Int) (relE ls E) _ HR1.out.rel)
      rw [ha2] at hl2
      simp only [Option.getD_some, Option.isSome_some] at hl2
      clear ha1 ha2
      gi_wp2_with fail
      refine ⟨trivial, fun _ => by omega, ?_⟩
      refine (CallsIn.inRound l (callsIn_wide.2 HADD.out)).mono ?_
      rintro e w9 ⟨rfl, hr9, hk9⟩
      rw [HN.out] at hr9
      have HR9 := Za (HR1.out.turn hk9 hr9 (fun g e => by have := (own_ge HROW.out e).2.1; omega))
      have HM9 := Za (HM1.out.trans (Mv.turn (n₀ := base) (m₀ := W0.heap.size) (Bp := g2 + 1 + 1) hk9 (by have := HR1.out.sz; omega) (by omega) (by omega) (by omega)))
      clear hr9 hk9
      gi_wp2
      exact ⟨⟨k + 1, by omega, by go_num, Za ⟨by rw [HTK.out]; exact HR9.out, HM9.out⟩⟩, by simp [intOf]; omega⟩
   ·obtain rfl : k = y.1.2.2.2.1.2.1 := by omega
    have HEE : Hid ((hEdges y.1.2.1).take y.1.2.2.2.1.2.1 = hEdges y.1.2.1) := Za (Yl (by rw [HEL.out]; exact Zc _))
    have HR1 : Hid (ReI w W0 base (g1 + 1) g2 rp nl (.slice pl nl cl) ls (E0 ++ hEdges y.1.2.1) K0 wr) := Za (by have h9 := HQ.out.1; rwa [HEE.out] at h9)
    have HM1 := Za HQ.out.2
    have h7 : HkBox y.1 B7 wr := HM1.out.keepH.ty _ _ _ hg7 (by decide) H7.out
    obtain ⟨u0', u1', u2', u3'⟩ := h7.cells
    have HW9 := Za HM1.out
    clear h7 HQ
    gi_wp2
    gi_loopw [15, 16, 17, 70] (fun x15 x16 x17 i wq => ∃ k : Nat, k <= y.1.2.2.2.2.2.1 /\ i = .int .i64 k /\ Hid (ReI w W0 base (g1 + 1) g2 rp nl (.slice pl nl cl) ls (E0 ++ hEdges y.1.2.1) (K0 ++ (hKills y.1.2.1).take k) wq /\ Mv base W0.heap.size (g2 + 1 + 1) W wq)) (fun _ _ _ i _ => y.1.2.2.2.2.2.1 - (intOf i).toNat)
    case atStart => exact ⟨0, Ze _, rfl, Za ⟨by simpa using HR1.out, HM1.out⟩⟩
    case round =>
     clear HR1 HM1 HW9
     obtain ⟨k, hk, rfl, HQ⟩ := hrel
     by_cases hkm : k < y.1.2.2.2.2.2.1
     ·obtain ⟨b', off', e0, e1, e2, e3, ec⟩ := HAT.out.kills.cell (by omega)
      obtain ⟨d0, d1⟩ := ec k hkm
      have hlow := HBW0.out.trans (HQ.out.1.low (by omega) (by omega))
      have hbk : b' < base := by omega
      replace d0 := (hlow.cell (p := ⟨b', off' + k * 2, none⟩) hbk).trans d0
      replace d1 := (hlow.cell (p := ⟨b', off' + k * 2 + 1, none⟩) hbk).trans d1
      have hkl : k < (hKills y.1.2.1).length := by have := HKL.out; omega
      have HTK : Hid (K0 ++ (hKills y.1.2.1).take (k + 1) = (K0 ++ (hKills y.1.2.1).take k) ++ [(hKills y.1.2.1)[k]?.getD (0, 0)]) := Za (by
       rw [Xi hkl, Zm hkl, <- Xa]
       rfl)
      have HOE := Za (HOY.out.2 _ (Zr (d := ((0, 0) : Ln)) hkl))
      rw [e0]
      clear e0 ec hlow
      generalize (hKills y.1.2.1)[k]?.getD (0, 0) = ki at *
      generalize K0 ++ (hKills y.1.2.1).take k = K at *
      generalize E0 ++ hEdges y.1.2.1 = E at *
      have hga := Zd wr (.cells #[.int .u32 ((ki.1 : Nat) : Int), .int .i64 ki.2] 60) none
      have hsz1 := HQ.out.1.sz
      have HR1 := Za (HQ.out.1.kept (by omega) HOWN.out ((Xo hga).mono hsz1))
      have HM1 := Za (HQ.out.2.trans (Mv.calm (m₀ := W0.heap.size) (Bp := g2 + 1 + 1) hga (by omega)))
      have hbx := BoxV.new wr [.int .u32 ((ki.1 : Nat) : Int), .int .i64 ki.2] 60
      have v0 := hbx.cell (k := 0) rfl
      have v1 := hbx.cell (k := 1) rfl
      have hfx : ∀ i, i < W0.heap.size -> ¬ (g1 + 1 <= i /\ i < g2) -> w.heap.size <= i -> (wr.alloc (.cells #[.int .u32 ((ki.1 : Nat) : Int), .int .i64 ki.2] 60)).heap[i]? = W0.heap[i]? := fun i h1 h2 h3 =>
       HR1.out.fx i h1 h2 fun e => by have := (own_ge HROW.out e.symm).2.1; omega
      have s2 : Boxed (wr.alloc (.cells #[.int .u32 ((ki.1 : Nat) : Int), .int .i64 ki.2] 60)) w.heap.size 76 (.pointer (some ⟨gf, o, none⟩)) := (hfx w.heap.size (by omega) (by omega) (Zc _)).trans HB0.out
      have s4 : Boxed (wr.alloc (.cells #[.int .u32 ((ki.1 : Nat) : Int), .int .i64 ki.2] 60)) g1 90 (.map (some bm)) := (hfx g1 (by omega) (by omega) (by omega)).trans HB4.out
      have hpm : PlM (wr.alloc (.cells #[.int .u32 ((ki.1 : Nat) : Int), .int .i64 ki.2] 60)) bm ls := HPL.out.keep fun o ho _ => (hfx bm (by have := HBM.out; omega) (by omega) (by have := HBM.out; omega)).trans ho
      have hgo : some gf ≠ (Value.slice pl nl cl).ownBlock := fun e => by
       obtain ⟨_, _, cu, hcu⟩ := own_ge HROW.out e.symm
       rw [HGF.out] at hcu
       simp at hcu
      have hgq : (wr.alloc (.cells #[.int .u32 ((ki.1 : Nat) : Int), .int .i64 ki.2] 60)).heap[gf]? = w.heap[gf]? := (HR1.out.fx gf (by omega) (by omega) hgo).trans (HG.out.block gf hgl (by simp))
      have q1n : (wr.alloc (.cells #[.int .u32 ((ki.1 : Nat) : Int), .int .i64 ki.2] 60)).cell? ⟨gf, o + 1, none⟩ = some (.slice pl nl cl) := by
       rw [<- q1]
       exact Zs (a := ⟨gf, o + 1, none⟩) hgq
      have hl1 := hpm.look HOE.out (atL ls ki) rfl
      have t2 := s2.cell
      have t4 := s4.cell
      clear hga hbx hfx s2 s4 hpm hgq
      cases ha1 : atL ls ki with
      | none =>
       have HN : Hid (markK ls (K ++ [ki]) = markK ls K) := Za (markK_no ha1)
       rw [ha1] at hl1
       simp only [Option.getD_none, Option.isSome_none] at hl1
       clear ha1
       gi_wp2
       exact ⟨⟨k + 1, by omega, by go_num, Za ⟨by rw [HTK.out]; exact { HR1.out with row := by rw [HN.out]; exact HR1.out.row }, HM1.out⟩⟩, by simp [intOf]; omega⟩
      | some i =>
       have hi := atL_lt ha1
       have hin : i < nl := by omega
       have hpe : ∃ gl, pl = some ⟨gl, 0, none⟩ /\ gl < w.heap.size /\ base <= gl := by
        rcases HROW.out.2 with ⟨_, e⟩ | ⟨g, _, _, e, x1, x2, _⟩
        ·omega
        ·cases e; exact ⟨g, rfl, (Zp.1 x2).1, x1⟩
       obtain ⟨gl, rfl, hgl1, hgl2⟩ := hpe
       have HMK := Za (HR1.out.mark HST.out ha1 hlen (by omega))
       have HMV := Za (HM1.out.trans (Mv.set (n₀ := base) (m₀ := W0.heap.size) (Bp := g2 + 1 + 1) (j := i * 4 + 3) (.bool true) hgl2 (by omega) (by omega)))
       have hcell := World.ownsRow.cells HR1.out.row (g := gl) rfl (i * 4 + 3) _ (lncells_get (l := markK ls K) (i := i) (r := 3) (by rw [markK_len]; exact hi) (by omega))
       rw [add_off, Yj] at hcell
       have hfz : (wr.alloc (.cells #[.int .u32 ((ki.1 : Nat) : Int), .int .i64 ki.2] 60)).frozen? ⟨gl, i * 4 + 3, none⟩ = false := by
        rcases HR1.out.row.2 with ⟨e, _⟩ | ⟨g, _, cu, e, _, x2, _⟩
        ·cases e
        ·cases e; simp [World.frozen?, x2]
       rw [ha1] at hl1
       simp only [Option.getD_some, Option.isSome_some] at hl1
       have hi0 : (0 : Int) <= i := by omega
       have hi1 : (i : Int) < nl := by omega
       clear ha1
       gi_wp2
       exact ⟨⟨k + 1, by omega, by go_num, Za ⟨by rw [HTK.out]; exact HMK.out, HMV.out⟩⟩, by simp [intOf]; omega⟩
     ·obtain rfl : k = y.1.2.2.2.2.2.1 := by omega
      have HKK : Hid ((hKills y.1.2.1).take y.1.2.2.2.2.2.1 = hKills y.1.2.1) := Za (Yl (by rw [HKL.out]; exact Zc _))
      gi_wp2
      exact ⟨HQ.out.2.keeps, by rw [HES.out, HKS.out]; have h9 := HQ.out.1; rwa [HKK.out] at h9, HQ.out.2.keepH⟩
 case done =>
  rintro D ys W hD hs hI hK
  have hrel := hI.rel
  have HCLO := Za (closure_c (g1 + 1) g2 rp nl (relE ls (edY ys)) W hrel)
  have HI := Za hI
  have HK := Za hK
  have HS := Za hs
  have hfx : ∀ i, i < W0.heap.size -> ¬ (g1 + 1 <= i /\ i < g2) -> w.heap.size <= i -> W.heap[i]? = W0.heap[i]? := fun i h1 h2 h3 =>
   hI.fx i h1 h2 fun e => by have := (own_ge HROW.out e.symm).2.1; omega
  have s2 : Boxed W w.heap.size 76 (.pointer (some ⟨gf, o, none⟩)) := (hfx w.heap.size (by omega) (by omega) (Zc _)).trans HB0.out
  have s5 : Boxed W g2 104 (.pointer (some ⟨rp, 0, none⟩)) := (hfx g2 (by omega) (by omega) (by omega)).trans HB5.out
  have hgo : some gf ≠ (Value.slice pl nl cl).ownBlock := fun e => by
   obtain ⟨_, _, cu, hcu⟩ := own_ge HROW.out e.symm
   rw [HGF.out] at hcu
   simp at hcu
  have HGQ : Hid (W.heap[gf]? = w.heap[gf]?) := Za ((hI.fx gf (by omega) (by omega) hgo).trans (HG.out.block gf hgl (by simp)))
  have HTW : Hid (Tab W) := Za (HT.out.below (HBW0.out.trans (hI.low (by omega) (by omega))) htg)
  have t2 := s2.cell
  have t5 := s5.cell
  have HT2 := Za t2
  have HT5 := Za t5
  have hsz0 := hI.sz
  clear hI hK hs hrel hfx s2 s5
  gi_wp2_with fail
  have HC2 : Hid (∀ X, W.grownBy X none -> Calls Tryz.prog 63 #[.pointer (some ⟨rp, 0, none⟩)] X (MadePost nl (clo nl (relE ls (edY ys))) X)) := Za fun X hX => closure_c (g1 + 1) g2 rp nl (relE ls (edY ys)) X (HI.out.rel.calm hX)
  clear HCLO
  have HFIN : Hid (∀ (w8 : World) (pq : Option Addr) (cq : Nat), W.grownBy w8 none -> w8.ownsRow w.heap.size 88 2 (.slice pq (pairsL nl (clo nl (relE ls (edY ys))) nl).length cq) (pairsL nl (clo nl (relE ls (edY ys))) nl).length (pcells (pairsL nl (clo nl (relE ls (edY ys))) nl)) -> w8.heap[gf]? = some (.cells cur 35 (0, 0)) ->
    (w8.setCell ⟨gf, o + 2, none⟩ (.slice pq (pairsL nl (clo nl (relE ls (edY ys))) nl).length cq)).heap[D]? = some (.deferred (some [])) /\
    RelOut w ((w8.setCell ⟨gf, o + 2, none⟩ (.slice pq (pairsL nl (clo nl (relE ls (edY ys))) nl).length cq)).putObj D (.deferred none)) base gf o nl (.slice pl nl cl) ls (keyL ys)) := Za (by
   intro w8 pq cq hw8 hv8 hg8
   generalize hvp : Value.slice pq (pairsL nl (clo nl (relE ls (edY ys))) nl).length cq = vp at *
   have hD8 : w8.heap[D]? = some (.deferred (some [])) := (hw8.block D (Zp.1 HK.out).1 (by simp)).trans HK.out
   have hDg : D ≠ gf := fun e => by rw [e, hg8] at hD8; cases hD8
   have hDs : (w8.setCell ⟨gf, o + 2, none⟩ vp).heap[D]? = some (.deferred (some [])) := (Below.heap_setCell _ _ _ _ hDg).trans hD8
   have hgs := setN w8 gf (o + 2) vp
   have hgp := grownBy_putObj' (w8.setCell ⟨gf, o + 2, none⟩ vp) D (.deferred none)
   have hgo : ∀ g, (Value.slice pl nl cl).ownBlock = some g -> g ≠ gf := fun g e => by
    obtain ⟨_, _, cu, hcu⟩ := own_ge HROW.out e
    intro e2
    rw [e2, HGF.out] at hcu
    simp at hcu
   have hrow8 := row_kept (row_kept HI.out.row hw8 (fun g _ e => by cases e)) hgs (fun g e e' => hgo g e (by cases e'; rfl))
   have hpr8 := row_kept hv8 hgs (fun g e e' => by
    obtain ⟨_, _, cu, hcu⟩ := own_ge hv8 e
    cases e'
    rw [hg8] at hcu
    simp at hcu)
   have hnD : ∀ {t : TypeId} {base' size n' : Nat} {v : Value} {xs' : List Value}, (w8.setCell ⟨gf, o + 2, none⟩ vp).ownsRow base' t size v n' xs' -> ∀ g, v.ownBlock = some g -> some g ≠ some D := fun hr g e e' => by
    obtain ⟨_, _, cu, hcu⟩ := own_ge hr e
    cases e'
    rw [hDs] at hcu
    cases hcu
   refine ⟨hDs, ⟨by rw [markL_eq]; exact row_kept hrow8 hgp (hnD hrow8), ⟨vp, by rw [relS_eq]; exact row_kept hpr8 hgp (hnD hpr8), fun cu t hcu => ?_⟩, fun k h1 h2 h3 => ?_, ?_, ?_, ?_, ?_⟩⟩
   ·rw [HGF.out] at hcu
    cases hcu
    rw [World.putObj_heap_other (Ne.symm hDg)]
    exact heap_setCell_same w8 gf (o + 2) cur _ vp hg8
   ·rw [World.putObj_heap_other (by omega), Below.heap_setCell _ _ _ _ h2, hw8.block k (by omega) (by simp), HI.out.fx k (by omega) (by omega) h3]
    exact HG.out.block k h1 (by simp)
   ·have := hgp.size
    have := hgs.size
    have := hw8.size
    omega
   ·rw [hgp.os, hgs.os, hw8.os, HI.out.os, HG.out.os]
   ·rw [hgp.tape, hgs.tape, hw8.tape, HI.out.tape, HG.out.tape]
   ·rw [hgp.output, hgs.output, hw8.output, HI.out.output, HG.out.output])
  refine wpIn_wide.2 ?_
  refine wp_region_held (S := fun _ => True) (by kernel_rfl) ?_
  change wpAnyH _ _ _ _ _ _ _ _ W.drew
  have henv : W.grownBy W.drew none := Zo W 1 none
  have s0 := Zh henv t2
  have s1 := Zh henv t5
  clear t2 t5
  generalize W.drew = wd at *
  refine held_two 0 1 (by kernel_rfl) rfl rfl ?_ ?_
  ·intro KK hKK
   go_simp
   refine hKK _ _ trivial ?_
   clear hKK KK
   refine Yq 1 (by kernel_rfl) rfl ?_
   intro KK hKK
   go_simp
   refine hKK _ _ trivial ?_
   clear hKK KK
   refine Yq 2 (by kernel_rfl) rfl ?_
   intro KK hKK
   go_simp
   refine (HC2.out _ henv).mono ?_
   rintro e w7 ⟨rq, rfl, hr7, hg7⟩
   have henv := Zb henv hg7
   replace s0 := Zh hg7 s0
   replace s1 := Zh hg7 s1
   have HPR := Za (relPairs_o _ _ rq nl _ w7 hr7 (HTW.out.grown henv (by simp)))
   have hW7 : w.heap.size <= w7.heap.size := by have := henv.size; omega
   refine hKK _ _ trivial ?_
   clear hKK KK hr7
   refine Yq 3 (by kernel_rfl) rfl ?_
   intro KK hKK
   go_simp
   refine HPR.out.mono ?_
   rintro e w8 ⟨vp, rfl, hv8, hg8⟩
   obtain ⟨pq, cq, rfl⟩ := Xs hv8
   have HENV := Za (Zb henv hg8)
   have HV8 := Za (owns_low hv8 hW7)
   replace s0 := Zh hg8 s0
   replace s1 := Zh hg8 s1
   refine hKK _ _ trivial ?_
   clear hKK KK hv8 hg8 HPR
   have hgf8 : w8.heap[gf]? = some (.cells cur 35 (0, 0)) := (HENV.out.block gf (by omega) (by simp)).trans (HGQ.out.trans HGF.out)
   obtain ⟨u, qq⟩ : ∃ u, w8.cell? ⟨gf, o + 2, none⟩ = some u := ⟨cur[o + 2], by simp [World.cell?, hgf8, f2]⟩
   have qf : w8.frozen? ⟨gf, o + 2, none⟩ = false := by simp [World.frozen?, hgf8]
   refine Yq 4 (by kernel_rfl) rfl ?_
   intro KK hKK
   go_simp
   refine hKK _ _ trivial ?_
   clear hKK KK
   refine Yq 5 (by kernel_rfl) rfl ?_
   intro KK hKK
   go_simp
   refine hKK _ _ trivial ?_
   clear hKK KK
   refine Yq 6 (by kernel_rfl) rfl ?_
   intro KK hKK
   go_simp
   refine hKK _ _ trivial ?_
   clear hKK KK
   refine Vm (by kernel_rfl) ?_ _
   obtain ⟨hK8, hout⟩ := HFIN.out _ _ _ HENV.out HV8.out hgf8
   refine ⟨by simp, .inl ⟨_, _, rfl, run_takeDeferred hK8, ?_⟩⟩
   exact ⟨_, results_none rfl _ _ _, rfl, keyL ys, HS.out, hout⟩
  ·intro KK hKK
   go_simp
   refine hKK _ _ trivial ?_
   clear hKK KK
   refine held_two 0 2 (by kernel_rfl) rfl rfl ?_ ?_
   ·intro KK hKK
    go_simp
    refine hKK _ _ trivial ?_
    clear hKK KK
    refine Yq 2 (by kernel_rfl) rfl ?_
    intro KK hKK
    go_simp
    refine (HC2.out _ henv).mono ?_
    rintro e w7 ⟨rq, rfl, hr7, hg7⟩
    have henv := Zb henv hg7
    replace s0 := Zh hg7 s0
    replace s1 := Zh hg7 s1
    have HPR := Za (relPairs_o _ _ rq nl _ w7 hr7 (HTW.out.grown henv (by simp)))
    have hW7 : w.heap.size <= w7.heap.size := by have := henv.size; omega
    refine hKK _ _ trivial ?_
    clear hKK KK hr7
    refine Yq 3 (by kernel_rfl) rfl ?_
    intro KK hKK
    go_simp
    refine HPR.out.mono ?_
    rintro e w8 ⟨vp, rfl, hv8, hg8⟩
    obtain ⟨pq, cq, rfl⟩ := Xs hv8
    have HENV := Za (Zb henv hg8)
    have HV8 := Za (owns_low hv8 hW7)
    replace s0 := Zh hg8 s0
    replace s1 := Zh hg8 s1
    refine hKK _ _ trivial ?_
    clear hKK KK hv8 hg8 HPR
    have hgf8 : w8.heap[gf]? = some (.cells cur 35 (0, 0)) := (HENV.out.block gf (by omega) (by simp)).trans (HGQ.out.trans HGF.out)
    obtain ⟨u, qq⟩ : ∃ u, w8.cell? ⟨gf, o + 2, none⟩ = some u := ⟨cur[o + 2], by simp [World.cell?, hgf8, f2]⟩
    have qf : w8.frozen? ⟨gf, o + 2, none⟩ = false := by simp [World.frozen?, hgf8]
    refine Yq 4 (by kernel_rfl) rfl ?_
    intro KK hKK
    go_simp
    refine hKK _ _ trivial ?_
    clear hKK KK
    refine Yq 5 (by kernel_rfl) rfl ?_
    intro KK hKK
    go_simp
    refine hKK _ _ trivial ?_
    clear hKK KK
    refine Yq 6 (by kernel_rfl) rfl ?_
    intro KK hKK
    go_simp
    refine hKK _ _ trivial ?_
    clear hKK KK
    refine Vm (by kernel_rfl) ?_ _
    obtain ⟨hK8, hout⟩ := HFIN.out _ _ _ HENV.out HV8.out hgf8
    refine ⟨by simp, .inl ⟨_, _, rfl, run_takeDeferred hK8, ?_⟩⟩
    exact ⟨_, results_none rfl _ _ _, rfl, keyL ys, HS.out, hout⟩
   ·intro KK hKK
    go_simp
    refine (HC2.out _ henv).mono ?_
    rintro e w7 ⟨rq, rfl, hr7, hg7⟩
    have henv := Zb henv hg7
    replace s0 := Zh hg7 s0
    replace s1 := Zh hg7 s1
    have HPR := Za (relPairs_o _ _ rq nl _ w7 hr7 (HTW.out.grown henv (by simp)))
    have hW7 : w.heap.size <= w7.heap.size := by have := henv.size; omega
    refine hKK _ _ trivial ?_
    clear hKK KK hr7
    refine held_two 0 3 (by kernel_rfl) rfl rfl ?_ ?_
    ·intro KK hKK
     go_simp
     refine hKK _ _ trivial ?_
     clear hKK KK
     refine Yq 3 (by kernel_rfl) rfl ?_
     intro KK hKK
     go_simp
     refine HPR.out.mono ?_
     rintro e w8 ⟨vp, rfl, hv8, hg8⟩
     obtain ⟨pq, cq, rfl⟩ := Xs hv8
     have HENV := Za (Zb henv hg8)
     have HV8 := Za (owns_low hv8 hW7)
     replace s0 := Zh hg8 s0
     replace s1 := Zh hg8 s1
     refine hKK _ _ trivial ?_
     clear hKK KK hv8 hg8 HPR
     have hgf8 : w8.heap[gf]? = some (.cells cur 35 (0, 0)) := (HENV.out.block gf (by omega) (by simp)).trans (HGQ.out.trans HGF.out)
     obtain ⟨u, qq⟩ : ∃ u, w8.cell? ⟨gf, o + 2, none⟩ = some u := ⟨cur[o + 2], by simp [World.cell?, hgf8, f2]⟩
     have qf : w8.frozen? ⟨gf, o + 2, none⟩ = false := by simp [World.frozen?, hgf8]
     refine Yq 4 (by kernel_rfl) rfl ?_
     intro KK hKK
     go_simp
     refine hKK _ _ trivial ?_
     clear hKK KK
     refine Yq 5 (by kernel_rfl) rfl ?_
     intro KK hKK
     go_simp
     refine hKK _ _ trivial ?_
     clear hKK KK
     refine Yq 6 (by kernel_rfl) rfl ?_
     intro KK hKK
     go_simp
     refine hKK _ _ trivial ?_
     clear hKK KK
     refine Vm (by kernel_rfl) ?_ _
     obtain ⟨hK8, hout⟩ := HFIN.out _ _ _ HENV.out HV8.out hgf8
     refine ⟨by simp, .inl ⟨_, _, rfl, run_takeDeferred hK8, ?_⟩⟩
     exact ⟨_, results_none rfl _ _ _, rfl, keyL ys, HS.out, hout⟩
    ·intro KK hKK
     go_simp
     refine HPR.out.mono ?_
     rintro e w8 ⟨vp, rfl, hv8, hg8⟩
     obtain ⟨pq, cq, rfl⟩ := Xs hv8
     have HENV := Za (Zb henv hg8)
     have HV8 := Za (owns_low hv8 hW7)
     replace s0 := Zh hg8 s0
     replace s1 := Zh hg8 s1
     refine hKK _ _ trivial ?_
     clear hKK KK hv8 hg8 HPR
     refine Yq 0 (by kernel_rfl) rfl ?_
     intro KK hKK
     go_simp
     refine hKK _ _ trivial ?_
     clear hKK KK
     have hgf8 : w8.heap[gf]? = some (.cells cur 35 (0, 0)) := (HENV.out.block gf (by omega) (by simp)).trans (HGQ.out.trans HGF.out)
     obtain ⟨u, qq⟩ : ∃ u, w8.cell? ⟨gf, o + 2, none⟩ = some u := ⟨cur[o + 2], by simp [World.cell?, hgf8, f2]⟩
     have qf : w8.frozen? ⟨gf, o + 2, none⟩ = false := by simp [World.frozen?, hgf8]
     refine Yq 4 (by kernel_rfl) rfl ?_
     intro KK hKK
     go_simp
     refine hKK _ _ trivial ?_
     clear hKK KK
     refine Yq 5 (by kernel_rfl) rfl ?_
     intro KK hKK
     go_simp
     refine hKK _ _ trivial ?_
     clear hKK KK
     refine Yq 6 (by kernel_rfl) rfl ?_
     intro KK hKK
     go_simp
     refine hKK _ _ trivial ?_
     clear hKK KK
     refine Vm (by kernel_rfl) ?_ _
     obtain ⟨hK8, hout⟩ := HFIN.out _ _ _ HENV.out HV8.out hgf8
     refine ⟨by simp, .inl ⟨_, _, rfl, run_takeDeferred hK8, ?_⟩⟩
     exact ⟨_, results_none rfl _ _ _, rfl, keyL ys, HS.out, hout⟩
end Go.Proofs.YtnknejokneddbaaGreatDoor
