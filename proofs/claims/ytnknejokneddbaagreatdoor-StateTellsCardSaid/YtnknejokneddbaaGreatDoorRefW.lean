/- The reference: file, Of; what StateTells needs. -/
import Derived.Test.YtnknejokneddbaaGreatDoorRefV
import Derived.Test.YtnknejokneddbaaGreatDoorStaI
import Derived.Test.YtnknejokneddbaaGreatDoorStaF
import Derived.Test.YtnknejokneddbaaGreatDoorMixA
namespace Go.Proofs.YtnknejokneddbaaGreatDoor
open Go.RowKit
set_option maxRecDepth 100000
set_option maxHeartbeats 16000000
theorem LnesAt.dead {w : World} {lo hi b off n i : Nat} {l : List Lne} (h : LnesAt w lo hi (some ⟨b, off, none⟩) n l) (hi' : i < n) :
  LnesAt (w.setCell ⟨b, off + i * 4 + 3, none⟩ (.bool true)) lo hi (some ⟨b, off, none⟩) n (l.set i (nID (l[i]?.getD lne0), nTxt (l[i]?.getD lne0), true)) :=
 ⟨by rw [List.length_set]; exact h.len, fun hn => by
  obtain ⟨b', off', e, h1, h2, h3, hc⟩ := h.cell hn
  cases e
  refine ⟨b, off, rfl, h1, h2, Zn h3 (setN w b (off + i * 4 + 3) (.bool true)).size, fun j hj => ?_⟩
  obtain ⟨c0, c1, c2, c3⟩ := hc j hj
  have ne : ∀ k, k ≠ off + i * 4 + 3 -> ∀ u, w.cell? ⟨b, k, none⟩ = some u -> (w.setCell ⟨b, off + i * 4 + 3, none⟩ (.bool true)).cell? ⟨b, k, none⟩ = some u := fun k hk u hu => by
   rw [World.cell?_setCell_other]
   ·exact hu
   ·intro e
    exact hk (congrArg Addr.off e).symm
  by_cases e : j = i
  ·subst e
   have hjl : j < l.length := by rw [h.len]; exact hj
   rw [List.getElem?_set_self hjl]
   exact ⟨ne _ (by omega) _ c0, ne _ (by omega) _ c1, ne _ (by omega) _ c2, World.cell?_setCell_same _ _ _ c3⟩
  ·rw [List.getElem?_set_ne (by omega)]
   exact ⟨ne _ (by omega) _ c0, ne _ (by omega) _ c1, ne _ (by omega) _ c2, ne _ (by omega) _ c3⟩⟩
theorem relE_suppW (ls : List Lne) (es : List Ed) : Supp ls.length (relE ls es) := by
 intro a b h
 unfold relE at h
 obtain ⟨e, _, he⟩ := List.any_eq_true.1 h
 rw [Yv, Yb, Yb] at he
 exact ⟨atL_lt he.1, atL_lt he.2⟩
def edX (ys : List (Ln × Hk)) : List Ed := ys.flatMap fun y => hEdges y.2
def kiX (ys : List (Ln × Hk)) : List Ln := ys.flatMap fun y => hKills y.2
theorem edX_app (a b : List (Ln × Hk)) : edX (a ++ b) = edX a ++ edX b := List.flatMap_append
theorem kiX_app (a b : List (Ln × Hk)) : kiX (a ++ b) = kiX a ++ kiX b := List.flatMap_append
structure FiE (w W : World) (g4 g5 llo lhi rlo rhi rp nl : Nat) (p : Option Addr) (c : Nat) (path : ByteArray) (ls : List Lne) (E : List Ed) (K : List Ln) : Prop where
 b4 : BoxV W g4 [.string ⟨#[]⟩, .slice none 0 0, .slice none 0 0] 35
 b5 : BoxV W g5 [.string path, .slice p nl c, .slice none 0 0] 35
 lns : LnesAt W llo lhi p nl (markK ls K)
 soft : SoftL W p
 mat : IsMat W rlo rhi rp nl (relE ls E)
 g : w.grownBy W none
structure FiS (w : World) (g4 g5 llo lhi rlo : Nat) : Prop where
 s0 : w.heap.size <= g4
 s1 : g4 < llo
 s2 : lhi <= g5
 s3 : g5 < rlo
 s4 : llo <= lhi
section
variable {w W W' : World} {g4 g5 llo lhi rlo rhi rp nl : Nat} {p : Option Addr} {c : Nat} {path : ByteArray} {ls : List Lne} {E : List Ed} {K : List Ln}
theorem FiE.calm (h : FiE w W g4 g5 llo lhi rlo rhi rp nl p c path ls E K) (hg : W.grownBy W' none) : FiE w W' g4 g5 llo lhi rlo rhi rp nl p c path ls E K :=
 ⟨h.b4.calm hg, h.b5.calm hg, h.lns.calm hg, h.soft.calm hg, h.mat.calm hg, Zb h.g hg⟩
theorem FiE.mark (h : FiE w W g4 g5 llo lhi rlo rhi rp nl p c path ls E K) (s : FiS w g4 g5 llo lhi rlo) (hs : stL ls) (hl : ls.length = nl) {k : Ln} {i : Nat} (hat : atL ls k = some i) :
  ∃ b off, p = some ⟨b, off, none⟩ /\ b < lhi /\ (∃ d, W.cell? ⟨b, off + i * 4 + 3, none⟩ = some (.bool d)) /\ W.frozen? ⟨b, off + i * 4 + 3, none⟩ = false /\ FiE w (W.setCell ⟨b, off + i * 4 + 3, none⟩ (.bool true)) g4 g5 llo lhi rlo rhi rp nl p c path ls E (K ++ [k]) := by
 have hi : i < nl := by rw [<- hl]; exact atL_lt hat
 obtain ⟨b, off, rfl, h1, h2, h3, hc⟩ := h.lns.cell (by omega)
 have t0 := s.s0
 have t1 := s.s1
 have t2 := s.s2
 have t3 := s.s3
 obtain ⟨cur, hcur⟩ := h.soft b off rfl
 have hm : (markK ls K).length = nl := by rw [markK_len]; exact hl
 refine ⟨b, off, rfl, h2, ⟨_, (hc i hi).2.2.2⟩, by simp [World.frozen?, hcur], keepOne h.b4 (by omega) _ _, keepOne h.b5 (by omega) _ _, ?_, h.soft.set _ _ _, ?_, Yx h.g (Zz W ⟨b, off + i * 4 + 3, none⟩ (.bool true)) (by show w.heap.size <= b; omega)⟩
 ·have := h.lns.dead hi
  rw [markK_yes hs hat]
  have e : (markK ls K)[i]?.getD lne0 = (nID (ls[i]?.getD lne0), nTxt (ls[i]?.getD lne0), nDead (ls[i]?.getD lne0) || K.any fun k => decide (k = nID (ls[i]?.getD lne0))) := by
   rw [Zm (show i < (markK ls K).length by omega), Zm (show i < ls.length by omega)]
   exact markK_at ls K (by omega) (by omega)
  rw [e] at this
  exact this
 ·exact h.mat.kept (setN W b (off + i * 4 + 3) (.bool true)).size fun j hj1 hj2 => Below.heap_setCell _ _ _ _ (by show j ≠ b; omega)
theorem FiE.none (h : FiE w W g4 g5 llo lhi rlo rhi rp nl p c path ls E K) {k : Ln} (hat : atL ls k = Option.none) : FiE w W g4 g5 llo lhi rlo rhi rp nl p c path ls E (K ++ [k]) :=
 { h with lns := by rw [markK_no hat]; exact h.lns }
theorem FiE.skip (h : FiE w W g4 g5 llo lhi rlo rhi rp nl p c path ls E K) {e : Ed} (hat : atL ls e.1 = Option.none ∨ atL ls e.2 = Option.none) : FiE w W g4 g5 llo lhi rlo rhi rp nl p c path ls (E ++ [e]) K :=
 { h with mat := by rw [relE_no hat]; exact h.mat }
theorem FiE.edge (h : FiE w W g4 g5 llo lhi rlo rhi rp nl p c path ls E K) (s : FiS w g4 g5 llo lhi rlo) (hl : ls.length = nl) {e : Ed} {a b : Nat} (ha : atL ls e.1 = some a) (hb : atL ls e.2 = some b) :
  ∃ mb rb cap, W.cell? ⟨rp, 1, Option.none⟩ = some (.slice (some ⟨mb, 0, Option.none⟩) nl cap) /\ W.cell? ⟨mb, a, Option.none⟩ = some (.slice (some ⟨rb, 0, Option.none⟩) nl nl) /\ (∃ d, W.cell? ⟨rb, b, Option.none⟩ = some (.bool d)) /\ W.frozen? ⟨rb, b, Option.none⟩ = false /\
   (∀ g, g < W.heap.size -> ¬ (rlo <= g /\ g < rhi) -> (W.setCell ⟨rb, b, Option.none⟩ (.bool true)).heap[g]? = W.heap[g]?) /\ FiE w (W.setCell ⟨rb, b, Option.none⟩ (.bool true)) g4 g5 llo lhi rlo rhi rp nl p c path ls (E ++ [e]) K := by
 have ha' : a < nl := by rw [<- hl]; exact atL_lt ha
 have hb' : b < nl := by rw [<- hl]; exact atL_lt hb
 have t0 := s.s0
 have t1 := s.s1
 have t2 := s.s2
 have t3 := s.s3
 have t4 := s.s4
 have hT : ∀ x y, relE ls (E ++ [e]) x y = if x = a /\ y = b then true else relE ls E x y := fun x y => by
  unfold relE
  rw [List.any_append, List.any_cons, List.any_nil, Bool.or_false, ha, hb]
  by_cases hxy : x = a /\ y = b
  ·rw [if_pos hxy, hxy.1, hxy.2]; simp
  ·rw [if_neg hxy]
   have : (decide (some a = some x) && decide (some b = some y)) = false := by
    rw [Bool.and_eq_false_iff, decide_eq_false_iff_not, decide_eq_false_iff_not]
    by_cases e1 : a = x
    ·exact .inr fun e2 => hxy ⟨e1.symm, (Option.some.inj e2).symm⟩
    ·exact .inl fun e2 => e1 (Option.some.inj e2)
   rw [this, Bool.or_false]
 have hsp : Supp nl (relE ls (E ++ [e])) := by rw [<- hl]; exact relE_suppW _ _
 obtain ⟨pm, mb, rb, cap, rfl, c1, c2, c3, hf, hput⟩ := h.mat.put ha' hb' true hT hsp
 obtain ⟨hm, hk⟩ := hput W rfl rfl rfl rfl
 refine ⟨mb, rb, cap, c1, c2, ⟨_, c3⟩, hf, hk.block, (hk.block g4 h.b4.lt (by omega)).trans h.b4, (hk.block g5 h.b5.lt (by omega)).trans h.b5, ?_, fun b' off' e' => ?_, hm, Kept.new h.g hk (by omega)⟩
 ·exact ⟨h.lns.len, fun hn => by
   obtain ⟨b', off', e', q1, q2, q3, hc⟩ := h.lns.cell hn
   have hbk : (W.setCell ⟨rb, b, Option.none⟩ (.bool true)).heap[b']? = W.heap[b']? := hk.block b' (by omega) (by omega)
   exact ⟨b', off', e', q1, q2, Zn q3 hk.size, fun i hi => ⟨(Zs (a := ⟨b', _, Option.none⟩) hbk).trans (hc i hi).1, (Zs (a := ⟨b', _, Option.none⟩) hbk).trans (hc i hi).2.1, (Zs (a := ⟨b', _, Option.none⟩) hbk).trans (hc i hi).2.2.1, (Zs (a := ⟨b', _, Option.none⟩) hbk).trans (hc i hi).2.2.2⟩⟩⟩
 ·exact (h.soft.set rb b (.bool true)) b' off' e'
end
def SoftR (w : World) (p : Option Addr) : Prop := ∀ b off, p = some ⟨b, off, none⟩ -> ∃ cur : Array Value, w.heap[b]? = some (.cells cur 88 (0, 0))
theorem SoftR.far {w : World} {p : Option Addr} (h : SoftR w p) (g k : Nat) (v : Value) : SoftR (w.setCell ⟨g, k, none⟩ v) p := fun b off e => by
 obtain ⟨cur, hc⟩ := h b off e
 have hb : BoxV w b cur.toList 88 := hc
 by_cases e2 : b = g
 ·subst e2
  exact ⟨_, hb.set k v⟩
 ·exact ⟨_, keepOne hb e2 k v⟩
theorem SoftR.own {w : World} {base n c : Nat} {p : Option Addr} {xs : List Value} (h : w.ownsRow base 88 2 (.slice p n c) n xs) : SoftR w p := fun b off e => by
 rcases h.2 with ⟨e1, _⟩ | ⟨g, cap, cur, e1, _, hg, _⟩
 ·cases e1; cases e
 ·cases e1; cases e; exact ⟨cur, hg⟩
theorem prs_span {w : World} {lo lo' hi n : Nat} {p : Option Addr} {l : List (Int × Int)} (h : PairsAt w lo hi p n l) (hl : lo' <= lo) : PairsAt w lo' w.heap.size p n l := ⟨h.len, fun hn => by
 obtain ⟨b, off, e, h1, h2, h3, hc⟩ := h.cell hn
 exact ⟨b, off, e, by omega, by omega, Zc _, hc⟩⟩
theorem atL_markK (ls : List Lne) (K : List Ln) (x : Ln) : atL (markK ls K) x = atL ls x := by
 unfold atL markK
 rw [List.findIdx?_map]
 rfl
theorem atV_markK (ls : List Lne) (K : List Ln) (x : Ln) : atV (markK ls K) x = atV ls x := by
 unfold atV
 rw [atL_markK]
theorem markK_nil (ls : List Lne) : markK ls [] = ls := by
 unfold markK killK
 refine (List.map_congr_left (g := id) fun x _ => ?_).trans (List.map_id _)
 show (nID x, nTxt x, nDead x || false) = x
 rw [Bool.or_false]
theorem refFile_c (p : Option Addr) (n c lo hi : Nat) (l : List Pt) (path : ByteArray) (w : World) (h : PtsAt w lo hi p n l) (hn : n <= 80) (hb : ∀ x ∈ l, (pHunks x).length <= 8 /\ ∀ h ∈ pHunks x, (hAdds h).length <= 50)
  (hb2 : ∀ x ∈ l, ∀ h ∈ pHunks x, (hEdges h).length <= 90 /\ (hKills h).length <= 50) (ha : stL (linesOfL l path)) (hl : (linesOfL l path).length <= 200) :
  Calls Tryz.prog 40 #[.slice p n c, .string path] w fun e w' => ∃ pl cl pp cp, e = .returned (.agg #[.string path, .slice pl (linesOfL l path).length cl, .slice pp (fPairs (fileL l path)).length cp]) /\ FlAt w' w.heap.size w'.heap.size pl (linesOfL l path).length cl pp (fPairs (fileL l path)).length cp (fileL l path) /\ SoftL w' pl /\ SoftR w' pp /\ w.grownBy w' none := by
 have H := Za h
 have HLN := Za h.len
 have HB := Za hb2
 have HB1 := Za hb
 have HA := Za ha
 have HGA := Za (Zd w (.cells #[.string ⟨#[]⟩, .slice none 0 0, .slice none 0 0] 35) none)
 have HB4 := Za (BoxV.new w [.string ⟨#[]⟩, .slice none 0 0, .slice none 0 0] 35)
 have HZ1 : Hid ((w.alloc (.cells #[.string ⟨#[]⟩, .slice none 0 0, .slice none 0 0] 35)).heap.size = w.heap.size + 1) := Za (by simp)
 have HCL := Za (refLines13_s p n c lo hi l path _ (h.calm HGA.out) hn hb)
 clear h hb hb2 ha
 go_enter Tryz.func40, Tryz.ntmps40
 go_upto_region 1 with fail
 generalize World.alloc w _ = w1 at *
 generalize hg4 : w.heap.size = g4 at *
 have HG4 : Hid (w.heap.size <= g4) := Za (Nat.le_of_eq hg4)
 have HGE := Za hg4
 clear hg4
 go_wp2_with fail
 refine HCL.out.mono ?_
 rintro e w2 ⟨q, cq, rfl, hls, hlc, hq0, hsf, hg2⟩
 obtain ⟨ls, hlse⟩ : ∃ ls, linesOfL l path = ls := ⟨_, rfl⟩
 have HLE := Za hlse
 rw [hlse] at hls hlc hl HA
 rw [hlse]
 obtain ⟨nl, hnl⟩ : ∃ nl, ls.length = nl := ⟨_, rfl⟩
 have HNL := Za hnl
 rw [hnl] at hls hlc hl
 rw [hnl]
 clear hlse hnl HCL
 have hgx := Zd w2 (.cells #[.string path, .slice q nl cq, .slice none 0 0] 35) none
 have HB5 := Za (BoxV.new w2 [.string path, .slice q nl cq, .slice none 0 0] 35)
 have HB43 := Za ((HB4.out.calm hg2).calm hgx)
 have HLS := Za (hls.calm hgx)
 have HSF := Za (hsf.calm hgx)
 have HG3 := Za (Zb HGA.out (Zb hg2 hgx))
 have HZ2 : Hid (w1.heap.size <= w2.heap.size) := Za hg2.size
 have HZ3 : Hid ((w2.alloc (.cells #[.string path, .slice q nl cq, .slice none 0 0] 35)).heap.size = w2.heap.size + 1) := Za (by simp)
 have HLC := Za hlc
 have HQ0 := Za hq0
 clear hls hlc hq0 hsf hg2 hgx HB4 HGA
 go_upto_region 2 with fail
 generalize World.alloc w2 _ = w3 at *
 generalize hg5 : w2.heap.size = g5 at *
 clear hg5
 obtain ⟨z0, z1, z2⟩ := HB5.out.three
 go_wp2_with fail
 refine (matNew_c nl w3 hl).mono ?_
 rintro e w4 ⟨rp, rfl, hmat, hg4⟩
 have HS : Hid (FiS w g4 g5 w1.heap.size g5 w3.heap.size) := Za ⟨HG4.out, by have := HZ1.out; have := HGE.out; omega, Zc _, by have := HZ3.out; omega, HZ2.out⟩
 have HE0 : Hid (FiE w w4 g4 g5 w1.heap.size g5 w3.heap.size w4.heap.size rp nl q cq path ls (edX (hksL path (l.take 0))) (kiX (hksL path (l.take 0)))) := Za
  ⟨HB43.out.calm hg4, HB5.out.calm hg4, by
   have e : markK ls (kiX (hksL path (l.take 0))) = ls := markK_nil ls
   rw [e]
   exact HLS.out.calm hg4, HSF.out.calm hg4, hmat, Zb HG3.out hg4⟩
 clear hmat hg4 z0 z1 z2 HB43 HB5 HLS HSF HG3 HGE HZ1 HZ2 HZ3
 generalize w1.heap.size = llo at *
 generalize w3.heap.size = rlo at *
 generalize w4.heap.size = rhi at *
 go_wp2
 go_loopw [7] (fun v wr => ∃ i : Nat, i <= n /\ v = .int .i64 i /\ Hid (FiE w wr g4 g5 llo g5 rlo rhi rp nl q cq path ls (edX (hksL path (l.take i))) (kiX (hksL path (l.take i))))) (fun v _ => n - (intOf v).toNat)
 case atStart => exact ⟨0, Ze _, rfl, HE0⟩
 case round =>
 clear HE0
 obtain ⟨i, hi', rfl, HF⟩ := hrel
 by_cases hin : i < n
 ·have i0 : (0 : Int) <= i := by omega
  have i1 : (i : Int) < n := by omega
  obtain ⟨b, o, rfl, _, _, _, hc⟩ := H.out.cell (by omega)
  obtain ⟨pd, nd, cd, pm, nm, cm, px, nx, cx, ph, nh, ch, _, _, _, _, c4, hp⟩ := hc i hin
  have hil : i < l.length := by rw [HLN.out]; exact hin
  have HX := Za (HB.out _ (Zr (d := pt0) hil))
  have HSP : Hid (hksL path (l.take (i + 1)) = hksL path (l.take i) ++ hksK path (l[i]?.getD pt0) nh) := Za (by
   unfold hksL
   rw [flat_take _ hil pt0]
   show _ ++ hksK path (l[i]?.getD pt0) (pHunks (l[i]?.getD pt0)).length = _
   rw [hp.hunks.len])
  have HHS := Za hp.hunks
  have hnh : nh <= 8 := by rw [<- hp.hunks.len]; exact (HB1.out _ (Zr (d := pt0) hil)).1
  have HC4 := Za c4
  clear hc hp c4
  generalize l[i]?.getD pt0 = x at *
  generalize hksL path (l.take i) = H0 at *
  have a4 := Zh HF.out.g HC4.out
  go_wp2
  clear a4
  go_loopw [8] (fun v wr => ∃ k : Nat, k <= nh /\ v = .int .i64 k /\ Hid (FiE w wr g4 g5 llo g5 rlo rhi rp nl q cq path ls (edX (H0 ++ hksK path x k)) (kiX (H0 ++ hksK path x k)))) (fun v _ => nh - (intOf v).toNat)
  case atStart => exact ⟨0, Ze _, rfl, Za (by show FiE w _ g4 g5 llo g5 rlo rhi rp nl q cq path ls (edX (H0 ++ [])) (kiX (H0 ++ [])); rw [Xq]; exact HF.out)⟩
  case round =>
  clear HF
  obtain ⟨k, hk, rfl, HF⟩ := hrel
  have a4 := Zh HF.out.g HC4.out
  by_cases hkn : k < nh
  ·have k0 : (0 : Int) <= k := by omega
   have k1 : (k : Int) < nh := by omega
   have hkl : k < (pHunks x).length := by rw [HHS.out.len]; exact hkn
   obtain ⟨bh, oh, rfl, _, _, _, hch⟩ := HHS.out.cell (by omega)
   obtain ⟨pa, na, ca, pe, ne, ce, pk, nk, ck, h0, h1, h2, h3, hh⟩ := hch k hkn
   have hbb := HX.out _ (Zr (d := hk0) hkl)
   have hne : ne <= 90 := by rw [<- hh.edges.len]; exact hbb.1
   have hnk : nk <= 50 := by rw [<- hh.kills.len]; exact hbb.2
   have HKS : Hid (H0 ++ hksK path x (k + 1) = (H0 ++ hksK path x k) ++ (if hPath ((pHunks x)[k]?.getD hk0) = path then [((pID x, ((addsN (pHunks x) k : Nat) : Int)), (pHunks x)[k]?.getD hk0)] else [])) := Za (by rw [Xa]; rfl)
   have HHE := Za hh.edges
   have HHK := Za hh.kills
   replace h0 := Zh HF.out.g h0
   replace h1 := Zh HF.out.g h1
   replace h2 := Zh HF.out.g h2
   replace h3 := Zh HF.out.g h3
   clear hch hh hbb
   generalize (pHunks x)[k]?.getD hk0 = y at *
   generalize H0 ++ hksK path x k = H1 at *
   have hga := Zd wr (.cells #[.string (hPath y), .slice pa na ca, .slice pe ne ce, .slice pk nk ck] 68) none
   have HFA := Za (HF.out.calm hga)
   have HBH := Za (BoxV.new wr [.string (hPath y), .slice pa na ca, .slice pe ne ce, .slice pk nk ck] 68)
   have HGH : Hid (rhi <= wr.heap.size /\ g5 < wr.heap.size) := Za ⟨HF.out.mat.top, HF.out.b5.lt⟩
   clear hga HF
   go_upto_region 10 with fail
   clear h0 h1 h2 h3 a4
   generalize World.alloc wr _ = wh at *
   generalize wr.heap.size = gh at *
   obtain ⟨y0, y1, y2, y3⟩ := HBH.out.four
   by_cases hpp : hPath y = path
   ·have e2 := Xz hpp
    have HEX : Hid (edX (H0 ++ hksK path x (k + 1)) = edX H1 ++ hEdges y) := Za (by rw [HKS.out, if_pos hpp, edX_app]; simp [edX])
    have HKX : Hid (kiX (H0 ++ hksK path x (k + 1)) = kiX H1 ++ hKills y) := Za (by rw [HKS.out, if_pos hpp, kiX_app]; simp [kiX])
    clear hpp HKS
    generalize edX H1 = E0 at *
    generalize kiX H1 = K0 at *
    go_wp2
    clear y0 y1 y2 y3
    go_loopw [10, 11, 12] (fun v x11 x12 wr => ∃ j : Nat, j <= ne /\ v = .int .i64 j /\ Hid (FiE w wr g4 g5 llo g5 rlo rhi rp nl q cq path ls (E0 ++ (hEdges y).take j) K0) /\ Hid (BoxV wr gh [.string (hPath y), .slice pa na ca, .slice pe ne ce, .slice pk nk ck] 68)) (fun v _ _ _ => ne - (intOf v).toNat)
    case atStart => exact ⟨0, Ze _, rfl, Za (by rw [List.take_zero, Xq]; exact HFA.out), HBH⟩
    case round =>
    clear HFA HBH
    obtain ⟨j, hj, rfl, HF, HBH⟩ := hrel
    obtain ⟨y0, y1, y2, y3⟩ := HBH.out.four
    by_cases hjn : j < ne
    ·as_aux_lemma =>
     have j0 : (0 : Int) <= j := by omega
     have j1 : (j : Int) < ne := by omega
     have hjl : j < (hEdges y).length := by rw [HHE.out.len]; exact hjn
     obtain ⟨be, oe, rfl, _, _, _, hce⟩ := (HHE.out.calm HF.out.g).cell (by omega)
     obtain ⟨d0, d1, d2, d3⟩ := hce j hjn
     have HTK : Hid (E0 ++ (hEdges y).take (j + 1) = (E0 ++ (hEdges y).take j) ++ [(hEdges y)[j]?.getD ((0, 0), (0, 0))]) := Za (by
      rw [Xi hjl, Zm hjl, <- Xa]
      rfl)
     clear hce
     generalize (hEdges y)[j]?.getD ((0, 0), (0, 0)) = ed at *
     generalize E0 ++ (hEdges y).take j = E at *
     obtain ⟨⟨u1, u2⟩, ⟨v1, v2⟩⟩ := ed
     obtain ⟨va, hva⟩ : ∃ va, atV ls (u1, u2) = va := ⟨_, rfl⟩
     obtain ⟨vb, hvb⟩ : ∃ vb, atV ls (v1, v2) = vb := ⟨_, rfl⟩
     have hT := Za (fun z : Later wr => Yy (fun w' hg => refAt_c path (markK ls K0) u1 u2 q nl cq none 0 0 _ _ w' (HF.out.lns.calm hg) (by omega)) z)
     have hS := Za (fun z : Later wr => Yy (fun w' hg => refAt_c path (markK ls K0) v1 v2 q nl cq none 0 0 _ _ w' (HF.out.lns.calm hg) (by omega)) z)
     rw [atV_markK, hva] at hT
     rw [atV_markK, hvb] at hS
     have HVA := Za hva
     have HVB := Za hvb
     clear hva hvb
     obtain ⟨z0, z1, z2⟩ := HF.out.b5.three
     replace d0 : wr.cell? ⟨be, oe + j * 4, none⟩ = some (.int .u32 (u1 : Int)) := d0
     replace d1 : wr.cell? ⟨be, oe + j * 4 + 1, none⟩ = some (.int .i64 u2) := d1
     replace d2 : wr.cell? ⟨be, oe + j * 4 + 2, none⟩ = some (.int .u32 (v1 : Int)) := d2
     replace d3 : wr.cell? ⟨be, oe + j * 4 + 3, none⟩ = some (.int .i64 v2) := d3
     have q0 := fun z : Later wr => Zk z0 z
     have q1 := fun z : Later wr => Zk z1 z
     have q2 := fun z : Later wr => Zk z2 z
     have q3 := fun z : Later wr => Zk y2 z
     have q4 := fun z : Later wr => Zk d0 z
     have q5 := fun z : Later wr => Zk d1 z
     have q6 := fun z : Later wr => Zk d2 z
     have q7 := fun z : Later wr => Zk d3 z
     have hne5 := later_one wr
     go_upto_region 14 with fail
     clear d0 d1 d2 d3 z0 z1 z2 y0 y1 y2 y3
     refine Zz0 (by kernel_rfl) (by kernel_rfl) ?_
     repeat (go_big_quiet_step ((go_at_call 50; first | (with_reducible exact hT.out _) | (with_reducible exact hS.out _))))
     refine Ya ?_
     rintro _ ⟨z, rfl⟩
     clear q0 q1 q2 q3 q4 q5 q6 q7 hne5 hT hS
     have HFZ := Za (HF.out.calm z.ok)
     have HBZ := Za (HBH.out.calm z.ok)
     clear HF HBH
     generalize z.at_ = wz at *
     clear z
     cases ha1 : atL ls (u1, u2) with
     | none =>
      obtain rfl : va = -1 := by rw [<- HVA.out]; unfold atV; rw [ha1]
      have HN := Za (HFZ.out.skip (e := ((u1, u2), (v1, v2))) (.inl ha1))
      go_wp2
      exact ⟨⟨j + 1, by omega, by go_num, Za (by rw [HTK.out]; exact HN.out), HBZ⟩, by simp [intOf]; omega⟩
     | some a =>
      obtain rfl : va = (a : Int) := by rw [<- HVA.out]; unfold atV; rw [ha1]
      have a0 : (0 : Int) <= (a : Int) := by omega
      cases hb1 : atL ls (v1, v2) with
      | none =>
       obtain rfl : vb = -1 := by rw [<- HVB.out]; unfold atV; rw [hb1]
       have HN := Za (HFZ.out.skip (e := ((u1, u2), (v1, v2))) (.inr hb1))
       go_wp2
       exact ⟨⟨j + 1, by omega, by go_num, Za (by rw [HTK.out]; exact HN.out), HBZ⟩, by simp [intOf]; omega⟩
      | some b2 =>
       obtain rfl : vb = (b2 : Int) := by rw [<- HVB.out]; unfold atV; rw [hb1]
       have b0 : (0 : Int) <= (b2 : Int) := by omega
       have a1 : (a : Int) < nl := by have := atL_lt ha1; have := HNL.out; omega
       have b1 : (b2 : Int) < nl := by have := atL_lt hb1; have := HNL.out; omega
       obtain ⟨mb, rb, cap, c1, c2, ⟨d, c3⟩, hf, hblk, hE⟩ := HFZ.out.edge HS.out HNL.out (e := ((u1, u2), (v1, v2))) ha1 hb1
       have HE := Za hE
       have HBX : Hid (BoxV (wz.setCell ⟨rb, b2, none⟩ (.bool true)) gh [.string (hPath y), .slice pa na ca, .slice (some ⟨be, oe, none⟩) ne ce, .slice pk nk ck] 68) := Za ((hblk gh HBZ.out.lt (by have := HGH.out.1; omega)).trans HBZ.out)
       clear hE hblk ha1 hb1
       go_wp2
       exact ⟨⟨j + 1, by omega, by go_num, Za (by rw [HTK.out]; exact HE.out), HBX⟩, by simp [intOf]; omega⟩
    ·obtain rfl : ne = j := by omega
     have j1 : ¬ ((ne : Int) < ne) := by omega
     have HFB : Hid (FiE w wr g4 g5 llo g5 rlo rhi rp nl q cq path ls (E0 ++ hEdges y) K0) := Za (by have h9 := HF.out; rwa [Yl (by rw [HHE.out.len]; exact Zc _)] at h9)
     clear HF
     go_wp2
     clear y0 y1 y2 y3
     go_loopw [13, 14] (fun v x14 wr => ∃ j : Nat, j <= nk /\ v = .int .i64 j /\ Hid (FiE w wr g4 g5 llo g5 rlo rhi rp nl q cq path ls (E0 ++ hEdges y) (K0 ++ (hKills y).take j)) /\ Hid (BoxV wr gh [.string (hPath y), .slice pa na ca, .slice pe ne ce, .slice pk nk ck] 68)) (fun v _ _ => nk - (intOf v).toNat)
     case atStart => exact ⟨0, Ze _, rfl, Za (by rw [List.take_zero, Xq]; exact HFB.out), HBH⟩
     case round =>
     clear HFB HBH
     obtain ⟨j, hj, rfl, HF, HBH⟩ := hrel
     obtain ⟨y0, y1, y2, y3⟩ := HBH.out.four
     by_cases hjn : j < nk
     ·as_aux_lemma =>
      have j0 : (0 : Int) <= j := by omega
      have j1 : (j : Int) < nk := by omega
      have hjl : j < (hKills y).length := by rw [HHK.out.len]; exact hjn
      obtain ⟨be, oe, rfl, _, _, _, hce⟩ := (HHK.out.calm HF.out.g).cell (by omega)
      obtain ⟨d0, d1⟩ := hce j hjn
      have HTK : Hid (K0 ++ (hKills y).take (j + 1) = (K0 ++ (hKills y).take j) ++ [(hKills y)[j]?.getD (0, 0)]) := Za (by
       rw [Xi hjl, Zm hjl, <- Xa]
       rfl)
      clear hce
      generalize (hKills y)[j]?.getD (0, 0) = ki at *
      generalize K0 ++ (hKills y).take j = K at *
      generalize E0 ++ hEdges y = E at *
      obtain ⟨u1, u2⟩ := ki
      obtain ⟨va, hva⟩ : ∃ va, atV ls (u1, u2) = va := ⟨_, rfl⟩
      have hT := Za (fun z : Later wr => Yy (fun w' hg => refAt_c path (markK ls K) u1 u2 q nl cq none 0 0 _ _ w' (HF.out.lns.calm hg) (by omega)) z)
      rw [atV_markK, hva] at hT
      have HVA := Za hva
      clear hva
      obtain ⟨z0, z1, z2⟩ := HF.out.b5.three
      replace d0 : wr.cell? ⟨be, oe + j * 2, none⟩ = some (.int .u32 (u1 : Int)) := d0
      replace d1 : wr.cell? ⟨be, oe + j * 2 + 1, none⟩ = some (.int .i64 u2) := d1
      have q0 := fun z : Later wr => Zk z0 z
      have q1 := fun z : Later wr => Zk z1 z
      have q2 := fun z : Later wr => Zk z2 z
      have q3 := fun z : Later wr => Zk y3 z
      have q4 := fun z : Later wr => Zk d0 z
      have q5 := fun z : Later wr => Zk d1 z
      have hne5 := later_one wr
      go_upto_region 20 with fail
      clear d0 d1 z0 z1 z2 y0 y1 y2 y3
      refine Zz0 (by kernel_rfl) (by kernel_rfl) ?_
      repeat (go_big_quiet_step ((go_at_call 50; with_reducible exact hT.out _)))
      refine Ya ?_
      rintro _ ⟨z, rfl⟩
      clear q0 q1 q2 q3 q4 q5 hne5 hT
      have HFZ := Za (HF.out.calm z.ok)
      have HBZ := Za (HBH.out.calm z.ok)
      clear HF HBH
      generalize z.at_ = wz at *
      clear z
      cases ha1 : atL ls (u1, u2) with
      | none =>
       obtain rfl : va = -1 := by rw [<- HVA.out]; unfold atV; rw [ha1]
       have HN := Za (HFZ.out.none (k := (u1, u2)) ha1)
       go_wp2
       exact ⟨⟨j + 1, by omega, by go_num, Za (by rw [HTK.out]; exact HN.out), HBZ⟩, by simp [intOf]; omega⟩
      | some a =>
       obtain rfl : va = (a : Int) := by rw [<- HVA.out]; unfold atV; rw [ha1]
       have a0 : (0 : Int) <= (a : Int) := by omega
       have a1 : (a : Int) < nl := by have := atL_lt ha1; have := HNL.out; omega
       obtain ⟨bl, ol, epl, hlt, ⟨d, c3⟩, hf, hE⟩ := HFZ.out.mark HS.out HA.out HNL.out (k := (u1, u2)) ha1
       have HE := Za hE
       have HBX := Za (keepOne HBZ.out (show gh ≠ bl by have := HGH.out.2; omega) (ol + a * 4 + 3) (.bool true))
       have z1 := HFZ.out.b5.three.2.1
       rw [epl] at z1
       clear hE ha1 hlt
       go_wp2
       exact ⟨⟨j + 1, by omega, by go_num, Za (by rw [HTK.out]; exact HE.out), HBX⟩, by simp [intOf]; omega⟩
     ·obtain rfl : nk = j := by omega
      have j1 : ¬ ((nk : Int) < nk) := by omega
      have HF2 : Hid (FiE w wr g4 g5 llo g5 rlo rhi rp nl q cq path ls (edX (H0 ++ hksK path x (k + 1))) (kiX (H0 ++ hksK path x (k + 1)))) := Za (by
       rw [HEX.out, HKX.out]
       have h9 := HF.out
       rwa [Yl (by rw [HHK.out.len]; exact Zc _)] at h9)
      go_wp2
      exact ⟨⟨k + 1, by omega, by go_num, HF2⟩, by simp [intOf]; omega⟩
   ·have e2 := Xt hpp
    have HF2 : Hid (FiE w wh g4 g5 llo g5 rlo rhi rp nl q cq path ls (edX (H0 ++ hksK path x (k + 1))) (kiX (H0 ++ hksK path x (k + 1)))) := Za (by rw [HKS.out, if_neg hpp, Xq]; exact HFA.out)
    clear hpp
    go_wp2
    exact ⟨⟨k + 1, by omega, by go_num, HF2⟩, by simp [intOf]; omega⟩
  obtain rfl : nh = k := by omega
  have k1 : ¬ ((nh : Int) < nh) := by omega
  have HF2 : Hid (FiE w wr g4 g5 llo g5 rlo rhi rp nl q cq path ls (edX (hksL path (l.take (i + 1)))) (kiX (hksL path (l.take (i + 1))))) := Za (by rw [HSP.out]; exact HF.out)
  go_wp2
  exact ⟨⟨i + 1, by omega, by go_num, HF2⟩, by simp [intOf]; omega⟩
 obtain rfl : n = i := by omega
 have i1 : ¬ ((n : Int) < n) := by omega
 have HEE : Hid (FiE w wr g4 g5 llo g5 rlo rhi rp nl q cq path ls (edX (hksL path l)) (kiX (hksL path l))) := Za (by have h9 := HF.out; rwa [Yl (by rw [HLN.out]; exact Zc _)] at h9)
 have HMS : Hid (markK ls (kiX (hksL path l)) = fLines (fileL l path)) := Za (by
  rw [show fLines (fileL l path) = markL (linesOfL l path) (hksL path l) from rfl, HLE.out, markL_eq]
  rfl)
 have HPS : Hid (pairsL nl (clo nl (relE ls (edX (hksL path l)))) nl = fPairs (fileL l path)) := Za (by
  rw [show fPairs (fileL l path) = pairsL (linesOfL l path).length (clo (linesOfL l path).length (relS (linesOfL l path) (hksL path l))) (linesOfL l path).length from rfl, HLE.out, HNL.out, relS_eq]
  rfl)
 have HPT : Hid (fPath (fileL l path) = path) := Za rfl
 clear HF HA HB HB1 H
 obtain ⟨F, hF⟩ : ∃ F, fileL l path = F := ⟨_, rfl⟩
 have HFF := Za hF
 rw [hF] at HMS HPS HPT
 clear hF
 go_wp2_with fail
 refine (matClosure_c rlo rhi rp nl _ wr HEE.out.mat).mono ?_
 rintro e w5 ⟨rc, rfl, hmc, hg5⟩
 have HE5 := Za (HEE.out.calm hg5)
 have HMC := Za hmc
 clear HEE hmc hg5
 go_wp2_with fail
 refine (matPairs_o _ _ rc nl _ w5 HMC.out).mono ?_
 rintro e w6 ⟨vp, rfl, hrow, hg6⟩
 have HE6 := Za (HE5.out.calm hg6)
 rw [HPS.out] at hrow
 obtain ⟨pp, cp, rfl, hpa, hpc, hp0⟩ := pairs_ex hrow
 have HSR := Za (SoftR.own hrow)
 obtain ⟨np, hnp⟩ : ∃ np, (fPairs F).length = np := ⟨_, rfl⟩
 rw [hnp] at hpa hpc
 rw [hnp]
 have hb54 := HE5.out.b4.lt
 have hb55 := HE5.out.b5.lt
 have hb65 := HE6.out.b5.lt
 have t0 := HS.out.s0
 have t1 := HS.out.s1
 have t4 := HS.out.s4
 have HNPE := Za hnp
 have HPA := Za hpa
 have HPC := Za hpc
 have HP0 := Za hp0
 obtain ⟨z0, z1, z2⟩ := HE6.out.b5.three
 have fz := HE6.out.b5.free 2
 have h56 : w5.heap.size <= w6.heap.size := hg6.size
 clear hrow hpa hpc hp0 hg6 hnp
 go_upto_region 24 with fail
 clear z0 z1 z2 fz
 have HB5' := Za (HE6.out.b5.set 2 (.slice pp np cp))
 have HB4' := Za (keepOne HE6.out.b4 (show g4 ≠ g5 by omega) 2 (.slice pp np cp))
 have HL' := Za (HE6.out.lns.stay (Zu (Stay.of (Zi w6 none) (Nat.le_of_lt hb65)) (b := g5) (.inr (Zc _)) 2 (.slice pp np cp) (Nat.le_of_lt hb65)))
 have HP' := Za (HPA.out.stay (Zu (Stay.of (Zi w6 none) (Zc _)) (b := g5) (.inl hb55) 2 (.slice pp np cp) (Zc _)))
 have HSF' := Za (HE6.out.soft.set g5 2 (.slice pp np cp))
 have HSR' := Za (HSR.out.far g5 2 (.slice pp np cp))
 have HG' := Za (Yx HE6.out.g (Zz w6 ⟨g5, 2, none⟩ (.slice pp np cp)) (show w.heap.size <= g5 by omega))
 have hs7 : w6.heap.size <= (w6.setCell ⟨g5, 2, none⟩ (.slice pp np cp)).heap.size := (setN w6 g5 2 (.slice pp np cp)).size
 clear HSR
 generalize w6.heap.size = s6 at *
 generalize World.setCell w6 ⟨g5, 2, none⟩ _ = w7 at *
 obtain ⟨x0, x1, x2⟩ := HB5'.out.three
 obtain ⟨y0, y1, y2⟩ := HB4'.out.three
 have f0 := HB4'.out.free 0
 have f1 := HB4'.out.free 1
 have f2 := HB4'.out.free 2
 have HNB := Za (((HB4'.out.set 0 (.string path)).set 1 (.slice q nl cq)).set 2 (.slice pp np cp))
 have HNG := Za (set3_new HG'.out t0 (.string path) (.slice q nl cq) (.slice pp np cp))
 have HNL2 := Za (HL'.out.stay (Zu (Zu (Zu (Stay.of (Zi w7 none) (show g5 <= w7.heap.size by omega)) (b := g4) (.inl t1) 0 (.string path) (by omega)) (b := g4) (.inl t1) 1 (.slice q nl cq) (by omega)) (b := g4) (.inl t1) 2 (.slice pp np cp) (by omega)))
 have HNP := Za (HP'.out.stay (Zu (Zu (Zu (Stay.of (Zi w7 none) hs7) (b := g4) (.inl hb54) 0 (.string path) hs7) (b := g4) (.inl hb54) 1 (.slice q nl cq) hs7) (b := g4) (.inl hb54) 2 (.slice pp np cp) hs7))
 have HNS := Za (((HSF'.out.set g4 0 (.string path)).set g4 1 (.slice q nl cq)).set g4 2 (.slice pp np cp))
 have HNR := Za (((HSR'.out.far g4 0 (.string path)).far g4 1 (.slice q nl cq)).far g4 2 (.slice pp np cp))
 have t5 : w.heap.size <= w5.heap.size := HE5.out.g.size
 go_wp2
 generalize World.setCell _ ⟨g4, 2, none⟩ _ = wy at *
 obtain ⟨r0, r1, r2⟩ := BoxV.three HNB.out
 try simp only [Exit.inBlock, Exit.then]
 refine bodyPost_ret (v := .agg #[.string path, .slice q nl cq, .slice pp np cp]) (by simp [results, Tryz.results40, go_sem, r0, r1, r2]) rfl ?_
 have hml := HNL2.out
 rw [HMS.out] at hml
 rw [HLE.out, HNL.out, HFF.out, HNPE.out]
 exact ⟨q, cq, pp, cp, rfl, ⟨lnes_span hml (by omega), prs_span HNP.out t5, HLC.out, HPC.out, HQ0.out, HP0.out⟩, HNS.out, HNR.out, HNG.out⟩
def FirmF (W : World) (pl : Option Addr) (nl cl : Nat) (pp : Option Addr) (np cp : Nat) (f : Fl) : Prop := ∀ W' : World, W.heap.size <= W'.heap.size -> (∀ (g : Nat) (cur : Array Value) (t : TypeId), W.heap[g]? = some (.cells cur t (0, 0)) -> t ≠ 35 -> W'.heap[g]? = W.heap[g]?) -> FlAt W' 0 W'.heap.size pl nl cl pp np cp f
section
variable {W X : World} {pl : Option Addr} {nl cl : Nat} {pp : Option Addr} {np cp : Nat} {f : Fl}
theorem FirmF.of {lo hi : Nat} (h : FlAt W lo hi pl nl cl pp np cp f) (h1 : SoftL W pl) (h2 : SoftR W pp) : FirmF W pl nl cl pp np cp f := fun W' hs hk =>
 ⟨⟨h.lines.len, fun hn => by
  obtain ⟨b, off, rfl, _, q2, q3, hc⟩ := h.lines.cell hn
  obtain ⟨cur, hcur⟩ := h1 b off rfl
  have hb := hk b cur _ hcur (by decide)
  exact ⟨b, off, rfl, Ze _, by omega, Zc _, fun i hi => ⟨(Zs (a := ⟨b, _, none⟩) hb).trans (hc i hi).1, (Zs (a := ⟨b, _, none⟩) hb).trans (hc i hi).2.1, (Zs (a := ⟨b, _, none⟩) hb).trans (hc i hi).2.2.1, (Zs (a := ⟨b, _, none⟩) hb).trans (hc i hi).2.2.2⟩⟩⟩,
  ⟨h.pairs.len, fun hn => by
  obtain ⟨b, off, rfl, _, q2, q3, hc⟩ := h.pairs.cell hn
  obtain ⟨cur, hcur⟩ := h2 b off rfl
  have hb := hk b cur _ hcur (by decide)
  exact ⟨b, off, rfl, Ze _, by omega, Zc _, fun i hi => ⟨(Zs (a := ⟨b, _, none⟩) hb).trans (hc i hi).1, (Zs (a := ⟨b, _, none⟩) hb).trans (hc i hi).2⟩⟩⟩, h.ll, h.lp, h.zl, h.zp⟩
theorem FirmF.now (h : FirmF W pl nl cl pp np cp f) : FlAt W 0 W.heap.size pl nl cl pp np cp f := h W (Zc _) fun _ _ _ _ _ => rfl
theorem FirmF.step (h : FirmF W pl nl cl pp np cp f) (hs : W.heap.size <= X.heap.size) (hx : ∀ (g : Nat) (cur : Array Value) (t : TypeId), W.heap[g]? = some (.cells cur t (0, 0)) -> t ≠ 35 -> X.heap[g]? = W.heap[g]?) : FirmF X pl nl cl pp np cp f :=
 fun W' h1 h2 => h W' (Zn hs h1) fun g cur t hg ht => (h2 g cur t ((hx g cur t hg ht).trans hg) ht).trans (hx g cur t hg ht)
theorem FirmF.calm (h : FirmF W pl nl cl pp np cp f) (hg : W.grownBy X none) : FirmF X pl nl cl pp np cp f := h.step hg.size fun g cur t h1 _ => hg.block g (Zp.1 h1).1 (by simp)
theorem FirmF.app {base n : Nat} {v : Value} {xs : List Value} (h : FirmF W pl nl cl pp np cp f) (hr : W.ownsRow base 35 3 v n xs) (hg : W.grownBy X v.ownBlock) : FirmF X pl nl cl pp np cp f := h.step hg.size fun g cur t h1 h2 => hg.block g (Zp.1 h1).1 fun e => by
 rcases hr.2 with ⟨rfl, _⟩ | ⟨g', cap, cur', rfl, _, x2, _⟩
 ·cases e
 ·obtain rfl : g = g' := Option.some.inj e
  rw [x2] at h1
  simp only [Option.some.injEq, Obj.cells.injEq] at h1
  exact h2 h1.2.1.symm
end
structure FoE (w W : World) (v : Value) (T : List ByteArray) (k : Nat) (lv pv : Nat -> Value) (fs : Nat -> Fl) : Prop where
 row : W.ownsRow w.heap.size 35 3 v k (frow T lv pv k)
 at_ : ∀ j, j < k -> ∃ pl nl cl pp np cp, lv j = .slice pl nl cl /\ pv j = .slice pp np cp /\ fPath (fs j) = T[j]?.getD .empty /\ FirmF W pl nl cl pp np cp (fs j)
 g : w.grownBy W none
theorem FoE.push {w W W4 W5 X : World} {v v' : Value} {T : List ByteArray} {k : Nat} {lv pv : Nat -> Value} {fs : Nat -> Fl} (h : FoE w W v T k lv pv fs) (h4 : W.grownBy W4 none) (h5 : W4.grownBy W5 none) {pl : Option Addr} {nl cl : Nat} {pp : Option Addr} {np cp : Nat}
  (hp : fPath (fs k) = T[k]?.getD .empty) (hf : FirmF W4 pl nl cl pp np cp (fs k)) (hr5 : W5.ownsRow w.heap.size 35 3 v k (frow T lv pv k)) (hg : W5.grownBy X v.ownBlock)
  (hr : X.ownsRow w.heap.size 35 3 v' (k + 1) (frow T lv pv k ++ [.string (T[k]?.getD .empty), .slice pl nl cl, .slice pp np cp])) :
  FoE w X v' T (k + 1) (fun j => if j = k then .slice pl nl cl else lv j) (fun j => if j = k then .slice pp np cp else pv j) fs := by
 refine ⟨?_, fun j hj => ?_, ownsRow_new (Zb (Zb h.g h4) h5) hr5 hg⟩
 ·rw [frow_succ, if_pos rfl, if_pos rfl]
  rw [frow_congr (lv' := lv) (pv' := pv) (fun j hj => ⟨if_neg (by omega), if_neg (by omega)⟩)]
  exact hr
 ·by_cases e : j = k
  ·subst e
   exact ⟨pl, nl, cl, pp, np, cp, if_pos rfl, if_pos rfl, hp, (hf.calm h5).app hr5 hg⟩
  ·obtain ⟨ql, ml, dl, qp, mp, dp, e1, e2, e3, e4⟩ := h.at_ j (by omega)
   exact ⟨ql, ml, dl, qp, mp, dp, by rw [if_neg e]; exact e1, by rw [if_neg e]; exact e2, e3, ((e4.calm h4).calm h5).app hr5 hg⟩
theorem FoE.fls {w W : World} {v : Value} {T : List ByteArray} {k : Nat} {lv pv : Nat -> Value} {fs : Nat -> Fl} (h : FoE w W v T k lv pv fs) {L : List Fl} (hL : L.length = k) (hg : ∀ j, j < k -> L[j]?.getD fl0 = fs j) : ∃ p c, v = .slice p k c /\ FlsAt W 0 W.heap.size p k L := by
 rcases h.row.2 with ⟨rfl, rfl⟩ | ⟨g, cap, cur, rfl, hb, hgg, hle, _⟩
 ·exact ⟨none, 0, rfl, ⟨hL, fun h0 => absurd h0 (by omega)⟩⟩
 ·refine ⟨_, cap, rfl, ⟨hL, fun h0 => ⟨g, 0, rfl, Ze _, (Zp.1 hgg).1, Zc _, fun j hj => ?_⟩⟩⟩
  obtain ⟨pl, nl, cl, pp, np, cp, el, ep, hp, hf⟩ := h.at_ j hj
  have key : ∀ r, r < 3 -> ∀ u, [.string (T[j]?.getD .empty), lv j, pv j][r]? = some u -> W.cell? ⟨g, 0 + j * 3 + r, none⟩ = some u := fun r hr u hu => by
   have := World.ownsRow.cells h.row (g := g) rfl (j * 3 + r) u (by rw [frow_get T lv pv hj hr]; exact hu)
   rw [add_off] at this
   rw [Nat.add_assoc]
   exact this
  rw [hg j hj]
  refine ⟨pl, nl, cl, pp, np, cp, ?_, ?_, ?_, hf.now⟩
  ·rw [hp]
   exact key 0 (by omega) _ rfl
  ·rw [<- el]
   exact key 1 (by omega) _ rfl
  ·rw [<- ep]
   exact key 2 (by omega) _ rfl
def cntK (l : List Pt) (k : Nat) : Nat := (((trackL l).take k).map fun s => (linesOfL l s).length).sum
theorem cntK_succ {l : List Pt} {k : Nat} (h : k < (trackL l).length) : cntK l (k + 1) = cntK l k + (linesOfL l ((trackL l)[k]?.getD .empty)).length := by
 unfold cntK
 rw [Xi h, Xj, List.sum_append, Zm h]
 simp
theorem cntK_all (l : List Pt) : cntK l (trackL l).length = cntS l := by
 unfold cntK cntS
 rw [List.take_length]
theorem all_of {l : List Pt} (h1 : ∀ j, j < l.length -> IsPt (l[j]?.getD pt0)) (h2 : ∀ j, j < l.length -> ∀ k, k < j -> pID (l[k]?.getD pt0) ≠ pID (l[j]?.getD pt0)) : IsAll l := by
 refine ⟨upto_list (q := IsPt) rfl h1, ?_⟩
 unfold List.Nodup
 rw [Vi, Vl]
 intro i j hi hj hij
 have := h2 j hj i hij
 rw [Zm hi, Zm hj] at this
 exact this
theorem refOf13_c (p : Option Addr) (n c lo hi : Nat) (l : List Pt) (w : World) (h : PtsAt w lo hi p n l) (hn : n <= 16) (hf : ∀ x ∈ l, PFew x) :
  Calls Tryz.prog 12 #[.slice p n c] w fun e w' => ∃ p' c', e = .returned (.tuple #[.slice p' (filesL l).length c', .int .i64 ((errL l : Nat) : Int)]) /\ FlsAt w' 0 w'.heap.size p' (filesL l).length (filesL l) /\ w.grownBy w' none := by
 obtain ⟨i0, hi0, hz0, hz1, hz2⟩ := Yz infoFl
 have H := Za h
 have HF := Za hf
 have HLN := Za h.len
 have HFAIL : Hid (∀ X, w.grownBy X none -> ∀ er : Nat, errL l = er -> er ≠ 0 -> ∃ p' c', Ending.returned (.tuple #[.slice none 0 0, .int .i64 ((er : Nat) : Int)]) = Ending.returned (.tuple #[.slice p' (filesL l).length c', .int .i64 ((errL l : Nat) : Int)]) /\ FlsAt X 0 X.heap.size p' (filesL l).length (filesL l) /\ w.grownBy X none) := Za fun X hX er he h0 => by
  have hfe := filesL_err (l := l) (by rw [he]; exact h0)
  rw [hfe, he]
  exact ⟨none, 0, rfl, flsAt_nil _ _ _, hX⟩
 have HLB : Hid (∀ s, (linesOfL l s).length <= 6400) := Za fun s => by
  rw [(linesOfL_perm l s).length_eq]
  exact linesG_len hf (by rw [h.len]; exact hn)
 clear h hf
 go_enter Tryz.func12, Tryz.ntmps12
 go_wp2
 go_loopw [4] (fun v wr => ∃ i : Nat, i <= n /\ v = .int .i64 i /\ Hid (∀ j, j < i -> IsPt (l[j]?.getD pt0)) /\ Hid (∀ j, j < i -> ∀ k, k < j -> pID (l[k]?.getD pt0) ≠ pID (l[j]?.getD pt0)) /\ Hid (w.grownBy wr none)) (fun v _ => n - (intOf v).toNat)
 case atStart => exact ⟨0, Ze _, rfl, Za (fun j hj => absurd hj (Zy _)), Za (fun j hj => absurd hj (Zy _)), Za (Zi _ _)⟩
 case round =>
 obtain ⟨i, hi', rfl, HU, HV, HG⟩ := hrel
 by_cases hin : i < n
 ·as_aux_lemma =>
  have j0 : (0 : Int) <= i := by omega
  have j1 : (i : Int) < n := by omega
  obtain ⟨b, o, rfl, _, _, _, hc⟩ := H.out.cell (by omega)
  have HC := Za hc
  obtain ⟨pd, nd, cd, pm, nm, cm, px, nx, cx, ph, nh, ch, c0, c1, c2, c3, c4, hp⟩ := hc i hin
  have hil : i < l.length := by rw [HLN.out]; exact hin
  have HM := Za (Zr (d := pt0) hil)
  have HP := Za hp
  have HC0 := Za c0
  have HBIG := Za (HF.out _ HM.out).big
  obtain ⟨r, hr⟩ := Ym (IsPt (l[i]?.getD pt0))
  have HR := Za hr
  have HU2 := Za (show IsPt (l[i]?.getD pt0) -> ∀ j, j < i + 1 -> IsPt (l[j]?.getD pt0) from fun h => Yk (q := fun j => IsPt (l[j]?.getD pt0)) HU.out h)
  have HV2 := Za (show (∀ k, k < i -> pID (l[k]?.getD pt0) ≠ pID (l[i]?.getD pt0)) -> ∀ j, j < i + 1 -> ∀ k, k < j -> pID (l[k]?.getD pt0) ≠ pID (l[j]?.getD pt0) from fun h => Yk (q := fun j => ∀ k, k < j -> pID (l[k]?.getD pt0) ≠ pID (l[j]?.getD pt0)) HV.out h)
  have HDUP : Hid (∀ k, k < i -> pID (l[k]?.getD pt0) = pID (l[i]?.getD pt0) -> ¬ IsAll l) := Za fun k hk e a => by
   have ha := a.2
   unfold List.Nodup at ha
   rw [Vi, Vl] at ha
   have := ha k i (by omega) hil hk
   rw [Zm (show k < l.length by omega), Zm hil] at e
   exact this e
  replace c0 := Zh HG.out c0
  replace c1 := Zh HG.out c1
  replace c2 := Zh HG.out c2
  replace c3 := Zh HG.out c3
  replace c4 := Zh HG.out c4
  clear hc hp hr HU HV
  generalize l[i]?.getD pt0 = x at *
  go_wp2_with fail
  refine (refIs_c (pID x) pd nd cd pm nm cm px nx cx ph nh ch lo hi x r wr (HP.out.calm HG.out) HBIG.out HR.out).mono ?_
  rintro e w1 ⟨rfl, hg1⟩
  have HG1 := Za (Zb HG.out hg1)
  clear hg1 HG c0 c1 c2 c3 c4
  cases r with
  | false =>
   have HE := Za (HFAIL.out w1 HG1.out 10 (errL_no fun a => by have := HR.out.2 (a.1 x HM.out); cases this) (by omega))
   go_wp2
   go_ret2
   exact HE.out
  | true =>
   have HU3 := Za (HU2.out (HR.out.1 rfl))
   clear HU2 HR
   go_wp2
   go_loopw [5] (fun v wr => ∃ k : Nat, k <= i /\ v = .int .i64 k /\ Hid (∀ j, j < k -> pID (l[j]?.getD pt0) ≠ pID x) /\ Hid (w.grownBy wr none)) (fun v _ => i - (intOf v).toNat)
   case atStart => exact ⟨0, Ze _, rfl, Za (fun j hj => absurd hj (Zy _)), HG1⟩
   case round =>
   clear HG1
   obtain ⟨k, hk, rfl, HK, HG⟩ := hrel
   by_cases hki : k < i
   ·have k0 : (0 : Int) <= k := by omega
    have k1 : (k : Int) < i := by omega
    have k2 : (k : Int) < n := by omega
    obtain ⟨_, _, _, _, _, _, _, _, _, _, _, _, d0, _⟩ := HC.out k (by omega)
    have a0 := Zh HG.out d0
    have a1 := Zh HG.out HC0.out
    have HK2 := Za (show pID (l[k]?.getD pt0) ≠ pID x -> ∀ j, j < k + 1 -> pID (l[j]?.getD pt0) ≠ pID x from fun h => Yk (q := fun j => pID (l[j]?.getD pt0) ≠ pID x) HK.out h)
    have HD := Za (HDUP.out k hki)
    clear d0 HK
    generalize pID (l[k]?.getD pt0) = y at *
    generalize pID x = u at *
    by_cases hyu : y = u
    ·have e1 : ((y : Int) == (u : Int)) = true := by rw [hyu]; simp
     have HNA := Za (HD.out hyu)
     clear hyu
     go_wp2
     go_quiet (fail)
     have HGQ := Za (Zb HG.out (Zo wr nq none))
     have HE := Za (HFAIL.out _ HGQ.out 10 (errL_no HNA.out) (by omega))
     go_wp2
     go_ret2
     exact HE.out
    ·have e1 : ((y : Int) == (u : Int)) = false := by simp; omega
     have HK3 := Za (HK2.out hyu)
     clear hyu
     go_wp2
     go_quiet (fail)
     have HGQ := Za (Zb HG.out (Zo wr nq none))
     go_wp2
     exact ⟨⟨k + 1, by omega, by go_num, HK3, HGQ⟩, by simp [intOf]; omega⟩
   obtain rfl : i = k := by omega
   have k1 : ¬ ((i : Int) < i) := by omega
   have HV3 := Za (HV2.out HK.out)
   go_wp2
   exact ⟨⟨i + 1, by omega, by go_num, HU3, HV3, HG⟩, by simp [intOf]; omega⟩
 obtain rfl : n = i := by omega
 have i1 : ¬ ((n : Int) < n) := by omega
 have HALL := Za (all_of (fun j hj => HU.out j (by rw [HLN.out] at hj; exact hj)) (fun j hj => HV.out j (by rw [HLN.out] at hj; exact hj)))
 clear HU HV
 obtain ⟨r, hr⟩ := Ym (ClosedL l)
 have HR := Za hr
 clear hr
 go_wp2_with fail
 refine (refClosed_c p n c lo hi l r wr (H.out.calm HG.out) (by omega) (fun x hx => by have := (HF.out x hx).deps; omega) HR.out).mono ?_
 rintro e w1 ⟨rfl, hg1⟩
 have HG1 := Za (Zb HG.out hg1)
 clear hg1 HG
 cases r with
 | false =>
  have HE := Za (HFAIL.out w1 HG1.out 17 (errL_deps HALL.out fun a => by have := HR.out.2 a; cases this) (by omega))
  go_wp2
  go_ret2
  exact HE.out
 | true =>
 have HCL := Za (HR.out.1 rfl)
 clear HR
 go_wp2_with fail
 refine (refTracked_c p n c lo hi l w1 (H.out.calm HG1.out) (by omega) (fun x hx => ⟨by have := (HF.out x hx).makes; omega, by have := (HF.out x hx).drops; omega⟩)).mono ?_
 rintro e w2 ⟨v, rfl, hrow, hg2⟩
 obtain ⟨pt, ct, rfl, hst⟩ := strsAt_own hrow
 have HST := Za hst
 have HG2 := Za (Zb HG1.out hg2)
 obtain ⟨nt, hnt⟩ : ∃ nt, (trackL l).length = nt := ⟨_, rfl⟩
 have HNT := Za hnt
 rw [hnt] at HST
 rw [hnt]
 clear hrow hst hg2 HG1 hnt
 by_cases h6 : 6 < nt
 ·have h6' : (6 : Int) < nt := by omega
  have hn60 : decide ((60 : Int) < n) = false := Zl (by omega)
  have HE := Za (HFAIL.out w2 HG2.out 11 (errL_large HALL.out HCL.out (.inr (.inl (by rw [HNT.out]; exact h6)))) (by omega))
  go_wp2
  go_ret2
  exact HE.out
 have h6' : ¬ ((6 : Int) < nt) := by omega
 have hn60 : ¬ ((60 : Int) < n) := by omega
 go_wp2
 have HPB : Hid (∀ x ∈ l, (pHunks x).length <= 8 /\ ∀ h ∈ pHunks x, (hAdds h).length <= 50) := Za fun x hx => ⟨(HF.out x hx).hunks, fun h hh => ((HF.out x hx).hs h hh).1⟩
 go_loopw [7, 8] (fun u v wr => ∃ i : Nat, i <= nt /\ u = .int .i64 ((cntK l i : Nat) : Int) /\ v = .int .i64 i /\ Hid (cntK l i <= i * 6400) /\ Hid (w2.grownBy wr none)) (fun _ v _ => nt - (intOf v).toNat)
 case atStart => exact ⟨0, Ze _, rfl, rfl, Za (Ze _), Za (Zi _ _)⟩
 case round =>
 obtain ⟨i, hi', rfl, rfl, HCB, HG⟩ := hrel
 by_cases hin : i < nt
 ·as_aux_lemma =>
  have j0 : (0 : Int) <= i := by omega
  have j1 : (i : Int) < nt := by omega
  obtain ⟨bt, ot, rfl, _, _, _, hct⟩ := (HST.out.calm HG.out).cell (by omega)
  have HX := Za (hct i hin)
  have HSK := Za (cntK_succ (l := l) (k := i) (by rw [HNT.out]; exact hin))
  have hlb := HLB.out ((trackL l)[i]?.getD .empty)
  have x0 := HX.out
  have hcb := HCB.out
  have hib : i * 6400 <= 6 * 6400 := Vk _ (by omega)
  clear hct HX
  generalize (trackL l)[i]?.getD .empty = sk at *
  have HCI := Za (refLines13_s p n c lo hi l sk wr (H.out.calm (Zb HG2.out HG.out)) (by omega) HPB.out)
  generalize linesOfL l sk = lk at *
  generalize hmk : lk.length = mk at *
  clear hmk
  generalize hak : cntK l i = ak at *
  clear hak
  have hw : IntKind.i64.wrap ((ak : Int) + (mk : Int)) = ((ak + mk : Nat) : Int) := by rw [Zf _ (by omega)]; omega
  go_wp2_with fail
  refine HCI.out.mono ?_
  rintro e w3 ⟨q, cq, rfl, _, _, _, _, hg3⟩
  have HG3 := Za (Zb HG.out hg3)
  clear hg3 HCI
  have hfd : ∀ w : World, (Instr.field 35 (.agg #[.string sk, .slice q mk cq, .slice none 0 0]) 1).run Tryz.prog w = .ok (.slice q mk cq) w := fun _ => by kernel_rfl
  go_wp2
  exact ⟨⟨i + 1, by omega, (by rw [HSK.out]; first | rfl | (simp only [Value.int.injEq, true_and]; omega)), by go_num, Za (by rw [HSK.out]; omega), HG3⟩, by simp [intOf]; omega⟩
 obtain rfl : nt = i := by omega
 have i1 : ¬ ((nt : Int) < nt) := by omega
 have HCN : Hid (cntK l nt = cntS l) := Za (by rw [<- HNT.out]; exact cntK_all l)
 have hcb := HCB.out
 have hib : nt * 6400 <= 6 * 6400 := Vk _ (by omega)
 generalize hcn : cntK l nt = cn at *
 clear hcn HCB
 by_cases h40 : 40 < cn
 ·have h40' : (40 : Int) < cn := by omega
  have HE := Za (HFAIL.out wr (Zb HG2.out HG.out) 11 (errL_large HALL.out HCL.out (.inr (.inr (by rw [<- HCN.out]; exact h40)))) (by omega))
  go_wp2
  go_ret2
  obtain ⟨pz, cz, e1, e2, e3⟩ := HE.out
  exact ⟨pz, ⟨cz, e1⟩, e2, e3⟩
 have h40' : ¬ ((40 : Int) < cn) := by omega
 have HOK := Za (errL_ok HALL.out HCL.out (by rw [HNT.out, <- HCN.out, HLN.out]; omega))
 have HSM : Hid (∀ s ∈ trackL l, (linesOfL l s).length <= 40) := Za fun s hs => by
  have h1 := mem_cnt (Yi.2 ⟨s, hs, rfl⟩ : fileL l s ∈ (trackL l).map (fileL l))
  rw [cntS_map, <- HCN.out] at h1
  have h2 : (fLines (fileL l s)).length = (linesOfL l s).length := fileOf_len _ _ _
  omega
 have HSS : Hid (∀ s, stL (linesOfL l s)) := Za fun s => by
  obtain ⟨m, hm, hs⟩ := st_ex HALL.out.2
  rw [lines_of_st hm hs]
  exact linesG_st hs
 have HPE : Hid (∀ x ∈ l, ∀ h ∈ pHunks x, (hEdges h).length <= 90 /\ (hKills h).length <= 50) := Za fun x hx h hh => ⟨((HF.out x hx).hs h hh).2.1, ((HF.out x hx).hs h hh).2.2.1⟩
 clear h40
 go_wp2
 go_loopw [9, 10] (fun v i wr => ∃ (k : Nat) (lv pv : Nat -> Value), k <= nt /\ i = .int .i64 k /\ Hid (FoE w2 wr v (trackL l) k lv pv (fun j => fileL l ((trackL l)[j]?.getD .empty)))) (fun _ i _ => nt - (intOf i).toNat)
 case atStart => exact ⟨0, fun _ => .slice none 0 0, fun _ => .slice none 0 0, Ze _, rfl, Za ⟨Yp _ _ _ _, (fun j hj => absurd hj (Zy _)), HG.out⟩⟩
 case round =>
 clear HG
 obtain ⟨k, lv, pv, hk, rfl, HI⟩ := hrel
 by_cases hkn : k < nt
 ·as_aux_lemma =>
  have j0 : (0 : Int) <= k := by omega
  have j1 : (k : Int) < nt := by omega
  obtain ⟨bt, ot, rfl, _, _, _, hct⟩ := (HST.out.calm HI.out.g).cell (by omega)
  have x0 := hct k hkn
  have HTM := Za (Zr (d := ByteArray.empty) (show k < (trackL l).length by rw [HNT.out]; exact hkn))
  have HCF := Za (refFile_c p n c lo hi l ((trackL l)[k]?.getD .empty) wr (H.out.calm (Zb HG2.out HI.out.g)) (by omega) HPB.out HPE.out (HSS.out _) (by have := HSM.out _ HTM.out; omega))
  clear hct
  obtain ⟨sk, hsk⟩ : ∃ sk, (trackL l)[k]?.getD .empty = sk := ⟨_, rfl⟩
  have HSK := Za hsk
  rw [hsk] at x0 HCF
  clear hsk HTM
  obtain ⟨F, hF⟩ : ∃ F, fileL l sk = F := ⟨_, rfl⟩
  have HFE := Za hF
  obtain ⟨ml, hml⟩ : ∃ ml, (linesOfL l sk).length = ml := ⟨_, rfl⟩
  obtain ⟨mp, hmp⟩ : ∃ mp, (fPairs F).length = mp := ⟨_, rfl⟩
  rw [hF, hml, hmp] at HCF
  clear hF hml hmp
  have hww : w2.heap.size <= wr.heap.size := HI.out.g.size
  go_wp2_with fail
  refine HCF.out.mono ?_
  rintro e w4 ⟨pl, cl, pp, cp, rfl, hfl, hs1, hs2, hg4⟩
  have hw4 : w2.heap.size <= w4.heap.size := Zn hww hg4.size
  have hrow4 := row_kept HI.out.row hg4 (fun g _ e => by cases e)
  have HFF := Za (FirmF.of hfl hs1 hs2)
  have HG4 := Za hg4
  have HR5 := Za (hrow4.alloc (.cells #[.string sk, .slice pl ml cl, .slice pp mp cp] 35))
  clear hfl hs1 hs2 hg4 HCF
  set_option maxRecDepth 100000 in
  go_wp2_with (at_builtin; refine Xc _ rfl _ _ 25 rfl w2.heap.size 35 i0 (.agg #[.string .empty, .slice none 0 0, .slice none 0 0]) 3 64 Tryz.underlying25 hi0 hz0 hz1 hz2 rfl (by decide) _ k _ rfl (hrow4.alloc _) ⟨w4.heap.size, 0, none⟩ 1 1 [.string sk, .slice pl ml cl, .slice pp mp cp] rfl rfl (cell_new_row w4 [.string sk, .slice pl ml cl, .slice pp mp cp] 35) (by simp [Value.oneCell']) (by unfold maxLen; omega) (by omega) (by simp; omega) ?_; intro v' w5 hown' hgrow _; have HO := Za hown'; have HGR := Za hgrow; clear hown' hgrow)
  have HN := Za (FoE.push (fs := fun j => fileL l ((trackL l)[j]?.getD .empty)) HI.out HG4.out (Zd w4 (.cells #[.string sk, .slice pl ml cl, .slice pp mp cp] 35) none) (k := k) rfl (by show FirmF w4 pl ml cl pp mp cp (fileL l ((trackL l)[k]?.getD .empty)); rw [HSK.out, HFE.out]; exact HFF.out) HR5.out HGR.out (by rw [HSK.out]; exact HO.out))
  exact ⟨⟨k + 1, _, _, by omega, by go_num, HN⟩, by simp [intOf]; omega⟩
 obtain rfl : nt = k := by omega
 have i1 : ¬ ((nt : Int) < nt) := by omega
 have hfl9 : filesL l = (trackL l).map (fileL l) := filesL_ok HOK.out
 obtain ⟨pf, cf, rfl, hfls⟩ := HI.out.fls (L := filesL l) (by rw [hfl9, Yn, HNT.out]) (fun j hj => by
  rw [hfl9, Xr, Zm (show j < (trackL l).length by rw [HNT.out]; exact hj)]
  rfl)
 have HEND : Hid (∃ p' c', Ending.returned (.tuple #[.slice pf nt cf, .int .i64 0]) = Ending.returned (.tuple #[.slice p' (filesL l).length c', .int .i64 ((errL l : Nat) : Int)]) /\ FlsAt wr 0 wr.heap.size p' (filesL l).length (filesL l) /\ w.grownBy wr none) := Za (by
  have hlen : (filesL l).length = nt := by rw [hfl9, Yn, HNT.out]
  rw [hlen, HOK.out]
  exact ⟨pf, cf, rfl, hfls, Zb HG2.out HI.out.g⟩)
 clear hfls hfl9
 go_wp2
 go_ret2
 obtain ⟨pz, cz, e1, e2, e3⟩ := HEND.out
 first | exact ⟨pz, cz, e1, e2, e3⟩ | exact ⟨pz, ⟨cz, e1⟩, e2, e3⟩
def cntF (l : List Fl) (k : Nat) : Nat := ((l.take k).map fun f => (fLines f).length).sum
theorem cntF_succ {l : List Fl} {k : Nat} (h : k < l.length) : cntF l (k + 1) = cntF l k + (fLines (l[k]?.getD fl0)).length := by
 unfold cntF
 rw [Xi h, Xj, List.sum_append, Zm h]
 simp
theorem cntF_all (l : List Fl) : cntF l l.length = cntL l := by
 unfold cntF cntL
 rw [List.take_length]
theorem cntF_le {l : List Fl} : ∀ k, cntF l k <= cntL l := fun k => by
 rw [<- cntF_all l]
 unfold cntF
 rw [List.take_length]
 conv => rhs; rw [<- List.take_append_drop k l]
 rw [Xj, List.sum_append]
 omega
end Go.Proofs.YtnknejokneddbaaGreatDoor
