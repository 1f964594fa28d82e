/- Package state: files in the making; Count. -/
import Derived.Test.YtnknejokneddbaaGreatDoorStaH
import Derived.Test.YtnknejokneddbaaGreatDoorStaV
namespace Go.Proofs.YtnknejokneddbaaGreatDoor
set_option maxRecDepth 100000
set_option maxHeartbeats 4000000
open Go.RowKit
def frow (T : List ByteArray) (lv pv : Nat -> Value) (k : Nat) : List Value := (List.range k).flatMap fun j => [.string (T[j]?.getD .empty), lv j, pv j]
theorem frow_succ (T : List ByteArray) (lv pv : Nat -> Value) (k : Nat) : frow T lv pv (k + 1) = frow T lv pv k ++ [.string (T[k]?.getD .empty), lv k, pv k] := by
 unfold frow
 rw [List.range_succ, List.flatMap_append]
 simp
theorem frow_len (T : List ByteArray) (lv pv : Nat -> Value) (k : Nat) : (frow T lv pv k).length = k * 3 := by
 induction k with
 | zero => rfl
 | succ k ih => rw [frow_succ, Zq, ih]; simp; omega
theorem frow_congr {T : List ByteArray} {lv pv lv' pv' : Nat -> Value} {k : Nat} (h : ∀ j, j < k -> lv j = lv' j /\ pv j = pv' j) : frow T lv pv k = frow T lv' pv' k := by
 induction k with
 | zero => rfl
 | succ k ih => rw [frow_succ, frow_succ, ih fun j hj => h j (by omega), (h k (by omega)).1, (h k (by omega)).2]
theorem frow_get (T : List ByteArray) (lv pv : Nat -> Value) {k j r : Nat} (hj : j < k) (hr : r < 3) : (frow T lv pv k)[j * 3 + r]? = [.string (T[j]?.getD .empty), lv j, pv j][r]? := by
 induction k with
 | zero => omega
 | succ k ih =>
  rw [frow_succ]
  by_cases e : j = k
  ·subst e
   rw [List.getElem?_append_right (by rw [frow_len]; omega), frow_len, show j * 3 + r - j * 3 = r by omega]
  ·rw [List.getElem?_append_left (by rw [frow_len]; omega), ih (by omega)]
theorem frow_set (T : List ByteArray) (lv pv : Nat -> Value) (v : Value) {k j : Nat} (hj : j < k) : (frow T lv pv k).set (j * 3 + 2) v = frow T lv (fun i => if i = j then v else pv i) k := by
 induction k with
 | zero => omega
 | succ k ih =>
  rw [frow_succ, frow_succ]
  by_cases e : j = k
  ·subst e
   rw [List.set_append, if_neg (by rw [frow_len]; omega), frow_len, show j * 3 + 2 - j * 3 = 2 by omega]
   rw [frow_congr (lv' := lv) (pv' := fun i => if i = j then v else pv i) (fun i hi => ⟨rfl, by rw [if_neg (by omega)]⟩)]
   simp
  ·rw [List.set_append, if_pos (by rw [frow_len]; omega), ih (by omega), if_neg (by omega)]
structure FsI (w wr : World) (v : Value) (T : List ByteArray) (N : Nat) (lv pv : Nat -> Value) (L : Nat -> List Lne) (P : Nat -> List (Int × Int)) : Prop where
 row : wr.ownsRow w.heap.size 35 3 v N (frow T lv pv N)
 lns : ∀ j, j < N -> wr.ownsRow w.heap.size 62 4 (lv j) (L j).length (lncells (L j))
 ap : ∀ i j, i < N -> j < N -> i ≠ j -> ∀ g, (lv i).ownBlock = some g -> (lv j).ownBlock ≠ some g
 prs : ∀ j, j < N -> wr.ownsRow w.heap.size 88 2 (pv j) (P j).length (pcells (P j))
 gr : w.grownBy wr none
theorem FsI.calm {w wr w' : World} {v : Value} {T : List ByteArray} {N : Nat} {lv pv : Nat -> Value} {L : Nat -> List Lne} {P : Nat -> List (Int × Int)} (h : FsI w wr v T N lv pv L P) (hg : wr.grownBy w' none) : FsI w w' v T N lv pv L P :=
 ⟨row_kept h.row hg (fun g _ e => by cases e), fun j hj => row_kept (h.lns j hj) hg (fun g _ e => by cases e), h.ap, fun j hj => row_kept (h.prs j hj) hg (fun g _ e => by cases e), Zb h.gr hg⟩
def filesT (T : List ByteArray) (N : Nat) (L : Nat -> List Lne) (P : Nat -> List (Int × Int)) : List Fl := (List.range N).map fun j => (T[j]?.getD .empty, L j, P j)
theorem filesT_get (T : List ByteArray) {N : Nat} (L : Nat -> List Lne) (P : Nat -> List (Int × Int)) {j : Nat} (hj : j < N) : (filesT T N L P)[j]?.getD fl0 = (T[j]?.getD .empty, L j, P j) := by
 unfold filesT
 rw [Xr, List.getElem?_range hj]
 rfl
theorem pairs_ex {w : World} {base : Nat} {v : Value} {l : List (Int × Int)} (h : w.ownsRow base 88 2 v l.length (pcells l)) : ∃ p c, v = .slice p l.length c /\ PairsAt w base w.heap.size p l.length l /\ l.length <= c /\ (p = none -> c = 0) := by
 obtain ⟨p, c, e, hp⟩ := pairsAt_own h
 have h2 := h.2
 generalize l.length = n at *
 rcases h2 with ⟨e1, e2⟩ | ⟨g, cap, cur, e1, _, _, hle, _⟩
 ·rw [e] at e1
  cases e1
  exact ⟨none, 0, e, hp, Zc _, fun _ => rfl⟩
 ·rw [e] at e1
  cases e1
  exact ⟨_, c, e, hp, hle, fun e => by cases e⟩
theorem FsI.fls {w wr : World} {v : Value} {T : List ByteArray} {N : Nat} {lv pv : Nat -> Value} {L : Nat -> List Lne} {P : Nat -> List (Int × Int)} (h : FsI w wr v T N lv pv L P) : ∃ p c, v = .slice p N c /\ FlsAt wr w.heap.size wr.heap.size p N (filesT T N L P) /\ N <= c /\ (p = none -> c = 0) := by
 have hlen : (filesT T N L P).length = N := by simp [filesT]
 rcases h.row.2 with ⟨rfl, rfl⟩ | ⟨g, cap, cur, rfl, hb, hg, hle, _⟩
 ·exact ⟨none, 0, rfl, ⟨hlen, fun h0 => by omega⟩, Zc _, fun _ => rfl⟩
 ·refine ⟨_, cap, rfl, ⟨hlen, fun h0 => ⟨g, 0, rfl, hb, (Zp.1 hg).1, Zc _, fun j hj => ?_⟩⟩, hle, fun e => by cases e⟩
  obtain ⟨pl, cl, el, hl, hl2, hl3⟩ := lnesAt_own rfl (h.lns j hj)
  obtain ⟨pp, cp, ep, hp, hp2, hp3⟩ := pairs_ex (h.prs j hj)
  have key : ∀ r, r < 3 -> ∀ u, [.string (T[j]?.getD .empty), lv j, pv j][r]? = some u -> wr.cell? ⟨g, 0 + j * 3 + r, none⟩ = some u := fun r hr u hu => by
   have := World.ownsRow.cells h.row (g := g) rfl (j * 3 + r) u (by rw [frow_get T lv pv hj hr]; exact hu)
   rw [add_off] at this
   rw [Nat.add_assoc]
   exact this
  refine ⟨pl, (L j).length, cl, pp, (P j).length, cp, ?_, ?_, ?_, ?_⟩
  ·rw [filesT_get T L P hj]
   exact key 0 (by omega) _ rfl
  ·rw [<- el]
   exact key 1 (by omega) _ rfl
  ·rw [<- ep]
   exact key 2 (by omega) _ rfl
  ·rw [filesT_get T L P hj]
   exact ⟨hl, hp, hl2, hp2, hl3, hp3⟩
theorem countF_c (p : Option Addr) (n c lo hi : Nat) (l : List Fl) (w : World) (h : FlsAt w lo hi p n l) (hn : n <= 100000) (hb : ∀ f ∈ l, (fLines f).length <= 1000000) :
  Calls Tryz.prog 20 #[.slice p n c] w fun e w' => e = .returned (.int .i64 ((cntL l : Nat) : Int)) /\ w.grownBy w' none := by
 have H := Za h
 have HL := Za h.len
 have HB := Za hb
 clear h hb
 go_enter Tryz.func20, Tryz.ntmps20
 go_wp2
 go_loopw [3, 5, 8] (fun v x5 i wr => ∃ k : Nat, k <= n /\ i = .int .i64 k /\ v = .int .i64 ((cntL (l.take k) : Nat) : Int) /\ Hid (w.grownBy wr none)) (fun _ _ i _ => n - (intOf i).toNat)
 case atStart => exact ⟨0, Ze _, rfl, by simp [cntL], Za (Zi _ _)⟩
 case round =>
  obtain ⟨k, hk, rfl, rfl, HG⟩ := hrel
  by_cases hkn : k < n
  ·have k0 : (0 : Int) <= k := by omega
   have k1 : (k : Int) < n := by omega
   obtain ⟨b, o, rfl, _, _, _, hc⟩ := (H.out.calm HG.out).cell (by omega)
   obtain ⟨pl, nl, cl, pp, np, cp, c0, c1, c2, hf⟩ := hc k hkn
   have hkl : k < l.length := by rw [HL.out]; exact hkn
   have hmem := Zr (d := fl0) hkl
   have hnl := hf.lines.len
   have hn2 := HB.out _ hmem
   have HTK : Hid (cntL (l.take (k + 1)) = cntL (l.take k) + nl) := Za (by
    unfold cntL
    rw [Xi hkl, Xj, List.sum_append, <- hnl, Zm hkl]
    simp)
   have hbd : cntL (l.take k) <= k * 1000000 := by
    have : ∀ m : List Fl, (∀ f ∈ m, (fLines f).length <= 1000000) -> cntL m <= m.length * 1000000 := by
     intro m
     induction m with
     | nil => intro _; simp [cntL]
     | cons f m ih =>
      intro hm
      have h1 := ih fun g hg => hm g (List.mem_cons_of_mem _ hg)
      have h2 := hm f (List.mem_cons_self ..)
      unfold cntL at h1 ⊢
      rw [List.map_cons, List.sum_cons, Zt]
      omega
    have h3 := this (l.take k) fun f hf => HB.out f (List.mem_of_mem_take hf)
    rw [Yo] at h3
    have : min k l.length <= k := Nat.min_le_left _ _
    exact Zn h3 (Vk _ this)
   generalize cntL (l.take k) = m at *
   generalize fPath (l[k]?.getD fl0) = s at *
   have hga := Zd wr (.cells #[.string s, .slice pl nl cl, .slice pp np cp] 35) none
   have HGA := Za (Zb HG.out hga)
   obtain ⟨e0, e1, e2⟩ := (BoxV.new wr [.string s, .slice pl nl cl, .slice pp np cp] 35).three
   have hw : IntKind.i64.wrap ((m : Int) + (nl : Int)) = ((m + nl : Nat) : Int) := by rw [Zf _ (by omega)]; omega
   clear hc hf hmem hga hnl
   go_wp2
   exact ⟨⟨k + 1, by omega, by go_num, by rw [HTK.out, Vo], HGA⟩, by simp [intOf]; omega⟩
  ·obtain rfl : k = n := by omega
   have k1 : ¬ ((k : Int) < k) := by omega
   have HE : Hid (l.take k = l) := Za (Yl (by rw [HL.out]; exact Zc _))
   go_wp2
   go_ret
   exact ⟨by show Ending.returned (.int .i64 ((cntL (l.take k) : Nat) : Int)) = _; rw [HE.out], HG.out⟩
def NumH (h : Hk) : Prop := (∀ e ∈ hEdges h, e.1.1 < 4294967296 /\ e.2.1 < 4294967296) /\ ∀ x ∈ hKills h, x.1 < 4294967296
theorem isPt_ok {x : Pt} (h : IsPt x) (hn : ∀ h ∈ pHunks x, NumH h) : ∀ h ∈ pHunks x, (∀ e ∈ hEdges h, OkK e.1 /\ OkK e.2) /\ ∀ k ∈ hKills h, OkK k := by
 intro q hq
 have hnq := hn q hq
 obtain ⟨i, hi, rfl⟩ := Xw hq
 have hk := h.hunks i hi
 refine ⟨fun e he => ?_, fun k hk' => ?_⟩
 ·have h1 := hk.edges e he
  have h2 := hnq.1 e he
  exact ⟨⟨h2.1, by have := h1.1.lo; omega, by have := h1.1.hi; omega⟩, ⟨h2.2, by have := h1.2.1.lo; omega, by have := h1.2.1.hi; omega⟩⟩
 ·have h1 := hk.kills k hk'
  exact ⟨hnq.2 k hk', by omega, by omega⟩
theorem linesG_ok {path : ByteArray} {l : List Pt} (hf : ∀ x ∈ l, PFew x) (hid : ∀ x ∈ l, pID x < 4294967296) : ∀ y ∈ linesG path l, OkK (nID y) := by
 intro y hy
 obtain ⟨z, hz, hyz⟩ := Vf.1 hy
 obtain ⟨x, hx, hzx⟩ := hksL_mem hz
 obtain ⟨i, hi, rfl, _⟩ := hksK_mem hzx
 obtain ⟨j, hj, e, _⟩ := addsK_mem hyz
 have hm := Zr (d := hk0) hi
 have hh := (hf x hx).hs _ hm
 have ha := addsN_le (hs := pHunks x) (m := 50) (fun h hh => ((hf x hx).hs h hh).1) i (by omega)
 have h8 := (hf x hx).hunks
 have hjb : j < (hAdds ((pHunks x)[i]?.getD hk0)).length := hj
 have hj1 := hh.1
 have hx2 := hid x hx
 rw [e]
 refine ⟨hx2, ?_, ?_⟩
 ·show -9223372036854775808 <= ((addsN (pHunks x) i : Nat) : Int) + (j : Int)
  omega
 ·show ((addsN (pHunks x) i : Nat) : Int) + (j : Int) <= 9223372036854775807
  omega
theorem flatMap_le {α β : Type} {f : α -> List β} {c : Nat} : ∀ {l : List α}, (∀ x ∈ l, (f x).length <= c) -> (l.flatMap f).length <= l.length * c
 | [], _ => by simp
 | x :: l, h => by
  rw [List.flatMap_cons, Zq, Zt, Nat.succ_mul]
  have := flatMap_le (l := l) fun y hy => h y (List.mem_cons_of_mem _ hy)
  have := h x (List.mem_cons_self ..)
  omega
theorem linesG_len {path : ByteArray} {l : List Pt} (hf : ∀ x ∈ l, PFew x) (hn : l.length <= 16) : (linesG path l).length <= 6400 := by
 have h1 : (hksL path l).length <= l.length * 8 := flatMap_le fun x hx => Zn (hksK_len _ _ _) (hf x hx).hunks
 have h2 : (linesG path l).length <= (hksL path l).length * 50 := flatMap_le fun y hy => by
  obtain ⟨x, hx, hyx⟩ := hksL_mem hy
  obtain ⟨i, hi, rfl, _⟩ := hksK_mem hyx
  rw [addsOf_len]
  exact ((hf x hx).hs _ (Zr (d := hk0) hi)).1
 have h3 : l.length * 8 <= 128 := by omega
 have h4 : (hksL path l).length * 50 <= 6400 := by omega
 exact Zn h2 h4
theorem AllY.all {l : List Pt} {path : ByteArray} {ks : List (Ln × Hk)} (h : AllY l path ks) (a : IsAll l) : (ks.flatMap addsOf = linesOfL l path) /\ markL (linesOfL l path) ks = fLines (fileL l path) /\ relS (linesOfL l path) ks = relS (linesOfL l path) (hksL path l) := by
 obtain ⟨l', hp, hw, rfl⟩ := h
 have hs : stP l' := by
  have hn := (a.perm hp.symm).2
  unfold List.Nodup at hn
  rw [Vi] at hn
  refine List.Pairwise.imp ?_ (hw.and hn)
  rintro u v ⟨h1, h2⟩
  omega
 refine ⟨(lines_of_st hp hs).symm, ?_, relS_perm (hksL_perm hp)⟩
 show _ = markL (linesOfL l path) (hksL path l)
 unfold markL
 rw [deadL_perm (hksL_perm hp)]
theorem mem_cnt {f : Fl} : ∀ {l : List Fl}, f ∈ l -> (fLines f).length <= cntL l
 | g :: l, h => by
  have e : cntL (g :: l) = (fLines g).length + cntL l := rfl
  rw [e]
  rcases List.mem_cons.1 h with rfl | h
  ·omega
  ·have := mem_cnt h
   omega
theorem putR_len {α : Type} [DecidableEq α] (lt : α -> α -> Bool) (l : List α) (x : α) : (putR lt l x).length <= l.length + 1 := by
 by_cases h : x ∈ l
 ·rw [putR_has h]; omega
 ·rw [putR_new h, Zq, Zt]
  have := congrArg List.length (List.takeWhile_append_dropWhile (p := fun y => lt y x) (l := l))
  rw [Zq] at this
  omega
theorem foldR_len {α : Type} [DecidableEq α] (lt : α -> α -> Bool) : ∀ (xs l : List α), (xs.foldl (putR lt) l).length <= l.length + xs.length
 | [], l => by simp
 | x :: xs, l => by
  have h1 := foldR_len lt xs (putR lt l x)
  have h2 := putR_len lt l x
  rw [List.foldl_cons, Zt]
  omega
theorem trackL_len {l : List Pt} (hf : ∀ x ∈ l, PFew x) (hn : l.length <= 16) : (trackL l).length <= 160 := by
 have h1 : (trackL l).length <= (allR ltS (l.flatMap pMakes)).length := List.length_filter_le _ _
 have h2 : (allR ltS (l.flatMap pMakes)).length <= ([] : List ByteArray).length + (l.flatMap pMakes).length := foldR_len _ _ _
 have h3 : (l.flatMap pMakes).length <= l.length * 10 := flatMap_le fun x hx => (hf x hx).makes
 simp only [Xh] at h2
 omega
theorem if_next {α : Type} {j q : Nat} (h : j ≠ q) (a b : α) : (if j < q + 1 then a else b) = if j < q then a else b := by
 by_cases e : j < q
 ·rw [if_pos e, if_pos (by omega)]
 ·rw [if_neg e, if_neg (by omega)]
theorem rows_apart {w : World} {b1 b2 s1 s2 n1 n2 : Nat} {e1 e2 : TypeId} {v1 v2 : Value} {x1 x2 : List Value} (h1 : w.ownsRow b1 e1 s1 v1 n1 x1) (h2 : w.ownsRow b2 e2 s2 v2 n2 x2) (he : e1 ≠ e2) : ∀ g, v1.ownBlock = some g -> some g ≠ v2.ownBlock := by
 intro g hg e
 obtain ⟨_, _, c1, hc1⟩ := own_ge h1 hg
 obtain ⟨_, _, c2, hc2⟩ := own_ge h2 e.symm
 rw [hc1] at hc2
 cases hc2
 exact he rfl
abbrev nilV : Nat -> Value := fun _ => .slice none 0 0
abbrev noP : Nat -> List (Int × Int) := fun _ => []
theorem FsI.low {w0 w wr : World} {v : Value} {T : List ByteArray} {N : Nat} {lv pv : Nat -> Value} {L : Nat -> List Lne} {P : Nat -> List (Int × Int)} (h : FsI w wr v T N lv pv L P) (hg : w0.grownBy w none) : FsI w0 wr v T N lv pv L P :=
 ⟨Vd h.row hg.size, fun j hj => Vd (h.lns j hj) hg.size, h.ap, fun j hj => Vd (h.prs j hj) hg.size, Zb hg h.gr⟩
theorem FsI.push {w wr w2 w3 : World} {v v' vl : Value} {T : List ByteArray} {k : Nat} {lv : Nat -> Value} {L : Nat -> List Lne} {o : Obj} (h : FsI w wr v T k lv nilV L noP) (hg : wr.grownBy w2 none)
  (hl : w2.ownsRow wr.heap.size 62 4 vl (L k).length (lncells (L k))) (hown : w3.ownsRow w.heap.size 35 3 v' (k + 1) (frow T lv nilV k ++ [.string (T[k]?.getD .empty), vl, .slice none 0 0])) (hgr : (w2.alloc o).grownBy w3 v.ownBlock) :
  FsI w w3 v' T (k + 1) (fun j => if j = k then vl else lv j) nilV L noP := by
 have hrow2 := row_kept h.row hg (fun g _ e => by cases e)
 have hn : ∀ {e : TypeId} {size n : Nat} {u : Value} {xs : List Value} {b : Nat}, e ≠ 35 -> w2.ownsRow b e size u n xs -> w3.ownsRow b e size u n xs := fun he hu =>
  row_kept (row_kept hu (Zd w2 o none) (fun g _ e => by cases e)) hgr fun g hg' => rows_apart hu hrow2 he g hg'
 refine ⟨?_, fun j hj => ?_, fun i j hi hj hij g e1 e2 => ?_, fun j hj => Yp _ _ _ _, Xe (Zb h.gr hg) hrow2 hgr⟩
 ·rw [frow_succ, if_pos rfl]
  rw [frow_congr (lv' := lv) (pv' := nilV) (fun j hj => ⟨if_neg (by omega), rfl⟩)]
  exact hown
 ·show w3.ownsRow _ _ 4 (if j = k then vl else lv j) _ _
  by_cases e : j = k
  ·subst e
   rw [if_pos rfl]
   exact Vd (hn (by decide) hl) h.gr.size
  ·rw [if_neg e]
   exact hn (by decide) (row_kept (h.lns j (by omega)) hg (fun g _ e => by cases e))
 ·replace e1 : (if i = k then vl else lv i).ownBlock = some g := e1
  replace e2 : (if j = k then vl else lv j).ownBlock = some g := e2
  by_cases hik : i = k
  ·rw [if_pos hik] at e1
   rw [if_neg (by omega)] at e2
   have := (own_ge hl e1).1
   have := (own_ge (h.lns j (by omega)) e2).2.1
   omega
  ·rw [if_neg hik] at e1
   by_cases hjk : j = k
   ·rw [if_pos hjk] at e2
    have := (own_ge hl e2).1
    have := (own_ge (h.lns i (by omega)) e1).2.1
    omega
   ·rw [if_neg hjk] at e2
    exact h.ap i j (by omega) (by omega) hij g e1 e2
theorem FsI.turn {w wr w' : World} {gf c i : Nat} {T : List ByteArray} {N : Nat} {lv pv : Nat -> Value} {L L' : Nat -> List Lne} {P P' : Nat -> List (Int × Int)} {vl : Value} {nl : Nat} {ks : List (Ln × Hk)} (h : FsI w wr (.slice (some ⟨gf, 0, none⟩) N c) T N lv pv L P) (hi : i < N)
  (hvl : lv i = vl) (hnl : (L i).length = nl) (hr : RelOut wr w' w.heap.size gf (i * 3) nl vl (L i) ks) (hL : ∀ j, j ≠ i -> L' j = L j) (hLi : L' i = markL (L i) ks) (hP : ∀ j, j ≠ i -> P' j = P j) (hPi : P' i = pairsL nl (clo nl (relS (L i) ks)) nl) :
  ∃ pv', FsI w w' (.slice (some ⟨gf, 0, none⟩) N c) T N lv pv' L' P' := by
 obtain ⟨vp, hvp, hcur⟩ := hr.pr
 subst hvl
 have hmk : ∀ (ls : List Lne) ks, (markL ls ks).length = ls.length := fun ls ks => by unfold markL; rw [Yn]
 have hfx : ∀ {e : TypeId} {size n : Nat} {u : Value} {xs : List Value} {b : Nat}, e ≠ 35 -> (∀ g, u.ownBlock = some g -> some g ≠ (lv i).ownBlock) -> wr.ownsRow b e size u n xs -> w'.ownsRow b e size u n xs := fun he hne hu => by
  refine ⟨hu.1, ?_⟩
  rcases hu.2 with h1 | ⟨g, cap, cur, rfl, h1, h2, h3⟩
  ·exact .inl h1
  ·refine .inr ⟨g, cap, cur, rfl, h1, (hr.fx g (Zp.1 h2).1 (fun e => ?_) (hne g rfl)).trans h2, h3⟩
   exact rows_apart hu h.row he g rfl (by rw [e]; rfl)
 refine ⟨fun j => if j = i then vp else pv j, ?_, fun j hj => ?_, h.ap, fun j hj => ?_, ?_⟩
 ·rcases h.row.2 with ⟨e1, _⟩ | ⟨g', cap, cur, e1, hb, hg, hle, h2, h3, h4⟩
  ·cases e1
  ·cases e1
   refine ⟨frow_len _ _ _ _, .inr ⟨gf, c, _, rfl, hb, hcur _ _ hg, hle, h2, by rw [Array.size_setIfInBounds]; exact h3, ?_⟩⟩
   rw [<- frow_set T lv pv vp hi, <- h4, Array.toList_setIfInBounds, List.take_set]
 ·by_cases e : j = i
  ·subst e
   rw [hLi, hmk, hnl]
   exact hr.row
  ·rw [hL j e]
   exact hfx (by decide) (fun g e1 e2 => h.ap j i hj hi e g e1 e2.symm) (h.lns j hj)
 ·show w'.ownsRow _ _ 2 (if j = i then vp else pv j) _ _
  by_cases e : j = i
  ·subst e
   rw [if_pos rfl, hPi]
   exact Vd hvp h.gr.size
  ·rw [if_neg e, hP j e]
   exact hfx (by decide) (rows_apart (h.prs j hj) (h.lns i hi) (by decide)) (h.prs j hj)
 ·refine ⟨hr.os.trans h.gr.os, hr.tape.trans h.gr.tape, hr.output.trans h.gr.output, Zn h.gr.size hr.sz, fun k hk _ => (hr.fx k (Yt hk h.gr.size) (fun e => ?_) (fun e => ?_)).trans (h.gr.block k hk (by simp))⟩
  ·have := (own_ge h.row (g := gf) rfl).1
   omega
  ·have := (own_ge (h.lns i hi) e.symm).1
   omega
theorem FsI.file {w wr : World} {gf c i : Nat} {T : List ByteArray} {N : Nat} {lv pv : Nat -> Value} {L : Nat -> List Lne} {P : Nat -> List (Int × Int)} (h : FsI w wr (.slice (some ⟨gf, 0, none⟩) N c) T N lv pv L P) (hi : i < N) :
  ∃ cur, wr.heap[gf]? = some (.cells cur 35 (0, 0)) /\ cur[i * 3]? = some (.string (T[i]?.getD .empty)) /\ cur[i * 3 + 1]? = some (lv i) /\ i * 3 + 2 < cur.size := by
 rcases h.row.2 with ⟨e1, _⟩ | ⟨g', cap, cur, e1, hb, hg, hle, h2, h3, h4⟩
 ·cases e1
 ·cases e1
  have key : ∀ r, r < 3 -> cur[i * 3 + r]? = [.string (T[i]?.getD .empty), lv i, pv i][r]? := fun r hr => by
   rw [<- frow_get T lv pv hi hr, <- h4, Xy (by omega), Array.getElem?_toList]
  exact ⟨cur, hg, key 0 (by omega), key 1 (by omega), by rw [h3]; omega⟩
theorem filesT_all (l : List Pt) : filesT (trackL l) (trackL l).length (fun j => fLines (fileL l ((trackL l)[j]?.getD .empty))) (fun j => fPairs (fileL l ((trackL l)[j]?.getD .empty))) = (trackL l).map (fileL l) := by
 unfold filesT
 apply List.ext_getElem
 ·simp
 ·intro j h1 h2
  rw [List.getElem_map, List.getElem_map, List.getElem_range]
  have hj : j < (trackL l).length := by simpa using h2
  have e : (trackL l)[j]?.getD .empty = (trackL l)[j] := by rw [Zm hj]; rfl
  show ((trackL l)[j]?.getD .empty, fLines (fileL l ((trackL l)[j]?.getD .empty)), fPairs (fileL l ((trackL l)[j]?.getD .empty))) = _
  rw [e]
  rfl
theorem filesT_cnt (l : List Pt) (P : Nat -> List (Int × Int)) : cntL (filesT (trackL l) (trackL l).length (fun j => linesOfL l ((trackL l)[j]?.getD .empty)) P) = cntS l := by
 unfold cntL cntS filesT
 rw [List.map_map]
 congr 1
 apply List.ext_getElem
 ·simp
 ·intro j h1 h2
  rw [List.getElem_map, List.getElem_map, List.getElem_range]
  have hj : j < (trackL l).length := by simpa using h2
  show (linesOfL l _).length = _
  rw [Zm hj]
  rfl
end Go.Proofs.YtnknejokneddbaaGreatDoor
