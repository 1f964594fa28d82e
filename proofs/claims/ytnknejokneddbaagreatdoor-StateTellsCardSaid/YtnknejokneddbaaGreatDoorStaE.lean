/- Package state: Clone at pairs and lines, Alive, Leg. -/
import Derived.Test.YtnknejokneddbaaGreatDoorStaK
import Derived.Test.YtnknejokneddbaaGreatDoorRefSi
import Derived.Test.YtnknejokneddbaaGreatDoorObja
import Derived.Test.YtnknejokneddbaaGreatDoorPut
import Derived.Test.YtnknejokneddbaaGreatDoorStaI
namespace Go.Proofs.YtnknejokneddbaaGreatDoor
set_option maxHeartbeats 16000000
set_option maxRecDepth 20000
open Go.RowKit
def ClnP (t : TypeId) (size n : Nat) (cs : List Value) (w : World) (e : Ending) (w' : World) : Prop := ∃ v, e = .returned v /\ w'.ownsRow w.heap.size t size v n cs /\ w.grownBy w' none
theorem clonePr_c (p : Option Addr) (n c : Nat) (cs : List Value) (w : World) (hl : cs.length = n * 2) (h1 : ∀ u ∈ cs, u.oneCell' = true)
  (hs : (p = none /\ n = 0 /\ c = 0) ∨ ∃ ad, p = some ad /\ ∀ j u, cs[j]? = some u -> w.cell? (ad.add j) = some u) (hn : n <= 100000) :
  Calls Tryz.prog 47 #[.slice p n c] w (ClnP 88 2 n cs w) := by
 obtain ⟨i0, hi, hz0, hz1, hz2⟩ := Yz infoPr
 rcases hs with ⟨rfl, rfl, rfl⟩ | ⟨ad, rfl, hsrc⟩
 ·have hnil := fun w => Lib.run_eql_slice_nil (P := Tryz.prog) w 33 88 none 0 0 0 0 Tryz.underlying33
  have hc0 : cs = [] := Xu (by omega)
  subst hc0
  go_enter Tryz.func47, Tryz.ntmps47
  go_wp2
  go_ret
  exact ⟨_, rfl, Yp _ _ _ _, Zi _ _⟩
 ·have hnil := fun w => Lib.run_eql_slice_nil (P := Tryz.prog) w 33 88 (some ad) n c 0 0 Tryz.underlying33
  have hown : (w.alloc (.cells #[] 88)).ownsRow w.heap.size 88 2 (.slice (some ⟨w.heap.size, 0, none⟩) 0 0) 0 [] :=
   ⟨rfl, .inr ⟨w.heap.size, 0, #[], rfl, Zc _, heap_new w _, Zc _, Ze _, rfl, rfl⟩⟩
  have HO := Za hown
  have HW : Hid (∀ j u, cs[j]? = some u -> (w.alloc (.cells #[] 88)).cell? (ad.add j) = some u) := Za fun j u hj => World.grownBy.cell (Zd w _ none) (hsrc j u hj) (by simp)
  have HL := Za hl
  have H1 := Za h1
  clear hown hsrc hl h1
  go_enter Tryz.func47, Tryz.ntmps47
  go_wp2_with (at_builtin; refine Xc _ rfl _ _ 33 rfl w.heap.size 88 i0 (.agg #[.int .i64 0, .int .i64 0]) 2 16 Tryz.underlying33 hi hz0 hz1 hz2 rfl (by decide) _ 0 [] rfl HO.out ad n c cs rfl HL.out HW.out H1.out (by unfold maxLen; omega) (by omega) (by simp) ?_; intro v' w1 hown' hgrow hnn; have HR := Za hown'; have HG := Za hgrow; clear hown' hgrow hnn)
  go_ret
  have hgr : w.grownBy w1 none := Yx (Zd w _ none) HG.out (Zc _)
  have hr := HR.out
  rw [Yj, Ys] at hr
  exact ⟨_, rfl, hr, hgr⟩
theorem cloneLne_c (p : Option Addr) (n c : Nat) (cs : List Value) (w : World) (hl : cs.length = n * 4) (h1 : ∀ u ∈ cs, u.oneCell' = true)
  (hs : (p = none /\ n = 0 /\ c = 0) ∨ ∃ ad, p = some ad /\ ∀ j u, cs[j]? = some u -> w.cell? (ad.add j) = some u) (hn : n <= 100000) :
  Calls Tryz.prog 46 #[.slice p n c] w (ClnP 62 4 n cs w) := by
 obtain ⟨i0, hi, hz0, hz1, hz2⟩ := Yz infoLne
 rcases hs with ⟨rfl, rfl, rfl⟩ | ⟨ad, rfl, hsrc⟩
 ·have hnil := fun w => Lib.run_eql_slice_nil (P := Tryz.prog) w 32 62 none 0 0 0 0 Tryz.underlying32
  have hc0 : cs = [] := Xu (by omega)
  subst hc0
  go_enter Tryz.func46, Tryz.ntmps46
  go_wp2
  go_ret
  exact ⟨_, rfl, Yp _ _ _ _, Zi _ _⟩
 ·have hnil := fun w => Lib.run_eql_slice_nil (P := Tryz.prog) w 32 62 (some ad) n c 0 0 Tryz.underlying32
  have hown : (w.alloc (.cells #[] 62)).ownsRow w.heap.size 62 4 (.slice (some ⟨w.heap.size, 0, none⟩) 0 0) 0 [] :=
   ⟨rfl, .inr ⟨w.heap.size, 0, #[], rfl, Zc _, heap_new w _, Zc _, Ze _, rfl, rfl⟩⟩
  have HO := Za hown
  have HW : Hid (∀ j u, cs[j]? = some u -> (w.alloc (.cells #[] 62)).cell? (ad.add j) = some u) := Za fun j u hj => World.grownBy.cell (Zd w _ none) (hsrc j u hj) (by simp)
  have HL := Za hl
  have H1 := Za h1
  clear hown hsrc hl h1
  go_enter Tryz.func46, Tryz.ntmps46
  go_wp2_with (at_builtin; refine Xc _ rfl _ _ 32 rfl w.heap.size 62 i0 (.agg #[.int .u32 0, .int .i64 0, .string .empty, .bool false]) 4 40 Tryz.underlying32 hi hz0 hz1 hz2 rfl (by decide) _ 0 [] rfl HO.out ad n c cs rfl HL.out HW.out H1.out (by unfold maxLen; omega) (by omega) (by simp) ?_; intro v' w1 hown' hgrow hnn; have HR := Za hown'; have HG := Za hgrow; clear hown' hgrow hnn)
  go_ret
  have hgr : w.grownBy w1 none := Yx (Zd w _ none) HG.out (Zc _)
  have hr := HR.out
  rw [Yj, Ys] at hr
  exact ⟨_, rfl, hr, hgr⟩
theorem aliveS_c (s : ByteArray) (ls : List Lne) (pl : Option Addr) (nl cl : Nat) (pp : Option Addr) (np cp : Nat) (lo hi : Nat) (w : World) (h : LnesAt w lo hi pl nl ls) (hn : nl <= 1000000) :
  Calls Tryz.prog 25 #[.agg #[.string s, .slice pl nl cl, .slice pp np cp]] w fun e w' => ∃ v, e = .returned v /\ w'.ownsRow (w.heap.size + 1) 3 1 v (aliveL ls).length (zcells (aliveL ls)) /\ w.grownBy w' none := by
 obtain ⟨i0, hi0, hz0, hz1, hz2⟩ := Yz Tryz.infoZ3
 have HG := Za (Zd w (.cells #[.string s, .slice pl nl cl, .slice pp np cp] 35) none)
 have HB := Za (BoxV.new w [.string s, .slice pl nl cl, .slice pp np cp] 35)
 have H := Za (h.calm HG.out)
 have HL := Za h.len
 have HS1 : Hid ((w.alloc (.cells #[.string s, .slice pl nl cl, .slice pp np cp] 35)).heap.size = w.heap.size + 1) := Za (by simp)
 clear h
 go_enter Tryz.func25, Tryz.ntmps25
 go_upto_region 1 with fail
 generalize World.alloc w _ = w1 at *
 generalize hg0 : w.heap.size = g at *
 obtain ⟨b0, b1, b2⟩ := HB.out.three
 go_wp2
 clear b0 b1 b2
 go_loopw [3, 4, 5, 9] (fun v x4 x5 i wr => ∃ (k : Nat) (q : Value), q = v /\ k <= nl /\ i = .int .i64 k /\ Hid (wr.ownsRow w1.heap.size 3 1 q (aliveK ls k).length (zcells (aliveK ls k))) /\ Hid (w1.grownBy wr none)) (fun _ _ _ i _ => nl - (intOf i).toNat)
 case atStart => exact ⟨0, _, rfl, Ze _, rfl, Za (Yp _ _ _ _), Za (Zi _ _)⟩
 case round =>
 obtain ⟨k, q, rfl, hk, rfl, HROW, HGW⟩ := hrel
 by_cases hkn : k < nl
 ·have k0 : (0 : Int) <= k := by omega
  have k1 : (k : Int) < nl := by omega
  obtain ⟨bl, ol, rfl, _, _, _, hc⟩ := (H.out.calm HGW.out).cell (by omega)
  obtain ⟨x0, x1, x2, x3⟩ := hc k hkn
  have hal := aliveK_len ls k
  have HAK : Hid (aliveK ls (k + 1) = aliveK ls k ++ (if nDead (ls[k]?.getD lne0) = true then [] else [(k : Int)])) := Za rfl
  clear hc
  generalize ls[k]?.getD lne0 = y at *
  have hga := Zd wr (.cells #[.int .u32 (((nID y).1 : Nat) : Int), .int .i64 (nID y).2, .string (nTxt y), .bool (nDead y)] 62) none
  have hrow1 := ownsRow_calm HROW.out hga
  have hg1 := Zb HGW.out hga
  have HBX : Hid (BoxV (wr.alloc (.cells #[.int .u32 (((nID y).1 : Nat) : Int), .int .i64 (nID y).2, .string (nTxt y), .bool (nDead y)] 62)) wr.heap.size [.int .u32 (((nID y).1 : Nat) : Int), .int .i64 (nID y).2, .string (nTxt y), .bool (nDead y)] 62) := Za (Vc wr _)
  obtain ⟨e0, e1, e2, e3⟩ := HBX.out.four
  have HG1 := Za hg1
  have HR1 := Za hrow1
  have hsz : w1.heap.size <= (wr.alloc (.cells #[.int .u32 (((nID y).1 : Nat) : Int), .int .i64 (nID y).2, .string (nTxt y), .bool (nDead y)] 62)).heap.size := HG1.out.size
  clear hga hg1 hrow1
  go_upto_region 5 with fail
  generalize wr.alloc _ = w2 at *
  generalize wr.heap.size = g2 at *
  clear HBX x0 x1 x2 x3
  cases hd : nDead y with
  | true =>
   rw [hd] at e3
   have HROW2 : Hid (w2.ownsRow w1.heap.size 3 1 q (aliveK ls (k + 1)).length (zcells (aliveK ls (k + 1)))) := Za (by rw [HAK.out, if_pos hd, Xq]; exact HR1.out)
   clear hd
   go_wp2
   exact ⟨⟨k + 1, _, rfl, by omega, by go_num, HROW2, HG1⟩, by simp [intOf]; omega⟩
  | false =>
   rw [hd] at e3
   have HA : Hid (aliveK ls (k + 1) = aliveK ls k ++ [(k : Int)]) := Za (by rw [HAK.out, if_neg (by rw [hd]; decide)])
   clear hd
   go_wp2_with (at_builtin; refine Xc _ rfl _ _ 42 rfl w1.heap.size 3 i0 (.int .i64 0) 1 8 Tryz.underlying42 hi0 hz0 hz1 hz2 rfl (by decide) _ _ _ rfl (HR1.out.alloc _) ⟨w2.heap.size, 0, none⟩ 1 1 [.int .i64 (k : Int)] rfl rfl (cell_one_new _ _ _) (by simp [Value.oneCell']) (by unfold maxLen; omega) (by omega) (by simp; omega) ?_; intro v' w3 hown' hgrow _; have HO := Za hown'; have HG3 := Za (Xe HG1.out HR1.out hgrow); clear hown' hgrow)
   exact ⟨⟨k + 1, _, rfl, by omega, by go_num, Za (by rw [HA.out, zcells_snoc, Zq]; exact HO.out), HG3⟩, by simp [intOf]; omega⟩
 obtain rfl : nl = k := by omega
 have k1 : ¬ ((nl : Int) < nl) := by omega
 go_wp2
 go_ret
 exact ⟨_, rfl, by rw [<- HS1.out]; unfold aliveL; rw [HL.out]; exact HROW.out, Zb HG.out HGW.out⟩
theorem legS_c (s : ByteArray) (ls : List Lne) (pl : Option Addr) (nl cl : Nat) (pp : Option Addr) (np cp : Nat) (s' : ByteArray) (ms : List Lne) (ql : Option Addr) (ml dl : Nat) (qp : Option Addr) (mp dp : Nat) (lo hi lo' hi' : Nat) (w : World)
  (h : LnesAt w lo hi pl nl ls) (h' : LnesAt w lo' hi' ql ml ms) (hn : nl <= 1000000) (hm : ml <= 100000) (hkl : ∀ x ∈ ls, OkK (nID x)) (hkm : ∀ x ∈ ms, OkK (nID x)) :
  Calls Tryz.prog 22 #[.agg #[.string s, .slice pl nl cl, .slice pp np cp], .agg #[.string s', .slice ql ml dl, .slice qp mp dp]] w fun e w' => w.grownBy w' none /\ ((∃ v, e = .returned (.tuple #[v, .bool true]) /\ (∀ j, j < nl -> 0 <= atV ms (nID (ls[j]?.getD lne0))) /\ w'.ownsRow (w.heap.size + 2) 3 1 v nl (zcells (legK ls ms nl))) ∨
   (e = .returned (.tuple #[.slice none 0 0, .bool false]) /\ ∃ j, j < nl /\ atV ms (nID (ls[j]?.getD lne0)) < 0)) := by
 obtain ⟨i0, hi0, hz0, hz1, hz2⟩ := Yz Tryz.infoZ3
 have HG := Za (Zb (Zd w (.cells #[.string s, .slice pl nl cl, .slice pp np cp] 35) none) (Zd _ (.cells #[.string s', .slice ql ml dl, .slice qp mp dp] 35) none))
 have HB := Za ((BoxV.new w [.string s, .slice pl nl cl, .slice pp np cp] 35).calm (Zd _ (.cells #[.string s', .slice ql ml dl, .slice qp mp dp] 35) none))
 have HC := Za (BoxV.second w [.string s, .slice pl nl cl, .slice pp np cp] [.string s', .slice ql ml dl, .slice qp mp dp] 35 35)
 have HS1 : Hid (((w.alloc (.cells #[.string s, .slice pl nl cl, .slice pp np cp] 35)).alloc (.cells #[.string s', .slice ql ml dl, .slice qp mp dp] 35)).heap.size = w.heap.size + 2) := Za (by simp)
 have H := Za (h.calm HG.out)
 have H' := Za (h'.calm HG.out)
 have HL := Za h.len
 have HKL := Za hkl
 have HKM := Za hkm
 clear h h' hkl hkm
 go_enter Tryz.func22, Tryz.ntmps22
 go_upto_region 1 with fail
 generalize World.alloc w _ = w0 at *
 generalize World.alloc w0 _ = w1 at *
 generalize hg0 : w.heap.size = g at *
 obtain ⟨d0, d1, d2⟩ := HC.out.three
 go_wp2_with fail
 refine (plcM_c ql ml dl _ _ ms w1 H'.out hm HKM.out).mono ?_
 rintro e w2 ⟨bm, rfl, hbm, hpm, hg2⟩
 have HG2 := Za hg2
 have HPM := Za hpm
 clear d0 d1 d2 hpm hg2
 obtain ⟨b0, b1, b2⟩ := (HB.out.calm HG2.out).three
 have hs2 : w1.heap.size <= w2.heap.size := HG2.out.size
 go_wp2
 clear b0 b1 b2
 go_loopw [7, 9, 10, 11, 18, 22] (fun v x9 x10 x11 i x22 wr => ∃ (k : Nat) (q : Value), q = v /\ k <= nl /\ i = .int .i64 k /\ Hid (∀ j, j < k -> 0 <= atV ms (nID (ls[j]?.getD lne0))) /\ Hid (wr.ownsRow w2.heap.size 3 1 q k (zcells (legK ls ms k))) /\ Hid (w2.grownBy wr none)) (fun _ _ _ _ i _ _ => nl - (intOf i).toNat)
 case atStart => exact ⟨0, _, rfl, Ze _, rfl, Za (fun j hj => absurd hj (Zy _)), Za (Yp _ _ _ _), Za (Zi _ _)⟩
 case round =>
 obtain ⟨k, q, rfl, hk, rfl, HU, HROW, HGW⟩ := hrel
 by_cases hkn : k < nl
 ·have k0 : (0 : Int) <= k := by omega
  have k1 : (k : Int) < nl := by omega
  obtain ⟨bl, ol, rfl, _, _, _, hc⟩ := (H.out.calm (Zb HG2.out HGW.out)).cell (by omega)
  obtain ⟨x0, x1, x2, x3⟩ := hc k hkn
  have hkk : k < ls.length := by rw [HL.out]; exact hkn
  have HOK := Za (HKL.out _ (Zr (d := lne0) hkk))
  have HSU := Za (legK_succ (a := ls) (b := ms) (k := k) hkk)
  have HU2 := Za (show 0 <= atV ms (nID (ls[k]?.getD lne0)) -> ∀ j, j < k + 1 -> 0 <= atV ms (nID (ls[j]?.getD lne0)) from fun h => Yk (q := fun j => 0 <= atV ms (nID (ls[j]?.getD lne0))) HU.out h)
  have HBD := Za (show atV ms (nID (ls[k]?.getD lne0)) < 0 -> ∃ j, j < nl /\ atV ms (nID (ls[j]?.getD lne0)) < 0 from fun h => ⟨k, hkn, h⟩)
  clear hc HU
  generalize ls[k]?.getD lne0 = y at *
  have hga := Zd wr (.cells #[.int .u32 (((nID y).1 : Nat) : Int), .int .i64 (nID y).2, .string (nTxt y), .bool (nDead y)] 62) none
  have HR1 := Za (ownsRow_calm HROW.out hga)
  have HG1 := Za (Zb HGW.out hga)
  have HPM1 := Za ((HPM.out.calm HGW.out).calm hga)
  have HBX : Hid (BoxV (wr.alloc (.cells #[.int .u32 (((nID y).1 : Nat) : Int), .int .i64 (nID y).2, .string (nTxt y), .bool (nDead y)] 62)) wr.heap.size [.int .u32 (((nID y).1 : Nat) : Int), .int .i64 (nID y).2, .string (nTxt y), .bool (nDead y)] 62) := Za (Vc wr _)
  obtain ⟨e0, e1, e2, e3⟩ := HBX.out.four
  have hsz : w2.heap.size <= (wr.alloc (.cells #[.int .u32 (((nID y).1 : Nat) : Int), .int .i64 (nID y).2, .string (nTxt y), .bool (nDead y)] 62)).heap.size := HG1.out.size
  clear hga
  go_upto_region 6 with fail
  generalize wr.alloc _ = w3 at *
  generalize wr.heap.size = g3 at *
  clear HBX x0 x1 x2 x3
  have hlook := HPM1.out.look HOK.out (atL ms (nID y)) rfl
  cases hat : atL ms (nID y) with
  | none =>
   rw [hat] at hlook
   simp only [Option.getD_none, Option.isSome_none] at hlook
   have HE := Za (HBD.out (by unfold atV; rw [hat]; decide))
   have HGZ := Za (Zb HG.out (Zb HG2.out HG1.out))
   go_wp2
   go_ret2
   exact ⟨HGZ.out, .inr ⟨rfl, HE.out⟩⟩
  | some z =>
   rw [hat] at hlook
   simp only [Option.getD_some, Option.isSome_some] at hlook
   have HAV : Hid (atV ms (nID y) = (z : Int)) := Za (by unfold atV; rw [hat])
   have HU3 := Za (HU2.out (by rw [HAV.out]; omega))
   clear HU2 HBD hat
   go_wp2_with (at_builtin; refine Xc _ rfl _ _ 42 rfl w2.heap.size 3 i0 (.int .i64 0) 1 8 Tryz.underlying42 hi0 hz0 hz1 hz2 rfl (by decide) _ _ _ rfl (HR1.out.alloc _) ⟨w3.heap.size, 0, none⟩ 1 1 [.int .i64 (z : Int)] rfl rfl (cell_one_new _ _ _) (by simp [Value.oneCell']) (by unfold maxLen; omega) (by omega) (by simp; omega) ?_; intro v' w4 hown' hgrow _; have HO := Za hown'; have HG3 := Za (Xe HG1.out HR1.out hgrow); clear hown' hgrow)
   exact ⟨⟨k + 1, _, rfl, by omega, by go_num, HU3, Za (by rw [HSU.out, HAV.out, zcells_snoc]; exact HO.out), HG3⟩, by simp [intOf]; omega⟩
 obtain rfl : nl = k := by omega
 have k1 : ¬ ((nl : Int) < nl) := by omega
 go_wp2
 go_ret2
 exact ⟨Zb HG.out (Zb HG2.out HGW.out), .inl ⟨_, rfl, HU.out, Vd HROW.out (by rw [<- HS1.out]; exact hs2)⟩⟩
theorem eqlLne_c (p p' : Option Addr) (n m c c' lo hi lo' hi' : Nat) (la lb : List Lne) (r : Bool) (w : World) (hp : LnesAt w lo hi p n la) (hq : LnesAt w lo' hi' p' m lb) (hn : n <= 1000000) (hm : m <= 1000000) (hr : r = true ↔ la = lb) :
  Calls Tryz.prog 81 #[.slice p n c, .slice p' m c'] w fun e w' => e = .returned (.bool r) /\ w.grownBy w' none := by
 have HP := Za hp
 have HQ := Za hq
 have HR := Za hr
 have HPL := Za hp.len
 have HQL := Za hq.len
 clear hp hq hr
 by_cases hnm : n = m
 ·subst hnm
  have e0 : ((n : Int) != (n : Int)) = false := by simp
  have HL := Za (HPL.out.trans HQL.out.symm)
  go_enter Tryz.func81, Tryz.ntmps81
  go_wp2
  go_loopw [13] (fun i wr => ∃ k : Nat, k <= n /\ i = .int .i64 k /\ Hid (∀ j, j < k -> la[j]?.getD lne0 = lb[j]?.getD lne0) /\ Hid (w.grownBy wr none)) (fun i _ => n - (intOf i).toNat)
  case atStart => exact ⟨0, Ze _, rfl, Za (fun j hj => absurd hj (Zy _)), Za (Zi _ _)⟩
  case round =>
   obtain ⟨k, hk, rfl, HE, HG⟩ := hrel
   by_cases hkn : k < n
   ·have k0 : (0 : Int) <= k := by omega
    have k1 : (k : Int) < n := by omega
    obtain ⟨b, o, rfl, _, _, _, hc⟩ := (HP.out.calm HG.out).cell (by omega)
    obtain ⟨b', o', rfl, _, _, _, hc'⟩ := (HQ.out.calm HG.out).cell (by omega)
    have cx := hc k hkn
    have cy := hc' k hkn
    have HU := Za (show la[k]?.getD lne0 = lb[k]?.getD lne0 -> ∀ j, j < k + 1 -> la[j]?.getD lne0 = lb[j]?.getD lne0 from fun h => Yk (q := fun j => la[j]?.getD lne0 = lb[j]?.getD lne0) HE.out h)
    have HX := Za (show la = lb -> la[k]?.getD lne0 = lb[k]?.getD lne0 from fun h => by rw [h])
    have HG2 := Za (fun z => Zb HG.out (Zo wr z none))
    clear hc hc' HE HG
    generalize la[k]?.getD lne0 = x at *
    generalize lb[k]?.getD lne0 = y at *
    obtain ⟨⟨u1, u2⟩, u3, u4⟩ := x
    obtain ⟨⟨v1, v2⟩, v3, v4⟩ := y
    obtain ⟨cx0, cx1, cx2, cx3⟩ := cx
    obtain ⟨cy0, cy1, cy2, cy3⟩ := cy
    replace cx0 : wr.cell? ⟨b, o + k * 4, none⟩ = some (.int .u32 (u1 : Int)) := cx0
    replace cx1 : wr.cell? ⟨b, o + k * 4 + 1, none⟩ = some (.int .i64 u2) := cx1
    replace cx2 : wr.cell? ⟨b, o + k * 4 + 2, none⟩ = some (.string u3) := cx2
    replace cx3 : wr.cell? ⟨b, o + k * 4 + 3, none⟩ = some (.bool u4) := cx3
    replace cy0 : wr.cell? ⟨b', o' + k * 4, none⟩ = some (.int .u32 (v1 : Int)) := cy0
    replace cy1 : wr.cell? ⟨b', o' + k * 4 + 1, none⟩ = some (.int .i64 v2) := cy1
    replace cy2 : wr.cell? ⟨b', o' + k * 4 + 2, none⟩ = some (.string v3) := cy2
    replace cy3 : wr.cell? ⟨b', o' + k * 4 + 3, none⟩ = some (.bool v4) := cy3
    have hq := lne_neq (u1 : Int) v1 u2 v2 u3 v3 u4 v4
    by_cases hxy : (((u1, u2), u3, u4) : Lne) = ((v1, v2), v3, v4)
    ·have HU2 := Za (HU.out hxy)
     have hb1 : (!(((u1 : Int) == (v1 : Int) && u2 == v2) && (u3.toList == v3.toList) && (u4 == v4))) = false := by
      simp only [Prod.mk.injEq] at hxy
      obtain ⟨⟨rfl, rfl⟩, rfl, rfl⟩ := hxy
      simp
     rw [hb1] at hq
     clear hb1
     clear HU HX
     go_wp2
     go_quiet (fail)
     go_wp2
     exact ⟨⟨k + 1, by omega, by go_num, HU2, Za (HG2.out _)⟩, by simp [intOf]; omega⟩
    ·obtain rfl : r = false := Zj HR.out fun h => hxy (HX.out h)
     have hb1 : (!(((u1 : Int) == (v1 : Int) && u2 == v2) && (u3.toList == v3.toList) && (u4 == v4))) = true := by
      rw [Bool.not_eq_true', Bool.eq_false_iff]
      intro h
      simp only [Yv, beq_iff_eq] at h
      apply hxy
      obtain ⟨⟨⟨h1, h2⟩, h3⟩, h4⟩ := h
      have h5 : u3 = v3 := by
       by_cases e : u3 = v3
       ·exact e
       ·have := Xt e
        rw [h3] at this
        simp at this
      have h6 : u1 = v1 := by omega
      subst h6 h2 h5 h4
      rfl
     rw [hb1] at hq
     clear hb1
     clear HU HX
     go_wp2
     go_quiet (fail)
     go_wp2
     go_ret
     exact ⟨rfl, HG2.out _⟩
   ·obtain rfl : n = k := by omega
    have k1 : ¬ ((n : Int) < n) := by omega
    obtain rfl : r = true := HR.out.2 (eq_get (d := lne0) HL.out (by rw [HPL.out]; exact HE.out))
    go_wp2
    go_ret
    exact ⟨rfl, HG.out⟩
 ·have e0 : ((n : Int) != (m : Int)) = true := by simp; omega
  obtain rfl : r = false := Zj HR.out fun h => hnm (by rw [<- HPL.out, <- HQL.out, h])
  go_enter Tryz.func81, Tryz.ntmps81
  go_wp2
  go_ret
  exact ⟨rfl, Zi _ _⟩
theorem sameFileS_c (x y : Fl) (pa : Option Addr) (na ca : Nat) (pe : Option Addr) (ne ce : Nat) (qa : Option Addr) (ma da : Nat) (qe : Option Addr) (me de : Nat) (lo hi lo' hi' : Nat) (r : Bool) (w : World)
  (h : FlAt w lo hi pa na ca pe ne ce x) (h' : FlAt w lo' hi' qa ma da qe me de y) (hb : na <= 1000000 /\ ne <= 1000000) (hb' : ma <= 1000000 /\ me <= 1000000) (hr : r = true ↔ x = y) :
  Calls Tryz.prog 45 #[.agg #[.string (fPath x), .slice pa na ca, .slice pe ne ce], .agg #[.string (fPath y), .slice qa ma da, .slice qe me de]] w fun e w' => e = .returned (.bool r) /\ w.grownBy w' none := by
 have HR := Za hr
 have HG := Za (Zb (Zd w (.cells #[.string (fPath x), .slice pa na ca, .slice pe ne ce] 35) none) (Zd _ (.cells #[.string (fPath y), .slice qa ma da, .slice qe me de] 35) none))
 have HB1 := Za (BoxV.new w [.string (fPath x), .slice pa na ca, .slice pe ne ce] 35)
 have HB2 := Za (BoxV.second w [.string (fPath x), .slice pa na ca, .slice pe ne ce] [.string (fPath y), .slice qa ma da, .slice qe me de] 35 35)
 have HG2 := Za (Zd (w.alloc (.cells #[.string (fPath x), .slice pa na ca, .slice pe ne ce] 35)) (.cells #[.string (fPath y), .slice qa ma da, .slice qe me de] 35) none)
 have H := Za (h.calm HG.out)
 have H' := Za (h'.calm HG.out)
 have HXE := Za (show (fPath x = fPath y /\ fLines x = fLines y /\ fPairs x = fPairs y) -> x = y from fun h => fl_eq h.1 h.2.1 h.2.2)
 clear hr h h'
 go_enter Tryz.func45, Tryz.ntmps45
 go_upto_region 1 with fail
 have HC0 := Za (HB1.out.calm HG2.out)
 generalize w.alloc _ = w1 at *
 generalize w1.alloc _ = w2 at *
 generalize w.heap.size = g1 at *
 clear HB1 HG2
 generalize hpx : fPath x = px at *
 generalize hpy : fPath y = py at *
 have HPX := Za hpx
 have HPY := Za hpy
 clear hpx hpy
 obtain ⟨a0, a1, a2⟩ := HC0.out.three
 obtain ⟨b0, b1, b2⟩ := HB2.out.three
 by_cases hp : px = py
 ·have f1 := Xz hp
  have HP := Za hp
  clear hp
  obtain ⟨q, hq⟩ := Ym (fLines x = fLines y)
  have HQ := Za hq
  clear hq
  go_wp2_with fail
  refine (eqlLne_c pa qa na ma ca da lo hi lo' hi' (fLines x) (fLines y) q w2 H.out.lines H'.out.lines (by omega) (by omega) HQ.out).mono ?_
  rintro e w3 ⟨rfl, hg3⟩
  have HG3 := Za hg3
  clear hg3 a0 a1 a2 b0 b1 b2
  cases q with
  | false =>
   obtain rfl : r = false := Zj HR.out fun h => by have := HQ.out.2 (by rw [h]); cases this
   go_wp2
   go_ret
   exact ⟨rfl, Zb HG.out HG3.out⟩
  | true =>
   have HA := Za (HQ.out.1 rfl)
   clear HQ
   obtain ⟨a0, a1, a2⟩ := (HC0.out.calm HG3.out).three
   obtain ⟨b0, b1, b2⟩ := (HB2.out.calm HG3.out).three
   have HR2 : Hid (decide (fPairs x = fPairs y) = r) := Za (by
    by_cases e : fPairs x = fPairs y
    ·rw [Zg e, HR.out.2 (HXE.out ⟨HP.out, HA.out, e⟩)]
    ·rw [Zl e, Zj HR.out fun h => e (by rw [h])])
   go_wp2_with fail
   refine (eqP_r pe qe ne me ce de lo hi lo' hi' (fPairs x) (fPairs y) r w3 (H.out.pairs.calm HG3.out) (H'.out.pairs.calm HG3.out) (by omega) HR2.out).mono ?_
   rintro e w5 ⟨rfl, hg5⟩
   have HG5 := Za (Zb HG3.out hg5)
   clear hg5 a0 a1 a2 b0 b1 b2
   go_wp2
   go_ret
   exact ⟨rfl, Zb HG.out HG5.out⟩
 ·have f1 := Xt hp
  obtain rfl : r = false := Zj HR.out fun h => hp (by rw [<- HPX.out, <- HPY.out, h])
  clear hp
  go_wp2
  go_ret
  exact ⟨rfl, HG.out⟩
theorem eqlFl_c (p p' : Option Addr) (n m c c' lo hi lo' hi' : Nat) (la lb : List Fl) (r : Bool) (w : World) (hp : FlsAt w lo hi p n la) (hq : FlsAt w lo' hi' p' m lb) (hn : n <= 1000000) (hm : m <= 1000000)
  (hb : ∀ x ∈ la, (fLines x).length <= 1000000 /\ (fPairs x).length <= 1000000) (hb' : ∀ x ∈ lb, (fLines x).length <= 1000000 /\ (fPairs x).length <= 1000000) (hr : r = true ↔ la = lb) :
  Calls Tryz.prog 44 #[.slice p n c, .slice p' m c', .func (.func 45) #[] #[]] w fun e w' => e = .returned (.bool r) /\ w.grownBy w' none := by
 have HP := Za hp
 have HQ := Za hq
 have HR := Za hr
 have HPL := Za hp.len
 have HQL := Za hq.len
 have HB := Za hb
 have HB' := Za hb'
 clear hp hq hr hb hb'
 by_cases hnm : n = m
 ·subst hnm
  have e0 : ((n : Int) != (n : Int)) = false := by simp
  have HL := Za (HPL.out.trans HQL.out.symm)
  go_enter Tryz.func44, Tryz.ntmps44
  go_wp2
  go_loopw [17] (fun i wr => ∃ k : Nat, k <= n /\ i = .int .i64 k /\ Hid (∀ j, j < k -> la[j]?.getD fl0 = lb[j]?.getD fl0) /\ Hid (w.grownBy wr none)) (fun i _ => n - (intOf i).toNat)
  case atStart => exact ⟨0, Ze _, rfl, Za (fun j hj => absurd hj (Zy _)), Za (Zi _ _)⟩
  case round =>
   obtain ⟨k, hk, rfl, HE, HG⟩ := hrel
   by_cases hkn : k < n
   ·have k0 : (0 : Int) <= k := by omega
    have k1 : (k : Int) < n := by omega
    obtain ⟨b, o, rfl, _, _, _, hc⟩ := (HP.out.calm HG.out).cell (by omega)
    obtain ⟨b', o', rfl, _, _, _, hc'⟩ := (HQ.out.calm HG.out).cell (by omega)
    obtain ⟨pa, na, ca, pe, ne, ce, cx0, cx1, cx2, hh⟩ := hc k hkn
    obtain ⟨qa, ma, da, qe, me, de, cy0, cy1, cy2, hh'⟩ := hc' k hkn
    have HU := Za (show la[k]?.getD fl0 = lb[k]?.getD fl0 -> ∀ j, j < k + 1 -> la[j]?.getD fl0 = lb[j]?.getD fl0 from fun h => Yk (q := fun j => la[j]?.getD fl0 = lb[j]?.getD fl0) HE.out h)
    have HX := Za (show la = lb -> la[k]?.getD fl0 = lb[k]?.getD fl0 from fun h => by rw [h])
    have HBX := Za (HB.out _ (Zr (d := fl0) (show k < la.length by rw [HPL.out]; exact hkn)))
    have HBY := Za (HB'.out _ (Zr (d := fl0) (show k < lb.length by rw [HQL.out]; exact hkn)))
    have HH := Za hh
    have HH' := Za hh'
    clear hc hc' HE hh hh'
    generalize la[k]?.getD fl0 = x at *
    generalize lb[k]?.getD fl0 = y at *
    have hl1 := HH.out.lines.len
    have hl2 := HH.out.pairs.len
    have hl4 := HH'.out.lines.len
    have hl5 := HH'.out.pairs.len
    have hbx : na <= 1000000 /\ ne <= 1000000 := by rw [<- hl1, <- hl2]; exact HBX.out
    have hby : ma <= 1000000 /\ me <= 1000000 := by rw [<- hl4, <- hl5]; exact HBY.out
    clear hl1 hl2 hl4 hl5
    obtain ⟨q, hq⟩ := Ym (x = y)
    have HS := Za (fun W (hg : wr.grownBy W none) => sameFileS_c x y pa na ca pe ne ce qa ma da qe me de _ _ _ _ q W (HH.out.calm hg) (HH'.out.calm hg) hbx hby hq)
    have HQQ := Za hq
    clear hq HH HH' hbx hby
    generalize fPath x = px at *
    generalize fPath y = py at *
    have HX1 := Za (BoxV.new wr [.string px, .slice pa na ca, .slice pe ne ce] 35)
    have HX2 := Za (BoxV.second wr [.string px, .slice pa na ca, .slice pe ne ce] [.string py, .slice qa ma da, .slice qe me de] 35 35)
    have HG1 := Za (Zd wr (.cells #[.string px, .slice pa na ca, .slice pe ne ce] 35) none)
    have HG2 := Za (Zd (wr.alloc (.cells #[.string px, .slice pa na ca, .slice pe ne ce] 35)) (.cells #[.string py, .slice qa ma da, .slice qe me de] 35) none)
    have dy0 := cell_calmG HG1.out cy0
    have dy1 := cell_calmG HG1.out cy1
    have dy2 := cell_calmG HG1.out cy2
    clear cy0 cy1 cy2
    go_upto_region 7 with fail
    have HC0 := Za (HX1.out.calm HG2.out)
    have HG3 := Za (Zb HG1.out HG2.out)
    have HG4 := Za (Zb HG.out HG3.out)
    generalize wr.alloc _ = w1 at *
    generalize w1.alloc _ = w2 at *
    generalize wr.heap.size = g1 at *
    clear HX1 HG1 HG2 cx0 cx1 cx2 dy0 dy1 dy2
    obtain ⟨a0, a1, a2⟩ := HC0.out.three
    obtain ⟨b0, b1, b2⟩ := HX2.out.three
    go_wp2_with fail
    refine (HS.out _ HG3.out).mono ?_
    rintro e w5 ⟨rfl, hg5⟩
    have HG5 := Za (Zb HG4.out hg5)
    clear hg5 a0 a1 a2 b0 b1 b2
    cases q with
    | true =>
     have HU2 := Za (HU.out (HQQ.out.1 rfl))
     clear HQQ HU HX
     go_wp2
     exact ⟨⟨k + 1, by omega, by go_num, HU2, HG5⟩, by simp [intOf]; omega⟩
    | false =>
     obtain rfl : r = false := Zj HR.out fun h => by have := HQQ.out.2 (HX.out h); cases this
     go_wp2
     go_ret
     exact ⟨rfl, HG5.out⟩
   ·obtain rfl : n = k := by omega
    have k1 : ¬ ((n : Int) < n) := by omega
    obtain rfl : r = true := HR.out.2 (eq_get (d := fl0) HL.out (by rw [HPL.out]; exact HE.out))
    go_wp2
    go_ret
    exact ⟨rfl, HG.out⟩
 ·have e0 : ((n : Int) != (m : Int)) = true := by simp; omega
  obtain rfl : r = false := Zj HR.out fun h => hnm (by rw [<- HPL.out, <- HQL.out, h])
  go_enter Tryz.func44, Tryz.ntmps44
  go_wp2
  go_ret
  exact ⟨rfl, Zi _ _⟩
theorem sameS_c (p p' : Option Addr) (n m c c' lo hi lo' hi' : Nat) (la lb : List Fl) (r : Bool) (w : World) (hp : FlsAt w lo hi p n la) (hq : FlsAt w lo' hi' p' m lb) (hn : n <= 1000000) (hm : m <= 1000000)
  (hb : ∀ x ∈ la, (fLines x).length <= 1000000 /\ (fPairs x).length <= 1000000) (hb' : ∀ x ∈ lb, (fLines x).length <= 1000000 /\ (fPairs x).length <= 1000000) (hr : r = true ↔ la = lb) :
  Calls Tryz.prog 16 #[.slice p n c, .slice p' m c'] w fun e w' => e = .returned (.bool r) /\ w.grownBy w' none := by
 have HE := Za (eqlFl_c p p' n m c c' lo hi lo' hi' la lb r w hp hq hn hm hb hb' hr)
 clear hp hq hb hb' hr
 go_enter Tryz.func16, Tryz.ntmps16
 go_wp2_with fail
 refine HE.out.mono ?_
 rintro e w1 ⟨rfl, hg⟩
 have HG := Za hg
 clear hg
 go_wp2
 go_ret
 exact ⟨rfl, HG.out⟩
theorem ObE.calm {w wr w' : World} {g g3 : Nat} {vf : List Value} {q : Option Addr} {n cq : Nat} {p : Option Addr} {np cp : Nat} {ls : List Lne} {Ps : List (Int × Int)} {k : Nat} (h : ObE w wr g g3 vf q n cq p np cp ls Ps k) (hg : wr.grownBy w' none) : ObE w w' g g3 vf q n cq p np cp ls Ps k :=
 ⟨h.bf.calm hg, h.b2.calm hg, h.b3.calm hg, ownsRow_calm h.row hg, h.prs.calm hg, Zb h.gr hg, h.g3l⟩
theorem objS_c (s : ByteArray) (ls : List Lne) (Ps : List (Int × Int)) (pl : Option Addr) (nl cl : Nat) (pp : Option Addr) (np cp : Nat) (lo hi : Nat) (w : World) (h : LnesAt w lo hi pl nl ls) (h' : PairsAt w lo hi pp np Ps) (hp : pp = none -> cp = 0) (hn : nl <= 100000) (hm : np <= 100000) :
  Calls Tryz.prog 28 #[.agg #[.string s, .slice pl nl cl, .slice pp np cp]] w fun e w' => ∃ q cq p c, e = .returned (.agg #[.slice q nl cq, .slice p np c]) /\ StrsAt w' w.heap.size w'.heap.size q nl (ls.map nTxt) /\ PairsAt w' w.heap.size w'.heap.size p np Ps /\ w.grownBy w' none := by
 obtain ⟨j0, hj0, jz0, jz1, jz2⟩ := Yz Tryz.info9
 have HG := Za (Zb (Zd w (.cells #[.string s, .slice pl nl cl, .slice pp np cp] 35) none) (Zd _ (.cells #[.slice none 0 0, .slice none 0 0] 50) none))
 have HB := Za ((BoxV.new w [.string s, .slice pl nl cl, .slice pp np cp] 35).calm (Zd _ (.cells #[.slice none 0 0, .slice none 0 0] 50) none))
 have HC := Za (BoxV.second w [.string s, .slice pl nl cl, .slice pp np cp] [.slice none 0 0, .slice none 0 0] 35 50)
 have HS1 : Hid (((w.alloc (.cells #[.string s, .slice pl nl cl, .slice pp np cp] 35)).alloc (.cells #[.slice none 0 0, .slice none 0 0] 50)).heap.size = w.heap.size + 2) := Za (by simp)
 have H := Za (h.calm HG.out)
 have H' := Za (h'.calm HG.out)
 have HL := Za h.len
 have HP := Za hp
 have HPL : Hid ((pcells Ps).length = np * 2) := Za (by rw [pcells_len, h'.len])
 have HSR := Za (pairs_srcP H'.out hp)
 clear h h' hp
 go_enter Tryz.func28, Tryz.ntmps28
 go_upto_region 1 with fail
 generalize World.alloc w _ = w0 at *
 generalize World.alloc w0 _ = w1 at *
 generalize hg0 : w.heap.size = g at *
 have HG0 : Hid (w.heap.size <= g) := Za (Nat.le_of_eq hg0)
 have HGE := Za hg0
 clear hg0
 obtain ⟨a0, a1, a2⟩ := HB.out.three
 go_wp2_with fail
 refine (clonePr_c pp np cp (pcells Ps) w1 HPL.out (pcells_one' _) HSR.out (by omega)).mono ?_
 rintro e w2 ⟨vv, rfl, hr1, hg1⟩
 obtain ⟨p1, c1, rfl⟩ := Xs hr1
 have HR1 := Za hr1
 have HG1 : Hid (w1.grownBy w2 none) := Za hg1
 clear hr1 hg1
 go_upto_region 2 with fail
 have hpl : np = Ps.length := by have := HPL.out; rw [pcells_len] at this; omega
 have HPA := Za (show PairsAt w2 w1.heap.size w2.heap.size p1 np Ps from by
  have h := HR1.out
  rw [hpl] at h ⊢
  obtain ⟨p, c, e, ha⟩ := pairsAt_own h
  cases e
  exact ha)
 have HGA := Za (Zd w2 (.cells #[.slice none 0 0, .slice p1 np c1] 50) none)
 have HB3 := Za (BoxV.new w2 [.slice none 0 0, .slice p1 np c1] 50)
 have H3L : Hid (g + 2 <= w2.heap.size) := Za (by have := HG1.out.size; have := HS1.out; omega)
 clear hpl a0 a1 a2 HR1
 have HE : Hid (ObE w (w2.alloc (.cells #[.slice none 0 0, .slice p1 np c1] 50)) g w2.heap.size [.string s, .slice pl nl cl, .slice pp np cp] none 0 0 p1 np c1 ls Ps 0) := Za ⟨(HB.out.calm HG1.out).calm HGA.out, (HC.out.calm HG1.out).calm HGA.out, HB3.out, Yp _ _ _ _, by rw [<- HS1.out]; exact HPA.out.calm HGA.out, Zb (Zb HG.out HG1.out) HGA.out, H3L.out⟩
 have HLA := Za (H.out.calm (Zb HG1.out HGA.out))
 generalize World.alloc w2 _ = w3 at *
 generalize w2.heap.size = g3 at *
 clear HPA HGA HB3 HG1
 obtain ⟨b0, b1, b2⟩ := HE.out.bf.three
 go_wp2
 clear b0 b1 b2
 go_loopw [5, 13] (fun x5 v wr => ∃ (k : Nat) (q : Option Addr) (cq : Nat), k <= nl /\ v = .int .i64 k /\ Hid (ObE w wr g g3 [.string s, .slice pl nl cl, .slice pp np cp] q k cq p1 np c1 ls Ps k) /\ Hid (LnesAt wr lo hi pl nl ls)) (fun _ v _ => nl - (intOf v).toNat)
 case atStart => exact ⟨0, none, 0, Ze _, rfl, HE, HLA⟩
 case round =>
 clear HE HLA
 obtain ⟨k, q, cq, hk, rfl, HE, HLA⟩ := hrel
 by_cases hkn : k < nl
 ·have k0 : (0 : Int) <= k := by omega
  have k1 : (k : Int) < nl := by omega
  have HHI : Hid (hi <= g3) := Za (by
   obtain ⟨_, _, _, _, _, h3, _⟩ := H.out.cell (by omega)
   have := HS1.out
   have := HGE.out
   have := HE.out.g3l
   omega)
  obtain ⟨bl, ol, rfl, _, _, _, hc⟩ := HLA.out.cell (by omega)
  obtain ⟨x0, x1, x2, x3⟩ := hc k hkn
  have HTS := Za (txtK_succ (ls := ls) (k := k) (by rw [HL.out]; exact hkn))
  clear hc
  generalize ls[k]?.getD lne0 = z at *
  have hga := Zd wr (.cells #[.int .u32 (((nID z).1 : Nat) : Int), .int .i64 (nID z).2, .string (nTxt z), .bool (nDead z)] 62) none
  have HE5 := Za (HE.out.calm hga)
  have HLA5 := Za (HLA.out.calm hga)
  have HBX : Hid (BoxV (wr.alloc (.cells #[.int .u32 (((nID z).1 : Nat) : Int), .int .i64 (nID z).2, .string (nTxt z), .bool (nDead z)] 62)) wr.heap.size [.int .u32 (((nID z).1 : Nat) : Int), .int .i64 (nID z).2, .string (nTxt z), .bool (nDead z)] 62) := Za (Vc wr _)
  obtain ⟨e0, e1, e2, e3⟩ := HBX.out.four
  clear hga HE HLA
  go_upto_region 5 with fail
  generalize wr.alloc _ = w5 at *
  generalize wr.heap.size = g5 at *
  clear HBX x0 x1 x2 x3
  generalize nTxt z = y at *
  have hlt := HE5.out.b3.lt
  have hg3 := HE5.out.g3l
  have z0 := HE5.out.b3.cell (k := 0) rfl
  have hA := Zd w5 (.cells #[.string y] 9) none
  have HRA := Za (ownsRow_calm HE5.out.row hA)
  have HEA := Za (HE5.out.calm hA)
  have HLAA := Za (HLA5.out.calm hA)
  have HSA : Hid (g3 < (w5.alloc (.cells #[.string y] 9)).heap.size) := Za (HEA.out.b3.lt)
  clear hA
  go_wp2_with (at_builtin; refine Xc _ rfl _ _ 48 rfl (g3 + 1) 9 j0 (.string .empty) 1 16 Tryz.underlying48 hj0 jz0 jz1 jz2 rfl (by decide) _ k _ rfl HRA.out ⟨w5.heap.size, 0, none⟩ 1 1 [.string y] rfl rfl (cell_one_new _ _ _) (by simp [Value.oneCell']) (by unfold maxLen; omega) (by omega) (by simp; omega) ?_; intro v' w7 hr hg _; obtain ⟨q', cq', rfl⟩ := Xs hr; have HR7 := Za hr; have HB7 := Za (box_far HRA.out hg HEA.out.b3 (by omega)); have HBF := Za (box_far HRA.out hg HEA.out.bf (by omega)); have HB2 := Za (box_far HRA.out hg HEA.out.b2 (by omega)); have HSF := Za (stay_far (lo := 0) (hi := g3) HRA.out hg (by omega) (by have := HSA.out; omega)); have HPS := Za (show PairsAt w7 (g + 2) g3 p1 np Ps from PairsAt.stay HEA.out.prs ⟨HSF.out.size, fun i h1 h2 => HSF.out.block i (Ze _) h2⟩); have HLN := Za (LnesAt.stay (lo := lo) (hi := hi) HLAA.out ⟨HSF.out.size, fun i h1 h2 => HSF.out.block i (Ze _) (by have := HHI.out; omega)⟩); have HGR := Za (ownsRow_new HEA.out.gr (Vd HRA.out (by have := HG0.out; omega)) hg); have t0 := HB7.out.cell (k := 0) rfl; have f0 := HB7.out.free 0; clear hr hg)
  have HE2 : Hid (ObE w (w7.setCell ⟨g3, 0, none⟩ (.slice q' (k + 1 : Nat) cq')) g g3 [.string s, .slice (some ⟨bl, ol, none⟩) nl cl, .slice pp np cp] q' (k + 1) cq' p1 np c1 ls Ps (k + 1)) := Za ⟨keepOne HBF.out (by omega) 0 _, keepOne HB2.out (by omega) 0 _, HB7.out.set 0 _, ownsRow_setO (by rw [HTS.out, scells_snoc]; exact HR7.out) (by omega) 0 _, HPS.out.stay (Zu (Stay.of (Zi w7 none) (by have := HB7.out.lt; omega)) (.inr (Zc _)) 0 _ (by have := HB7.out.lt; omega)), Yx HGR.out (Zz _ _ _) (by show w.heap.size <= g3; have := HG0.out; omega), hg3⟩
  have HLN2 := Za (HLN.out.stay (Zu (Stay.of (Zi w7 none) (by have := HB7.out.lt; have := HHI.out; omega)) (b := g3) (.inr HHI.out) 0 (.slice q' (k + 1 : Nat) cq') (by have := HB7.out.lt; have := HHI.out; omega)))
  exact ⟨⟨k + 1, q', cq', by omega, by go_num, HE2, HLN2⟩, by simp [intOf]; omega⟩
 obtain rfl : nl = k := by omega
 have k1 : ¬ ((nl : Int) < nl) := by omega
 have hg3 := HE.out.g3l
 have hlt := HE.out.b3.lt
 have y0 := HE.out.b3.cell (k := 0) rfl
 have y1 := HE.out.b3.cell (k := 1) rfl
 have r0 := HE.out.b2.cell (k := 0) rfl
 have r1 := HE.out.b2.cell (k := 1) rfl
 have f0 := HE.out.b2.free 0
 have f1 := HE.out.b2.free 1
 have HNB := Za ((HE.out.b2.set 0 (.slice q nl cq)).set 1 (.slice p1 np c1))
 have HNG := Za (Yx (Yx HE.out.gr (Zz wr ⟨g + 1, 0, none⟩ (.slice q nl cq)) (by show w.heap.size <= g + 1; have := HG0.out; omega)) (Zz _ ⟨g + 1, 1, none⟩ (.slice p1 np c1)) (by show w.heap.size <= g + 1; have := HG0.out; omega))
 have HROW := Za (ownsRow_setO (ownsRow_setO HE.out.row (show g + 1 < g3 + 1 by omega) 0 (.slice q nl cq)) (show g + 1 < g3 + 1 by omega) 1 (.slice p1 np c1))
 have HPS := Za (HE.out.prs.stay (Zu (Zu (Stay.of (Zi wr none) (Nat.le_of_lt hlt)) (b := g + 1) (.inl (by omega)) 0 (.slice q nl cq) (Nat.le_of_lt hlt)) (b := g + 1) (.inl (by omega)) 1 (.slice p1 np c1) (Nat.le_of_lt hlt)))
 have HTX : Hid (txtK ls nl = ls.map nTxt) := Za (by unfold txtK; rw [Yl (by rw [HL.out]; exact Zc _)])
 clear HE HLA
 go_wp2
 generalize World.setCell _ ⟨g + 1, 1, none⟩ _ = wy at *
 have z0 := HNB.out.cell (k := 0) rfl
 have z1 := HNB.out.cell (k := 1) rfl
 try simp only [Exit.inBlock, Exit.then]
 refine bodyPost_ret (v := .agg #[.slice q nl cq, .slice p1 np c1]) (by simp [results, Tryz.results28, go_sem, z0, z1]) rfl ?_
 rw [HTX.out] at HROW
 obtain ⟨q2, c2, e2, hs, _⟩ := strsAt_own3 (by rw [Yn, HL.out]) HROW.out
 cases e2
 first | refine ⟨q, cq, p1, c1, rfl, ?_, ?_, HNG.out⟩ | refine ⟨q, cq, p1, ⟨c1, rfl⟩, ?_, ?_, HNG.out⟩
 ·exact ⟨hs.len, fun h => by
   obtain ⟨b, off, e, h1, h2, h3, hc⟩ := hs.cell h
   exact ⟨b, off, e, by have := HG0.out; omega, h2, h3, hc⟩⟩
 ·have hp := HPS.out
  exact ⟨hp.len, fun h => by
   obtain ⟨b, off, e, h1, h2, h3, hc⟩ := hp.cell h
   exact ⟨b, off, e, by have := HG0.out; omega, by omega, Zc _, hc⟩⟩
theorem findS_c (p : Option Addr) (n c : Nat) (l : List Fl) (s : ByteArray) (lo hi : Nat) (w : World) (h : FlsAt w lo hi p n l) (hn : n <= 1000000) (hb : ∀ f ∈ l, (fLines f).length <= 100000 /\ (fPairs f).length <= 100000) :
  Calls Tryz.prog 17 #[.slice p n c, .string s] w fun e w' => w.grownBy w' none /\ ∃ pl nl cl pp np cp, e = .returned (.tuple #[.agg #[.string (fPath ((findL l s).getD fl0)), .slice pl nl cl, .slice pp np cp], .bool (findL l s).isSome]) /\ FlAt w' w.heap.size w'.heap.size pl nl cl pp np cp ((findL l s).getD fl0) := by
 have H := Za h
 have HL := Za h.len
 have HBD := Za hb
 have HG := Za (Zd w (.cells #[.string ⟨#[]⟩, .slice none 0 0, .slice none 0 0] 35) none)
 have HB := Za (BoxV.new w [.string ⟨#[]⟩, .slice none 0 0, .slice none 0 0] 35)
 have HSZ : Hid ((w.alloc (.cells #[.string ⟨#[]⟩, .slice none 0 0, .slice none 0 0] 35)).heap.size = w.heap.size + 1) := Za (by simp)
 clear h hb
 go_enter Tryz.func17, Tryz.ntmps17
 go_upto_region 1 with fail
 generalize World.alloc w _ = w1 at *
 generalize hg0 : w.heap.size = g at *
 have HG0 : Hid (w.heap.size <= g) := Za (Nat.le_of_eq hg0)
 have HGE := Za hg0
 clear hg0
 go_wp2
 go_loopw [7, 10] (fun x7 v wr => ∃ k : Nat, k <= n /\ v = .int .i64 k /\ Hid (∀ j, j < k -> fPath (l[j]?.getD fl0) ≠ s) /\ Hid (w1.grownBy wr none)) (fun _ v _ => n - (intOf v).toNat)
 case atStart => exact ⟨0, Ze _, rfl, Za (fun j hj => absurd hj (Zy _)), Za (Zi _ _)⟩
 case round =>
 obtain ⟨k, hk, rfl, HU, HGW⟩ := hrel
 have HGA := Za (Zb HG.out HGW.out)
 have HBW := Za (HB.out.calm HGW.out)
 by_cases hkn : k < n
 ·have k0 : (0 : Int) <= k := by omega
  have k1 : (k : Int) < n := by omega
  obtain ⟨ba, oa, rfl, _, _, _, hc⟩ := (H.out.calm HGA.out).cell (by omega)
  obtain ⟨pl, nl, cl, pp, np, cp, x0, x1, x2, hx⟩ := hc k hkn
  have HU2 := Za (show fPath (l[k]?.getD fl0) ≠ s -> ∀ j, j < k + 1 -> fPath (l[j]?.getD fl0) ≠ s from fun h => Yk (q := fun j => fPath (l[j]?.getD fl0) ≠ s) HU.out h)
  have HF := Za (show fPath (l[k]?.getD fl0) = s -> findL l s = some (l[k]?.getD fl0) from fun h => findL_some (by rw [HL.out]; exact hkn) h HU.out)
  have HBK := Za (HBD.out _ (Zr (d := fl0) (show k < l.length by rw [HL.out]; exact hkn)))
  clear hc HU
  generalize l[k]?.getD fl0 = u at *
  have hga := Zd wr (.cells #[.string (fPath u), .slice pl nl cl, .slice pp np cp] 35) none
  have HX := Za (hx.calm hga)
  have HG1 := Za (Zb HGW.out hga)
  have HB1 := Za (HBW.out.calm hga)
  have HV := Za (BoxV.new wr [.string (fPath u), .slice pl nl cl, .slice pp np cp] 35)
  have HWL : Hid (g + 1 <= wr.heap.size) := Za (by have := HGW.out.size; have := HSZ.out; omega)
  clear hx hga HGA HBW
  go_upto_region 4 with fail
  generalize wr.alloc _ = w2 at *
  generalize wr.heap.size = g7 at *
  clear x0 x1 x2
  obtain ⟨a0, a1, a2⟩ := HV.out.three
  by_cases he : fPath u = s
  ·have e1 := Xz he
   have HFV := Za (HF.out he)
   go_upto_region 5 with fail
   have HBN := Za HB1.out.lt
   have HFR : Hid (∀ X, w2.grownBy X none -> ∀ j, X.frozen? ⟨g, j, none⟩ = false) := Za fun X hX j => (HB1.out.calm hX).free j
   have HSS : Hid (∀ X, w2.grownBy X none -> X.cell? ⟨g7, 0, none⟩ = some (.string (fPath u)) /\ X.cell? ⟨g7, 1, none⟩ = some (.slice pl nl cl) /\ X.cell? ⟨g7, 2, none⟩ = some (.slice pp np cp)) := Za fun X hX => ⟨Zh hX a0, Zh hX a1, Zh hX a2⟩
   have HC1 : Hid (∀ X, w2.grownBy X none -> Calls Tryz.prog 46 #[.slice pl nl cl] X (ClnP 62 4 nl (lncells (fLines u)) X)) := Za fun X hX =>
    cloneLne_c pl nl cl _ X (by rw [lncells_len, HX.out.lines.len]) (lncells_one _) (by
     have h := lnes_front (HX.out.lines.calm hX) HX.out.zl (Zc _)
     rw [Yl (by rw [HX.out.lines.len]; exact Zc _)] at h
     exact h) (by have := HBK.out.1; rw [HX.out.lines.len] at this; exact this)
   have HC2 : Hid (∀ X, w2.grownBy X none -> Calls Tryz.prog 47 #[.slice pp np cp] X (ClnP 88 2 np (pcells (fPairs u)) X)) := Za fun X hX =>
    clonePr_c pp np cp _ X (by rw [pcells_len, HX.out.pairs.len]) (pcells_one' _) (pairs_srcP (HX.out.pairs.calm hX) HX.out.zp) (by have := HBK.out.2; rw [HX.out.pairs.len] at this; exact this)
   refine wp_region_held (S := fun X => X.cell? ⟨g7, 0, none⟩ = some (.string (fPath u)) /\ X.cell? ⟨g7, 1, none⟩ = some (.slice pl nl cl) /\ X.cell? ⟨g7, 2, none⟩ = some (.slice pp np cp)) (by kernel_rfl) ?_
   change wpAnyH _ _ _ _ _ _ _ _ w2.drew
   have henv : w2.grownBy w2.drew none := Zo w2 1 none
   have hS0 := HSS.out _ henv
   clear a0 a1 a2
   generalize w2.drew = wd at *
   refine Zv (i := 0) (v := .string s) rfl (by kernel_rfl) (by kernel_rfl) (by kernel_rfl) (fun _ _ _ h => h) (.inl ⟨by rfl, ?_⟩) hS0 ?_
   ·rintro w' ⟨t0, t1, t2⟩
    go_simp
   refine Zv (i := 1) (v := .pointer (some ⟨g7, 1, none⟩)) rfl (by kernel_rfl) (by kernel_rfl) (by kernel_rfl) (fun _ _ _ h => h) (.inl ⟨by rfl, ?_⟩) hS0 ?_
   ·rintro w' ⟨t0, t1, t2⟩
    go_simp
   refine Zv (i := 2) (v := .slice pl nl cl) rfl (by kernel_rfl) (by kernel_rfl) (by kernel_rfl) (fun _ _ _ h => h) (.inl ⟨by rfl, ?_⟩) hS0 ?_
   ·rintro w' ⟨t0, t1, t2⟩
    go_simp
   refine Zv (i := 4) (v := .pointer (some ⟨g7, 2, none⟩)) rfl (by kernel_rfl) (by kernel_rfl) (by kernel_rfl) (fun _ _ _ h => h) (.inl ⟨by rfl, ?_⟩) hS0 ?_
   ·rintro w' ⟨t0, t1, t2⟩
    go_simp
   refine Zv (i := 5) (v := .slice pp np cp) rfl (by kernel_rfl) (by kernel_rfl) (by kernel_rfl) (fun _ _ _ h => h) (.inl ⟨by rfl, ?_⟩) hS0 ?_
   ·rintro w' ⟨t0, t1, t2⟩
    go_simp
   refine Yq 3 (by kernel_rfl) rfl ?_
   intro KK hKK
   go_simp
   refine (HC1.out _ henv).mono ?_
   rintro e w3 ⟨v1, rfl, hv1, hg3⟩
   obtain ⟨ql, dl, rfl⟩ := Xs hv1
   have hs3 : w2.heap.size <= wd.heap.size := henv.size
   replace henv := Zb henv hg3
   refine hKK _ _ (HSS.out _ henv) ?_
   clear hKK KK
   refine Yq 6 (by kernel_rfl) rfl ?_
   intro KK hKK
   go_simp
   refine (HC2.out _ henv).mono ?_
   rintro e w4 ⟨v2, rfl, hv2, hg4⟩
   obtain ⟨qp, dp, rfl⟩ := Xs hv2
   have hs4 : w2.heap.size <= w3.heap.size := henv.size
   replace henv := Zb henv hg4
   have HV1 := Za (Vd (row_kept hv1 hg4 (fun g _ e => by cases e)) hs3)
   have HV2 := Za (Vd hv2 hs4)
   refine hKK _ _ (HSS.out _ henv) ?_
   clear hKK KK hv1 hv2 hg3 hg4
   refine Yq 7 (by kernel_rfl) rfl ?_
   intro KK hKK
   go_simp
   refine hKK _ _ (HSS.out _ henv) ?_
   clear hKK KK
   obtain ⟨b0, b1, b2⟩ := (HB1.out.calm henv).three
   have f0 := HFR.out _ henv 0
   have f1 := HFR.out _ henv 1
   have f2 := HFR.out _ henv 2
   refine Yq 8 (by kernel_rfl) rfl ?_
   intro KK hKK
   go_simp
   have hgn : g7 ≠ g := by have := HWL.out; omega
   have hSz := (keepOne (keepOne (keepOne (HV.out.calm henv) hgn 0 (.string s)) hgn 1 (.slice ql nl dl)) hgn 2 (.slice qp np dp)).three
   refine hKK _ _ hSz ?_
   clear hKK KK b0 b1 b2 f0 f1 f2
   have hgl := HBN.out
   have HBZ := Za ((((HB1.out.calm henv).set 0 (.string s)).set 1 (.slice ql nl dl)).set 2 (.slice qp np dp))
   have HGZ := Za (set3_new (Zb (Zb HG.out HG1.out) henv) HG0.out (.string s) (.slice ql nl dl) (.slice qp np dp))
   have HR1 := Za (ownsRow_setO (ownsRow_setO (ownsRow_setO HV1.out hgl 0 (.string s)) hgl 1 (.slice ql nl dl)) hgl 2 (.slice qp np dp))
   have HR2 := Za (ownsRow_setO (ownsRow_setO (ownsRow_setO HV2.out hgl 0 (.string s)) hgl 1 (.slice ql nl dl)) hgl 2 (.slice qp np dp))
   generalize World.setCell _ ⟨g, 2, none⟩ _ = wz at *
   refine Yq 9 (by kernel_rfl) rfl ?_
   intro KK hKK
   go_simp
   refine hKK _ _ hSz ?_
   clear hKK KK
   refine Vm (by kernel_rfl) ?_ _
   try go_wp2
   obtain ⟨y0, y1, y2⟩ := HBZ.out.three
   try simp only [Exit.inBlock, Exit.then]
   refine bodyPost_ret (v := .tuple #[.agg #[.string s, .slice ql nl dl, .slice qp np dp], .bool true]) (by simp [results, Tryz.results17, go_sem, y0, y1, y2]) rfl ?_
   have hw2 : w.heap.size <= w2.heap.size := (Zb HG.out HG1.out).size
   have hlx := HX.out.lines.len
   have hpx := HX.out.pairs.len
   obtain ⟨_, _, e1, hl1, hl2, hl3⟩ := lnesAt_own hlx (Vd HR1.out hw2)
   cases e1
   have hr2 := Vd HR2.out hw2
   rw [<- hpx] at hr2
   obtain ⟨_, _, e2, hp1, hp2, hp3⟩ := pairs_ex hr2
   cases e2
   rw [hpx] at hp1 hp2
   refine ⟨HGZ.out, ql, nl, dl, qp, np, dp, ?_, ?_⟩
   ·rw [HFV.out, <- he]
    rfl
   ·rw [HFV.out]
    exact ⟨hl1, hp1, hl2, hp2, hl3, hp3⟩
  ·have e1 := Xt he
   have HU3 := Za (HU2.out he)
   clear he
   go_wp2
   exact ⟨⟨k + 1, by omega, by go_num, HU3, HG1⟩, by simp [intOf]; omega⟩
 obtain rfl : n = k := by omega
 have k1 : ¬ ((n : Int) < n) := by omega
 obtain ⟨b0, b1, b2⟩ := HBW.out.three
 have f0 := HBW.out.free 0
 have f1 := HBW.out.free 1
 have f2 := HBW.out.free 2
 have HFV := Za (findL_none (l := l) (s := s) (by rw [HL.out]; exact HU.out))
 have HGZ := Za (set3_new HGA.out HG0.out (.string ⟨#[]⟩) (.slice none 0 0) (.slice none 0 0))
 have HBZ := Za (((HBW.out.set 0 (.string ⟨#[]⟩)).set 1 (.slice none 0 0)).set 2 (.slice none 0 0))
 go_wp2
 generalize World.setCell _ ⟨g, 2, none⟩ _ = wz at *
 obtain ⟨y0, y1, y2⟩ := BoxV.three HBZ.out
 try simp only [Exit.inBlock, Exit.then]
 refine bodyPost_ret (v := .tuple #[.agg #[.string ⟨#[]⟩, .slice none 0 0, .slice none 0 0], .bool false]) (by simp [results, Tryz.results17, go_sem, y0, y1, y2]) rfl ?_
 refine ⟨HGZ.out, none, 0, 0, none, 0, 0, ?_, ?_⟩
 ·rw [HFV.out]
  rfl
 ·rw [HFV.out]
  exact flAt_nil _ _ _
end Go.Proofs.YtnknejokneddbaaGreatDoor
