/- Dev: lines of the reference in rows that can be written to. -/
import Derived.Test.YtnknejokneddbaaGreatDoorRefT
namespace Go.Proofs.YtnknejokneddbaaGreatDoor
set_option maxHeartbeats 16000000
set_option maxRecDepth 20000
open Go.RowKit
theorem matPairs_o (lo hi p n : Nat) (R : Nat -> Nat -> Bool) (w : World) (h : IsMat w lo hi p n R) : Calls Tryz.prog 74 #[.pointer (some ⟨p, 0, none⟩)] w (PairsPostO (pairsL n R n) w) := by
 obtain ⟨i0, hi0, hz0, hz1, hz2⟩ := Yz Tryz.info88
 have hn := h.small
 have H := Za h
 clear h
 go_enter Tryz.func74, Tryz.ntmps74
 go_wp2
 go_loopw [3, 4] (fun v i wr => ∃ a : Nat, a <= n /\ i = .int .i64 a /\ OwnP wr w.heap.size v (pairsL n R a) /\ w.grownBy wr none) (fun _ i _ => n - (intOf i).toNat)
 case atStart => exact ⟨0, Ze _, rfl, ⟨none, 0, rfl, Yp _ _ _ _⟩, Zi _ _⟩
 case round =>
  obtain ⟨a, ha, rfl, ⟨pa, ca, rfl, hra⟩, hga⟩ := hrel
  have hc0a := (H.out.calm hga).c0
  by_cases han : a < n
  ·have HGA := Za hga
   have HRA := Za hra
   have HPE := Za (pairsP_end n R a)
   have HPZ := Za (pairsP_zero n R a)
   clear hga hra
   go_wp2_with fail
   go_loopw [3, 5] (fun v i wr => ∃ b : Nat, b <= n /\ i = .int .i64 b /\ OwnP wr w.heap.size v (pairsP n R a b) /\ w.grownBy wr none) (fun _ i _ => n - (intOf i).toNat)
   case atStart => exact ⟨0, Ze _, rfl, ⟨pa, ca, by rw [HPZ.out], by rw [HPZ.out]; exact HRA.out⟩, HGA.out⟩
   case round =>
    obtain ⟨b, hb, rfl, ⟨pq, cq, rfl, hrow⟩, hgb⟩ := hrel
    have hc0b := (H.out.calm hgb).c0
    by_cases hbn : b < n
    ·obtain ⟨mb0, rb0, cap0, g1, g2, g3⟩ := (H.out.calm hgb).get han hbn
     have HGB := Za hgb
     have HROW := Za hrow
     have hsz : w.heap.size <= wr.heap.size := hgb.size
     have hql := pairsP_len n R a b hn (by omega) (by omega)
     have a0 : (0 : Int) <= a := by omega
     have b0 : (0 : Int) <= b := by omega
     have a1 : (a : Int) < n := by omega
     have b1 : (b : Int) < n := by omega
     clear hgb hrow
     cases hab : R a b
     ·rw [hab] at g3
      have HNO := Za (pairsP_no (n := n) hab)
      clear hab
      generalize pairsP n R a b = q at *
      go_wp2
      exact ⟨⟨b + 1, by omega, by go_num, ⟨pq, cq, by rw [HNO.out], by rw [HNO.out]; exact HROW.out⟩, HGB.out⟩, by simp [intOf]; omega⟩
     ·rw [hab] at g3
      have HYES := Za (pairsP_yes (n := n) hab)
      clear hab
      generalize pairsP n R a b = q at *
      go_wp2_with (at_builtin; refine Xc _ rfl _ _ 33 rfl w.heap.size 88 i0 (.agg #[.int .i64 0, .int .i64 0]) 2 16 Tryz.underlying33 hi0 hz0 hz1 hz2 rfl (by decide) _ _ _ rfl (HROW.out.alloc _) ⟨wr.heap.size, 0, none⟩ 1 1 [.int .i64 a, .int .i64 b] rfl rfl (cell_two_new _ _ _ _) (by simp [Value.oneCell']) (by unfold maxLen; omega) (by omega) (by simp; omega) ?_; intro v' w2 hown' hgrow _; obtain ⟨g', cap', rfl⟩ := ownsRow_succ hown')
      have HE : Hid (OwnP w2 w.heap.size (.slice (some ⟨g', 0, none⟩) (q.length + 1) cap') (pairsP n R a (b + 1)) /\ w.grownBy w2 none) := by
       refine Za ⟨⟨some ⟨g', 0, none⟩, cap', by rw [HYES.out]; simp, ?_⟩, ?_⟩
       ·rw [HYES.out, pcells_snoc]
        simpa using hown'
       ·have hga := Zb HGB.out (Zd wr (.cells #[.int .i64 a, .int .i64 b] 88) none)
        have hgrow' : (wr.alloc (.cells #[.int .i64 a, .int .i64 b] 88)).grownBy w2 (Value.slice pq q.length cq).ownBlock := hgrow
        cases hob : (Value.slice pq q.length cq).ownBlock with
        | none => rw [hob] at hgrow'; exact Zb hga hgrow'
        | some r =>
         rw [hob] at hgrow'
         exact Yx hga hgrow' (HROW.out.lt r hob).1
      clear hown' hgrow
      go_wp2
      exact ⟨⟨b + 1, by omega, by go_num, HE.out.1, HE.out.2⟩, by simp [intOf]; omega⟩
    ·obtain rfl : b = n := by omega
     rw [HPE.out] at hrow ⊢
     go_wp2
     exact ⟨⟨a + 1, by omega, by go_num, ⟨pq, cq, rfl, hrow⟩, hgb⟩, by simp [intOf]; omega⟩
  ·obtain rfl : a = n := by omega
   have HE := Za (show PairsPostO (pairsL a R a) w (.returned (.slice pa (pairsL a R a).length ca)) wr from ⟨_, rfl, hra, hga⟩)
   clear hra hga
   generalize (pairsL a R a).length = L at *
   go_wp2
   go_ret
   exact HE.out
def SoftL (w : World) (p : Option Addr) : Prop := ∀ b off, p = some ⟨b, off, none⟩ -> ∃ cur : Array Value, w.heap[b]? = some (.cells cur 62 (0, 0))
theorem SoftL.calm {w w' : World} {p : Option Addr} (h : SoftL w p) (hg : w.grownBy w' none) : SoftL w' p := fun b off e => by
 obtain ⟨cur, hc⟩ := h b off e
 exact ⟨cur, (hg.block b (Zp.1 hc).1 (by simp)).trans hc⟩
theorem SoftL.set {w : World} {p : Option Addr} (h : SoftL w p) (g k : Nat) (v : Value) : SoftL (w.setCell ⟨g, k, none⟩ v) p := fun b off e => by
 obtain ⟨cur, hc⟩ := h b off e
 have hb : BoxV w b cur.toList 62 := hc
 by_cases e2 : b = g
 ·subst e2
  exact ⟨_, hb.set k v⟩
 ·exact ⟨_, keepOne hb e2 k v⟩
theorem SoftL.own {w : World} {base n c : Nat} {p : Option Addr} {xs : List Value} (h : w.ownsRow base 62 4 (.slice p n c) n xs) : SoftL w p := fun b off e => by
 rcases h.2 with ⟨e1, _⟩ | ⟨g, cap, cur, e1, _, hg, _⟩
 ·cases e1; cases e
 ·cases e1; cases e; exact ⟨cur, hg⟩
theorem refPutLine_s (s : ByteArray) (ls : List Lne) (x1 : Nat) (x2 : Int) (x3 : ByteArray) (x4 : Bool) (pl : Option Addr) (nl cl : Nat) (pp : Option Addr) (np cp : Nat) (lo hi : Nat) (w : World) (h : LnesAt w lo hi pl nl ls) (hn : nl <= 100000) (hc : nl <= cl) (hp : pl = none -> cl = 0) (hz : nl = 0 -> pl = none) :
  Calls Tryz.prog 71 #[.agg #[.string s, .slice pl nl cl, .slice pp np cp], .agg #[.int .u32 (x1 : Int), .int .i64 x2, .string x3, .bool x4]] w fun e w' => ∃ p' c', e = .returned (.agg #[.string s, .slice p' (nl + 1 : Nat) c', .slice pp np cp]) /\
   LnesAt w' w.heap.size w'.heap.size p' (nl + 1) (insL ls ((x1, x2), x3, x4)) /\ nl + 1 <= c' /\ (p' = none -> c' = 0) /\ SoftL w' p' /\ w.grownBy w' none := by
 obtain ⟨i0, hi0, hz0, hz1, hz2⟩ := Yz infoLne
 have HG := Za (Zb (Zb (Zd w (.cells #[.string s, .slice pl nl cl, .slice pp np cp] 35) none) (Zd _ (.cells #[.int .u32 (x1 : Int), .int .i64 x2, .string x3, .bool x4] 62) none)) (Zd _ (.cells #[.string ⟨#[]⟩, .slice none 0 0, .slice none 0 0] 35) none))
 have HB := Za (((BoxV.new w [.string s, .slice pl nl cl, .slice pp np cp] 35).calm (Zd _ (.cells #[.int .u32 (x1 : Int), .int .i64 x2, .string x3, .bool x4] 62) none)).calm (Zd _ (.cells #[.string ⟨#[]⟩, .slice none 0 0, .slice none 0 0] 35) none))
 have HC := Za ((BoxV.second w [.string s, .slice pl nl cl, .slice pp np cp] [.int .u32 (x1 : Int), .int .i64 x2, .string x3, .bool x4] 35 62).calm (Zd _ (.cells #[.string ⟨#[]⟩, .slice none 0 0, .slice none 0 0] 35) none))
 have HD := Za (BoxV.second (w.alloc (.cells #[.string s, .slice pl nl cl, .slice pp np cp] 35)) [.int .u32 (x1 : Int), .int .i64 x2, .string x3, .bool x4] [.string ⟨#[]⟩, .slice none 0 0, .slice none 0 0] 62 35)
 rw [show (w.alloc (.cells #[.string s, .slice pl nl cl, .slice pp np cp] 35)).heap.size + 1 = w.heap.size + 1 + 1 by simp] at HD
 have H := Za (h.calm HG.out)
 have HL := Za h.len
 have HP := Za hp
 have HZ := Za hz
 have HCP := Za hc
 clear h hp hz hc
 go_enter Tryz.func71, Tryz.ntmps71
 go_upto_region 1 with fail
 generalize World.alloc w _ = w0 at *
 generalize World.alloc w0 _ = w00 at *
 generalize World.alloc w00 _ = w1 at *
 generalize hg0 : w.heap.size = g at *
 have HG0 : Hid (w.heap.size <= g) := Za (Nat.le_of_eq hg0)
 clear hg0
 go_upto_block 0 with fail
 go_cut [5] from 7 to 24 (fun s5 wx => ∃ k : Nat, s5 = .int .i64 k /\ k <= nl /\ Hid (ls.takeWhile (fun y => ltLn (nID y) (x1, x2)) = ls.take k /\ ls.dropWhile (fun y => ltLn (nID y) (x1, x2)) = ls.drop k) /\ Hid (w1.grownBy wx none))
 case first =>
  go_wp2_with fail
  go_loopw [5] (fun v wr => ∃ k : Nat, k <= nl /\ v = .int .i64 k /\ Hid (∀ j, j < k -> ltLn (nID (ls[j]?.getD lne0)) (x1, x2) = true) /\ Hid (w1.grownBy wr none)) (fun v _ => nl - (intOf v).toNat)
  case atStart => exact ⟨0, Ze _, rfl, Za (fun j hj => absurd hj (Zy _)), Za (Zi _ _)⟩
  case round =>
   obtain ⟨k, hk, rfl, HU, HGW⟩ := hrel
   have b1 := (HB.out.calm HGW.out).cell (k := 1) rfl
   have d0 := (HC.out.calm HGW.out).cell (k := 0) rfl
   have d1 := (HC.out.calm HGW.out).cell (k := 1) rfl
   have q0 := fun z : Later wr => Zk b1 z
   have q1 := fun z : Later wr => Zk d0 z
   have q2 := fun z : Later wr => Zk d1 z
   have hne5 := later_one wr
   by_cases hkn : k < nl
   ·have k0 : (0 : Int) <= k := by omega
    have k1 : (k : Int) < nl := by omega
    obtain ⟨bl, ol, rfl, _, _, _, hcc⟩ := (H.out.calm HGW.out).cell (by omega)
    obtain ⟨y0, y1, _, _⟩ := hcc k hkn
    have HK := Za (show ltLn (nID (ls[k]?.getD lne0)) (x1, x2) = true -> ∀ j, j < k + 1 -> ltLn (nID (ls[j]?.getD lne0)) (x1, x2) = true from fun h => Yk (q := fun j => ltLn (nID (ls[j]?.getD lne0)) (x1, x2) = true) HU.out h)
    have HE := Za (show ltLn (nID (ls[k]?.getD lne0)) (x1, x2) = false -> ls.takeWhile (fun y => ltLn (nID y) (x1, x2)) = ls.take k /\ ls.dropWhile (fun y => ltLn (nID y) (x1, x2)) = ls.drop k from fun h => while_get (d := lne0) (by rw [HL.out]; exact hk) HU.out (fun _ => h))
    clear hcc HU
    generalize nID (ls[k]?.getD lne0) = y at *
    obtain ⟨u1, u2⟩ := y
    replace y0 : wr.cell? ⟨bl, ol + k * 4, none⟩ = some (.int .u32 (u1 : Int)) := y0
    replace y1 : wr.cell? ⟨bl, ol + k * 4 + 1, none⟩ = some (.int .i64 u2) := y1
    have q3 := fun z : Later wr => Zk y0 z
    have q4 := fun z : Later wr => Zk y1 z
    have f0 : decide ((k : Int) < (nl : Int)) = true := Zg k1
    have f0' : decide (k < nl) = true := Zg hkn
    go_upto_region 2 with fail
    clear y0 y1 b1 d0 d1
    cases h1 : ltLn (u1, u2) (x1, x2) with
    | true =>
     have hT := Za (fun z : Later wr => Yy (fun w' hg => refLess_c (u1, u2) (x1, x2) true w' h1.symm) z)
     have HK2 := Za (HK.out h1)
     clear h1
     refine Zz0 (by kernel_rfl) (by kernel_rfl) ?_
     repeat (go_big_quiet_step ((go_at_call 48; with_reducible exact hT.out _)))
     refine Ya ?_
     rintro _ ⟨z, rfl⟩
     have HG9 := Za (Zb HGW.out z.ok)
     go_wp2
     exact ⟨⟨k + 1, by omega, by go_num, HK2, HG9⟩, by simp [intOf]; omega⟩
    | false =>
     have hT := Za (fun z : Later wr => Yy (fun w' hg => refLess_c (u1, u2) (x1, x2) false w' h1.symm) z)
     have HE2 := Za (HE.out h1)
     clear h1
     refine Zz0 (by kernel_rfl) (by kernel_rfl) ?_
     repeat (go_big_quiet_step ((go_at_call 48; with_reducible exact hT.out _)))
     refine Ya ?_
     rintro _ ⟨z, rfl⟩
     have HG9 := Za (Zb HGW.out z.ok)
     go_wp2
     go_meet
     exact ⟨k, rfl, hk, HE2, HG9⟩
   ·obtain rfl : nl = k := by omega
    have k1 : ¬ ((nl : Int) < nl) := by omega
    have f0 : decide ((nl : Int) < (nl : Int)) = false := Zl k1
    have f0' : decide (nl < nl) = false := Zl (Xv _)
    have HE2 := Za (while_get (q := fun y => ltLn (nID y) (x1, x2)) (d := lne0) (by rw [HL.out]; exact Zc _) HU.out (fun h => absurd h (by rw [HL.out]; exact Xv _)))
    go_upto_region 2 with fail
    clear b1 d0 d1
    refine Zz0 (by kernel_rfl) (by kernel_rfl) ?_
    repeat (go_big_quiet_step (fail))
    refine Ya ?_
    rintro _ ⟨z, rfl⟩
    have HG9 := Za (Zb HGW.out z.ok)
    go_wp2
    go_meet
    exact ⟨nl, rfl, hk, HE2, HG9⟩
 case rest =>
  obtain ⟨k, rfl, hk, HE, HGW⟩ := hcut
  have HGA := Za (Zb HG.out HGW.out)
  have HB2 := Za (HB.out.calm HGW.out)
  have HC2 := Za (HC.out.calm HGW.out)
  have HD2 := Za (HD.out.calm HGW.out)
  have H2 := Za (H.out.calm HGW.out)
  have HFA : Hid (∀ X, wc.grownBy X none -> (pl = none /\ k = 0 /\ cl = 0) ∨ ∃ ad, pl = some ad /\ ∀ j u, (lncells (ls.take k))[j]? = some u -> X.cell? (ad.add j) = some u) := Za fun X hX => lnes_front (H2.out.calm hX) HP.out hk
  have HT : Hid ((lncells (ls.take k)).length = k * 4) := Za (by rw [lncells_len, Yo, HL.out, Nat.min_eq_left hk])
  have k0 : (0 : Int) <= k := by omega
  have k1 : (k : Int) <= nl := by omega
  have k2 : (k : Int) <= cl := by have := HCP.out; omega
  have c9 : nl <= cl := HCP.out
  obtain ⟨a0, a1, a2⟩ := HB2.out.three
  obtain ⟨e0, e1, e2, e3⟩ := HC2.out.four
  clear HB HC HD H HGW
  generalize wc = wd at *
  have a1' := Zh (Zd wd (.cells #[.int .u32 (x1 : Int), .int .i64 x2, .string x3, .bool x4] 62) none) a1
  go_upto_region 4 with fail
  by_cases hn0 : nl = 0
  ·have hpl := HZ.out hn0
   subst hpl
   subst hn0
   obtain rfl : k = 0 := by omega
   obtain rfl : cl = 0 := HP.out rfl
   go_cut [6] from 25 to 32 (fun s6 wx => ∃ (p : Option Addr) (c : Nat), s6 = .slice p 1 c /\ Hid (wx.ownsRow wd.heap.size 62 4 (.slice p 1 c) (0 + 1) (lncells (ls.take 0 ++ [((x1, x2), x3, x4)]))) /\ Hid (wd.grownBy wx none))
   case first =>
    go_region_law (first
     | (refine step_append_src rfl (.const (.slice none 0 0)) (.tmp 28) 32 rfl wd.heap.size 62 i0 (.agg #[.int .u32 0, .int .i64 0, .string .empty, .bool false]) 4 40 Tryz.underlying32 hi0 hz0 hz1 hz2 rfl (by decide) (.slice none 0 0) 0 [] (by rfl) (Yp _ _ _ _) none 0 0 (lncells (ls.take 0)) (by rfl) HT.out (HFA.out _ (by first | exact Zo wd 1 none | exact Zb (Zo wd 1 none) (Zd _ _ none))) (lncells_one _) (by unfold maxLen; omega) (by omega) (by first | exact Zc _ | simp) ?_; intro p1 c1 w2 hr1 hg1; rw [Yj, Ys] at hr1; rw [Yj]; have HR1 := Za hr1; have HG1 : Hid (wd.grownBy w2 none) := Za (Zb (by first | exact Zo wd 1 none | exact Zb (Zo wd 1 none) (Zd _ _ none)) hg1); obtain ⟨e0, e1, e2, e3⟩ := (HC2.out.calm HG1.out).four; clear hr1)
     | (refine step_append_src rfl (.tmp 29) (.tmp 31) 32 rfl wd.heap.size 62 i0 (.agg #[.int .u32 0, .int .i64 0, .string .empty, .bool false]) 4 40 Tryz.underlying32 hi0 hz0 hz1 hz2 rfl (by decide) (.slice p1 0 c1) 0 (lncells (ls.take 0)) (by rfl) (by first | exact HR1.out | exact HR1.out.alloc _) (some ⟨w2.heap.size, 0, none⟩) 1 1 [.int .u32 (x1 : Int), .int .i64 x2, .string x3, .bool x4] (by rfl) rfl (.inr ⟨_, rfl, by exact World.news_of_block (BoxV.new w2 [.int .u32 (x1 : Int), .int .i64 x2, .string x3, .bool x4] 62)⟩) (by simp [Value.oneCell']) (by unfold maxLen; omega) (by omega) (by first | exact HG1.out.size | (have := HG1.out.size; simp; omega)) ?_; intro p2 c2 w3 hr2 hg2; have HR2 := Za hr2; have HG2 : Hid (wd.grownBy w3 none) := Za (Xe HG1.out HR1.out hg2); clear hr2 hg2)
     | (refine step_append_src rfl (.tmp 29) (.tmp 31) 32 rfl wd.heap.size 62 i0 (.agg #[.int .u32 0, .int .i64 0, .string .empty, .bool false]) 4 40 Tryz.underlying32 hi0 hz0 hz1 hz2 rfl (by decide) (.slice p1 0 c1) 0 (lncells (ls.take 0)) (by rfl) HR1.out (some ⟨wd.heap.size, 0, none⟩) 1 1 [.int .u32 (x1 : Int), .int .i64 x2, .string x3, .bool x4] (by rfl) rfl (.inr ⟨_, rfl, World.news_of_block (BoxV.calm (by exact BoxV.new wd [.int .u32 (x1 : Int), .int .i64 x2, .string x3, .bool x4] 62) hg1)⟩) (by simp [Value.oneCell']) (by unfold maxLen; omega) (by omega) HG1.out.size ?_; intro p2 c2 w3 hr2 hg2; have HR2 := Za hr2; have HG2 : Hid (wd.grownBy w3 none) := Za (ownsRow_new HG1.out HR1.out hg2); clear hr2 hg2))
    all_goals
     go_wp2
     go_meet
     exact ⟨p2, c2, rfl, Za (by rw [lncells_app]; exact HR2.out), HG2⟩
   case rest =>
    obtain ⟨p2, c2, rfl, HR2, HG2⟩ := hcut
    have HB3 := Za (HB2.out.calm HG2.out)
    have HD3 := Za (HD2.out.calm HG2.out)
    obtain ⟨a0, a1, a2⟩ := HB3.out.three
    go_upto_region 6 with (at_builtin; refine Xf rfl (.tmp 33) (.tmp 37) 32 rfl wd.heap.size 62 i0 (.agg #[.int .u32 0, .int .i64 0, .string .empty, .bool false]) 4 40 Tryz.underlying32 hi0 hz0 hz1 hz2 rfl (by decide) (.slice p2 1 c2) (0 + 1) (lncells (ls.take 0 ++ [((x1, x2), x3, x4)])) (by rfl) HR2.out none 0 0 (lncells (ls.drop 0)) (by rfl) (by rw [Xu HL.out]; rfl) (.inl ⟨rfl, rfl, rfl⟩) (lncells_one _) (by unfold maxLen; omega) (by omega) HG2.out.size ?_; intro p3 c3 w3 hr3 hg3; have HR3 := Za hr3; have HG3 := Za (ownsRow_new HG2.out HR2.out hg3); clear hr3 hg3; have t0 := (HB2.out.calm HG3.out).cell (k := 1) rfl; have f0 := (HB2.out.calm HG3.out).free 1)
    have HLN := Za (show insL ls ((x1, x2), x3, x4) = ls.take 0 ++ [((x1, x2), x3, x4)] ++ ls.drop 0 by
     unfold insL
     rw [show (fun y => ltLn (nID y) (nID (((x1, x2), x3, x4) : Lne))) = fun y => ltLn (nID y) (x1, x2) from rfl, HE.out.1, HE.out.2, Xa]
     rfl)
    have HR3 : Hid (w3.ownsRow wd.heap.size 62 4 (.slice p3 1 c3) (0 + 1) (lncells (ls.take 0 ++ [((x1, x2), x3, x4)]) ++ lncells (ls.drop 0))) := Za HR3.out
    have HR4 := Za (lnesAt_own (n := 0 + 1) (l := insL ls ((x1, x2), x3, x4)) (by rw [HLN.out, Zq, Zq, Yo, Yr, HL.out]; show min 0 0 + 1 + (0 - 0) = 0 + 1; omega) (by rw [HLN.out, lncells_app (ls.take 0 ++ [((x1, x2), x3, x4)])]; exact HR3.out))
    obtain ⟨p4, c4, e4, hat, hc4, hz4⟩ := HR4.out
    cases e4
    have HSO := Za (SoftL.own HR3.out)
    have HAT := Za hat
    have HC4 := Za hc4
    have HZ4 := Za hz4
    clear hat hc4 hz4 HR4 HR3 t0 f0 a0 a1 a2
    have HBZ := Za ((HB2.out.calm HG3.out).set 1 (.slice p3 1 c3))
    have HDZ := Za (keepOne (HD2.out.calm HG3.out) (show g + 1 + 1 ≠ g by omega) 1 (.slice p3 1 c3))
    have HGZ := Za (Yx (Zb HGA.out HG3.out) (Zz w3 ⟨g, 1, none⟩ (.slice p3 1 c3)) HG0.out)
    have HSZ := Za (Zu (lo := wd.heap.size) (hi := w3.heap.size) (Stay.of (Zi w3 none) (Zc _)) (b := g) (.inl (Yt HB2.out.lt (Zc _))) 1 (.slice p3 1 c3) (Zc _))
    have HSO3 := Za (HSO.out.set g 1 (.slice p3 1 c3))
    generalize World.setCell w3 ⟨g, 1, none⟩ _ = wz at *
    obtain ⟨b0, b1, b2⟩ := HBZ.out.three
    have f0 := HDZ.out.free 0
    have f1 := HDZ.out.free 1
    have f2 := HDZ.out.free 2
    obtain ⟨r0, r1, r2⟩ := HDZ.out.three
    have HGY := Za (set3_new HGZ.out (show w.heap.size <= g + 1 + 1 by have := HG0.out; omega) (.string s) (.slice p3 1 c3) (.slice pp np cp))
    have HDY := Za (((HDZ.out.set 0 (.string s)).set 1 (.slice p3 1 c3)).set 2 (.slice pp np cp))
    have HSO4 := Za (((HSO3.out.set (g + 1 + 1) 0 (.string s)).set (g + 1 + 1) 1 (.slice p3 1 c3)).set (g + 1 + 1) 2 (.slice pp np cp))
    have HSY := Za (Zu (Zu (Zu HSZ.out (b := g + 1 + 1) (.inl HD2.out.lt) 0 (.string s) (Zc _)) (b := g + 1 + 1) (.inl HD2.out.lt) 1 (.slice p3 1 c3) (Zc _)) (b := g + 1 + 1) (.inl HD2.out.lt) 2 (.slice pp np cp) (Zc _))
    go_wp2
    generalize World.setCell _ ⟨g + 1 + 1, 2, none⟩ _ = wy at *
    obtain ⟨y0, y1, y2⟩ := BoxV.three HDY.out
    try simp only [Exit.inBlock, Exit.then]
    refine bodyPost_ret (v := .agg #[.string s, .slice p3 1 c3, .slice pp np cp]) (by simp [results, Tryz.results71, go_sem, y0, y1, y2]) rfl ?_
    exact ⟨p3, c3, rfl, lnes_span (HAT.out.stay HSY.out) HGA.out.size, HC4.out, HZ4.out, HSO4.out, HGY.out⟩
  ·obtain ⟨b, o, rfl, _⟩ := H2.out.cell (by omega)
   go_cut [6] from 25 to 32 (fun s6 wx => ∃ (p : Option Addr) (c : Nat), s6 = .slice p (k + 1 : Nat) c /\ Hid (wx.ownsRow wd.heap.size 62 4 (.slice p (k + 1 : Nat) c) (k + 1) (lncells (ls.take k ++ [((x1, x2), x3, x4)]))) /\ Hid (wd.grownBy wx none))
   case first =>
    go_region_law (first
     | (refine step_append_src rfl (.const (.slice none 0 0)) (.tmp 28) 32 rfl wd.heap.size 62 i0 (.agg #[.int .u32 0, .int .i64 0, .string .empty, .bool false]) 4 40 Tryz.underlying32 hi0 hz0 hz1 hz2 rfl (by decide) (.slice none 0 0) 0 [] (by rfl) (Yp _ _ _ _) (some ⟨b, o, none⟩) k cl (lncells (ls.take k)) (by rfl) HT.out (HFA.out _ (by first | exact Zo wd 1 none | exact Zb (Zo wd 1 none) (Zd _ _ none))) (lncells_one _) (by unfold maxLen; omega) (by omega) (by first | exact Zc _ | simp) ?_; intro p1 c1 w2 hr1 hg1; rw [Yj, Ys] at hr1; rw [Yj]; have HR1 := Za hr1; have HG1 : Hid (wd.grownBy w2 none) := Za (Zb (by first | exact Zo wd 1 none | exact Zb (Zo wd 1 none) (Zd _ _ none)) hg1); obtain ⟨e0, e1, e2, e3⟩ := (HC2.out.calm HG1.out).four; clear hr1)
     | (refine step_append_src rfl (.tmp 29) (.tmp 31) 32 rfl wd.heap.size 62 i0 (.agg #[.int .u32 0, .int .i64 0, .string .empty, .bool false]) 4 40 Tryz.underlying32 hi0 hz0 hz1 hz2 rfl (by decide) (.slice p1 k c1) k (lncells (ls.take k)) (by rfl) (by first | exact HR1.out | exact HR1.out.alloc _) (some ⟨w2.heap.size, 0, none⟩) 1 1 [.int .u32 (x1 : Int), .int .i64 x2, .string x3, .bool x4] (by rfl) rfl (.inr ⟨_, rfl, by exact World.news_of_block (BoxV.new w2 [.int .u32 (x1 : Int), .int .i64 x2, .string x3, .bool x4] 62)⟩) (by simp [Value.oneCell']) (by unfold maxLen; omega) (by omega) (by first | exact HG1.out.size | (have := HG1.out.size; simp; omega)) ?_; intro p2 c2 w3 hr2 hg2; have HR2 := Za hr2; have HG2 : Hid (wd.grownBy w3 none) := Za (Xe HG1.out HR1.out hg2); clear hr2 hg2)
     | (refine step_append_src rfl (.tmp 29) (.tmp 31) 32 rfl wd.heap.size 62 i0 (.agg #[.int .u32 0, .int .i64 0, .string .empty, .bool false]) 4 40 Tryz.underlying32 hi0 hz0 hz1 hz2 rfl (by decide) (.slice p1 k c1) k (lncells (ls.take k)) (by rfl) HR1.out (some ⟨wd.heap.size, 0, none⟩) 1 1 [.int .u32 (x1 : Int), .int .i64 x2, .string x3, .bool x4] (by rfl) rfl (.inr ⟨_, rfl, World.news_of_block (BoxV.calm (by exact BoxV.new wd [.int .u32 (x1 : Int), .int .i64 x2, .string x3, .bool x4] 62) hg1)⟩) (by simp [Value.oneCell']) (by unfold maxLen; omega) (by omega) HG1.out.size ?_; intro p2 c2 w3 hr2 hg2; have HR2 := Za hr2; have HG2 : Hid (wd.grownBy w3 none) := Za (ownsRow_new HG1.out HR1.out hg2); clear hr2 hg2))
    all_goals
     go_wp2
     go_meet
     exact ⟨p2, c2, rfl, Za (by rw [lncells_app]; exact HR2.out), HG2⟩
   case rest =>
    obtain ⟨p2, c2, rfl, HR2, HG2⟩ := hcut
    by_cases hck : cl = k
    ·obtain rfl : nl = k := by omega
     obtain rfl : nl = cl := by omega
     have HB3 := Za (HB2.out.calm HG2.out)
     have HD3 := Za (HD2.out.calm HG2.out)
     obtain ⟨a0, a1, a2⟩ := HB3.out.three
     go_upto_region 6 with (at_builtin; refine Xf rfl (.tmp 33) (.tmp 37) 32 rfl wd.heap.size 62 i0 (.agg #[.int .u32 0, .int .i64 0, .string .empty, .bool false]) 4 40 Tryz.underlying32 hi0 hz0 hz1 hz2 rfl (by decide) (.slice p2 (nl + 1 : Nat) c2) (nl + 1) (lncells (ls.take nl ++ [((x1, x2), x3, x4)])) (by rfl) HR2.out (some ⟨b, o, none⟩) 0 0 (lncells (ls.drop nl)) (by rfl) (by rw [List.drop_eq_nil_of_le (by rw [HL.out]; omega)]; rfl) (.inr ⟨_, rfl, fun j u hj => by rw [List.drop_eq_nil_of_le (by rw [HL.out]; omega)] at hj; simp [lncells] at hj⟩) (lncells_one _) (by unfold maxLen; omega) (by omega) HG2.out.size ?_; intro p3 c3 w3 hr3 hg3; have HR3 := Za hr3; have HG3 := Za (ownsRow_new HG2.out HR2.out hg3); clear hr3 hg3; have t0 := (HB2.out.calm HG3.out).cell (k := 1) rfl; have f0 := (HB2.out.calm HG3.out).free 1)
     have HLN := Za (show insL ls ((x1, x2), x3, x4) = ls.take nl ++ [((x1, x2), x3, x4)] ++ ls.drop nl by
      unfold insL
      rw [show (fun y => ltLn (nID y) (nID (((x1, x2), x3, x4) : Lne))) = fun y => ltLn (nID y) (x1, x2) from rfl, HE.out.1, HE.out.2, Xa]
      rfl)
     have HR3 : Hid (w3.ownsRow wd.heap.size 62 4 (.slice p3 (nl + 1 : Nat) c3) (nl + 1) (lncells (ls.take nl ++ [((x1, x2), x3, x4)]) ++ lncells (ls.drop nl))) := Za HR3.out
     have HR4 := Za (lnesAt_own (n := nl + 1) (l := insL ls ((x1, x2), x3, x4)) (by rw [HLN.out, Zq, Zq, Yo, Yr, HL.out]; show min nl nl + 1 + (nl - nl) = nl + 1; omega) (by rw [HLN.out, lncells_app (ls.take nl ++ [((x1, x2), x3, x4)])]; exact HR3.out))
     obtain ⟨p4, c4, e4, hat, hc4, hz4⟩ := HR4.out
     cases e4
     have HSO := Za (SoftL.own HR3.out)
     have HAT := Za hat
     have HC4 := Za hc4
     have HZ4 := Za hz4
     clear hat hc4 hz4 HR4 HR3 t0 f0 a0 a1 a2
     have HBZ := Za ((HB2.out.calm HG3.out).set 1 (.slice p3 (nl + 1 : Nat) c3))
     have HDZ := Za (keepOne (HD2.out.calm HG3.out) (show g + 1 + 1 ≠ g by omega) 1 (.slice p3 (nl + 1 : Nat) c3))
     have HGZ := Za (Yx (Zb HGA.out HG3.out) (Zz w3 ⟨g, 1, none⟩ (.slice p3 (nl + 1 : Nat) c3)) HG0.out)
     have HSZ := Za (Zu (lo := wd.heap.size) (hi := w3.heap.size) (Stay.of (Zi w3 none) (Zc _)) (b := g) (.inl (Yt HB2.out.lt (Zc _))) 1 (.slice p3 (nl + 1 : Nat) c3) (Zc _))
     have HSO3 := Za (HSO.out.set g 1 (.slice p3 (nl + 1 : Nat) c3))
     generalize World.setCell w3 ⟨g, 1, none⟩ _ = wz at *
     obtain ⟨b0, b1, b2⟩ := HBZ.out.three
     have f0 := HDZ.out.free 0
     have f1 := HDZ.out.free 1
     have f2 := HDZ.out.free 2
     obtain ⟨r0, r1, r2⟩ := HDZ.out.three
     have HGY := Za (set3_new HGZ.out (show w.heap.size <= g + 1 + 1 by have := HG0.out; omega) (.string s) (.slice p3 (nl + 1 : Nat) c3) (.slice pp np cp))
     have HDY := Za (((HDZ.out.set 0 (.string s)).set 1 (.slice p3 (nl + 1 : Nat) c3)).set 2 (.slice pp np cp))
     have HSO4 := Za (((HSO3.out.set (g + 1 + 1) 0 (.string s)).set (g + 1 + 1) 1 (.slice p3 (nl + 1 : Nat) c3)).set (g + 1 + 1) 2 (.slice pp np cp))
     have HSY := Za (Zu (Zu (Zu HSZ.out (b := g + 1 + 1) (.inl HD2.out.lt) 0 (.string s) (Zc _)) (b := g + 1 + 1) (.inl HD2.out.lt) 1 (.slice p3 (nl + 1 : Nat) c3) (Zc _)) (b := g + 1 + 1) (.inl HD2.out.lt) 2 (.slice pp np cp) (Zc _))
     go_wp2
     generalize World.setCell _ ⟨g + 1 + 1, 2, none⟩ _ = wy at *
     obtain ⟨y0, y1, y2⟩ := BoxV.three HDY.out
     try simp only [Exit.inBlock, Exit.then]
     refine bodyPost_ret (v := .agg #[.string s, .slice p3 (nl + 1 : Nat) c3, .slice pp np cp]) (by simp [results, Tryz.results71, go_sem, y0, y1, y2]) rfl ?_
     exact ⟨p3, c3, rfl, lnes_span (HAT.out.stay HSY.out) HGA.out.size, HC4.out, HZ4.out, HSO4.out, HGY.out⟩
    ·have k3 : ¬ cl = k := hck
     have HS := Za (lnes_part (H2.out.calm HG2.out) k (nl - k) (by omega))
     have HB3 := Za (HB2.out.calm HG2.out)
     have HD3 := Za (HD2.out.calm HG2.out)
     obtain ⟨a0, a1, a2⟩ := HB3.out.three
     go_upto_region 6 with (at_builtin; refine Xf rfl (.tmp 33) (.tmp 37) 32 rfl wd.heap.size 62 i0 (.agg #[.int .u32 0, .int .i64 0, .string .empty, .bool false]) 4 40 Tryz.underlying32 hi0 hz0 hz1 hz2 rfl (by decide) (.slice p2 (k + 1 : Nat) c2) (k + 1) (lncells (ls.take k ++ [((x1, x2), x3, x4)])) (by rfl) HR2.out (some ⟨b, o + k * 4, none⟩) (nl - k) (cl - k) (lncells (ls.drop k)) (by rfl) (by rw [lncells_len, Yr, HL.out]) (.inr ⟨_, rfl, fun j u hj => HS.out j u (by rw [Yl (by rw [Yr, HL.out]; exact Zc _)]; exact hj)⟩) (lncells_one _) (by unfold maxLen; omega) (by omega) HG2.out.size ?_; intro p3 c3 w3 hr3 hg3; have HR3 := Za hr3; have HG3 := Za (ownsRow_new HG2.out HR2.out hg3); clear hr3 hg3; have t0 := (HB2.out.calm HG3.out).cell (k := 1) rfl; have f0 := (HB2.out.calm HG3.out).free 1)
     have HLN := Za (show insL ls ((x1, x2), x3, x4) = ls.take k ++ [((x1, x2), x3, x4)] ++ ls.drop k by
      unfold insL
      rw [show (fun y => ltLn (nID y) (nID (((x1, x2), x3, x4) : Lne))) = fun y => ltLn (nID y) (x1, x2) from rfl, HE.out.1, HE.out.2, Xa]
      rfl)
     have hmm : k + 1 + (nl - k) = nl + 1 := by omega
     rw [hmm] at HR3 ⊢
     have HR4 := Za (lnesAt_own (n := nl + 1) (l := insL ls ((x1, x2), x3, x4)) (by rw [HLN.out, Zq, Zq, Yo, Yr, HL.out]; show min k nl + 1 + (nl - k) = nl + 1; omega) (by rw [HLN.out, lncells_app (ls.take k ++ [((x1, x2), x3, x4)])]; exact HR3.out))
     obtain ⟨p4, c4, e4, hat, hc4, hz4⟩ := HR4.out
     cases e4
     have HSO := Za (SoftL.own HR3.out)
     have HAT := Za hat
     have HC4 := Za hc4
     have HZ4 := Za hz4
     clear hat hc4 hz4 HR4 HR3 t0 f0 a0 a1 a2
     have HBZ := Za ((HB2.out.calm HG3.out).set 1 (.slice p3 (nl + 1 : Nat) c3))
     have HDZ := Za (keepOne (HD2.out.calm HG3.out) (show g + 1 + 1 ≠ g by omega) 1 (.slice p3 (nl + 1 : Nat) c3))
     have HGZ := Za (Yx (Zb HGA.out HG3.out) (Zz w3 ⟨g, 1, none⟩ (.slice p3 (nl + 1 : Nat) c3)) HG0.out)
     have HSZ := Za (Zu (lo := wd.heap.size) (hi := w3.heap.size) (Stay.of (Zi w3 none) (Zc _)) (b := g) (.inl (Yt HB2.out.lt (Zc _))) 1 (.slice p3 (nl + 1 : Nat) c3) (Zc _))
     have HSO3 := Za (HSO.out.set g 1 (.slice p3 (nl + 1 : Nat) c3))
     generalize World.setCell w3 ⟨g, 1, none⟩ _ = wz at *
     obtain ⟨b0, b1, b2⟩ := HBZ.out.three
     have f0 := HDZ.out.free 0
     have f1 := HDZ.out.free 1
     have f2 := HDZ.out.free 2
     obtain ⟨r0, r1, r2⟩ := HDZ.out.three
     have HGY := Za (set3_new HGZ.out (show w.heap.size <= g + 1 + 1 by have := HG0.out; omega) (.string s) (.slice p3 (nl + 1 : Nat) c3) (.slice pp np cp))
     have HDY := Za (((HDZ.out.set 0 (.string s)).set 1 (.slice p3 (nl + 1 : Nat) c3)).set 2 (.slice pp np cp))
     have HSO4 := Za (((HSO3.out.set (g + 1 + 1) 0 (.string s)).set (g + 1 + 1) 1 (.slice p3 (nl + 1 : Nat) c3)).set (g + 1 + 1) 2 (.slice pp np cp))
     have HSY := Za (Zu (Zu (Zu HSZ.out (b := g + 1 + 1) (.inl HD2.out.lt) 0 (.string s) (Zc _)) (b := g + 1 + 1) (.inl HD2.out.lt) 1 (.slice p3 (nl + 1 : Nat) c3) (Zc _)) (b := g + 1 + 1) (.inl HD2.out.lt) 2 (.slice pp np cp) (Zc _))
     go_wp2
     generalize World.setCell _ ⟨g + 1 + 1, 2, none⟩ _ = wy at *
     obtain ⟨y0, y1, y2⟩ := BoxV.three HDY.out
     try simp only [Exit.inBlock, Exit.then]
     refine bodyPost_ret (v := .agg #[.string s, .slice p3 (nl + 1 : Nat) c3, .slice pp np cp]) (by simp [results, Tryz.results71, go_sem, y0, y1, y2]) rfl ?_
     exact ⟨p3, c3, rfl, lnes_span (HAT.out.stay HSY.out) HGA.out.size, HC4.out, HZ4.out, HSO4.out, HGY.out⟩
def LsC (w wr : World) (g4 g5 : Nat) (path : ByteArray) (L : List Lne) : Prop := ∃ (p : Option Addr) (c : Nat), BoxV wr g5 [.string path, .slice p L.length c, .slice none 0 0] 35 /\ BoxV wr g4 [.string ⟨#[]⟩, .slice none 0 0, .slice none 0 0] 35 /\
 (LnesAt wr (g5 + 1) wr.heap.size p L.length L /\ SoftL wr p) /\ L.length <= c /\ (p = none -> c = 0) /\ (L.length = 0 -> p = none) /\ w.grownBy wr none
theorem LsC.calm {w wr w' : World} {g4 g5 : Nat} {path : ByteArray} {L : List Lne} (h : LsC w wr g4 g5 path L) (hg : wr.grownBy w' none) : LsC w w' g4 g5 path L := by
 obtain ⟨p, c, h1, h2, h3, h4, h5, h6, h7⟩ := h
 exact ⟨p, c, h1.calm hg, h2.calm hg, ⟨lnes_span (h3.1.calm hg) (Zc _), h3.2.calm hg⟩, h4, h5, h6, Zb h7 hg⟩
theorem refLines13_s (p : Option Addr) (n c lo hi : Nat) (l : List Pt) (path : ByteArray) (w : World) (h : PtsAt w lo hi p n l) (hn : n <= 80) (hb : ∀ x ∈ l, (pHunks x).length <= 8 /\ ∀ h ∈ pHunks x, (hAdds h).length <= 50) :
  Calls Tryz.prog 39 #[.slice p n c, .string path] w fun e w' => ∃ p' c', e = .returned (.agg #[.string path, .slice p' (linesOfL l path).length c', .slice none 0 0]) /\ LnesAt w' w.heap.size w'.heap.size p' (linesOfL l path).length (linesOfL l path) /\ (linesOfL l path).length <= c' /\ (p' = none -> c' = 0) /\ SoftL w' p' /\ w.grownBy w' none := by
 have H := Za h
 have HL := Za h.len
 have HB := Za hb
 have HG := Za (Zb (Zd w (.cells #[.string ⟨#[]⟩, .slice none 0 0, .slice none 0 0] 35) none) (Zd _ (.cells #[.string path, .slice none 0 0, .slice none 0 0] 35) none))
 have HB4 := Za ((BoxV.new w [.string ⟨#[]⟩, .slice none 0 0, .slice none 0 0] 35).calm (Zd _ (.cells #[.string path, .slice none 0 0, .slice none 0 0] 35) none))
 have HB5 := Za (BoxV.second w [.string ⟨#[]⟩, .slice none 0 0, .slice none 0 0] [.string path, .slice none 0 0, .slice none 0 0] 35 35)
 clear h hb
 go_enter Tryz.func39, Tryz.ntmps39
 go_upto_region 2 with fail
 generalize World.alloc w _ = w0 at *
 generalize World.alloc w0 _ = w1 at *
 generalize hg0 : w.heap.size = g at *
 have HG0 : Hid (w.heap.size <= g) := Za (Nat.le_of_eq hg0)
 clear hg0
 go_wp2
 go_loopw [6] (fun v wr => ∃ i : Nat, i <= n /\ v = .int .i64 i /\ Hid (LsC w wr g (g + 1) path (putPts path l i))) (fun v _ => n - (intOf v).toNat)
 case atStart => exact ⟨0, Ze _, rfl, Za ⟨none, 0, HB5.out, HB4.out, ⟨lnesAt_nil _ _ _, fun _ _ e => by cases e⟩, Zc _, fun _ => rfl, fun _ => rfl, HG.out⟩⟩
 case round =>
 obtain ⟨i, hi', rfl, HF⟩ := hrel
 by_cases hin : i < n
 ·have i0 : (0 : Int) <= i := by omega
  have i1 : (i : Int) < n := by omega
  obtain ⟨b, o, rfl, _, hb1, hb2, hc⟩ := H.out.cell (by omega)
  have HBN : Hid (b ≠ g + 1) := Za (by have := HG0.out; omega)
  clear hb1 hb2
  obtain ⟨pd, nd, cd, pm, nm, cm, px, nx, cx, ph, nh, ch, c0, _, _, _, c4, hp⟩ := hc i hin
  have HX := Za (HB.out _ (Zr (d := pt0) (show i < l.length by rw [HL.out]; exact hin)))
  have hlen := putPts_len (path := path) HB.out i (by rw [HL.out]; exact hi')
  have HS : Hid (putPts path l (i + 1) = putHks path (l[i]?.getD pt0) (putPts path l i) (pHunks (l[i]?.getD pt0)).length) := Za rfl
  clear hc
  generalize putPts path l i = L0 at *
  generalize l[i]?.getD pt0 = x at *
  have HP := Za hp.hunks
  have HC0 := Za c0
  have HC4 := Za c4
  have hnh : nh <= 8 := by rw [<- hp.hunks.len]; exact HX.out.1
  clear hp c0 c4
  go_wp2
  go_loopw [7, 8] (fun u v wr => ∃ k : Nat, k <= nh /\ u = .int .i64 (addsN (pHunks x) k : Int) /\ v = .int .i64 k /\ Hid (LsC w wr g (g + 1) path (putHks path x L0 k))) (fun _ v _ => nh - (intOf v).toNat)
  case atStart => exact ⟨0, Ze _, rfl, rfl, HF⟩
  case round =>
  clear HF
  obtain ⟨k, hk, rfl, rfl, HF⟩ := hrel
  have HGW : Hid (w.grownBy wr none) := Za (by obtain ⟨_, _, _, _, _, _, _, _, h⟩ := HF.out; exact h)
  have a4 := Zh HGW.out HC4.out
  by_cases hkn : k < nh
  ·skip
   have k0 : (0 : Int) <= k := by omega
   have k1 : (k : Int) < nh := by omega
   have hkl : k < (pHunks x).length := by rw [HP.out.len]; exact hkn
   obtain ⟨bh, oh, rfl, _, _, _, hch⟩ := HP.out.cell (by omega)
   obtain ⟨pa, na, ca, pe, ne, ce, pk, nk, ck, h0, h1, h2, h3, hh⟩ := hch k hkn
   have hna : na <= 50 := by rw [<- hh.adds.len]; exact HX.out.2 _ (Zr (d := hk0) hkl)
   have hlk := putHks_len (path := path) (ls := L0) HX.out.2 k (by omega)
   have han : addsN (pHunks x) k <= 8 * 50 := by
    have h1 := addsN_le HX.out.2 k (by omega)
    have : k * 50 <= 8 * 50 := Vk _ (by omega)
    omega
   have HSK : Hid (putHks path x L0 (k + 1) = putAdds path (pID x) ((pHunks x)[k]?.getD hk0) (addsN (pHunks x) k) (putHks path x L0 k) na) := Za (by rw [<- hh.adds.len]; rfl)
   have HSA : Hid (addsN (pHunks x) (k + 1) = addsN (pHunks x) k + na) := Za (by rw [addsN_succ hkl, <- hh.adds.len, Zm hkl]; rfl)
   clear hch
   generalize hM : putHks path x L0 k = M at *
   generalize hN : addsN (pHunks x) k = N at *
   generalize (pHunks x)[k]?.getD hk0 = hk at *
   have HA := Za hh.adds
   clear hh hM hN
   have x0 := Zh HGW.out h0
   have x1 := Zh HGW.out h1
   have x2 := Zh HGW.out h2
   have x3 := Zh HGW.out h3
   clear h0 h1 h2 h3
   have HGA := Za (Zd wr (.cells #[.string (hPath hk), .slice pa na ca, .slice pe ne ce, .slice pk nk ck] 68) none)
   have HBH := Za (BoxV.new wr [.string (hPath hk), .slice pa na ca, .slice pe ne ce, .slice pk nk ck] 68)
   have HFA := Za (HF.out.calm HGA.out)
   go_upto_region 10 with fail
   clear x0 x1 x2 x3 a4
   have HGHN : Hid (wr.heap.size ≠ g + 1) := Za (by obtain ⟨_, _, hh, _⟩ := HF.out; have := hh.lt; omega)
   generalize World.alloc wr _ = wh at *
   generalize wr.heap.size = gh at *
   clear HF HGA HGW
   go_wp2
   go_loopw [7, 10] (fun u v wr => ∃ j : Nat, j <= na /\ u = .int .i64 ((N + j : Nat) : Int) /\ v = .int .i64 j /\ Hid (LsC w wr g (g + 1) path (putAdds path (pID x) hk N M j)) /\ Hid (BoxV wr gh [.string (hPath hk), .slice pa na ca, .slice pe ne ce, .slice pk nk ck] 68)) (fun _ v _ => na - (intOf v).toNat)
   case atStart => exact ⟨0, Ze _, rfl, rfl, HFA, HBH⟩
   case round =>
    clear HFA HBH
    obtain ⟨j, hj, rfl, rfl, HF, HBH⟩ := hrel
    have e1 := HBH.out.cell (k := 1) rfl
    have e0 := HBH.out.cell (k := 0) rfl
    by_cases hjn : j < na
    ·have j0 : (0 : Int) <= j := by omega
     have j1 : (j : Int) < na := by omega
     have wN : IntKind.i64.wrap (((N + j : Nat) : Int) + 1) = ((N + (j + 1) : Nat) : Int) := by rw [Zf _ (by omega)]; omega
     by_cases hpp : hPath hk = path
     ·skip
      have e2 := Xz hpp
      have hnj9 : N + j <= 100000 := by omega
      generalize hnj : N + j = nj at *
      have HNJ := Za hnj
      have HST : Hid (putAdds path (pID x) hk N M (j + 1) = insL (putAdds path (pID x) hk N M j) ((pID x, (nj : Int)), (hAdds hk)[j]?.getD .empty, false)) := Za (by show (if hPath hk = path then _ else _) = _; rw [if_pos hpp, hnj])
      clear hnj
      clear hpp
      obtain ⟨q, cq, hbx, hb4, hls, hlc, hq0, hz0, hgr⟩ := HF.out
      have hml := putAdds_len path (pID x) hk N M j
      have HBX := Za hbx
      have HB4' := Za hb4
      have HLS := Za hls.1
      have HGR := Za hgr
      have HQ0 := Za hq0
      have HZ0 := Za hz0
      clear hbx hb4 hls hgr hq0 hz0
      obtain ⟨ba, oa, rfl, _, hba1, hba2, hca⟩ := HA.out.cell (by omega)
      have HBA : Hid (ba ≠ g + 1) := Za (by have := HG0.out; omega)
      clear hba1 hba2
      have HGH : Hid (gh ≠ g + 1) := HGHN
      have x0 := Zh HGR.out (hca j hjn)
      clear hca
      generalize (hAdds hk)[j]?.getD .empty = y at *
      generalize putAdds path (pID x) hk N M j = M2 at *
      obtain ⟨m, hm⟩ : ∃ m, M2.length = m := ⟨_, rfl⟩
      have hm9 := Za hm
      rw [hm] at HBX HLS hlc HZ0 hml
      clear hm
      obtain ⟨id, hid⟩ : ∃ id, pID x = id := ⟨_, rfl⟩
      have HID := Za hid
      have hc0 := HC0.out
      rw [hid] at hc0 HST
      have x1 := Zh HGR.out hc0
      clear hid hc0
      have HCI : Hid (∀ X, wr.grownBy X none -> Calls Tryz.prog 71 #[.agg #[.string path, .slice q m cq, .slice none 0 0], .agg #[.int .u32 (id : Int), .int .i64 (nj : Int), .string y, .bool false]] X fun e w' => ∃ p' c', e = .returned (.agg #[.string path, .slice p' (m + 1 : Nat) c', .slice none 0 0]) /\
        LnesAt w' X.heap.size w'.heap.size p' (m + 1) (insL M2 ((id, (nj : Int)), y, false)) /\ m + 1 <= c' /\ (p' = none -> c' = 0) /\ SoftL w' p' /\ X.grownBy w' none) := Za fun X hX =>
       refPutLine_s path M2 id (nj : Int) y false q m cq none 0 0 _ _ X (HLS.out.calm hX) (by omega) hlc HQ0.out HZ0.out
      have HS' : Hid (∀ X, wr.grownBy X none -> X.cell? ⟨g + 1, 0, none⟩ = some (.string path) /\ X.cell? ⟨g + 1, 1, none⟩ = some (.slice q m cq) /\ X.cell? ⟨g + 1, 2, none⟩ = some (.slice none 0 0) /\ X.cell? ⟨b, o + i * 5, none⟩ = some (.int .u32 (id : Int)) /\ X.cell? ⟨gh, 1, none⟩ = some (.slice (some ⟨ba, oa, none⟩) na ca) /\ X.cell? ⟨ba, oa + j, none⟩ = some (.string y)) := Za fun X hX => by
       obtain ⟨z0, z1, z2⟩ := (HBX.out.calm hX).three
       exact ⟨z0, z1, z2, Zh hX x1, Zh hX e1, Zh hX x0⟩
      go_upto_region 14 with fail
      refine wp_region_held (S := fun X => X.cell? ⟨b, o + i * 5, none⟩ = some (.int .u32 (id : Int)) /\ X.cell? ⟨gh, 1, none⟩ = some (.slice (some ⟨ba, oa, none⟩) na ca) /\ X.cell? ⟨ba, oa + j, none⟩ = some (.string y)) (by kernel_rfl) ?_
      change wpAnyH _ _ _ _ _ _ _ _ wr.drew
      have henv : wr.grownBy wr.drew none := Zo wr 1 none
      have s0 := Zh henv x1
      have s1 := Zh henv e1
      have s2 := Zh henv x0
      generalize wr.drew = wd at *
      refine Zv (i := 1) (v := .slice (some ⟨b, o, none⟩) n c) rfl (by kernel_rfl) (by kernel_rfl) (by kernel_rfl) (fun _ _ _ h => h) (.inl ⟨by rfl, ?_⟩) ⟨s0, s1, s2⟩ ?_
      ·rintro w' ⟨u0, u1, u2⟩
       go_simp
      simp only [Act.put, Yd, Yh, Yc, Ye, Yf, Yg]
      refine Zv (i := 2) (v := .int .i64 (i : Int)) rfl (by kernel_rfl) (by kernel_rfl) (by kernel_rfl) (fun _ _ _ h => h) (.inl ⟨by rfl, ?_⟩) ⟨s0, s1, s2⟩ ?_
      ·rintro w' ⟨u0, u1, u2⟩
       go_simp
      simp only [Act.put, Yd, Yh, Yc, Ye, Yf, Yg]
      refine Zv (i := 3) (v := .pointer (some ⟨b, o + i * 5, none⟩)) rfl (by kernel_rfl) (by kernel_rfl) (by kernel_rfl) (fun _ _ _ h => h) (.inl ⟨by rfl, ?_⟩) ⟨s0, s1, s2⟩ ?_
      ·rintro w' ⟨u0, u1, u2⟩
       go_simp
      simp only [Act.put, Yd, Yh, Yc, Ye, Yf, Yg]
      refine Zv (i := 4) (v := .pointer (some ⟨b, o + i * 5, none⟩)) rfl (by kernel_rfl) (by kernel_rfl) (by kernel_rfl) (fun _ _ _ h => h) (.inl ⟨by rfl, ?_⟩) ⟨s0, s1, s2⟩ ?_
      ·rintro w' ⟨u0, u1, u2⟩
       go_simp
      simp only [Act.put, Yd, Yh, Yc, Ye, Yf, Yg]
      refine Zv (i := 5) (v := .int .u32 (id : Int)) rfl (by kernel_rfl) (by kernel_rfl) (by kernel_rfl) (fun _ _ _ h => h) (.inl ⟨by rfl, ?_⟩) ⟨s0, s1, s2⟩ ?_
      ·rintro w' ⟨u0, u1, u2⟩
       go_simp
      simp only [Act.put, Yd, Yh, Yc, Ye, Yf, Yg]
      refine Zv (i := 6) (v := .int .i64 (nj : Int)) rfl (by kernel_rfl) (by kernel_rfl) (by kernel_rfl) (fun _ _ _ h => h) (.inl ⟨by rfl, ?_⟩) ⟨s0, s1, s2⟩ ?_
      ·rintro w' ⟨u0, u1, u2⟩
       go_simp
      simp only [Act.put, Yd, Yh, Yc, Ye, Yf, Yg]
      refine Zv (i := 7) (v := .agg #[.int .u32 (id : Int), .int .i64 (nj : Int)]) rfl (by kernel_rfl) (by kernel_rfl) (by kernel_rfl) (fun _ _ _ h => h) (.inl ⟨by rfl, ?_⟩) ⟨s0, s1, s2⟩ ?_
      ·rintro w' ⟨u0, u1, u2⟩
       go_simp
      simp only [Act.put, Yd, Yh, Yc, Ye, Yf, Yg]
      refine Zv (i := 8) (v := .pointer (some ⟨gh, 1, none⟩)) rfl (by kernel_rfl) (by kernel_rfl) (by kernel_rfl) (fun _ _ _ h => h) (.inl ⟨by rfl, ?_⟩) ⟨s0, s1, s2⟩ ?_
      ·rintro w' ⟨u0, u1, u2⟩
       go_simp
      simp only [Act.put, Yd, Yh, Yc, Ye, Yf, Yg]
      refine Zv (i := 9) (v := .slice (some ⟨ba, oa, none⟩) na ca) rfl (by kernel_rfl) (by kernel_rfl) (by kernel_rfl) (fun _ _ _ h => h) (.inl ⟨by rfl, ?_⟩) ⟨s0, s1, s2⟩ ?_
      ·rintro w' ⟨u0, u1, u2⟩
       go_simp
      simp only [Act.put, Yd, Yh, Yc, Ye, Yf, Yg]
      refine Zv (i := 10) (v := .int .i64 (j : Int)) rfl (by kernel_rfl) (by kernel_rfl) (by kernel_rfl) (fun _ _ _ h => h) (.inl ⟨by rfl, ?_⟩) ⟨s0, s1, s2⟩ ?_
      ·rintro w' ⟨u0, u1, u2⟩
       go_simp
      simp only [Act.put, Yd, Yh, Yc, Ye, Yf, Yg]
      refine Zv (i := 11) (v := .pointer (some ⟨ba, oa + j, none⟩)) rfl (by kernel_rfl) (by kernel_rfl) (by kernel_rfl) (fun _ _ _ h => h) (.inl ⟨by rfl, ?_⟩) ⟨s0, s1, s2⟩ ?_
      ·rintro w' ⟨u0, u1, u2⟩
       go_simp
      simp only [Act.put, Yd, Yh, Yc, Ye, Yf, Yg]
      refine Zv (i := 12) (v := .string y) rfl (by kernel_rfl) (by kernel_rfl) (by kernel_rfl) (fun _ _ _ h => h) (.inl ⟨by rfl, ?_⟩) ⟨s0, s1, s2⟩ ?_
      ·rintro w' ⟨u0, u1, u2⟩
       go_simp
      simp only [Act.put, Yd, Yh, Yc, Ye, Yf, Yg]
      refine Zv (i := 13) (v := .agg #[.int .u32 (id : Int), .int .i64 (nj : Int), .string y, .bool false]) rfl (by kernel_rfl) (by kernel_rfl) (by kernel_rfl) (fun _ _ _ h => h) (.inl ⟨by rfl, ?_⟩) ⟨s0, s1, s2⟩ ?_
      ·rintro w' ⟨u0, u1, u2⟩
       go_simp
      simp only [Act.put, Yd, Yh, Yc, Ye, Yf, Yg]
      refine Yq 0 (by kernel_rfl) rfl ?_
      intro KK hKK
      obtain ⟨z0, z1, z2⟩ := (HBX.out.calm henv).three
      go_simp
      refine hKK _ _ ⟨s0, s1, s2⟩ ?_
      clear hKK KK z0 z1 z2
      refine Yq 14 (by kernel_rfl) rfl ?_
      intro KK hKK
      go_simp
      refine (HCI.out _ henv).mono ?_
      rintro e w7 ⟨p', c', rfl, hl7, hc7, hz7, hs7, hg⟩
      have HL7 := Za hl7
      have HS7 := Za (((hs7.set (g + 1) 0 (.string path)).set (g + 1) 1 (.slice p' (m + 1 : Nat) c')).set (g + 1) 2 (.slice none 0 0))
      have HX0 := Za (show g + 1 < wd.heap.size from (HBX.out.calm henv).lt)
      have henv := Zb henv hg
      replace s0 := Zh hg s0
      replace s1 := Zh hg s1
      replace s2 := Zh hg s2
      refine hKK _ _ ⟨s0, s1, s2⟩ ?_
      clear hKK KK hl7
      refine Yq 15 (by kernel_rfl) rfl ?_
      intro KK hKK
      obtain ⟨z0, z1, z2⟩ := (HBX.out.calm henv).three
      have f0 := (HBX.out.calm henv).free 0
      have f1 := (HBX.out.calm henv).free 1
      have f2 := (HBX.out.calm henv).free 2
      go_simp
      have HNB := Za (((((HBX.out.calm henv).set 0 (.string path)).set 1 (.slice p' (m + 1 : Nat) c')).set 2 (.slice none 0 0)))
      have HN4 := Za (keepOne (keepOne (keepOne (HB4'.out.calm henv) (show g ≠ g + 1 by omega) 0 (.string path)) (show g ≠ g + 1 by omega) 1 (.slice p' (m + 1 : Nat) c')) (show g ≠ g + 1 by omega) 2 (.slice none 0 0))
      have HNH := Za (keepOne (keepOne (keepOne (HBH.out.calm henv) HGH.out 0 (.string path)) HGH.out 1 (.slice p' (m + 1 : Nat) c')) HGH.out 2 (.slice none 0 0))
      have HNL := Za (HL7.out.stay (Zu (Zu (Zu (Stay.of (Zi w7 none) (Zc _)) (b := g + 1) (.inl HX0.out) 0 (.string path) (Zc _)) (b := g + 1) (.inl HX0.out) 1 (.slice p' (m + 1 : Nat) c') (Zc _)) (b := g + 1) (.inl HX0.out) 2 (.slice none 0 0) (Zc _)))
      have HNG := Za (set3_new (Zb HGR.out henv) (show w.heap.size <= g + 1 by have := HG0.out; omega) (.string path) (.slice p' (m + 1 : Nat) c') (.slice none 0 0))
      have t0 := cell_off s0 HBN.out 0 (.string path)
      replace t0 := cell_off t0 HBN.out 1 (.slice p' (m + 1 : Nat) c')
      replace t0 := cell_off t0 HBN.out 2 (.slice none 0 0)
      have t2 := cell_off s2 HBA.out 0 (.string path)
      replace t2 := cell_off t2 HBA.out 1 (.slice p' (m + 1 : Nat) c')
      replace t2 := cell_off t2 HBA.out 2 (.slice none 0 0)
      generalize World.setCell _ ⟨g + 1, 2, none⟩ _ = w9 at *
      refine hKK _ _ ⟨t0, HNH.out.cell (k := 1) rfl, t2⟩ ?_
      clear hKK KK
      refine Vm (by kernel_rfl) ?_ _
      have HF2 : Hid (LsC w w9 g (g + 1) path (putAdds path (pID x) hk N M (j + 1))) := Za (by
       rw [HID.out, HST.out]
       refine ⟨p', c', ?_, HN4.out, ?_, ?_, hz7, (fun h => by rw [insL_len] at h; omega), HNG.out⟩
       ·rw [insL_len, hm9.out]; exact HNB.out
       ·rw [insL_len, hm9.out]; exact ⟨lnes_span HNL.out HX0.out, HS7.out⟩
       ·rw [insL_len, hm9.out]; exact hc7)
      have HNJ2 : Hid (nj + 1 = N + (j + 1)) := Za (by have := HNJ.out; omega)
      clear t0 t2 s0 s1 s2 z0 z1 z2 f0 f1 f2 henv e0 e1 x0 x1
      go_wp2
      exact ⟨⟨j + 1, by omega, rfl, by go_num, HF2, HNH⟩, by simp [intOf]; omega⟩
     ·have e2 := Xt hpp
      have HF2 : Hid (LsC w wr g (g + 1) path (putAdds path (pID x) hk N M (j + 1))) := Za (by show LsC _ _ _ _ _ (if hPath hk = path then _ else _); rw [if_neg hpp]; exact HF.out)
      clear hpp
      go_wp2
      exact ⟨⟨j + 1, by omega, rfl, by go_num, HF2, HBH⟩, by simp [intOf]; omega⟩
    obtain rfl : na = j := by omega
    have j1 : ¬ ((na : Int) < na) := by omega
    have HF2 : Hid (LsC w wr g (g + 1) path (putHks path x L0 (k + 1))) := Za (by rw [HSK.out]; exact HF.out)
    go_wp2
    exact ⟨⟨k + 1, by omega, by rw [HSA.out], by go_num, HF2⟩, by simp [intOf]; omega⟩
  obtain rfl : nh = k := by omega
  have k1 : ¬ ((nh : Int) < nh) := by omega
  have HF2 : Hid (LsC w wr g (g + 1) path (putPts path l (i + 1))) := Za (by rw [HS.out, HP.out.len]; exact HF.out)
  go_wp2
  exact ⟨⟨i + 1, by omega, by go_num, HF2⟩, by simp [intOf]; omega⟩
 obtain rfl : n = i := by omega
 have i1 : ¬ ((n : Int) < n) := by omega
 have HE : Hid (putPts path l n = linesOfL l path) := Za (by unfold linesOfL; rw [HL.out])
 rw [HE.out] at HF
 obtain ⟨q, cq, hbx, hb4, hls, hlc, hq0, _, hgr⟩ := HF.out
 have HB4' := Za hb4
 obtain ⟨z0, z1, z2⟩ := hbx.three
 obtain ⟨r0, r1, r2⟩ := hb4.three
 have f0 := hb4.free 0
 have f1 := hb4.free 1
 have f2 := hb4.free 2
 have HNB := Za (((hb4.set 0 (.string path)).set 1 (.slice q (linesOfL l path).length cq)).set 2 (.slice none 0 0))
 have HNG := Za (set3_new hgr HG0.out (.string path) (.slice q (linesOfL l path).length cq) (.slice none 0 0))
 have HNS := Za (((hls.2.set g 0 (.string path)).set g 1 (.slice q (linesOfL l path).length cq)).set g 2 (.slice none 0 0))
 have HNL := Za (hls.1.stay (Zu (Zu (Zu (Stay.of (Zi wr none) (Zc _)) (b := g) (.inl (by omega)) 0 (.string path) (Zc _)) (b := g) (.inl (by omega)) 1 (.slice q (linesOfL l path).length cq) (Zc _)) (b := g) (.inl (by omega)) 2 (.slice none 0 0) (Zc _)))
 have HLC := Za hlc
 have HQ := Za hq0
 clear hbx hb4 hls hlc hq0 hgr HF HE
 go_wp2
 generalize World.setCell _ ⟨g, 2, none⟩ _ = wy at *
 obtain ⟨y0, y1, y2⟩ := BoxV.three HNB.out
 try simp only [Exit.inBlock, Exit.then]
 refine bodyPost_ret (v := .agg #[.string path, .slice q (linesOfL l path).length cq, .slice none 0 0]) (by simp [results, Tryz.results39, go_sem, y0, y1, y2]) rfl ?_
 exact ⟨q, cq, rfl, lnes_span HNL.out (by have := HG0.out; omega), HLC.out, HQ.out, HNS.out, HNG.out⟩
end Go.Proofs.YtnknejokneddbaaGreatDoor
