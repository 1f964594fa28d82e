/- Package patch: isLine, arePaths, areDeps, areApart, sameHunk, Same, isHunk. -/
import Derived.Test.YtnknejokneddbaaGreatDoorAl
import Derived.Test.YtnknejokneddbaaGreatDoorPue
import Derived.Test.YtnknejokneddbaaGreatDoorRefPa
import Derived.Test.YtnknejokneddbaaGreatDoorSplR
namespace Go.Proofs.YtnknejokneddbaaGreatDoor
set_option maxHeartbeats 8000000
set_option maxRecDepth 8000
open Go.RowKit
theorem StrsAt.newOne (w : World) (s : ByteArray) : StrsAt (w.alloc (.cells #[.string s] 9)) w.heap.size (w.heap.size + 1) (some ⟨w.heap.size, 0, none⟩) 1 [s] :=
 ⟨rfl, fun _ => ⟨w.heap.size, 0, rfl, Zc _, by omega, by simp, fun i hi => by
  obtain rfl : i = 0 := by omega
  exact (BoxV.new w [.string s] 9).cell (k := 0) rfl⟩⟩
theorem isLine_c (s : ByteArray) (r : Bool) (w : World) (hs : s.size <= 1000000) (hr : r = true ↔ IsLine s) :
  Calls Tryz.prog 157 #[.string s] w fun e w' => e = .returned (.bool r) /\ w.grownBy w' none := by
 have HR := Za hr
 have HS := Za hs
 clear hr
 by_cases h1 : s.size <= 60
 ·have f1 : (s.size : Int) <= 60 := by omega
  obtain ⟨q, hq⟩ : ∃ q, isS [s] = q := ⟨_, rfl⟩
  have HQ : Hid (q = r) := Za (by
   cases hq2 : q with
   | true => exact (HR.out.2 ⟨lines_is.1 (hq.trans hq2), h1⟩).symm
   | false => exact (Zj HR.out fun h => by have := lines_is.2 h.one; rw [hq, hq2] at this; cases this).symm)
  have HC : Hid (∀ W : World, Calls Tryz.prog 184 #[.slice (some ⟨W.heap.size, 0, none⟩) 1 1] (W.alloc (.cells #[.string s] 9)) fun e w' => e = .returned (.bool q) /\ W.grownBy w' none) := Za fun W =>
   (is_split_c _ 1 1 _ _ [s] q _ (StrsAt.newOne W s) (by omega) (fun x hx => by rw [Yu.1 hx]; exact HS.out) hq).mono fun e w' h => ⟨h.1, by first | exact Zb (Zd W _ none) h.2 | (rw [h.2]; exact Zd W _ none)⟩
  clear hq hs
  go_enter Tryz.func157, Tryz.ntmps157
  go_wp2_with fail
  refine (HC.out _).mono ?_
  rintro e w5 ⟨rfl, hg5⟩
  have HG5 := Za hg5
  clear hg5
  have hqr := HQ.out
  subst hqr
  go_wp2
  go_ret
  exact ⟨rfl, HG5.out⟩
 ·have f1 : ¬ (s.size : Int) <= 60 := by omega
  obtain rfl : r = false := Zj HR.out fun h => h1 h.hi
  go_enter Tryz.func157, Tryz.ntmps157
  go_wp2
  go_ret
  exact ⟨rfl, Zi _ _⟩
theorem ris_B {α : Type} {lt : α -> α -> Bool} (O : Lin lt) {d : α} {l : List α} {n : Nat} (hn : l.length = n) : risB lt d l n = true ↔ risR lt l := by
 subst hn
 rw [risB_iff O d (Zc _), List.take_length]
theorem arePaths_c (p : Option Addr) (n c lo hi M : Nat) (l : List ByteArray) (r : Bool) (w : World) (h : StrsAt w lo hi p n l) (hn : n <= 1000000) (_hM : M <= 1000000) (hs : ∀ s ∈ l, s.size <= 1000000) (hr : r = true ↔ n <= M /\ risR ltS l /\ ∀ s ∈ l, IsPath s) :
  Calls Tryz.prog 87 #[.slice p n c, .int .i64 (M : Int)] w fun e w' => e = .returned (.bool r) /\ w.grownBy w' none := by
 have HR := Za hr
 have HS := Za hs
 have H := Za h
 have HB := Za (ris_B linS (d := ByteArray.empty) h.len)
 clear hr hs h
 by_cases h1 : n <= M
 ·have f1 : (n : Int) <= M := by omega
  obtain ⟨q, hq⟩ : ∃ q, q = risB ltS ByteArray.empty l n := ⟨_, rfl⟩
  rw [<- hq] at HB
  have HC := Za (fun W (hg : w.grownBy W none) => riseS_c l lo hi p n c q W (H.out.calm hg) hn hq)
  clear hq
  go_enter Tryz.func87, Tryz.ntmps87
  go_wp2_with fail
  refine (HC.out _ (Zi _ _)).mono ?_
  rintro e w1 ⟨rfl, hg1⟩
  have HG1 := Za hg1
  clear hg1
  cases q with
  | false =>
   obtain rfl : r = false := Zj HR.out fun h => by have := HB.out.2 h.2.1; cases this
   go_wp2
   go_ret
   exact ⟨rfl, HG1.out⟩
  | true =>
   have HB1 := Za (HB.out.1 rfl)
   obtain ⟨f, hf⟩ : ∃ f : ByteArray -> Bool, ∀ s, f s = true ↔ IsPath s := ⟨fun s => Classical.choose (Ym (IsPath s)), fun s => Classical.choose_spec (Ym (IsPath s))⟩
   have HF := Za hf
   have HR2 : Hid (r = true ↔ ∀ s ∈ l, f s = true) := Za ⟨fun h s hs => (HF.out s).2 ((HR.out.1 h).2.2 s hs), fun h => HR.out.2 ⟨h1, HB1.out, fun s hs => (HF.out s).1 (h s hs)⟩⟩
   have HQ : Hid (∀ x ∈ l, ∀ W, w1.grownBy W none -> Calls Tryz.prog 123 #[.string x] W fun e w' => e = .returned (.bool (f x)) /\ W.grownBy w' none) := Za fun x hx W _ => isPath_c x (f x) W (HS.out x hx) (HF.out x)
   clear hf
   go_wp2_with fail
   refine (allPath_c l lo hi p n c f r w1 (H.out.calm HG1.out) hn HQ.out HR2.out).mono ?_
   rintro e w2 ⟨rfl, hg2⟩
   have HG2 := Za (Zb HG1.out hg2)
   clear hg2
   go_wp2
   go_ret
   exact ⟨rfl, HG2.out⟩
 ·have f1 : ¬ (n : Int) <= M := by omega
  obtain rfl : r = false := Zj HR.out fun h => h1 h.1
  go_enter Tryz.func87, Tryz.ntmps87
  go_wp2
  go_ret
  exact ⟨rfl, Zi _ _⟩
theorem areDeps_c (p : Option Addr) (n c lo hi own : Nat) (l : List Nat) (r : Bool) (w : World) (h : NsAt .u32 w lo hi p n l) (hn : n <= 1000000) (hr : r = true ↔ n <= 60 /\ risR ltN l /\ 0 ∉ l /\ own ∉ l) :
  Calls Tryz.prog 86 #[.slice p n c, .int .u32 (own : Int)] w fun e w' => e = .returned (.bool r) /\ w.grownBy w' none := by
 have HR := Za hr
 have H := Za h
 have HB := Za (ris_B linN (d := 0) h.len)
 clear hr h
 by_cases h1 : n <= 60
 ·have f1 : (n : Int) <= 60 := by omega
  obtain ⟨q, hq⟩ : ∃ q, q = risB ltN 0 l n := ⟨_, rfl⟩
  rw [<- hq] at HB
  have HC := Za (fun W (hg : w.grownBy W none) => riseU_c l lo hi p n c q W (H.out.calm hg) hn hq)
  clear hq
  go_enter Tryz.func86, Tryz.ntmps86
  go_wp2_with fail
  refine (HC.out _ (Zi _ _)).mono ?_
  rintro e w1 ⟨rfl, hg1⟩
  have HG1 := Za hg1
  clear hg1 HC
  cases q with
  | false =>
   obtain rfl : r = false := Zj HR.out fun h => by have := HB.out.2 h.2.1; cases this
   go_wp2
   go_ret
   exact ⟨rfl, HG1.out⟩
  | true =>
   have HB1 := Za (HB.out.1 rfl)
   obtain ⟨q, hq⟩ := Ym (0 ∈ l)
   have HQ := Za hq
   clear hq
   go_wp2_with fail
   refine (conU_c p n c lo hi l 0 q w1 (H.out.calm HG1.out) hn HQ.out).mono ?_
   rintro e w2 ⟨rfl, hg2⟩
   have HG2 := Za (Zb HG1.out hg2)
   clear hg2
   cases q with
   | true =>
    obtain rfl : r = false := Zj HR.out fun h => h.2.2.1 (HQ.out.1 rfl)
    go_wp2
    go_ret
    exact ⟨rfl, HG2.out⟩
   | false =>
    have HN1 : Hid (0 ∉ l) := Za fun h => by have := HQ.out.2 h; cases this
    clear HQ
    obtain ⟨q, hq⟩ := Ym (own ∈ l)
    have HQ := Za hq
    clear hq
    go_wp2_with fail
    refine (conU_c p n c lo hi l own q w2 (H.out.calm HG2.out) hn HQ.out).mono ?_
    rintro e w3 ⟨rfl, hg3⟩
    have HG3 := Za (Zb HG2.out hg3)
    clear hg3
    cases q with
    | true =>
     obtain rfl : r = false := Zj HR.out fun h => h.2.2.2 (HQ.out.1 rfl)
     go_wp2
     go_ret
     exact ⟨rfl, HG3.out⟩
    | false =>
     obtain rfl : r = true := HR.out.2 ⟨h1, HB1.out, HN1.out, fun h => by have := HQ.out.2 h; cases this⟩
     go_wp2
     go_ret
     exact ⟨rfl, HG3.out⟩
 ·have f1 : ¬ (n : Int) <= 60 := by omega
  obtain rfl : r = false := Zj HR.out fun h => h1 h.1
  go_enter Tryz.func86, Tryz.ntmps86
  go_wp2
  go_ret
  exact ⟨rfl, Zi _ _⟩
theorem areApart1_c (p : Option Addr) (n c lo hi bx : Nat) (l : List ByteArray) (s : ByteArray) (r : Bool) (w : World) (h : StrsAt w lo hi p n l) (hn : n <= 1000000) (hb : w.cell? ⟨bx, 0, none⟩ = some (.slice p n c)) (hr : r = true ↔ s ∉ l) :
  Calls Tryz.prog 124 #[.string s, .pointer (some ⟨bx, 0, none⟩)] w fun e w' => e = .returned (.bool r) /\ w.grownBy w' none := by
 have hc := conS_c p n c lo hi l s (!r) w h hn (by
  constructor
  ·intro h1
   exact Classical.byContradiction fun h2 => by rw [hr.2 h2] at h1; cases h1
  ·intro h1
   cases hr1 : r with
   | false => rfl
   | true => exact absurd h1 (hr.1 hr1))
 have HC := Za hc
 clear hc h hr
 go_enter Tryz.func124, Tryz.ntmps124
 go_wp2_with fail
 refine HC.out.mono ?_
 rintro e w1 ⟨rfl, hg1⟩
 cases r with
 | true =>
  go_wp2
  go_ret
  exact ⟨rfl, hg1⟩
 | false =>
  go_wp2
  go_ret
  exact ⟨rfl, hg1⟩
theorem areApart_c (p p' : Option Addr) (n m c c' lo hi lo' hi' : Nat) (la lb : List ByteArray) (r : Bool) (w : World) (hp : StrsAt w lo hi p n la) (hq : StrsAt w lo' hi' p' m lb) (hn : n <= 1000000) (hm : m <= 1000000) (hr : r = true ↔ ∀ s ∈ la, s ∉ lb) :
  Calls Tryz.prog 88 #[.slice p n c, .slice p' m c'] w fun e w' => e = .returned (.bool r) /\ w.grownBy w' none := by
 have HB := Za (BoxV.new w [.slice p' m c'] 48)
 have HG := Za (Zd w (.cells [.slice p' m c'].toArray 48) none)
 have HP := Za (hp.calm HG.out)
 have HQ := Za (hq.calm HG.out)
 have HR := Za hr
 clear hp hq hr
 go_enter Tryz.func88, Tryz.ntmps88
 go_upto_region 1 with fail
 generalize w.alloc _ = w1 at *
 generalize w.heap.size = g at *
 go_wp2_with fail
 obtain ⟨f, hf⟩ : ∃ f : ByteArray -> Bool, ∀ s, f s = true ↔ s ∉ lb := ⟨fun s => Classical.choose (Ym (s ∉ lb)), fun s => Classical.choose_spec (Ym (s ∉ lb))⟩
 refine (allApart_c la lo hi p n c f g r w1 HP.out hn (fun x _ W hg => areApart1_c p' m c' lo' hi' g lb x (f x) W (HQ.out.calm hg) hm ((HB.out.calm hg).cell rfl) (hf x)) (by rw [HR.out]; exact ⟨fun h x hx => (hf x).2 (h x hx), fun h x hx => (hf x).1 (h x hx)⟩)).mono ?_
 rintro e w2 ⟨rfl, hg2⟩
 have HG2 := Za (Zb HG.out hg2)
 clear hg2
 go_wp2
 go_ret
 exact ⟨rfl, HG2.out⟩
structure HkOK (h : Hk) : Prop where
 nAdds : (hAdds h).length <= 40
 adds : ∀ s ∈ hAdds h, IsLine s
 nEdges : (hEdges h).length <= 80
 eris : risR ltEd (hEdges h)
 apart : ∀ e ∈ hEdges h, decide (e.1 ≠ e.2) = true
 nKills : (hKills h).length <= 40
 kris : risR ltLn (hKills h)
 nums : ∀ x ∈ namedL (hEdges h) (hKills h), decide (0 <= x.2 /\ x.2 < 40) = true
theorem isHunk_c (path : ByteArray) (ts : List ByteArray) (es : List Ed) (ks : List Ln) (pa : Option Addr) (na ca : Nat) (pe : Option Addr) (ne ce : Nat) (pk : Option Addr) (nk ck : Nat) (lo hi : Nat) (r : Bool) (w : World)
  (h : HkAt w lo hi pa na ca pe ne ce pk nk ck (path, ts, es, ks)) (hb : na <= 1000 /\ ne <= 1000 /\ nk <= 1000) (hs : ∀ s ∈ ts, s.size <= 1000000) (hr : r = true ↔ HkOK (path, ts, es, ks)) :
  Calls Tryz.prog 126 #[.agg #[.string path, .slice pa na ca, .slice pe ne ce, .slice pk nk ck]] w fun e w' => e = .returned (.bool r) /\ w.grownBy w' none := by
 have HR := Za hr
 have HB := Za (BoxV.new w [.string path, .slice pa na ca, .slice pe ne ce, .slice pk nk ck] 68)
 have HG := Za (Zd w (.cells [.string path, .slice pa na ca, .slice pe ne ce, .slice pk nk ck].toArray 68) none)
 have HAS := Za (show StrsAt _ lo hi pa na ts from h.adds.calm HG.out)
 have HES := Za (show EdsAt _ lo hi pe ne es from h.edges.calm HG.out)
 have HKS := Za (show LnsAt _ lo hi pk nk ks from h.kills.calm HG.out)
 have HZK := Za h.zk
 have HLA := Za HAS.out.len
 have HLE := Za HES.out.len
 have HLK := Za HKS.out.len
 have HSZ := Za hs
 clear hr h hs
 go_enter Tryz.func126, Tryz.ntmps126
 go_upto_region 1 with fail
 generalize w.alloc _ = w1 at *
 generalize w.heap.size = g1 at *
 obtain ⟨a0, a1, a2, a3⟩ := HB.out.four
 have HGA := Za (Zi w1 none)
 by_cases hna : na <= 40
 ·have fna : (na : Int) <= 40 := by omega
  obtain ⟨f, hf⟩ : ∃ f : ByteArray -> Bool, ∀ s, f s = true ↔ IsLine s := ⟨fun s => Classical.choose (Ym (IsLine s)), fun s => Classical.choose_spec (Ym (IsLine s))⟩
  have HF := Za hf
  clear hf
  obtain ⟨q, hq⟩ := Ym (∀ s ∈ ts, f s = true)
  have HQ1 := Za hq
  clear hq
  go_wp2_with fail
  refine (allLine_c ts lo hi pa na ca f q w1 (HAS.out.calm HGA.out) (by omega) (fun s hs W _ => isLine_c s (f s) W (HSZ.out s hs) (HF.out s)) HQ1.out).mono ?_
  rintro e V1 ⟨rfl, hg⟩
  have HG1 := Za (Zb HGA.out hg)
  clear hg a0 a1 a2 a3
  cases q with
  | false =>
   obtain rfl : r = false := Zj HR.out fun h => by have := HQ1.out.2 (fun s hs => (HF.out s).2 (h.adds s hs)); cases this
   go_wp2
   go_ret
   exact ⟨rfl, Zb HG.out HG1.out⟩
  | true =>
   have HT1 := Za (HQ1.out.1 rfl)
   clear HQ1
   obtain ⟨a0, a1, a2, a3⟩ := (HB.out.calm HG1.out).four
   by_cases hne : ne <= 80
   ·have fne : (ne : Int) <= 80 := by omega
    obtain ⟨q, hq⟩ : ∃ q, q = risB ltEd ((0, 0), (0, 0)) es ne := ⟨_, rfl⟩
    have HE0 := Za hq
    have HQ2 := Za (ris_B linEd (d := ((0, 0), (0, 0))) HLE.out)
    rw [<- hq] at HQ2
    clear hq
    go_wp2_with fail
    refine (riseE_c es lo hi pe ne ce q V1 (HES.out.calm HG1.out) (by omega) HE0.out).mono ?_
    rintro e V2 ⟨rfl, hg⟩
    have HG2 := Za (Zb HG1.out hg)
    clear hg a0 a1 a2 a3
    cases q with
    | false =>
     obtain rfl : r = false := Zj HR.out fun h => by have := HQ2.out.2 h.eris; cases this
     go_wp2
     go_ret
     exact ⟨rfl, Zb HG.out HG2.out⟩
    | true =>
     have HT2 := Za (HQ2.out.1 rfl)
     clear HQ2
     obtain ⟨a0, a1, a2, a3⟩ := (HB.out.calm HG2.out).four
     obtain ⟨q, hq⟩ := Ym (∀ e ∈ es, decide (e.1 ≠ e.2) = true)
     have HQ3 := Za hq
     clear hq
     go_wp2_with fail
     refine (allEdge_c es lo hi pe ne ce (fun e => decide (e.1 ≠ e.2)) q V2 (HES.out.calm HG2.out) (by omega) (fun x _ W _ => isEdge_c x.1 x.2 W) HQ3.out).mono ?_
     rintro e V3 ⟨rfl, hg⟩
     have HG3 := Za (Zb HG2.out hg)
     clear hg a0 a1 a2 a3
     cases q with
     | false =>
      obtain rfl : r = false := Zj HR.out fun h => by have := HQ3.out.2 h.apart; cases this
      go_wp2
      go_ret
      exact ⟨rfl, Zb HG.out HG3.out⟩
     | true =>
      have HT3 := Za (HQ3.out.1 rfl)
      clear HQ3
      obtain ⟨a0, a1, a2, a3⟩ := (HB.out.calm HG3.out).four
      by_cases hnk : nk <= 40
      ·have fnk : (nk : Int) <= 40 := by omega
       obtain ⟨q, hq⟩ : ∃ q, q = risB ltLn (0, 0) ks nk := ⟨_, rfl⟩
       have HE1 := Za hq
       have HQ4 := Za (ris_B linLn (d := (0, 0)) HLK.out)
       rw [<- hq] at HQ4
       clear hq
       go_wp2_with fail
       refine (riseL_c ks lo hi pk nk ck q V3 (HKS.out.calm HG3.out) (by omega) HE1.out).mono ?_
       rintro e V4 ⟨rfl, hg⟩
       have HG4 := Za (Zb HG3.out hg)
       clear hg a0 a1 a2 a3
       cases q with
       | false =>
        obtain rfl : r = false := Zj HR.out fun h => by have := HQ4.out.2 h.kris; cases this
        go_wp2
        go_ret
        exact ⟨rfl, Zb HG.out HG4.out⟩
       | true =>
        have HT4 := Za (HQ4.out.1 rfl)
        clear HQ4
        obtain ⟨a0, a1, a2, a3⟩ := (HB.out.calm HG4.out).four
        go_wp2_with fail
        refine (named_c path pa na ca pe ne ce pk nk ck lo hi lo hi es ks V4 (HES.out.calm HG4.out) (HKS.out.calm HG4.out) HZK.out (by omega) (by omega)).mono ?_
        rintro e V ⟨p9, c9, rfl, hat, _, _, hg⟩
        have HGV := Za (Zb HG4.out hg)
        have HAT := Za hat
        have HNL := Za (namedL_len es ks)
        have hnl : (namedL es ks).length <= 1000000 := by have := HNL.out; have := HLE.out; have := HLK.out; omega
        clear hg hat a0 a1 a2 a3
        have HR2 : Hid (r = true ↔ ∀ x ∈ namedL es ks, decide (0 <= x.2 /\ x.2 < 40) = true) := Za ⟨fun h => (HR.out.1 h).nums, fun h => HR.out.2 ⟨by show ts.length <= 40; have := HLA.out; omega, fun s hs => (HF.out s).1 (HT1.out s hs), by show es.length <= 80; have := HLE.out; omega, HT2.out, HT3.out, by show ks.length <= 40; have := HLK.out; omega, HT4.out, h⟩⟩
        generalize namedL es ks = nl at *
        generalize hll : nl.length = ll at *
        clear hll
        go_wp2_with fail
        refine (allNumb_c nl _ _ p9 ll c9 (fun x => decide (0 <= x.2 /\ x.2 < 40)) r V HAT.out hnl (fun x _ W _ => isNumbered_c x W) HR2.out).mono ?_
        rintro e V9 ⟨rfl, hg⟩
        have HGZ := Za (Zb HG.out (Zb HGV.out hg))
        clear hg
        go_wp2
        go_ret
        exact ⟨rfl, HGZ.out⟩
      ·have fnk : ¬ (nk : Int) <= 40 := by omega
       obtain rfl : r = false := Zj HR.out fun h => by have := h.nKills; rw [show (hKills (path, ts, es, ks)).length = nk from HLK.out] at this; omega
       go_wp2
       go_ret
       exact ⟨rfl, Zb HG.out HG3.out⟩
   ·have fne : ¬ (ne : Int) <= 80 := by omega
    obtain rfl : r = false := Zj HR.out fun h => by have := h.nEdges; rw [show (hEdges (path, ts, es, ks)).length = ne from HLE.out] at this; omega
    go_wp2
    go_ret
    exact ⟨rfl, Zb HG.out HG1.out⟩
 ·have fna : ¬ (na : Int) <= 40 := by omega
  obtain rfl : r = false := Zj HR.out fun h => by have := h.nAdds; rw [show (hAdds (path, ts, es, ks)).length = na from HLA.out] at this; omega
  go_wp2
  go_ret
  exact ⟨rfl, Zb HG.out HGA.out⟩
end Go.Proofs.YtnknejokneddbaaGreatDoor
