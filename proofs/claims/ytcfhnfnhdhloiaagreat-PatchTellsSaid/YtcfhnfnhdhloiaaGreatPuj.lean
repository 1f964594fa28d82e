/- Package patch: isLine, arePaths, areDeps, areApart, sameHunk, Same, isHunk. -/
import Derived.Test.YtcfhnfnhdhloiaaGreatPue
import Derived.Test.YtcfhnfnhdhloiaaGreatRefPa
import Derived.Test.YtcfhnfnhdhloiaaGreatSplA
/-! Package patch: isLine, arePaths, areDeps, areApart. -/
namespace Go.Proofs.YtcfhnfnhdhloiaaGreat
open Go.RowKit

theorem StrsAt.newOne (w : World) (s : ByteArray) : StrsAt (w.alloc (.cells #[.string s] 9)) w.heap.size (w.heap.size + 1) (some ⟨w.heap.size, 0, none⟩) 1 [s] :=
  ⟨rfl, fun _ => ⟨w.heap.size, 0, rfl, Nat.le_refl _, by omega, by simp, fun i hi => by
    obtain rfl : i = 0 := by omega
    exact (BoxV.new w [.string s] 9).cell (k := 0) rfl⟩⟩
set_option maxHeartbeats 2000000 in
theorem isLine_c (s : ByteArray) (r : Bool) (w : World) (hs : s.size ≤ 1000000) (hr : r = true ↔ IsLine s) :
    Calls Tryz.prog 78 #[.string s] w fun e w' => e = .returned (.bool r) ∧ w.grownBy w' none := by
  have HR := Lib.hid hr
  have HS := Lib.hid hs
  clear hr
  by_cases h1 : s.size ≤ 60
  · have f1 : (s.size : Int) ≤ 60 := by omega
    obtain ⟨q, hq⟩ : ∃ q, isS [s] = q := ⟨_, rfl⟩
    have HQ : Hid (q = r) := Lib.hid (by
      cases hq2 : q with
      | true => exact (HR.out.2 ⟨lines_is.1 (hq.trans hq2), h1⟩).symm
      | false => exact (no_false HR.out fun h => by have := lines_is.2 h.one; rw [hq, hq2] at this; cases this).symm)
    have HC : Hid (∀ W : World, Calls Tryz.prog 107 #[.slice (some ⟨W.heap.size, 0, none⟩) 1 1] (W.alloc (.cells #[.string s] 9)) fun e w' => e = .returned (.bool q) ∧ W.grownBy w' none) := Lib.hid fun W =>
      (is_split_c _ 1 1 _ _ [s] q _ (StrsAt.newOne W s) (by omega) (fun x hx => by rw [List.mem_singleton.1 hx]; exact HS.out) hq).mono fun e w' h => ⟨h.1, by first | exact grownBy_trans (World.grownBy_alloc W _ none) h.2 | (rw [h.2]; exact World.grownBy_alloc W _ none)⟩
    clear hq hs
    go_enter Tryz.func78, Tryz.ntmps78
    go_wp2_with fail
    refine (HC.out _).mono ?_
    rintro e w5 ⟨rfl, hg5⟩
    have HG5 := Lib.hid hg5
    clear hg5
    have hqr := HQ.out
    subst hqr
    go_wp2
    go_ret
    exact ⟨rfl, HG5.out⟩
  · have f1 : ¬ (s.size : Int) ≤ 60 := by omega
    obtain rfl : r = false := no_false HR.out fun h => h1 h.hi
    go_enter Tryz.func78, Tryz.ntmps78
    go_wp2
    go_ret
    exact ⟨rfl, grownBy_refl _ _⟩

theorem ris_B {α : Type} {lt : α → α → Bool} (O : Lin lt) {d : α} {l : List α} {n : Nat} (hn : l.length = n) : risB lt d l n = true ↔ risR lt l := by
  subst hn
  rw [risB_iff O d (Nat.le_refl _), List.take_length]

set_option maxHeartbeats 2000000 in
theorem arePaths_c (p : Option Addr) (n c lo hi M : Nat) (l : List ByteArray) (r : Bool) (w : World) (h : StrsAt w lo hi p n l) (hn : n ≤ 1000000) (_hM : M ≤ 1000000) (hs : ∀ s ∈ l, s.size ≤ 1000000) (hr : r = true ↔ n ≤ M ∧ risR ltS l ∧ ∀ s ∈ l, IsPath s) :
    Calls Tryz.prog 25 #[.slice p n c, .int .i64 (M : Int)] w fun e w' => e = .returned (.bool r) ∧ w.grownBy w' none := by
  have HR := Lib.hid hr
  have HS := Lib.hid hs
  have H := Lib.hid h
  have HB := Lib.hid (ris_B linS (d := ByteArray.empty) h.len)
  clear hr hs h
  by_cases h1 : n ≤ M
  · have f1 : (n : Int) ≤ M := by omega
    obtain ⟨q, hq⟩ : ∃ q, q = risB ltS ByteArray.empty l n := ⟨_, rfl⟩
    rw [← hq] at HB
    have HC := Lib.hid (fun W (hg : w.grownBy W none) => riseS_c l lo hi p n c q W (H.out.calm hg) hn hq)
    clear hq
    go_enter Tryz.func25, Tryz.ntmps25
    go_wp2_with fail
    refine (HC.out _ (grownBy_refl _ _)).mono ?_
    rintro e w1 ⟨rfl, hg1⟩
    have HG1 := Lib.hid hg1
    clear hg1
    cases q with
    | false =>
      obtain rfl : r = false := no_false HR.out fun h => by have := HB.out.2 h.2.1; cases this
      go_wp2
      go_ret
      exact ⟨rfl, HG1.out⟩
    | true =>
      have HB1 := Lib.hid (HB.out.1 rfl)
      obtain ⟨f, hf⟩ : ∃ f : ByteArray → Bool, ∀ s, f s = true ↔ IsPath s := ⟨fun s => Classical.choose (bool_of (IsPath s)), fun s => Classical.choose_spec (bool_of (IsPath s))⟩
      have HF := Lib.hid hf
      have HR2 : Hid (r = true ↔ ∀ s ∈ l, f s = true) := Lib.hid ⟨fun h s hs => (HF.out s).2 ((HR.out.1 h).2.2 s hs), fun h => HR.out.2 ⟨h1, HB1.out, fun s hs => (HF.out s).1 (h s hs)⟩⟩
      have HQ : Hid (∀ x ∈ l, ∀ W, w1.grownBy W none → Calls Tryz.prog 19 #[.string x] W fun e w' => e = .returned (.bool (f x)) ∧ W.grownBy w' none) := Lib.hid fun x hx W _ => isPath_c x (f x) W (HS.out x hx) (HF.out x)
      clear hf
      go_wp2_with fail
      refine (allPath_c l lo hi p n c f r w1 (H.out.calm HG1.out) hn HQ.out HR2.out).mono ?_
      rintro e w2 ⟨rfl, hg2⟩
      have HG2 := Lib.hid (grownBy_trans HG1.out hg2)
      clear hg2
      go_wp2
      go_ret
      exact ⟨rfl, HG2.out⟩
  · have f1 : ¬ (n : Int) ≤ M := by omega
    obtain rfl : r = false := no_false HR.out fun h => h1 h.1
    go_enter Tryz.func25, Tryz.ntmps25
    go_wp2
    go_ret
    exact ⟨rfl, grownBy_refl _ _⟩

set_option maxHeartbeats 2000000 in
theorem areDeps_c (p : Option Addr) (n c lo hi own : Nat) (l : List Nat) (r : Bool) (w : World) (h : NsAt .u32 w lo hi p n l) (hn : n ≤ 1000000) (hr : r = true ↔ n ≤ 60 ∧ risR ltN l ∧ 0 ∉ l ∧ own ∉ l) :
    Calls Tryz.prog 24 #[.slice p n c, .int .u32 (own : Int)] w fun e w' => e = .returned (.bool r) ∧ w.grownBy w' none := by
  have HR := Lib.hid hr
  have H := Lib.hid h
  have HB := Lib.hid (ris_B linN (d := 0) h.len)
  clear hr h
  by_cases h1 : n ≤ 60
  · have f1 : (n : Int) ≤ 60 := by omega
    obtain ⟨q, hq⟩ : ∃ q, q = risB ltN 0 l n := ⟨_, rfl⟩
    rw [← hq] at HB
    have HC := Lib.hid (fun W (hg : w.grownBy W none) => riseU_c l lo hi p n c q W (H.out.calm hg) hn hq)
    clear hq
    go_enter Tryz.func24, Tryz.ntmps24
    go_wp2_with fail
    refine (HC.out _ (grownBy_refl _ _)).mono ?_
    rintro e w1 ⟨rfl, hg1⟩
    have HG1 := Lib.hid hg1
    clear hg1 HC
    cases q with
    | false =>
      obtain rfl : r = false := no_false HR.out fun h => by have := HB.out.2 h.2.1; cases this
      go_wp2
      go_ret
      exact ⟨rfl, HG1.out⟩
    | true =>
      have HB1 := Lib.hid (HB.out.1 rfl)
      obtain ⟨q, hq⟩ := bool_of (0 ∈ l)
      have HQ := Lib.hid hq
      clear hq
      go_wp2_with fail
      refine (conU_c p n c lo hi l 0 q w1 (H.out.calm HG1.out) hn HQ.out).mono ?_
      rintro e w2 ⟨rfl, hg2⟩
      have HG2 := Lib.hid (grownBy_trans HG1.out hg2)
      clear hg2
      cases q with
      | true =>
        obtain rfl : r = false := no_false HR.out fun h => h.2.2.1 (HQ.out.1 rfl)
        go_wp2
        go_ret
        exact ⟨rfl, HG2.out⟩
      | false =>
        have HN1 : Hid (0 ∉ l) := Lib.hid fun h => by have := HQ.out.2 h; cases this
        clear HQ
        obtain ⟨q, hq⟩ := bool_of (own ∈ l)
        have HQ := Lib.hid hq
        clear hq
        go_wp2_with fail
        refine (conU_c p n c lo hi l own q w2 (H.out.calm HG2.out) hn HQ.out).mono ?_
        rintro e w3 ⟨rfl, hg3⟩
        have HG3 := Lib.hid (grownBy_trans HG2.out hg3)
        clear hg3
        cases q with
        | true =>
          obtain rfl : r = false := no_false HR.out fun h => h.2.2.2 (HQ.out.1 rfl)
          go_wp2
          go_ret
          exact ⟨rfl, HG3.out⟩
        | false =>
          obtain rfl : r = true := HR.out.2 ⟨h1, HB1.out, HN1.out, fun h => by have := HQ.out.2 h; cases this⟩
          go_wp2
          go_ret
          exact ⟨rfl, HG3.out⟩
  · have f1 : ¬ (n : Int) ≤ 60 := by omega
    obtain rfl : r = false := no_false HR.out fun h => h1 h.1
    go_enter Tryz.func24, Tryz.ntmps24
    go_wp2
    go_ret
    exact ⟨rfl, grownBy_refl _ _⟩

set_option maxHeartbeats 2000000 in
theorem areApart1_c (p : Option Addr) (n c lo hi bx : Nat) (l : List ByteArray) (s : ByteArray) (r : Bool) (w : World) (h : StrsAt w lo hi p n l) (hn : n ≤ 1000000) (hb : w.cell? ⟨bx, 0, none⟩ = some (.slice p n c)) (hr : r = true ↔ s ∉ l) :
    Calls Tryz.prog 59 #[.string s, .pointer (some ⟨bx, 0, none⟩)] w fun e w' => e = .returned (.bool r) ∧ w.grownBy w' none := by
  have hc := conS_c p n c lo hi l s (!r) w h hn (by
    constructor
    · intro h1
      exact Classical.byContradiction fun h2 => by rw [hr.2 h2] at h1; cases h1
    · intro h1
      cases hr1 : r with
      | false => rfl
      | true => exact absurd h1 (hr.1 hr1))
  have HC := Lib.hid hc
  clear hc h hr
  go_enter Tryz.func59, Tryz.ntmps59
  go_wp2_with fail
  refine HC.out.mono ?_
  rintro e w1 ⟨rfl, hg1⟩
  cases r with
  | true =>
    go_wp2
    go_ret
    exact ⟨rfl, hg1⟩
  | false =>
    go_wp2
    go_ret
    exact ⟨rfl, hg1⟩

set_option maxHeartbeats 2000000 in
theorem areApart_c (p p' : Option Addr) (n m c c' lo hi lo' hi' : Nat) (la lb : List ByteArray) (r : Bool) (w : World) (hp : StrsAt w lo hi p n la) (hq : StrsAt w lo' hi' p' m lb) (hn : n ≤ 1000000) (hm : m ≤ 1000000) (hr : r = true ↔ ∀ s ∈ la, s ∉ lb) :
    Calls Tryz.prog 26 #[.slice p n c, .slice p' m c'] w fun e w' => e = .returned (.bool r) ∧ w.grownBy w' none := by
  have HB := Lib.hid (BoxV.new w [.slice p' m c'] 24)
  have HG := Lib.hid (World.grownBy_alloc w (.cells [.slice p' m c'].toArray 24) none)
  have HP := Lib.hid (hp.calm HG.out)
  have HQ := Lib.hid (hq.calm HG.out)
  have HR := Lib.hid hr
  clear hp hq hr
  go_enter Tryz.func26, Tryz.ntmps26
  go_upto_region 1 with fail
  generalize w.alloc _ = w1 at *
  generalize w.heap.size = g at *
  go_wp2_with fail
  obtain ⟨f, hf⟩ : ∃ f : ByteArray → Bool, ∀ s, f s = true ↔ s ∉ lb := ⟨fun s => Classical.choose (bool_of (s ∉ lb)), fun s => Classical.choose_spec (bool_of (s ∉ lb))⟩
  refine (allApart_c la lo hi p n c f g r w1 HP.out hn (fun x _ W hg => areApart1_c p' m c' lo' hi' g lb x (f x) W (HQ.out.calm hg) hm ((HB.out.calm hg).cell rfl) (hf x)) (by rw [HR.out]; exact ⟨fun h x hx => (hf x).2 (h x hx), fun h x hx => (hf x).1 (h x hx)⟩)).mono ?_
  rintro e w2 ⟨rfl, hg2⟩
  have HG2 := Lib.hid (grownBy_trans HG.out hg2)
  clear hg2
  go_wp2
  go_ret
  exact ⟨rfl, HG2.out⟩

end Go.Proofs.YtcfhnfnhdhloiaaGreat
/-! Package patch: sameHunk, EqualFunc, Same. -/
namespace Go.Proofs.YtcfhnfnhdhloiaaGreat
open Go.RowKit

set_option maxRecDepth 8000 in
set_option maxHeartbeats 8000000 in
theorem sameHunk_c (x y : Hk) (pa : Option Addr) (na ca : Nat) (pe : Option Addr) (ne ce : Nat) (pk : Option Addr) (nk ck : Nat) (qa : Option Addr) (ma da : Nat) (qe : Option Addr) (me de : Nat) (qk : Option Addr) (mk dk : Nat) (lo hi lo' hi' : Nat) (r : Bool) (w : World)
    (h : HkAt w lo hi pa na ca pe ne ce pk nk ck x) (h' : HkAt w lo' hi' qa ma da qe me de qk mk dk y) (hb : na ≤ 1000 ∧ ne ≤ 1000 ∧ nk ≤ 1000) (hb' : ma ≤ 1000 ∧ me ≤ 1000 ∧ mk ≤ 1000) (hr : r = true ↔ x = y) :
    Calls Tryz.prog 45 #[.agg #[.string (hPath x), .slice pa na ca, .slice pe ne ce, .slice pk nk ck], .agg #[.string (hPath y), .slice qa ma da, .slice qe me de, .slice qk mk dk]] w fun e w' => e = .returned (.bool r) ∧ w.grownBy w' none := by
  have HR := Lib.hid hr
  have HG := Lib.hid (grownBy_trans (World.grownBy_alloc w (.cells #[.string (hPath x), .slice pa na ca, .slice pe ne ce, .slice pk nk ck] 50) none) (World.grownBy_alloc _ (.cells #[.string (hPath y), .slice qa ma da, .slice qe me de, .slice qk mk dk] 50) none))
  have HB1 := Lib.hid (BoxV.new w [.string (hPath x), .slice pa na ca, .slice pe ne ce, .slice pk nk ck] 50)
  have HB2 := Lib.hid (BoxV.second w [.string (hPath x), .slice pa na ca, .slice pe ne ce, .slice pk nk ck] [.string (hPath y), .slice qa ma da, .slice qe me de, .slice qk mk dk] 50 50)
  have HG2 := Lib.hid (World.grownBy_alloc (w.alloc (.cells #[.string (hPath x), .slice pa na ca, .slice pe ne ce, .slice pk nk ck] 50)) (.cells #[.string (hPath y), .slice qa ma da, .slice qe me de, .slice qk mk dk] 50) none)
  have H := Lib.hid (h.calm HG.out)
  have H' := Lib.hid (h'.calm HG.out)
  have HXE := Lib.hid (show (hPath x = hPath y ∧ hAdds x = hAdds y ∧ hEdges x = hEdges y ∧ hKills x = hKills y) → x = y from fun h => hk_eq h.1 h.2.1 h.2.2.1 h.2.2.2)
  clear hr h h'
  go_enter Tryz.func45, Tryz.ntmps45
  go_upto_region 1 with fail
  have HC0 := Lib.hid (HB1.out.calm HG2.out)
  generalize w.alloc _ = w1 at *
  generalize w1.alloc _ = w2 at *
  generalize w.heap.size = g1 at *
  clear HB1 HG2
  generalize hpx : hPath x = px at *
  generalize hpy : hPath y = py at *
  have HPX := Lib.hid hpx
  have HPY := Lib.hid hpy
  clear hpx hpy
  obtain ⟨a0, a1, a2, a3⟩ := HC0.out.four
  obtain ⟨b0, b1, b2, b3⟩ := HB2.out.four
  by_cases hp : px = py
  · have f1 := toList_eqP hp
    have HP := Lib.hid hp
    clear hp
    obtain ⟨q, hq⟩ := bool_of (hAdds x = hAdds y)
    have HQ := Lib.hid hq
    clear hq
    go_wp2_with fail
    refine (eqlS_c pa qa na ma ca da lo hi lo' hi' (hAdds x) (hAdds y) q w2 H.out.adds H'.out.adds (by omega) (by omega) HQ.out).mono ?_
    rintro e w3 ⟨rfl, hg3⟩
    have HG3 := Lib.hid hg3
    clear hg3 a0 a1 a2 a3 b0 b1 b2 b3
    cases q with
    | false =>
      obtain rfl : r = false := no_false HR.out fun h => by have := HQ.out.2 (by rw [h]); cases this
      go_wp2
      go_ret
      exact ⟨rfl, grownBy_trans HG.out HG3.out⟩
    | true =>
      have HA := Lib.hid (HQ.out.1 rfl)
      clear HQ
      obtain ⟨a0, a1, a2, a3⟩ := (HC0.out.calm HG3.out).four
      obtain ⟨b0, b1, b2, b3⟩ := (HB2.out.calm HG3.out).four
      obtain ⟨q, hq⟩ := bool_of (hEdges x = hEdges y)
      have HQ := Lib.hid hq
      clear hq
      go_wp2_with fail
      refine (eqlE_c pe qe ne me ce de lo hi lo' hi' (hEdges x) (hEdges y) q w3 (H.out.edges.calm HG3.out) (H'.out.edges.calm HG3.out) (by omega) (by omega) HQ.out).mono ?_
      rintro e w4 ⟨rfl, hg4⟩
      have HG4 := Lib.hid (grownBy_trans HG3.out hg4)
      clear hg4 a0 a1 a2 a3 b0 b1 b2 b3
      cases q with
      | false =>
        obtain rfl : r = false := no_false HR.out fun h => by have := HQ.out.2 (by rw [h]); cases this
        go_wp2
        go_ret
        exact ⟨rfl, grownBy_trans HG.out HG4.out⟩
      | true =>
        have HE := Lib.hid (HQ.out.1 rfl)
        clear HQ
        obtain ⟨a0, a1, a2, a3⟩ := (HC0.out.calm HG4.out).four
        obtain ⟨b0, b1, b2, b3⟩ := (HB2.out.calm HG4.out).four
        have HR2 : Hid (r = true ↔ hKills x = hKills y) := Lib.hid ⟨fun h => by rw [HR.out.1 h], fun h => HR.out.2 (HXE.out ⟨HP.out, HA.out, HE.out, h⟩)⟩
        go_wp2_with fail
        refine (eqlL_c pk qk nk mk ck dk lo hi lo' hi' (hKills x) (hKills y) r w4 (H.out.kills.calm HG4.out) (H'.out.kills.calm HG4.out) (by omega) (by omega) HR2.out).mono ?_
        rintro e w5 ⟨rfl, hg5⟩
        have HG5 := Lib.hid (grownBy_trans HG4.out hg5)
        clear hg5 a0 a1 a2 a3 b0 b1 b2 b3
        go_wp2
        go_ret
        exact ⟨rfl, grownBy_trans HG.out HG5.out⟩
  · have f1 := toList_neP hp
    obtain rfl : r = false := no_false HR.out fun h => hp (by rw [← HPX.out, ← HPY.out, h])
    clear hp
    go_wp2
    go_ret
    exact ⟨rfl, HG.out⟩

set_option maxRecDepth 8000 in
set_option maxHeartbeats 8000000 in
theorem eqlH_c (p p' : Option Addr) (n m c c' lo hi lo' hi' : Nat) (la lb : List Hk) (r : Bool) (w : World) (hp : HksAt w lo hi p n la) (hq : HksAt w lo' hi' p' m lb) (hn : n ≤ 1000000) (hm : m ≤ 1000000)
    (hb : ∀ x ∈ la, (hAdds x).length ≤ 1000 ∧ (hEdges x).length ≤ 1000 ∧ (hKills x).length ≤ 1000) (hb' : ∀ x ∈ lb, (hAdds x).length ≤ 1000 ∧ (hEdges x).length ≤ 1000 ∧ (hKills x).length ≤ 1000) (hr : r = true ↔ la = lb) :
    Calls Tryz.prog 44 #[.slice p n c, .slice p' m c', .func (.func 45) #[] #[]] w fun e w' => e = .returned (.bool r) ∧ w.grownBy w' none := by
  have HP := Lib.hid hp
  have HQ := Lib.hid hq
  have HR := Lib.hid hr
  have HPL := Lib.hid hp.len
  have HQL := Lib.hid hq.len
  have HB := Lib.hid hb
  have HB' := Lib.hid hb'
  clear hp hq hr hb hb'
  by_cases hnm : n = m
  · subst hnm
    have e0 : ((n : Int) != (n : Int)) = false := by simp
    have HL := Lib.hid (HPL.out.trans HQL.out.symm)
    go_enter Tryz.func44, Tryz.ntmps44
    go_wp2
    go_loopw [17] (fun i wr => ∃ k : Nat, k ≤ n ∧ i = .int .i64 k ∧ Hid (∀ j, j < k → la[j]?.getD hk0 = lb[j]?.getD hk0) ∧ Hid (w.grownBy wr none)) (fun i _ => n - (intOf i).toNat)
    case atStart => exact ⟨0, Nat.zero_le _, rfl, Lib.hid (fun j hj => absurd hj (Nat.not_lt_zero _)), Lib.hid (grownBy_refl _ _)⟩
    case round =>
      obtain ⟨k, hk, rfl, HE, HG⟩ := hrel
      by_cases hkn : k < n
      · have k0 : (0 : Int) ≤ k := by omega
        have k1 : (k : Int) < n := by omega
        obtain ⟨b, o, rfl, _, _, _, hc⟩ := (HP.out.calm HG.out).cell (by omega)
        obtain ⟨b', o', rfl, _, _, _, hc'⟩ := (HQ.out.calm HG.out).cell (by omega)
        obtain ⟨pa, na, ca, pe, ne, ce, pk, nk, ck, cx0, cx1, cx2, cx3, hh⟩ := hc k hkn
        obtain ⟨qa, ma, da, qe, me, de, qk, mk, dk, cy0, cy1, cy2, cy3, hh'⟩ := hc' k hkn
        have HU := Lib.hid (show la[k]?.getD hk0 = lb[k]?.getD hk0 → ∀ j, j < k + 1 → la[j]?.getD hk0 = lb[j]?.getD hk0 from fun h => upto_succ (q := fun j => la[j]?.getD hk0 = lb[j]?.getD hk0) HE.out h)
        have HX := Lib.hid (show la = lb → la[k]?.getD hk0 = lb[k]?.getD hk0 from fun h => by rw [h])
        have HBX := Lib.hid (HB.out _ (get_mem (d := hk0) (show k < la.length by rw [HPL.out]; exact hkn)))
        have HBY := Lib.hid (HB'.out _ (get_mem (d := hk0) (show k < lb.length by rw [HQL.out]; exact hkn)))
        have HH := Lib.hid hh
        have HH' := Lib.hid hh'
        clear hc hc' HE hh hh'
        generalize la[k]?.getD hk0 = x at *
        generalize lb[k]?.getD hk0 = y at *
        have hl1 := HH.out.adds.len
        have hl2 := HH.out.edges.len
        have hl3 := HH.out.kills.len
        have hl4 := HH'.out.adds.len
        have hl5 := HH'.out.edges.len
        have hl6 := HH'.out.kills.len
        have hbx : na ≤ 1000 ∧ ne ≤ 1000 ∧ nk ≤ 1000 := by rw [← hl1, ← hl2, ← hl3]; exact HBX.out
        have hby : ma ≤ 1000 ∧ me ≤ 1000 ∧ mk ≤ 1000 := by rw [← hl4, ← hl5, ← hl6]; exact HBY.out
        clear hl1 hl2 hl3 hl4 hl5 hl6
        obtain ⟨q, hq⟩ := bool_of (x = y)
        have HS := Lib.hid (fun W (hg : wr.grownBy W none) => sameHunk_c x y pa na ca pe ne ce pk nk ck qa ma da qe me de qk mk dk _ _ _ _ q W (HH.out.calm hg) (HH'.out.calm hg) hbx hby hq)
        have HQQ := Lib.hid hq
        clear hq HH HH' hbx hby
        generalize hPath x = px at *
        generalize hPath y = py at *
        have HX1 := Lib.hid (BoxV.new wr [.string px, .slice pa na ca, .slice pe ne ce, .slice pk nk ck] 50)
        have HX2 := Lib.hid (BoxV.second wr [.string px, .slice pa na ca, .slice pe ne ce, .slice pk nk ck] [.string py, .slice qa ma da, .slice qe me de, .slice qk mk dk] 50 50)
        have HG1 := Lib.hid (World.grownBy_alloc wr (.cells #[.string px, .slice pa na ca, .slice pe ne ce, .slice pk nk ck] 50) none)
        have HG2 := Lib.hid (World.grownBy_alloc (wr.alloc (.cells #[.string px, .slice pa na ca, .slice pe ne ce, .slice pk nk ck] 50)) (.cells #[.string py, .slice qa ma da, .slice qe me de, .slice qk mk dk] 50) none)
        have dy0 := cell_calmG HG1.out cy0
        have dy1 := cell_calmG HG1.out cy1
        have dy2 := cell_calmG HG1.out cy2
        have dy3 := cell_calmG HG1.out cy3
        clear cy0 cy1 cy2 cy3
        go_upto_region 7 with fail
        have HC0 := Lib.hid (HX1.out.calm HG2.out)
        have HG3 := Lib.hid (grownBy_trans HG1.out HG2.out)
        have HG4 := Lib.hid (grownBy_trans HG.out HG3.out)
        generalize wr.alloc _ = w1 at *
        generalize w1.alloc _ = w2 at *
        generalize wr.heap.size = g1 at *
        clear HX1 HG1 HG2 cx0 cx1 cx2 cx3 dy0 dy1 dy2 dy3
        obtain ⟨a0, a1, a2, a3⟩ := HC0.out.four
        obtain ⟨b0, b1, b2, b3⟩ := HX2.out.four
        go_wp2_with fail
        refine (HS.out _ HG3.out).mono ?_
        rintro e w5 ⟨rfl, hg5⟩
        have HG5 := Lib.hid (grownBy_trans HG4.out hg5)
        clear hg5 a0 a1 a2 a3 b0 b1 b2 b3
        cases q with
        | true =>
          have HU2 := Lib.hid (HU.out (HQQ.out.1 rfl))
          clear HQQ HU HX
          go_wp2
          exact ⟨⟨k + 1, by omega, by go_num, HU2, HG5⟩, by simp [intOf]; omega⟩
        | false =>
          obtain rfl : r = false := no_false HR.out fun h => by have := HQQ.out.2 (HX.out h); cases this
          go_wp2
          go_ret
          exact ⟨rfl, HG5.out⟩
      · obtain rfl : n = k := by omega
        have k1 : ¬ ((n : Int) < n) := by omega
        obtain rfl : r = true := HR.out.2 (eq_get (d := hk0) HL.out (by rw [HPL.out]; exact HE.out))
        go_wp2
        go_ret
        exact ⟨rfl, HG.out⟩
  · have e0 : ((n : Int) != (m : Int)) = true := by simp; omega
    obtain rfl : r = false := no_false HR.out fun h => hnm (by rw [← HPL.out, ← HQL.out, h])
    go_enter Tryz.func44, Tryz.ntmps44
    go_wp2
    go_ret
    exact ⟨rfl, grownBy_refl _ _⟩

end Go.Proofs.YtcfhnfnhdhloiaaGreat
/-! Package patch: Same, isHunk. -/
namespace Go.Proofs.YtcfhnfnhdhloiaaGreat
open Go.RowKit

set_option maxRecDepth 8000 in
set_option maxHeartbeats 8000000 in
theorem patSame_c (x y : Pt) (id : Nat) (pd : Option Addr) (nd cd : Nat) (pm : Option Addr) (nm cm : Nat) (px : Option Addr) (nx cx : Nat) (ph : Option Addr) (nh ch : Nat) (id' : Nat) (qd : Option Addr) (md dd : Nat) (qm : Option Addr) (mm dm : Nat) (qx : Option Addr) (mx dx : Nat) (qh : Option Addr) (mh dh : Nat) (lo hi lo' hi' : Nat) (r : Bool) (w : World)
    (h : PtAt w lo hi id pd nd cd pm nm cm px nx cx ph nh ch x) (h' : PtAt w lo' hi' id' qd md dd qm mm dm qx mx dx qh mh dh y) (hb : PBig x) (hb' : PBig y) (hr : r = true ↔ x = y) :
    Calls Tryz.prog 17 #[.agg #[.int .u32 (id : Int), .slice pd nd cd, .slice pm nm cm, .slice px nx cx, .slice ph nh ch], .agg #[.int .u32 (id' : Int), .slice qd md dd, .slice qm mm dm, .slice qx mx dx, .slice qh mh dh]] w fun e w' => e = .returned (.bool r) ∧ w.grownBy w' none := by
  have HR := Lib.hid hr
  have HG := Lib.hid (grownBy_trans (World.grownBy_alloc w (.cells #[.int .u32 (id : Int), .slice pd nd cd, .slice pm nm cm, .slice px nx cx, .slice ph nh ch] 27) none) (World.grownBy_alloc _ (.cells #[.int .u32 (id' : Int), .slice qd md dd, .slice qm mm dm, .slice qx mx dx, .slice qh mh dh] 27) none))
  have HB1 := Lib.hid (BoxV.new w [.int .u32 (id : Int), .slice pd nd cd, .slice pm nm cm, .slice px nx cx, .slice ph nh ch] 27)
  have HB2 := Lib.hid (BoxV.second w [.int .u32 (id : Int), .slice pd nd cd, .slice pm nm cm, .slice px nx cx, .slice ph nh ch] [.int .u32 (id' : Int), .slice qd md dd, .slice qm mm dm, .slice qx mx dx, .slice qh mh dh] 27 27)
  have HG2 := Lib.hid (World.grownBy_alloc (w.alloc (.cells #[.int .u32 (id : Int), .slice pd nd cd, .slice pm nm cm, .slice px nx cx, .slice ph nh ch] 27)) (.cells #[.int .u32 (id' : Int), .slice qd md dd, .slice qm mm dm, .slice qx mx dx, .slice qh mh dh] 27) none)
  have H := Lib.hid (h.calm HG.out)
  have H' := Lib.hid (h'.calm HG.out)
  have HQE := Lib.hid (fun h1 h2 h3 h4 h5 => HR.out.2 (pt_eq (x := x) (y := y) h1 h2 h3 h4 h5))
  have HX := Lib.hid (hb.hs)
  have HY := Lib.hid (hb'.hs)
  have hd1 : nd ≤ 1000000 := by have := hb.deps; have := h.deps.len; omega
  have hd2 : md ≤ 1000000 := by have := hb'.deps; have := h'.deps.len; omega
  have hm1 : nm ≤ 1000000 := by have := hb.makes; have := h.makes.len; omega
  have hm2 : mm ≤ 1000000 := by have := hb'.makes; have := h'.makes.len; omega
  have hx1 : nx ≤ 1000000 := by have := hb.drops; have := h.drops.len; omega
  have hx2 : mx ≤ 1000000 := by have := hb'.drops; have := h'.drops.len; omega
  have hh1 : nh ≤ 1000000 := by have := hb.hunks; have := h.hunks.len; omega
  have hh2 : mh ≤ 1000000 := by have := hb'.hunks; have := h'.hunks.len; omega
  clear hr h h' hb hb'
  go_enter Tryz.func17, Tryz.ntmps17
  go_upto_region 1 with fail
  have HC0 := Lib.hid (HB1.out.calm HG2.out)
  have HI := Lib.hid H.out.num
  have HI' := Lib.hid H'.out.num
  generalize w.alloc _ = w1 at *
  generalize w1.alloc _ = w2 at *
  generalize w.heap.size = g1 at *
  clear HB1 HG2
  have HGA := Lib.hid (grownBy_refl w2 none)
  obtain ⟨a0, a1, a2, a3, a4⟩ := HC0.out.five
  obtain ⟨b0, b1, b2, b3, b4⟩ := HB2.out.five
  by_cases hid0 : id = id'
  · have f1 : ((id : Int) == (id' : Int)) = true := by subst hid0; simp
    have HP := Lib.hid hid0
    clear hid0
    obtain ⟨q, hq⟩ := bool_of (pDeps x = pDeps y)
    have HQ0 := Lib.hid hq
    clear hq
    go_wp2_with fail
    refine (eqlU_c pd qd nd md cd dd lo hi lo' hi' (pDeps x) (pDeps y) q w2 (H.out.deps.calm HGA.out) (H'.out.deps.calm HGA.out) hd1 hd2 HQ0.out).mono ?_
    rintro e V0 ⟨rfl, hg⟩
    have HG10 := Lib.hid (grownBy_trans HGA.out hg)
    clear hg a0 a1 a2 a3 a4 b0 b1 b2 b3 b4
    cases q with
    | false =>
      obtain rfl : r = false := no_false HR.out fun h => by have := HQ0.out.2 (by rw [h]); cases this
      go_wp2
      go_ret
      exact ⟨rfl, grownBy_trans HG.out HG10.out⟩
    | true =>
      have HT0 := Lib.hid (HQ0.out.1 rfl)
      clear HQ0
      obtain ⟨a0, a1, a2, a3, a4⟩ := (HC0.out.calm HG10.out).five
      obtain ⟨b0, b1, b2, b3, b4⟩ := (HB2.out.calm HG10.out).five
      obtain ⟨q, hq⟩ := bool_of (pMakes x = pMakes y)
      have HQ1 := Lib.hid hq
      clear hq
      go_wp2_with fail
      refine (eqlS_c pm qm nm mm cm dm lo hi lo' hi' (pMakes x) (pMakes y) q V0 (H.out.makes.calm HG10.out) (H'.out.makes.calm HG10.out) hm1 hm2 HQ1.out).mono ?_
      rintro e V1 ⟨rfl, hg⟩
      have HG11 := Lib.hid (grownBy_trans HG10.out hg)
      clear hg a0 a1 a2 a3 a4 b0 b1 b2 b3 b4
      cases q with
      | false =>
        obtain rfl : r = false := no_false HR.out fun h => by have := HQ1.out.2 (by rw [h]); cases this
        go_wp2
        go_ret
        exact ⟨rfl, grownBy_trans HG.out HG11.out⟩
      | true =>
        have HT1 := Lib.hid (HQ1.out.1 rfl)
        clear HQ1
        obtain ⟨a0, a1, a2, a3, a4⟩ := (HC0.out.calm HG11.out).five
        obtain ⟨b0, b1, b2, b3, b4⟩ := (HB2.out.calm HG11.out).five
        obtain ⟨q, hq⟩ := bool_of (pDrops x = pDrops y)
        have HQ2 := Lib.hid hq
        clear hq
        go_wp2_with fail
        refine (eqlS_c px qx nx mx cx dx lo hi lo' hi' (pDrops x) (pDrops y) q V1 (H.out.drops.calm HG11.out) (H'.out.drops.calm HG11.out) hx1 hx2 HQ2.out).mono ?_
        rintro e V2 ⟨rfl, hg⟩
        have HG12 := Lib.hid (grownBy_trans HG11.out hg)
        clear hg a0 a1 a2 a3 a4 b0 b1 b2 b3 b4
        cases q with
        | false =>
          obtain rfl : r = false := no_false HR.out fun h => by have := HQ2.out.2 (by rw [h]); cases this
          go_wp2
          go_ret
          exact ⟨rfl, grownBy_trans HG.out HG12.out⟩
        | true =>
          have HT2 := Lib.hid (HQ2.out.1 rfl)
          clear HQ2
          obtain ⟨a0, a1, a2, a3, a4⟩ := (HC0.out.calm HG12.out).five
          obtain ⟨b0, b1, b2, b3, b4⟩ := (HB2.out.calm HG12.out).five
          obtain ⟨q, hq⟩ := bool_of (pHunks x = pHunks y)
          have HQ3 := Lib.hid hq
          clear hq
          go_wp2_with fail
          refine (eqlH_c ph qh nh mh ch dh lo hi lo' hi' (pHunks x) (pHunks y) q V2 (H.out.hunks.calm HG12.out) (H'.out.hunks.calm HG12.out) hh1 hh2 (fun z hz => ⟨(HX.out z hz).1, (HX.out z hz).2.1, (HX.out z hz).2.2.1⟩) (fun z hz => ⟨(HY.out z hz).1, (HY.out z hz).2.1, (HY.out z hz).2.2.1⟩) HQ3.out).mono ?_
          rintro e V3 ⟨rfl, hg⟩
          have HG13 := Lib.hid (grownBy_trans HG12.out hg)
          clear hg a0 a1 a2 a3 a4 b0 b1 b2 b3 b4
          cases q with
          | false =>
            obtain rfl : r = false := no_false HR.out fun h => by have := HQ3.out.2 (by rw [h]); cases this
            go_wp2
            go_ret
            exact ⟨rfl, grownBy_trans HG.out HG13.out⟩
          | true =>
            have HT3 := Lib.hid (HQ3.out.1 rfl)
            clear HQ3
            obtain rfl : r = true := HQE.out (by rw [HI.out, HI'.out, HP.out]) HT0.out HT1.out HT2.out HT3.out
            go_wp2
            go_ret
            exact ⟨rfl, grownBy_trans HG.out HG13.out⟩
  · have f1 : ((id : Int) == (id' : Int)) = false := by simp; omega
    obtain rfl : r = false := no_false HR.out fun h => hid0 (by rw [← HI.out, ← HI'.out, h])
    clear hid0
    go_wp2
    go_ret
    exact ⟨rfl, HG.out⟩

/-- What a hunk must be, whichever patch it is of. -/
structure HkOK (h : Hk) : Prop where
  nAdds : (hAdds h).length ≤ 40
  adds : ∀ s ∈ hAdds h, IsLine s
  nEdges : (hEdges h).length ≤ 80
  eris : risR ltEd (hEdges h)
  apart : ∀ e ∈ hEdges h, decide (e.1 ≠ e.2) = true
  nKills : (hKills h).length ≤ 40
  kris : risR ltLn (hKills h)
  nums : ∀ x ∈ namedL (hEdges h) (hKills h), decide (0 ≤ x.2 ∧ x.2 < 40) = true

set_option maxRecDepth 8000 in
set_option maxHeartbeats 8000000 in
theorem isHunk_c (path : ByteArray) (ts : List ByteArray) (es : List Ed) (ks : List Ln) (pa : Option Addr) (na ca : Nat) (pe : Option Addr) (ne ce : Nat) (pk : Option Addr) (nk ck : Nat) (lo hi : Nat) (r : Bool) (w : World)
    (h : HkAt w lo hi pa na ca pe ne ce pk nk ck (path, ts, es, ks)) (hb : na ≤ 1000 ∧ ne ≤ 1000 ∧ nk ≤ 1000) (hs : ∀ s ∈ ts, s.size ≤ 1000000) (hr : r = true ↔ HkOK (path, ts, es, ks)) :
    Calls Tryz.prog 61 #[.agg #[.string path, .slice pa na ca, .slice pe ne ce, .slice pk nk ck]] w fun e w' => e = .returned (.bool r) ∧ w.grownBy w' none := by
  have HR := Lib.hid hr
  have HB := Lib.hid (BoxV.new w [.string path, .slice pa na ca, .slice pe ne ce, .slice pk nk ck] 50)
  have HG := Lib.hid (World.grownBy_alloc w (.cells [.string path, .slice pa na ca, .slice pe ne ce, .slice pk nk ck].toArray 50) none)
  have HAS := Lib.hid (show StrsAt _ lo hi pa na ts from h.adds.calm HG.out)
  have HES := Lib.hid (show EdsAt _ lo hi pe ne es from h.edges.calm HG.out)
  have HKS := Lib.hid (show LnsAt _ lo hi pk nk ks from h.kills.calm HG.out)
  have HZK := Lib.hid h.zk
  have HLA := Lib.hid HAS.out.len
  have HLE := Lib.hid HES.out.len
  have HLK := Lib.hid HKS.out.len
  have HSZ := Lib.hid hs
  clear hr h hs
  go_enter Tryz.func61, Tryz.ntmps61
  go_upto_region 1 with fail
  generalize w.alloc _ = w1 at *
  generalize w.heap.size = g1 at *
  obtain ⟨a0, a1, a2, a3⟩ := HB.out.four
  have HGA := Lib.hid (grownBy_refl w1 none)
  by_cases hna : na ≤ 40
  · have fna : (na : Int) ≤ 40 := by omega
    obtain ⟨f, hf⟩ : ∃ f : ByteArray → Bool, ∀ s, f s = true ↔ IsLine s := ⟨fun s => Classical.choose (bool_of (IsLine s)), fun s => Classical.choose_spec (bool_of (IsLine s))⟩
    have HF := Lib.hid hf
    clear hf
    obtain ⟨q, hq⟩ := bool_of (∀ s ∈ ts, f s = true)
    have HQ1 := Lib.hid hq
    clear hq
    go_wp2_with fail
    refine (allLine_c ts lo hi pa na ca f q w1 (HAS.out.calm HGA.out) (by omega) (fun s hs W _ => isLine_c s (f s) W (HSZ.out s hs) (HF.out s)) HQ1.out).mono ?_
    rintro e V1 ⟨rfl, hg⟩
    have HG1 := Lib.hid (grownBy_trans HGA.out hg)
    clear hg a0 a1 a2 a3
    cases q with
    | false =>
      obtain rfl : r = false := no_false HR.out fun h => by have := HQ1.out.2 (fun s hs => (HF.out s).2 (h.adds s hs)); cases this
      go_wp2
      go_ret
      exact ⟨rfl, grownBy_trans HG.out HG1.out⟩
    | true =>
      have HT1 := Lib.hid (HQ1.out.1 rfl)
      clear HQ1
      obtain ⟨a0, a1, a2, a3⟩ := (HB.out.calm HG1.out).four
      by_cases hne : ne ≤ 80
      · have fne : (ne : Int) ≤ 80 := by omega
        obtain ⟨q, hq⟩ : ∃ q, q = risB ltEd ((0, 0), (0, 0)) es ne := ⟨_, rfl⟩
        have HE0 := Lib.hid hq
        have HQ2 := Lib.hid (ris_B linEd (d := ((0, 0), (0, 0))) HLE.out)
        rw [← hq] at HQ2
        clear hq
        go_wp2_with fail
        refine (riseE_c es lo hi pe ne ce q V1 (HES.out.calm HG1.out) (by omega) HE0.out).mono ?_
        rintro e V2 ⟨rfl, hg⟩
        have HG2 := Lib.hid (grownBy_trans HG1.out hg)
        clear hg a0 a1 a2 a3
        cases q with
        | false =>
          obtain rfl : r = false := no_false HR.out fun h => by have := HQ2.out.2 h.eris; cases this
          go_wp2
          go_ret
          exact ⟨rfl, grownBy_trans HG.out HG2.out⟩
        | true =>
          have HT2 := Lib.hid (HQ2.out.1 rfl)
          clear HQ2
          obtain ⟨a0, a1, a2, a3⟩ := (HB.out.calm HG2.out).four
          obtain ⟨q, hq⟩ := bool_of (∀ e ∈ es, decide (e.1 ≠ e.2) = true)
          have HQ3 := Lib.hid hq
          clear hq
          go_wp2_with fail
          refine (allEdge_c es lo hi pe ne ce (fun e => decide (e.1 ≠ e.2)) q V2 (HES.out.calm HG2.out) (by omega) (fun x _ W _ => isEdge_c x.1 x.2 W) HQ3.out).mono ?_
          rintro e V3 ⟨rfl, hg⟩
          have HG3 := Lib.hid (grownBy_trans HG2.out hg)
          clear hg a0 a1 a2 a3
          cases q with
          | false =>
            obtain rfl : r = false := no_false HR.out fun h => by have := HQ3.out.2 h.apart; cases this
            go_wp2
            go_ret
            exact ⟨rfl, grownBy_trans HG.out HG3.out⟩
          | true =>
            have HT3 := Lib.hid (HQ3.out.1 rfl)
            clear HQ3
            obtain ⟨a0, a1, a2, a3⟩ := (HB.out.calm HG3.out).four
            by_cases hnk : nk ≤ 40
            · have fnk : (nk : Int) ≤ 40 := by omega
              obtain ⟨q, hq⟩ : ∃ q, q = risB ltLn (0, 0) ks nk := ⟨_, rfl⟩
              have HE1 := Lib.hid hq
              have HQ4 := Lib.hid (ris_B linLn (d := (0, 0)) HLK.out)
              rw [← hq] at HQ4
              clear hq
              go_wp2_with fail
              refine (riseL_c ks lo hi pk nk ck q V3 (HKS.out.calm HG3.out) (by omega) HE1.out).mono ?_
              rintro e V4 ⟨rfl, hg⟩
              have HG4 := Lib.hid (grownBy_trans HG3.out hg)
              clear hg a0 a1 a2 a3
              cases q with
              | false =>
                obtain rfl : r = false := no_false HR.out fun h => by have := HQ4.out.2 h.kris; cases this
                go_wp2
                go_ret
                exact ⟨rfl, grownBy_trans HG.out HG4.out⟩
              | true =>
                have HT4 := Lib.hid (HQ4.out.1 rfl)
                clear HQ4
                obtain ⟨a0, a1, a2, a3⟩ := (HB.out.calm HG4.out).four
                go_wp2_with fail
                refine (named_c path pa na ca pe ne ce pk nk ck lo hi lo hi es ks V4 (HES.out.calm HG4.out) (HKS.out.calm HG4.out) HZK.out (by omega) (by omega)).mono ?_
                rintro e V ⟨p9, c9, rfl, hat, _, _, hg⟩
                have HGV := Lib.hid (grownBy_trans HG4.out hg)
                have HAT := Lib.hid hat
                have HNL := Lib.hid (namedL_len es ks)
                have hnl : (namedL es ks).length ≤ 1000000 := by have := HNL.out; have := HLE.out; have := HLK.out; omega
                clear hg hat a0 a1 a2 a3
                have HR2 : Hid (r = true ↔ ∀ x ∈ namedL es ks, decide (0 ≤ x.2 ∧ x.2 < 40) = true) := Lib.hid ⟨fun h => (HR.out.1 h).nums, fun h => HR.out.2 ⟨by show ts.length ≤ 40; have := HLA.out; omega, fun s hs => (HF.out s).1 (HT1.out s hs), by show es.length ≤ 80; have := HLE.out; omega, HT2.out, HT3.out, by show ks.length ≤ 40; have := HLK.out; omega, HT4.out, h⟩⟩
                generalize namedL es ks = nl at *
                generalize hll : nl.length = ll at *
                clear hll
                go_wp2_with fail
                refine (allNumb_c nl _ _ p9 ll c9 (fun x => decide (0 ≤ x.2 ∧ x.2 < 40)) r V HAT.out hnl (fun x _ W _ => isNumbered_c x W) HR2.out).mono ?_
                rintro e V9 ⟨rfl, hg⟩
                have HGZ := Lib.hid (grownBy_trans HG.out (grownBy_trans HGV.out hg))
                clear hg
                go_wp2
                go_ret
                exact ⟨rfl, HGZ.out⟩
            · have fnk : ¬ (nk : Int) ≤ 40 := by omega
              obtain rfl : r = false := no_false HR.out fun h => by have := h.nKills; rw [show (hKills (path, ts, es, ks)).length = nk from HLK.out] at this; omega
              go_wp2
              go_ret
              exact ⟨rfl, grownBy_trans HG.out HG3.out⟩
      · have fne : ¬ (ne : Int) ≤ 80 := by omega
        obtain rfl : r = false := no_false HR.out fun h => by have := h.nEdges; rw [show (hEdges (path, ts, es, ks)).length = ne from HLE.out] at this; omega
        go_wp2
        go_ret
        exact ⟨rfl, grownBy_trans HG.out HG1.out⟩
  · have fna : ¬ (na : Int) ≤ 40 := by omega
    obtain rfl : r = false := no_false HR.out fun h => by have := h.nAdds; rw [show (hAdds (path, ts, es, ks)).length = na from HLA.out] at this; omega
    go_wp2
    go_ret
    exact ⟨rfl, grownBy_trans HG.out HGA.out⟩

end Go.Proofs.YtcfhnfnhdhloiaaGreat
