/- Package push: tooLarge, behind, beside; slices.Grow, slices.Concat. -/
import Derived.Test.YtgpcakcjiaoimaaDoorObja
import Derived.Test.YtgpcakcjiaoimaaDoorArra
import Derived.Lib.AppendZerosOnto
/-! Package push: tooLarge, behind, beside; Go's own slices.Grow and slices.Concat over strings. -/
namespace Go.Proofs.YtgpcakcjiaoimaaDoor
open Go.RowKit Go.Shelf

/-- How many there are in the first k together. -/
def sumN (N : Nat → Nat) : Nat → Nat
  | 0 => 0
  | k + 1 => sumN N k + N k
theorem sumN_le {N : Nat → Nat} {m : Nat} (h : ∀ k, k < m → N k ≤ 1000000) : ∀ k, k ≤ m → sumN N k ≤ k * 1000000
  | 0, _ => Nat.le_refl _
  | k + 1, hk => by
    have h1 := sumN_le h k (by omega)
    have h2 := h k (by omega)
    show sumN N k + N k ≤ _
    omega

set_option maxRecDepth 20000 in
set_option maxHeartbeats 1000000 in
theorem tooLarge_c (m b : Nat) (P Q : Nat → Option Addr) (N C M D : Nat → Nat) (r : Bool) (w : World) (hm : m ≤ 2) (hN : ∀ k, k < m → N k ≤ 1000000)
    (hc : ∀ k, k < m → w.cell? ⟨b, k * 2, none⟩ = some (.slice (P k) (N k) (C k)) ∧ w.cell? ⟨b, k * 2 + 1, none⟩ = some (.slice (Q k) (M k) (D k))) (hb : b < w.heap.size) (hr : decide (40 < sumN N m) = r) :
    Calls Tryd.prog 37 #[.slice (some ⟨b, 0, none⟩) m m] w fun e w' => e = .returned (.bool r) ∧ w.grownBy w' none := by
  have HC := Lib.hid hc
  have HN := Lib.hid hN
  have HS := Lib.hid (sumN_le hN)
  have HR := Lib.hid hr
  clear hc hN hr
  go_enter Tryd.func37, Tryd.ntmps37
  go_wp2
  go_loopw [3, 8] (fun s i wr => ∃ k : Nat, k ≤ m ∧ i = .int .i64 k ∧ s = .int .i64 (sumN N k : Nat) ∧ w.grownBy wr none) (fun _ i _ => m - (intOf i).toNat)
  case atStart => exact ⟨0, Nat.zero_le _, rfl, rfl, grownBy_refl _ _⟩
  case round =>
    obtain ⟨k, hk, rfl, rfl, hgr⟩ := hrel
    have HGR := Lib.hid hgr
    by_cases hkm : k < m
    · have k0 : (0 : Int) ≤ k := by omega
      have k1 : (k : Int) < m := by omega
      obtain ⟨c0, c1⟩ := HC.out k hkm
      have hbk : wr.heap[b]? = w.heap[b]? := hgr.block b hb (by simp)
      have d0 := (World.cell?_of_block (a := ⟨b, k * 2, none⟩) hbk).trans c0
      have d1 := (World.cell?_of_block (a := ⟨b, k * 2 + 1, none⟩) hbk).trans c1
      have s1 := HS.out k hk
      have s2 := HN.out k hkm
      have HSS : Hid (sumN N (k + 1) = sumN N k + N k) := Lib.hid rfl
      clear c0 c1 hgr hbk
      generalize sumN N k = s at *
      generalize N k = x at *
      generalize P k = y at *
      generalize C k = z at *
      generalize Q k = y2 at *
      generalize M k = x2 at *
      generalize D k = z2 at *
      go_wp2
      exact ⟨⟨k + 1, by omega, by go_num, by rw [HSS.out]; go_num, grownBy_trans HGR.out (World.grownBy_alloc wr _ none)⟩, by simp [intOf]; omega⟩
    · obtain rfl : k = m := by omega
      have s1 := HS.out k hk
      have hrr := HR.out
      generalize sumN N k = s at *
      clear hgr
      cases r
      · have t0 : ¬ ((s : Int) > 40) := by simp at hrr; omega
        go_wp2
        go_ret
        exact ⟨rfl, HGR.out⟩
      · have t0 : (s : Int) > 40 := by simp at hrr; omega
        go_wp2
        go_ret
        exact ⟨rfl, HGR.out⟩

/-- Grow of nothing by nothing. -/
theorem growS_zero (w : World) : Calls Tryd.prog 79 #[.slice none 0 0, .int .i64 0] w fun e w' => e = .returned (.slice none 0 0) ∧ w' = w := by
  go_enter Tryd.func79, Tryd.ntmps79
  go_wp2
  go_ret
  exact ⟨rfl, rfl⟩

set_option maxRecDepth 20000 in
set_option maxHeartbeats 1000000 in
/-- Grow of nothing by n: a row of its own of which nothing is used. -/
theorem growS_pos (n : Nat) (hn : 0 < n) (hs : n ≤ 2000000) (w : World) : Calls Tryd.prog 79 #[.slice none 0 0, .int .i64 n] w fun e w' =>
    ∃ p c, e = .returned (.slice (some p) 0 c) ∧ w'.ownsRow w.heap.size 9 1 (.slice (some p) 0 c) 0 [] ∧ w.grownBy w' none := by
  obtain ⟨i0, hi0, hz0, hz1, hz2⟩ := info_parts Tryd.info9
  have hold : (Builtin.firstCells i0.size 0 (.slice none 0 0)).run Tryd.prog w.drew = .ok ([] : List Value).toArray w.drew := run_firstCells_none w.drew i0.size 0 0 0
  have hrz := fun ty => Lib.run_append_grow_zeros (P := Tryd.prog) w 22 3 ty 9 i0 (.string .empty) .i64 .i64 Tryd.underlying22 Tryd.underlying3 hi0 hz0 none 0 0 [] hold n hn (by omega) (by omega) (by omega)
    (by rw [hz2]; omega) (growslice_fits (by omega) (by rw [hz2]; omega))
  rw [Nat.zero_add] at hrz
  have hGn : n ≤ grownCap w n 0 9 := grownCap_ge w _ _ _
  have hG63 : grownCap w n 0 9 ≤ 9223372036854775807 := by
    have := grownCap_le_maxLen w n 0 9 (by unfold maxLen; omega)
    unfold maxLen at this
    omega
  have hGn0 := hGn
  have HP : Hid (∀ G W, G = grownCap w n 0 9 → W = (w.alloc (.cells (Builtin.zeroCells #[.string .empty] n ++ Builtin.zeroCells #[.string .empty] (G - n)) 9)).drew →
      W.ownsRow w.heap.size 9 1 (.slice (some ⟨w.heap.size, 0, none⟩) 0 G) 0 [] ∧ w.grownBy W none) := Lib.hid (by
    rintro G W hG rfl
    rw [← hG] at hGn0
    refine ⟨⟨rfl, .inr ⟨w.heap.size, G, _, rfl, Nat.le_refl _, heap_alloc_new w _, Nat.zero_le _, ?_, ?_, rfl⟩⟩, grownBy_trans (World.grownBy_alloc w _ none) (grownBy_drewN _ 1 none)⟩
    · rw [hG]; exact grownCap_le_maxLen w n 0 9 (by unfold maxLen; omega)
    · simp [size_zeroCells]; omega)
  obtain ⟨G, hG⟩ : ∃ G, G = grownCap w n 0 9 := ⟨_, rfl⟩
  rw [← hG] at hrz hGn hG63
  have HG := Lib.hid hG
  have n0 : ¬ ((n : Int) < 0) := by omega
  have n1 : (n : Int) > 0 := by omega
  clear hold hG hGn0
  go_enter Tryd.func79, Tryd.ntmps79
  go_wp2_with (at_builtin; refine Lib.wpList_append_run _ rfl _ _ _ _ rfl _ _ rfl rfl _ _ (hrz _) ?_)
  all_goals
    go_ret
    exact ⟨_, _, rfl, (HP.out _ _ HG.out rfl).1, (HP.out _ _ HG.out rfl).2⟩

theorem ownsRow_sl {w : World} {base : Nat} {e : TypeId} {size n : Nat} {v : Value} {xs : List Value} (h : w.ownsRow base e size v n xs) : ∃ p c, v = .slice p n c := by
  rcases h.2 with ⟨e1, e2⟩ | ⟨g, cap, cur, e1, _⟩
  · exact ⟨none, 0, by rw [e1, e2]⟩
  · exact ⟨_, _, e1⟩
/-- What turns a new row alone makes new memory alone. -/
theorem ownsRow_new {w wr w2 : World} {e : TypeId} {size n : Nat} {v : Value} {xs : List Value} (h : w.grownBy wr none) (ho : wr.ownsRow w.heap.size e size v n xs) (hg : wr.grownBy w2 v.ownBlock) : w.grownBy w2 none := by
  rcases ho.2 with ⟨rfl, _⟩ | ⟨g, cap, cur, rfl, h1, _⟩
  · exact grownBy_trans h hg
  · exact grownBy_new h hg h1

/-- The first k of them, one behind the other. -/
def joinS (Ls : Nat → List ByteArray) : Nat → List ByteArray
  | 0 => []
  | k + 1 => joinS Ls k ++ Ls k
theorem scells_app (a b : List ByteArray) : scells (a ++ b) = scells a ++ scells b := by simp [scells]
theorem scells_len (a : List ByteArray) : (scells a).length = a.length := by simp [scells]

set_option maxRecDepth 20000 in
set_option maxHeartbeats 2000000 in
/-- Concat: all strings in a row of their own. -/
theorem concat_c (m b lo hi : Nat) (P : Nat → Option Addr) (N C : Nat → Nat) (Ls : Nat → List ByteArray) (w : World) (hm : m ≤ 2) (hN : ∀ k, k < m → N k ≤ 1000000)
    (hc : ∀ k, k < m → w.cell? ⟨b, k, none⟩ = some (.slice (P k) (N k) (C k)) ∧ StrsAt w lo hi (P k) (N k) (Ls k) ∧ (P k = none → C k = 0)) (hb : b < w.heap.size) :
    Calls Tryd.prog 59 #[.slice (some ⟨b, 0, none⟩) m m] w (StrsPost (joinS Ls m) w) := by
  obtain ⟨i0, hi', hz0, hz1, hz2⟩ := info_parts Tryd.info9
  have HC := Lib.hid hc
  have HN := Lib.hid hN
  have HS := Lib.hid (sumN_le hN)
  have HJ : Hid (∀ k, k ≤ m → (joinS Ls k).length = sumN N k) := Lib.hid (by
    intro k
    induction k with
    | zero => intro _; rfl
    | succ k ih =>
      intro hk
      show (joinS Ls k ++ Ls k).length = sumN N k + N k
      rw [List.length_append, ih (by omega), (hc k (by omega)).2.1.len])
  clear hc hN
  go_enter Tryd.func59, Tryd.ntmps59
  go_wp2
  go_loopw [3, 11] (fun s i wr => ∃ k : Nat, k ≤ m ∧ i = .int .i64 k ∧ s = .int .i64 (sumN N k : Nat) ∧ wr = w) (fun _ i _ => m - (intOf i).toNat)
  case atStart => exact ⟨0, Nat.zero_le _, rfl, rfl, rfl⟩
  case round =>
    obtain ⟨k, hk, rfl, rfl, hwr⟩ := hrel
    subst wr
    by_cases hkm : k < m
    · have k0 : (0 : Int) ≤ k := by omega
      have k1 : (k : Int) < m := by omega
      have c0 := (HC.out k hkm).1
      have s1 := HS.out k hk
      have s2 := HN.out k hkm
      have HSS : Hid (sumN N (k + 1) = sumN N k + N k) := Lib.hid rfl
      generalize sumN N k = s at *
      generalize N k = x at *
      generalize P k = y at *
      generalize C k = z at *
      have s3 : ¬ ((s : Int) + x < 0) := by omega
      go_wp2
      exact ⟨⟨k + 1, by omega, by go_num, by rw [HSS.out]; go_num, trivial⟩, by simp [intOf]; omega⟩
    · obtain rfl : k = m := by omega
      have HS1 := Lib.hid (HS.out k hk)
      have HGROW : Hid (∃ u, Calls Tryd.prog 79 #[.slice none 0 0, .int .i64 (sumN N k : Nat)] w fun e w' => ∃ v, e = .returned v ∧ (v = .slice none 0 0 ∨ ∃ p c, v = .slice (some p) 0 c) ∧ w'.ownsRow w.heap.size 9 1 v 0 [] ∧ w.grownBy w' none ∧ u = true) := Lib.hid (by
        refine ⟨true, ?_⟩
        rcases Nat.eq_zero_or_pos (sumN N k) with e | e
        · rw [e]
          refine (growS_zero w).mono ?_
          rintro e w' ⟨rfl, rfl⟩
          exact ⟨_, rfl, .inl rfl, World.ownsRow_nil _ _ _ _, grownBy_refl _ _, rfl⟩
        · refine (growS_pos _ e (by have := HS1.out; omega) w).mono ?_
          rintro e w' ⟨p, c, rfl, h1, h2⟩
          exact ⟨_, rfl, .inr ⟨_, _, rfl⟩, h1, h2, rfl⟩)
      obtain ⟨_, HGROW⟩ := HGROW.out
      generalize hsm : sumN N k = s at *
      have HSM := Lib.hid hsm
      clear hsm
      go_wp2_with fail
      refine HGROW.mono ?_
      rintro e w1 ⟨v, rfl, hv, how, hg1, _⟩
      have HOW := Lib.hid how
      have HG1 := Lib.hid hg1
      have hv0 : ∃ pv cv, v = .slice pv 0 cv := by rcases hv with rfl | ⟨p, c, rfl⟩ <;> exact ⟨_, _, rfl⟩
      obtain ⟨pv, cv, rfl⟩ := hv0
      clear how hg1 hv
      go_wp2
      go_loopw [6, 27] (fun o i wq => ∃ (j : Nat) (po : Option Addr) (co : Nat), j ≤ k ∧ i = .int .i64 j ∧ o = .slice po (sumN N j) co ∧ wq.ownsRow w.heap.size 9 1 (.slice po (sumN N j) co) (sumN N j) (scells (joinS Ls j)) ∧ w.grownBy wq none) (fun _ i _ => k - (intOf i).toNat)
      case atStart => exact ⟨0, pv, cv, Nat.zero_le _, rfl, rfl, HOW.out, HG1.out⟩
      case round =>
        obtain ⟨j, po, co, hj, rfl, rfl, how, hgr⟩ := hrel
        have HOW := Lib.hid how
        have HGR := Lib.hid hgr
        have hsz := hgr.size
        clear how hgr HG1
        by_cases hjk : j < k
        · have j0 : (0 : Int) ≤ j := by omega
          have j1 : (j : Int) < k := by omega
          obtain ⟨c0, hst, hnil⟩ := HC.out j hjk
          have c1 := (World.cell?_of_block (a := ⟨b, j, none⟩) (HGR.out.block b hb (by simp))).trans c0
          have HST := Lib.hid (hst.calm HGR.out)
          have HLEN := Lib.hid hst.len
          have s1 := HS.out j (by omega)
          have s2 := HN.out j hjk
          have HSS : Hid (sumN N (j + 1) = sumN N j + N j) := Lib.hid rfl
          have HJS : Hid (scells (joinS Ls (j + 1)) = scells (joinS Ls j) ++ scells (Ls j)) := Lib.hid (by rw [← scells_app]; rfl)
          clear c0 hst
          cases hp : P j with
          | none =>
            rw [hp] at c1 HST hnil
            have z0 := hnil rfl
            have hn0 : N j = 0 := by
              rcases Nat.eq_zero_or_pos (N j) with e | e
              · exact e
              · obtain ⟨_, _, e, _⟩ := HST.out.cell e; cases e
            rw [z0, hn0] at c1
            rw [hn0] at HSS HLEN
            have hnl : Ls j = [] := List.eq_nil_of_length_eq_zero HLEN.out
            rw [hnl] at HJS
            clear hnil
            go_wp2_with (at_builtin; refine wpList_append_own_none rfl _ _ 22 rfl w.heap.size 9 i0 1 Tryd.underlying22 hi' (.slice po (sumN N j) co) (sumN N j) (scells (joinS Ls j)) rfl HOW.out rfl ?_)
            go_wp2
            refine ⟨⟨j + 1, po, co, by omega, by go_num, by rw [HSS.out, Nat.add_zero], ?_, HGR.out⟩, by simp [intOf]; omega⟩
            rw [HSS.out, HJS.out, Nat.add_zero]
            simpa [scells] using HOW.out
          | some ad =>
            rw [hp] at c1 HST
            have hnews := Lib.hid (strs_news HST.out)
            have hl1 := HLEN.out
            clear hnil
            go_wp2_with (at_builtin; refine wpList_append_own _ rfl _ _ 22 rfl w.heap.size 9 i0 (.string .empty) 1 16 Tryd.underlying22 hi' hz0 hz1 hz2 rfl (by decide) (.slice po (sumN N j) co) (sumN N j) (scells (joinS Ls j)) rfl HOW.out ad (N j) (C j) (scells (Ls j)) rfl (by rw [scells_len, hl1]; omega) hnews.out (scells_one _) (by unfold maxLen; omega) (by omega) hsz ?_; intro v' w2 hown' hgrow _)
            obtain ⟨p2, c2, rfl⟩ := ownsRow_sl hown'
            have HO2 := Lib.hid hown'
            have HG2 := Lib.hid hgrow
            clear hown' hgrow
            go_wp2
            refine ⟨⟨j + 1, p2, c2, by omega, by go_num, by rw [HSS.out], ?_, ownsRow_new HGR.out HOW.out HG2.out⟩, by simp [intOf]; omega⟩
            rw [HSS.out, HJS.out]
            exact HO2.out
        · obtain rfl : j = k := by omega
          have j1 : ¬ ((j : Int) < j) := by omega
          have HLJ := Lib.hid (HJ.out j (Nat.le_refl _))
          go_wp2
          go_ret
          exact ⟨_, rfl, by rw [HLJ.out]; exact HOW.out, HGR.out⟩

/-- The same places, with n others ahead of them. -/
def shL (n : Nat) (f : List Int) : List Int := f.map fun z => (n : Int) + z
theorem shL_len (n : Nat) (f : List Int) : (shL n f).length = f.length := by simp [shL]
def shK (n : Nat) (f : List Int) (k : Nat) : List Int := shL n (f.take k) ++ List.replicate (f.length - k) 0
theorem shK_len {n : Nat} {f : List Int} {k : Nat} (h : k ≤ f.length) : (shK n f k).length = f.length := by simp [shK, shL]; omega
theorem shK_zero (n : Nat) (f : List Int) : shK n f 0 = List.replicate f.length 0 := by simp [shK, shL]
theorem shK_end (n : Nat) (f : List Int) : shK n f f.length = shL n f := by simp [shK]
theorem shK_succ {n : Nat} {f : List Int} {k : Nat} (h : k < f.length) : (shK n f k).set k ((n : Int) + f[k]?.getD 0) = shK n f (k + 1) := by
  unfold shK
  have e : f.length - k = (f.length - (k + 1)) + 1 := by omega
  have hl : (shL n (f.take k)).length = k := by rw [shL_len, List.length_take]; omega
  rw [List.set_append_right _ _ (by omega), hl, Nat.sub_self, e, List.replicate_succ, List.set_cons_zero]
  have : f.take (k + 1) = f.take k ++ [f[k]?.getD 0] := by rw [List.take_add_one, List.getElem?_eq_getElem h]; rfl
  rw [this]
  simp [shL]
/-- Places that are few. -/
def tameL (f : List Int) : Prop := ∀ z ∈ f, 0 ≤ z ∧ z ≤ 1000000
theorem tameL_get {f : List Int} (h : tameL f) {k : Nat} (hk : k < f.length) : 0 ≤ f[k]?.getD 0 ∧ f[k]?.getD 0 ≤ 1000000 := by
  rw [List.getElem?_eq_getElem hk]
  exact h _ (List.getElem_mem hk)

set_option maxRecDepth 20000 in
set_option maxHeartbeats 1000000 in
theorem behind_c (n : Nat) (p : Option Addr) (m c lo hi : Nat) (f : List Int) (w : World) (h : ZsAt w lo hi p m f) (hn : n ≤ 1000000) (hm : m ≤ 1000000) (hf : tameL f) :
    Calls Tryd.prog 40 #[.int .i64 n, .slice p m c] w (RowPost (shL n f) w) := by
  have hmk := run_make_row' (P := Tryd.prog) 26 3 (.int .i64 0) 8 Tryd.underlying26 Tryd.infoZ3 rfl .i64 .i64 m (by omega) (by omega) w
  have HL := Lib.hid h.len
  have HR0 : Hid (RowZ (w.alloc (.cells (madeCells #[.int .i64 0] m) 3)) w.heap.size (shK n f 0)) := Lib.hid (by rw [shK_zero, HL.out]; exact rowZ_made w m)
  have HG0 := Lib.hid (World.grownBy_alloc w (.cells (madeCells #[.int .i64 0] m) 3) none)
  have H := Lib.hid h
  have HF := Lib.hid hf
  clear h hf
  go_enter Tryd.func40, Tryd.ntmps40
  go_wp2
  generalize hgb : w.heap.size = gb at *
  have HGB := Lib.hid hgb
  clear hgb
  go_loopw [13] (fun i wr => ∃ k : Nat, k ≤ m ∧ i = .int .i64 k ∧ RowZ wr gb (shK n f k) ∧ w.grownBy wr none) (fun i _ => m - (intOf i).toNat)
  case atStart => exact ⟨0, Nat.zero_le _, rfl, HR0.out, HG0.out⟩
  case round =>
    obtain ⟨k, hk, rfl, hrow, hgr⟩ := hrel
    by_cases hkm : k < m
    · have k0 : (0 : Int) ≤ k := by omega
      have k1 : (k : Int) < m := by omega
      obtain ⟨bf, of', rfl, s1, s2, s3, hcf⟩ := (H.out.calm hgr).cell (by omega)
      have cf := hcf k hkm
      obtain ⟨z0, z1⟩ := tameL_get HF.out (k := k) (by rw [HL.out]; exact hkm)
      have hc := hrow.cell (k := k) (by rw [shK_len (by rw [HL.out]; exact hk), HL.out]; exact hkm)
      have hfz := hrow.free k
      have HSET := Lib.hid (hrow.set (k := k) ((n : Int) + f[k]?.getD 0))
      have HST := Lib.hid (shK_succ (n := n) (f := f) (k := k) (by rw [HL.out]; exact hkm))
      have HGS := Lib.hid (grownBy_new hgr (grownBy_setCell wr ⟨gb, k, none⟩ (.int .i64 ((n : Int) + f[k]?.getD 0))) (by rw [HGB.out]; exact Nat.le_refl _))
      clear hrow hgr HR0 HG0 hcf
      generalize (shK n f k)[k]?.getD 0 = v at *
      generalize f[k]?.getD 0 = z at *
      go_wp2
      exact ⟨⟨k + 1, by omega, by go_num, by rw [← HST.out]; exact HSET.out, HGS.out⟩, by simp [intOf]; omega⟩
    · obtain rfl : k = m := by omega
      have HROW := Lib.hid hrow
      have HGR := Lib.hid hgr
      clear hrow hgr
      go_wp2
      go_ret
      refine ⟨gb, by rw [shL_len, HL.out]; rfl, by rw [HGB.out]; exact Nat.le_refl _, ?_, HGR.out⟩
      have := HROW.out
      rw [← HL.out, shK_end] at this
      exact this

end Go.Proofs.YtgpcakcjiaoimaaDoor
/-! Package push: beside: two objects, one behind the other. -/
namespace Go.Proofs.YtgpcakcjiaoimaaDoor
open Go.RowKit Go.Shelf

/-- A box that holds an object. -/
def BoxO (w : World) (g : Nat) (u v : Value) : Prop := w.heap[g]? = some (.cells #[u, v] 25 (0, 0))
theorem BoxO.lt {w : World} {g : Nat} {u v : Value} (h : BoxO w g u v) : g < w.heap.size := (Array.getElem?_eq_some_iff.1 h).1
theorem BoxO.new (w : World) (u v : Value) : BoxO (w.alloc (.cells #[u, v] 25)) w.heap.size u v := heap_alloc_new w _
theorem BoxO.c0 {w : World} {g : Nat} {u v : Value} (h : BoxO w g u v) : w.cell? ⟨g, 0, none⟩ = some u := by
  have h' : w.heap[g]? = some (.cells #[u, v] 25 (0, 0)) := h
  simp [World.cell?, h']
theorem BoxO.c1 {w : World} {g : Nat} {u v : Value} (h : BoxO w g u v) : w.cell? ⟨g, 1, none⟩ = some v := by
  have h' : w.heap[g]? = some (.cells #[u, v] 25 (0, 0)) := h
  simp [World.cell?, h']
theorem BoxO.free {w : World} {g : Nat} {u v : Value} (h : BoxO w g u v) (k : Nat) : w.frozen? ⟨g, k, none⟩ = false := by
  have h' : w.heap[g]? = some (.cells #[u, v] 25 (0, 0)) := h
  simp [World.frozen?, h']
theorem BoxO.calm {w w' : World} {g : Nat} {u v : Value} (h : BoxO w g u v) (hg : w.grownBy w' none) : BoxO w' g u v := (hg.block g h.lt (by simp)).trans h
theorem BoxO.other {w w' : World} {g : Nat} {u v : Value} {row : Option Nat} (h : BoxO w g u v) (hg : w.grownBy w' row) (hr : some g ≠ row) : BoxO w' g u v := (hg.block g h.lt hr).trans h
theorem BoxO.set0 {w : World} {g : Nat} {u v : Value} (h : BoxO w g u v) (x : Value) : BoxO (w.setCell ⟨g, 0, none⟩ x) g x v := by
  have h' : w.heap[g]? = some (.cells #[u, v] 25 (0, 0)) := h
  have := h.lt
  rw [BoxO]; simp only [World.setCell]; rw [Array.getElem?_modify, if_pos rfl, h']; simp
theorem BoxO.set1 {w : World} {g : Nat} {u v : Value} (h : BoxO w g u v) (x : Value) : BoxO (w.setCell ⟨g, 1, none⟩ x) g u x := by
  have h' : w.heap[g]? = some (.cells #[u, v] 25 (0, 0)) := h
  have := h.lt
  rw [BoxO]; simp only [World.setCell]; rw [Array.getElem?_modify, if_pos rfl, h']; simp

/-- Pairs, with n elements ahead of theirs. -/
def shP (n : Nat) (P : List (Int × Int)) : List (Int × Int) := P.map fun x => ((n : Int) + x.1, (n : Int) + x.2)
theorem shP_take {n : Nat} {P : List (Int × Int)} {k : Nat} (h : k < P.length) : shP n (P.take (k + 1)) = shP n (P.take k) ++ [((n : Int) + (P[k]?.getD (0, 0)).1, (n : Int) + (P[k]?.getD (0, 0)).2)] := by
  have : P.take (k + 1) = P.take k ++ [P[k]?.getD (0, 0)] := by rw [List.take_add_one, List.getElem?_eq_getElem h]; rfl
  rw [this]
  simp [shP]
theorem shP_len (n : Nat) (P : List (Int × Int)) : (shP n P).length = P.length := by simp [shP]
theorem shP_lenK {n k : Nat} {P : List (Int × Int)} (h : k ≤ P.length) : (shP n (P.take k)).length = k := by rw [shP_len, List.length_take]; omega

theorem ownsRow_set {w : World} {base : Nat} {e : TypeId} {size n : Nat} {v : Value} {xs : List Value} (h : w.ownsRow base e size v n xs) {p : Addr} (hp : p.block < base) (x : Value) : (w.setCell p x).ownsRow base e size v n xs := by
  refine ⟨h.1, ?_⟩
  rcases h.2 with h1 | ⟨g, cap, cur, e1, h1, h2, h3⟩
  · exact .inl h1
  · refine .inr ⟨g, cap, cur, e1, h1, ?_, h3⟩
    exact ((grownBy_setCell w p x).block g (Array.getElem?_eq_some_iff.1 h2).1 (by intro e; injection e; omega)).trans h2

theorem own_ne {w : World} {g n size : Nat} {e : TypeId} {v : Value} {xs : List Value} (h : w.ownsRow (g + 1) e size v n xs) : some g ≠ v.ownBlock := by
  rcases h.2 with ⟨rfl, _⟩ | ⟨g', cap, cur, rfl, h1, _⟩
  · simp [Value.ownBlock]
  · simp [Value.ownBlock]; omega
theorem ownsRow_new2 {w wr w2 : World} {base : Nat} {e : TypeId} {size n : Nat} {v : Value} {xs : List Value} (h : w.grownBy wr none) (ho : wr.ownsRow base e size v n xs) (hb : w.heap.size ≤ base) (hg : wr.grownBy w2 v.ownBlock) : w.grownBy w2 none :=
  ownsRow_new h (ownsRow_down ho hb) hg

set_option maxRecDepth 20000 in
set_option maxHeartbeats 2000000 in
theorem beside_c (p q p' q' : Option Addr) (n c m d n' c' m' d' lo hi : Nat) (L L' : List ByteArray) (P P' : List (Int × Int)) (w : World) (h : ObjAt w lo hi p n q m L P) (h' : ObjAt w lo hi p' n' q' m' L' P') (hn : n ≤ 1000000) (hn' : n' ≤ 1000000) (hm : m ≤ 1000000) (hm' : m' ≤ 1000000)
    (hp0 : p = none → c = 0) (hp0' : p' = none → c' = 0) (hq0 : q = none → d = 0) (hin : allIn n' P' = true) :
    Calls Tryd.prog 39 #[.agg #[.slice p n c, .slice q m d], .agg #[.slice p' n' c', .slice q' m' d']] w (CopyPost' (L ++ L') (P ++ shP n P') w) := by
  obtain ⟨i0, hi0, hz0, hz1, hz2⟩ := info_parts Tryd.info67
  have H := Lib.hid h
  have H' := Lib.hid h'
  have HIN := Lib.hid hin
  have HP0 := Lib.hid hp0
  have HP0' := Lib.hid hp0'
  have HQ0 := Lib.hid hq0
  have HL := Lib.hid h.ps.len
  have HL' := Lib.hid h'.ps.len
  clear h h' hin hp0 hp0' hq0
  go_enter Tryd.func39, Tryd.ntmps39
  go_wp2_with fail
  have hb0 := BoxO.new w (.slice p n c) (.slice q m d)
  have hb1 := BoxO.new (w.alloc (.cells #[.slice p n c, .slice q m d] 25)) (.slice p' n' c') (.slice q' m' d')
  have hb2 := BoxO.new ((w.alloc (.cells #[.slice p n c, .slice q m d] 25)).alloc (.cells #[.slice p' n' c', .slice q' m' d'] 25)) (.slice none 0 0) (.slice none 0 0)
  have hc4 := heap_alloc_new (((w.alloc (.cells #[.slice p n c, .slice q m d] 25)).alloc (.cells #[.slice p' n' c', .slice q' m' d'] 25)).alloc (.cells #[.slice none 0 0, .slice none 0 0] 25)) (.cells #[.slice p n c, .slice p' n' c'] 22)
  generalize hW1 : w.alloc (.cells #[.slice p n c, .slice q m d] 25) = W1 at *
  have g1 : w.grownBy W1 none := by rw [← hW1]; exact World.grownBy_alloc _ _ none
  have e1 : W1.heap.size = w.heap.size + 1 := by rw [← hW1]; simp
  generalize hW2 : W1.alloc (.cells #[.slice p' n' c', .slice q' m' d'] 25) = W2 at *
  have g2 : W1.grownBy W2 none := by rw [← hW2]; exact World.grownBy_alloc _ _ none
  have e2 : W2.heap.size = w.heap.size + 1 + 1 := by rw [← hW2]; simp [e1]
  generalize hW3 : W2.alloc (.cells #[.slice none 0 0, .slice none 0 0] 25) = W3 at *
  have g3 : W2.grownBy W3 none := by rw [← hW3]; exact World.grownBy_alloc _ _ none
  have e3 : W3.heap.size = w.heap.size + 1 + 1 + 1 := by rw [← hW3]; simp [e2]
  generalize hW4 : W3.alloc (.cells #[.slice p n c, .slice p' n' c'] 22) = W4 at *
  have g4 : W3.grownBy W4 none := by rw [← hW4]; exact World.grownBy_alloc _ _ none
  have e4 : W4.heap.size = w.heap.size + 1 + 1 + 1 + 1 := by rw [← hW4]; simp [e3]
  rw [e1] at hb1
  rw [e2] at hb2
  rw [e3] at hc4
  have HB0 := Lib.hid (hb0.calm (grownBy_trans g2 (grownBy_trans g3 g4)))
  have HB1 := Lib.hid (hb1.calm (grownBy_trans g3 g4))
  have HB2 := Lib.hid (hb2.calm g4)
  have HGW := Lib.hid (grownBy_trans g1 (grownBy_trans g2 (grownBy_trans g3 g4)))
  clear hW1 hW2 hW3 hW4 g1 g2 g3 g4 hb0 hb1 hb2 e1 e2 e3
  refine (concat_c 2 _ lo hi (fun k => if k = 0 then p else p') (fun k => if k = 0 then n else n') (fun k => if k = 0 then c else c') (fun k => if k = 0 then L else L') W4 (Nat.le_refl _) (by intro k _; by_cases e : k = 0 <;> simp [e] <;> omega) (by
    intro k hk
    rcases (show k = 0 ∨ k = 1 by omega) with rfl | rfl
    · exact ⟨by simp [World.cell?, hc4], H.out.ls.calm HGW.out, HP0.out⟩
    · exact ⟨by simp [World.cell?, hc4], H'.out.ls.calm HGW.out, HP0'.out⟩) (by omega)).mono ?_
  rw [show joinS (fun k => if k = 0 then L else L') 2 = L ++ L' by simp [joinS]]
  generalize L ++ L' = LL at *
  rintro e w1 ⟨v, rfl, hv, hg⟩
  obtain ⟨pl, cl, rfl⟩ := ownsRow_sl hv
  generalize hnl : LL.length = nl at *
  have HNL := Lib.hid hnl
  clear hnl
  have HV := Lib.hid hv
  have HG := Lib.hid hg
  have c00 := (HB0.out.calm hg).c1
  have c10 := (HB1.out.calm hg).c1
  have hsz := hg.size
  clear hv hg
  go_upto_region 3 with fail
  have hbx := BoxO.new w1 (.slice pl nl cl) (.slice none 0 0)
  have hgx := World.grownBy_alloc w1 (.cells #[.slice pl nl cl, .slice none 0 0] 25) none
  have ex : (w1.alloc (.cells #[.slice pl nl cl, .slice none 0 0] 25)).heap.size = w1.heap.size + 1 := by simp
  have d00 := ((HB0.out.calm HG.out).calm hgx).c1
  have HPS := Lib.hid (((H.out.ps.calm HGW.out).calm HG.out).calm hgx)
  generalize hWx : w1.alloc (.cells #[.slice pl nl cl, .slice none 0 0] 25) = wx at *
  have HBX := Lib.hid hbx
  have HGX := Lib.hid hgx
  have x1 := hbx.c1
  clear hbx hgx hWx c00 c10
  go_cut [23] (fun s23 wy => ∃ (pm : Option Addr) (cm : Nat), s23 = .slice pm m cm ∧ BoxO wy w1.heap.size (.slice pl nl cl) (.slice pm m cm) ∧ wy.ownsRow (w1.heap.size + 1) 67 2 (.slice pm m cm) m (pcells P) ∧ w1.grownBy wy none)
  case first =>
    cases hq : q with
    | none =>
      subst hq
      have z0 := HQ0.out rfl
      subst z0
      have hm0 : m = 0 := by
        rcases Nat.eq_zero_or_pos m with e | e
        · exact e
        · obtain ⟨_, _, e, _⟩ := HPS.out.cell e; cases e
      subst hm0
      have hPn : P = [] := List.eq_nil_of_length_eq_zero HL.out
      subst hPn
      have xf := HBX.out.free 1
      go_wp2_with (at_builtin; refine wpList_append_own_none rfl _ _ 23 rfl (w1.heap.size + 1) 67 i0 2 Tryd.underlying23 hi0 (.slice none 0 0) 0 [] rfl (World.ownsRow_nil _ _ _ _) rfl ?_)
      go_meet
      exact ⟨none, 0, rfl, HBX.out.set1 _, World.ownsRow_nil _ _ _ _, grownBy_setCell_new _ HGX.out (Nat.le_refl _)⟩
    | some ad =>
      subst hq
      have hnews := Lib.hid (pairs_news HPS.out)
      have hl1 := HL.out
      go_wp2_with (at_builtin; refine wpList_append_own _ rfl _ _ 23 rfl (w1.heap.size + 1) 67 i0 (.agg #[.int .i64 0, .int .i64 0]) 2 16 Tryd.underlying23 hi0 hz0 hz1 hz2 rfl (by decide) (.slice none 0 0) 0 [] rfl (World.ownsRow_nil _ _ _ _) ad m d (pcells P) rfl (by rw [pcells_len, hl1]) hnews.out (pcells_one' _) (by unfold maxLen; omega) (by omega) (by omega) ?_; intro v' w2 hown' hgrow _; rw [Nat.zero_add, List.nil_append] at hown'; obtain ⟨p2, c2, rfl⟩ := ownsRow_sl hown'; have HBX2 := Lib.hid (HBX.out.calm hgrow); have xf := HBX2.out.free 1; have xc := HBX2.out.c1; have HO2 := Lib.hid hown'; have HG2 := Lib.hid (grownBy_trans HGX.out hgrow); clear hown' hgrow)
      go_meet
      exact ⟨p2, c2, rfl, HBX2.out.set1 _, ownsRow_set HO2.out (by show w1.heap.size < _; omega) _, grownBy_setCell_new _ HG2.out (Nat.le_refl _)⟩
  case rest =>
    obtain ⟨pm, cm, rfl, hbx, hown, hgx⟩ := hcut
    have HBX2 := Lib.hid hbx
    have HOW := Lib.hid hown
    have HGC := Lib.hid hgx
    have c10 := (HB1.out.calm (grownBy_trans HG.out hgx)).c1
    have HP2 := Lib.hid (H'.out.ps.calm (grownBy_trans HGW.out HG.out))
    clear hbx hown hgx x1 d00 HBX HGX HPS ex
    go_wp2
    generalize hgg : w1.heap.size = g at *
    have HGG := Lib.hid hgg
    clear hgg
    go_loopw [28] (fun i wr => ∃ (k : Nat) (pk : Option Addr) (ck : Nat), k ≤ m' ∧ i = .int .i64 k ∧ BoxO wr g (.slice pl nl cl) (.slice pk (m + k) ck) ∧ wr.ownsRow (g + 1) 67 2 (.slice pk (m + k) ck) (m + k) (pcells (P ++ shP n (P'.take k))) ∧ w1.grownBy wr none) (fun i _ => m' - (intOf i).toNat)
    case atStart => exact ⟨0, pm, cm, Nat.zero_le _, rfl, HBX2.out, by simpa [shP] using HOW.out, HGC.out⟩
    case round =>
      obtain ⟨k, pk, ck, hk, rfl, hbx, hown, hgr⟩ := hrel
      have HBK := Lib.hid hbx
      have HOK := Lib.hid hown
      have HGR := Lib.hid hgr
      have x1 := hbx.c1
      have hgl := hbx.lt
      clear HBX2 HOW HGC
      by_cases hkm : k < m'
      · have k0 : (0 : Int) ≤ k := by omega
        have k1 : (k : Int) < m' := by omega
        obtain ⟨bp, op, rfl, q1, q2, q3, hcp⟩ := (HP2.out.calm hgr).cell (by omega)
        obtain ⟨y0, y1⟩ := hcp k hkm
        have HI := Lib.hid (inI_of_all (k := k) HIN.out (by rw [HL'.out]; exact hkm))
        have HST := Lib.hid (shP_take (n := n) (P := P') (k := k) (by rw [HL'.out]; exact hkm))
        have d10 := (HB1.out.calm (grownBy_trans HG.out hgr)).c1
        clear hcp hbx hown hgr c10
        obtain ⟨x, hx⟩ : ∃ x, x = P'[k]?.getD (0, 0) := ⟨_, rfl⟩
        rw [← hx] at y0 y1 HI HST
        clear hx
        obtain ⟨xa, xb⟩ := x
        obtain ⟨a0, a1, a2, a3⟩ : 0 ≤ xa ∧ xa < n' ∧ 0 ≤ xb ∧ xb < n' := by have := HI.out; unfold inI at this; simp only at this; omega
        simp only at y0 y1
        have hgA := World.grownBy_alloc wr (.cells #[.int .i64 xa, .int .i64 xb] 67) none
        have hgB := World.grownBy_alloc (wr.alloc (.cells #[.int .i64 xa, .int .i64 xb] 67)) (.cells #[.int .i64 ((n : Int) + xa), .int .i64 ((n : Int) + xb)] 67) none
        have HGAB := Lib.hid (grownBy_trans hgA hgB)
        have HBK2 := Lib.hid (HBK.out.calm HGAB.out)
        have HOK2 := Lib.hid (ownsRow_calm HOK.out HGAB.out)
        have bx1 := (HBK.out.calm hgA).c1
        have hnw := cell_two_new (wr.alloc (.cells #[.int .i64 xa, .int .i64 xb] 67)) (.int .i64 ((n : Int) + xa)) (.int .i64 ((n : Int) + xb)) 67
        have HNW := Lib.hid hnw
        clear hgA hgB hnw
        go_wp2_with (at_builtin; refine wpList_append_own _ rfl _ _ 23 rfl (g + 1) 67 i0 (.agg #[.int .i64 0, .int .i64 0]) 2 16 Tryd.underlying23 hi0 hz0 hz1 hz2 rfl (by decide) (.slice pk (m + k) ck) (m + k) _ rfl HOK2.out ⟨wr.heap.size + 1, 0, none⟩ 1 1 [.int .i64 ((n : Int) + xa), .int .i64 ((n : Int) + xb)] rfl rfl (by simpa using HNW.out) (by simp [Value.oneCell']) (by unfold maxLen; omega) (by omega) (by simp only [World.size_alloc]; omega) ?_; intro v' w2 hown' hgrow _; obtain ⟨p2, c2, rfl⟩ := ownsRow_sl hown'; have HBX2 := Lib.hid (HBK2.out.other hgrow (own_ne HOK2.out)); have xf := HBX2.out.free 1; have xc := HBX2.out.c1; have HO2 := Lib.hid hown'; have HG2 := Lib.hid (ownsRow_new2 (grownBy_trans HGR.out HGAB.out) HOK2.out (by rw [HGG.out]; omega) hgrow); clear hown' hgrow)
        refine ⟨⟨k + 1, p2, c2, by omega, by go_num, HBX2.out.set1 _, ?_, grownBy_setCell_new _ HG2.out (by rw [HGG.out]; exact Nat.le_refl _)⟩, by simp [intOf]; omega⟩
        have := ownsRow_set HO2.out (p := ⟨g, 1, none⟩) (by show g < _; omega) (.slice p2 (m + k + 1) c2)
        rw [HST.out, ← List.append_assoc, pcells_snoc]
        exact this
      · obtain rfl : k = m' := by omega
        have x0 := hbx.c0
        have hb2 := HB2.out.calm (grownBy_trans HG.out hgr)
        have b0 := hb2.c0
        have b1 := hb2.c1
        have f0 := hb2.free 0
        have f1 := hb2.free 1
        have HB9 := Lib.hid hb2
        have HLL := Lib.hid (show (P ++ shP n P').length = m + k by rw [List.length_append, shP_len, HL.out, HL'.out])
        clear hbx hown hgr hb2
        go_wp2
        refine bodyPost_ret (v := .agg #[.slice pl nl cl, .slice pk (m + k) ck]) (by simp [results, Tryd.results39, go_sem, b0, b1]) rfl ⟨_, _, rfl, ?_, ?_⟩
        · have hp9 : wr.ownsRow (w.heap.size + 1 + 1 + 1) 67 2 (.slice pk (m + k) ck) (m + k) (pcells (P ++ shP n P')) := by
            have := HOK.out
            rw [← HL'.out, List.take_length, HL'.out] at this
            exact ownsRow_down this (by omega)
          have hl9 : wr.ownsRow (w.heap.size + 1 + 1 + 1) 9 1 (.slice pl nl cl) nl (scells LL) := ownsRow_down (ownsRow_calm HV.out HGR.out) (by omega)
          have hA : OwnObj wr (w.heap.size + 1 + 1 + 1) (.slice pl nl cl) (.slice pk (m + k) ck) LL (P ++ shP n P') := ⟨by rw [HNL.out]; exact hl9, by rw [HLL.out]; exact hp9⟩
          have hB := (hA.set (p := ⟨w.heap.size + 1 + 1, 0, none⟩) (by show w.heap.size + 1 + 1 < _; omega) (.slice pl nl cl)).set (p := ⟨w.heap.size + 1 + 1, 1, none⟩) (by show w.heap.size + 1 + 1 < _; omega) (.slice pk (m + k) ck)
          exact ⟨ownsRow_down hB.ls (by omega), ownsRow_down hB.ps (by omega)⟩
        · exact grownBy_setCell_new _ (grownBy_setCell_new _ (grownBy_trans HGW.out (grownBy_trans HG.out HGR.out)) (by show _ ≤ w.heap.size + 1 + 1; omega)) (by show _ ≤ w.heap.size + 1 + 1; omega)

end Go.Proofs.YtgpcakcjiaoimaaDoor
