/- Package push: tooLarge, behind, beside; Go's own slices.Grow and slices.Concat over strings. -/
import Derived.Test.YtihkjgiaajgkpaaDoorObja
import Derived.Test.YtihkjgiaajgkpaaDoorArra
import Derived.Lib.AppendZerosOnto
namespace Go.Proofs.YtihkjgiaajgkpaaDoor
open Go.RowKit Go.Shelf

/-- How many there are in the first k together. -/
def sumN (N : Nat → Nat) : Nat → Nat
  | 0 => 0
  | k + 1 => sumN N k + N k
theorem sumN_le {N : Nat → Nat} {m : Nat} (h : ∀ k, k < m → N k ≤ 1000000) : ∀ k, k ≤ m → sumN N k ≤ k * 1000000
  | 0, _ => Nat.le_refl _
  | k + 1, hk => by
    have h1 := sumN_le h k (by omega)
    have h2 := h k (by omega)
    show sumN N k + N k ≤ _
    omega

set_option maxRecDepth 20000 in
set_option maxHeartbeats 1000000 in
theorem tooLarge_c (m b : Nat) (P Q : Nat → Option Addr) (N C M D : Nat → Nat) (r : Bool) (w : World) (hm : m ≤ 2) (hN : ∀ k, k < m → N k ≤ 1000000)
    (hc : ∀ k, k < m → w.cell? ⟨b, k * 2, none⟩ = some (.slice (P k) (N k) (C k)) ∧ w.cell? ⟨b, k * 2 + 1, none⟩ = some (.slice (Q k) (M k) (D k))) (hb : b < w.heap.size) (hr : decide (40 < sumN N m) = r) :
    Calls Tryd.prog 30 #[.slice (some ⟨b, 0, none⟩) m m] w fun e w' => e = .returned (.bool r) ∧ w.grownBy w' none := by
  have HC := Lib.hid hc
  have HN := Lib.hid hN
  have HS := Lib.hid (sumN_le hN)
  have HR := Lib.hid hr
  clear hc hN hr
  go_enter Tryd.func30, Tryd.ntmps30
  go_wp2
  go_loopw [3, 8] (fun s i wr => ∃ k : Nat, k ≤ m ∧ i = .int .i64 k ∧ s = .int .i64 (sumN N k : Nat) ∧ w.grownBy wr none) (fun _ i _ => m - (intOf i).toNat)
  case atStart => exact ⟨0, Nat.zero_le _, rfl, rfl, grownBy_refl _ _⟩
  case round =>
    obtain ⟨k, hk, rfl, rfl, hgr⟩ := hrel
    have HGR := Lib.hid hgr
    by_cases hkm : k < m
    · have k0 : (0 : Int) ≤ k := by omega
      have k1 : (k : Int) < m := by omega
      obtain ⟨c0, c1⟩ := HC.out k hkm
      have hbk : wr.heap[b]? = w.heap[b]? := hgr.block b hb (by simp)
      have d0 := (World.cell?_of_block (a := ⟨b, k * 2, none⟩) hbk).trans c0
      have d1 := (World.cell?_of_block (a := ⟨b, k * 2 + 1, none⟩) hbk).trans c1
      have s1 := HS.out k hk
      have s2 := HN.out k hkm
      have HSS : Hid (sumN N (k + 1) = sumN N k + N k) := Lib.hid rfl
      clear c0 c1 hgr hbk
      generalize sumN N k = s at *
      generalize N k = x at *
      generalize P k = y at *
      generalize C k = z at *
      generalize Q k = y2 at *
      generalize M k = x2 at *
      generalize D k = z2 at *
      go_wp2
      exact ⟨⟨k + 1, by omega, by go_num, by rw [HSS.out]; go_num, grownBy_trans HGR.out (World.grownBy_alloc wr _ none)⟩, by simp [intOf]; omega⟩
    · obtain rfl : k = m := by omega
      have s1 := HS.out k hk
      have hrr := HR.out
      generalize sumN N k = s at *
      clear hgr
      cases r
      · have t0 : ¬ ((s : Int) > 40) := by simp at hrr; omega
        go_wp2
        go_ret
        exact ⟨rfl, HGR.out⟩
      · have t0 : (s : Int) > 40 := by simp at hrr; omega
        go_wp2
        go_ret
        exact ⟨rfl, HGR.out⟩

/-- Grow of nothing by nothing. -/
theorem growS_zero (w : World) : Calls Tryd.prog 82 #[.slice none 0 0, .int .i64 0] w fun e w' => e = .returned (.slice none 0 0) ∧ w' = w := by
  go_enter Tryd.func82, Tryd.ntmps82
  go_wp2
  go_ret
  exact ⟨rfl, rfl⟩

set_option maxRecDepth 20000 in
set_option maxHeartbeats 1000000 in
/-- Grow of nothing by n: a row of its own of which nothing is used. -/
theorem growS_pos (n : Nat) (hn : 0 < n) (hs : n ≤ 2000000) (w : World) : Calls Tryd.prog 82 #[.slice none 0 0, .int .i64 n] w fun e w' =>
    ∃ p c, e = .returned (.slice (some p) 0 c) ∧ w'.ownsRow w.heap.size 9 1 (.slice (some p) 0 c) 0 [] ∧ w.grownBy w' none := by
  obtain ⟨i0, hi0, hz0, hz1, hz2⟩ := info_parts Tryd.info9
  have hold : (Builtin.firstCells i0.size 0 (.slice none 0 0)).run Tryd.prog w.drew = .ok ([] : List Value).toArray w.drew := run_firstCells_none w.drew i0.size 0 0 0
  have hrz := fun ty => Lib.run_append_grow_zeros (P := Tryd.prog) w 22 3 ty 9 i0 (.string .empty) .i64 .i64 Tryd.underlying22 Tryd.underlying3 hi0 hz0 none 0 0 [] hold n hn (by omega) (by omega) (by omega)
    (by rw [hz2]; omega) (growslice_fits (by omega) (by rw [hz2]; omega))
  rw [Nat.zero_add] at hrz
  have hGn : n ≤ grownCap w n 0 9 := grownCap_ge w _ _ _
  have hG63 : grownCap w n 0 9 ≤ 9223372036854775807 := by
    have := grownCap_le_maxLen w n 0 9 (by unfold maxLen; omega)
    unfold maxLen at this
    omega
  have hGn0 := hGn
  have HP : Hid (∀ G W, G = grownCap w n 0 9 → W = (w.alloc (.cells (Builtin.zeroCells #[.string .empty] n ++ Builtin.zeroCells #[.string .empty] (G - n)) 9)).drew →
      W.ownsRow w.heap.size 9 1 (.slice (some ⟨w.heap.size, 0, none⟩) 0 G) 0 [] ∧ w.grownBy W none) := Lib.hid (by
    rintro G W hG rfl
    rw [← hG] at hGn0
    refine ⟨⟨rfl, .inr ⟨w.heap.size, G, _, rfl, Nat.le_refl _, heap_alloc_new w _, Nat.zero_le _, ?_, ?_, rfl⟩⟩, grownBy_trans (World.grownBy_alloc w _ none) (grownBy_drewN _ 1 none)⟩
    · rw [hG]; exact grownCap_le_maxLen w n 0 9 (by unfold maxLen; omega)
    · simp [size_zeroCells]; omega)
  obtain ⟨G, hG⟩ : ∃ G, G = grownCap w n 0 9 := ⟨_, rfl⟩
  rw [← hG] at hrz hGn hG63
  have HG := Lib.hid hG
  have n0 : ¬ ((n : Int) < 0) := by omega
  have n1 : (n : Int) > 0 := by omega
  clear hold hG hGn0
  go_enter Tryd.func82, Tryd.ntmps82
  go_wp2_with (at_builtin; refine Lib.wpList_append_run _ rfl _ _ _ _ rfl _ _ rfl rfl _ _ (hrz _) ?_)
  all_goals
    go_ret
    exact ⟨_, _, rfl, (HP.out _ _ HG.out rfl).1, (HP.out _ _ HG.out rfl).2⟩

theorem ownsRow_sl {w : World} {base : Nat} {e : TypeId} {size n : Nat} {v : Value} {xs : List Value} (h : w.ownsRow base e size v n xs) : ∃ p c, v = .slice p n c := by
  rcases h.2 with ⟨e1, e2⟩ | ⟨g, cap, cur, e1, _⟩
  · exact ⟨none, 0, by rw [e1, e2]⟩
  · exact ⟨_, _, e1⟩
/-- What turns a new row alone makes new memory alone. -/
theorem ownsRow_new {w wr w2 : World} {e : TypeId} {size n : Nat} {v : Value} {xs : List Value} (h : w.grownBy wr none) (ho : wr.ownsRow w.heap.size e size v n xs) (hg : wr.grownBy w2 v.ownBlock) : w.grownBy w2 none := by
  rcases ho.2 with ⟨rfl, _⟩ | ⟨g, cap, cur, rfl, h1, _⟩
  · exact grownBy_trans h hg
  · exact grownBy_new h hg h1

/-- The first k of them, one behind the other. -/
def joinS (Ls : Nat → List ByteArray) : Nat → List ByteArray
  | 0 => []
  | k + 1 => joinS Ls k ++ Ls k
theorem scells_app (a b : List ByteArray) : scells (a ++ b) = scells a ++ scells b := by simp [scells]
theorem scells_len (a : List ByteArray) : (scells a).length = a.length := by simp [scells]

set_option maxRecDepth 20000 in
set_option maxHeartbeats 2000000 in
/-- Concat: all strings in a row of their own. -/
theorem concat_c (m b lo hi : Nat) (P : Nat → Option Addr) (N C : Nat → Nat) (Ls : Nat → List ByteArray) (w : World) (hm : m ≤ 2) (hN : ∀ k, k < m → N k ≤ 1000000)
    (hc : ∀ k, k < m → w.cell? ⟨b, k, none⟩ = some (.slice (P k) (N k) (C k)) ∧ StrsAt w lo hi (P k) (N k) (Ls k) ∧ (P k = none → C k = 0)) (hb : b < w.heap.size) :
    Calls Tryd.prog 56 #[.slice (some ⟨b, 0, none⟩) m m] w (StrsPost (joinS Ls m) w) := by
  obtain ⟨i0, hi', hz0, hz1, hz2⟩ := info_parts Tryd.info9
  have HC := Lib.hid hc
  have HN := Lib.hid hN
  have HS := Lib.hid (sumN_le hN)
  have HJ : Hid (∀ k, k ≤ m → (joinS Ls k).length = sumN N k) := Lib.hid (by
    intro k
    induction k with
    | zero => intro _; rfl
    | succ k ih =>
      intro hk
      show (joinS Ls k ++ Ls k).length = sumN N k + N k
      rw [List.length_append, ih (by omega), (hc k (by omega)).2.1.len])
  clear hc hN
  go_enter Tryd.func56, Tryd.ntmps56
  go_wp2
  go_loopw [3, 11] (fun s i wr => ∃ k : Nat, k ≤ m ∧ i = .int .i64 k ∧ s = .int .i64 (sumN N k : Nat) ∧ wr = w) (fun _ i _ => m - (intOf i).toNat)
  case atStart => exact ⟨0, Nat.zero_le _, rfl, rfl, rfl⟩
  case round =>
    obtain ⟨k, hk, rfl, rfl, hwr⟩ := hrel
    subst wr
    by_cases hkm : k < m
    · have k0 : (0 : Int) ≤ k := by omega
      have k1 : (k : Int) < m := by omega
      have c0 := (HC.out k hkm).1
      have s1 := HS.out k hk
      have s2 := HN.out k hkm
      have HSS : Hid (sumN N (k + 1) = sumN N k + N k) := Lib.hid rfl
      generalize sumN N k = s at *
      generalize N k = x at *
      generalize P k = y at *
      generalize C k = z at *
      have s3 : ¬ ((s : Int) + x < 0) := by omega
      go_wp2
      exact ⟨⟨k + 1, by omega, by go_num, by rw [HSS.out]; go_num, trivial⟩, by simp [intOf]; omega⟩
    · obtain rfl : k = m := by omega
      have HS1 := Lib.hid (HS.out k hk)
      have HGROW : Hid (∃ u, Calls Tryd.prog 82 #[.slice none 0 0, .int .i64 (sumN N k : Nat)] w fun e w' => ∃ v, e = .returned v ∧ (v = .slice none 0 0 ∨ ∃ p c, v = .slice (some p) 0 c) ∧ w'.ownsRow w.heap.size 9 1 v 0 [] ∧ w.grownBy w' none ∧ u = true) := Lib.hid (by
        refine ⟨true, ?_⟩
        rcases Nat.eq_zero_or_pos (sumN N k) with e | e
        · rw [e]
          refine (growS_zero w).mono ?_
          rintro e w' ⟨rfl, rfl⟩
          exact ⟨_, rfl, .inl rfl, World.ownsRow_nil _ _ _ _, grownBy_refl _ _, rfl⟩
        · refine (growS_pos _ e (by have := HS1.out; omega) w).mono ?_
          rintro e w' ⟨p, c, rfl, h1, h2⟩
          exact ⟨_, rfl, .inr ⟨_, _, rfl⟩, h1, h2, rfl⟩)
      obtain ⟨_, HGROW⟩ := HGROW.out
      generalize hsm : sumN N k = s at *
      have HSM := Lib.hid hsm
      clear hsm
      go_wp2_with fail
      refine HGROW.mono ?_
      rintro e w1 ⟨v, rfl, hv, how, hg1, _⟩
      have HOW := Lib.hid how
      have HG1 := Lib.hid hg1
      have hv0 : ∃ pv cv, v = .slice pv 0 cv := by rcases hv with rfl | ⟨p, c, rfl⟩ <;> exact ⟨_, _, rfl⟩
      obtain ⟨pv, cv, rfl⟩ := hv0
      clear how hg1 hv
      go_wp2
      go_loopw [6, 27] (fun o i wq => ∃ (j : Nat) (po : Option Addr) (co : Nat), j ≤ k ∧ i = .int .i64 j ∧ o = .slice po (sumN N j) co ∧ wq.ownsRow w.heap.size 9 1 (.slice po (sumN N j) co) (sumN N j) (scells (joinS Ls j)) ∧ w.grownBy wq none) (fun _ i _ => k - (intOf i).toNat)
      case atStart => exact ⟨0, pv, cv, Nat.zero_le _, rfl, rfl, HOW.out, HG1.out⟩
      case round =>
        obtain ⟨j, po, co, hj, rfl, rfl, how, hgr⟩ := hrel
        have HOW := Lib.hid how
        have HGR := Lib.hid hgr
        have hsz := hgr.size
        clear how hgr HG1
        by_cases hjk : j < k
        · have j0 : (0 : Int) ≤ j := by omega
          have j1 : (j : Int) < k := by omega
          obtain ⟨c0, hst, hnil⟩ := HC.out j hjk
          have c1 := (World.cell?_of_block (a := ⟨b, j, none⟩) (HGR.out.block b hb (by simp))).trans c0
          have HST := Lib.hid (hst.calm HGR.out)
          have HLEN := Lib.hid hst.len
          have s1 := HS.out j (by omega)
          have s2 := HN.out j hjk
          have HSS : Hid (sumN N (j + 1) = sumN N j + N j) := Lib.hid rfl
          have HJS : Hid (scells (joinS Ls (j + 1)) = scells (joinS Ls j) ++ scells (Ls j)) := Lib.hid (by rw [← scells_app]; rfl)
          clear c0 hst
          cases hp : P j with
          | none =>
            rw [hp] at c1 HST hnil
            have z0 := hnil rfl
            have hn0 : N j = 0 := by
              rcases Nat.eq_zero_or_pos (N j) with e | e
              · exact e
              · obtain ⟨_, _, e, _⟩ := HST.out.cell e; cases e
            rw [z0, hn0] at c1
            rw [hn0] at HSS HLEN
            have hnl : Ls j = [] := List.eq_nil_of_length_eq_zero HLEN.out
            rw [hnl] at HJS
            clear hnil
            go_wp2_with (at_builtin; refine wpList_append_own_none rfl _ _ 22 rfl w.heap.size 9 i0 1 Tryd.underlying22 hi' (.slice po (sumN N j) co) (sumN N j) (scells (joinS Ls j)) rfl HOW.out rfl ?_)
            go_wp2
            refine ⟨⟨j + 1, po, co, by omega, by go_num, by rw [HSS.out, Nat.add_zero], ?_, HGR.out⟩, by simp [intOf]; omega⟩
            rw [HSS.out, HJS.out, Nat.add_zero]
            simpa [scells] using HOW.out
          | some ad =>
            rw [hp] at c1 HST
            have hnews := Lib.hid (strs_news HST.out)
            have hl1 := HLEN.out
            clear hnil
            go_wp2_with (at_builtin; refine wpList_append_own _ rfl _ _ 22 rfl w.heap.size 9 i0 (.string .empty) 1 16 Tryd.underlying22 hi' hz0 hz1 hz2 rfl (by decide) (.slice po (sumN N j) co) (sumN N j) (scells (joinS Ls j)) rfl HOW.out ad (N j) (C j) (scells (Ls j)) rfl (by rw [scells_len, hl1]; omega) hnews.out (scells_one _) (by unfold maxLen; omega) (by omega) hsz ?_; intro v' w2 hown' hgrow _)
            obtain ⟨p2, c2, rfl⟩ := ownsRow_sl hown'
            have HO2 := Lib.hid hown'
            have HG2 := Lib.hid hgrow
            clear hown' hgrow
            go_wp2
            refine ⟨⟨j + 1, p2, c2, by omega, by go_num, by rw [HSS.out], ?_, ownsRow_new HGR.out HOW.out HG2.out⟩, by simp [intOf]; omega⟩
            rw [HSS.out, HJS.out]
            exact HO2.out
        · obtain rfl : j = k := by omega
          have j1 : ¬ ((j : Int) < j) := by omega
          have HLJ := Lib.hid (HJ.out j (Nat.le_refl _))
          go_wp2
          go_ret
          exact ⟨_, rfl, by rw [HLJ.out]; exact HOW.out, HGR.out⟩

/-- The same places, with n others ahead of them. -/
def shL (n : Nat) (f : List Int) : List Int := f.map fun z => (n : Int) + z
theorem shL_len (n : Nat) (f : List Int) : (shL n f).length = f.length := by simp [shL]
def shK (n : Nat) (f : List Int) (k : Nat) : List Int := shL n (f.take k) ++ List.replicate (f.length - k) 0
theorem shK_len {n : Nat} {f : List Int} {k : Nat} (h : k ≤ f.length) : (shK n f k).length = f.length := by simp [shK, shL]; omega
theorem shK_zero (n : Nat) (f : List Int) : shK n f 0 = List.replicate f.length 0 := by simp [shK, shL]
theorem shK_end (n : Nat) (f : List Int) : shK n f f.length = shL n f := by simp [shK]
theorem shK_succ {n : Nat} {f : List Int} {k : Nat} (h : k < f.length) : (shK n f k).set k ((n : Int) + f[k]?.getD 0) = shK n f (k + 1) := by
  unfold shK
  have e : f.length - k = (f.length - (k + 1)) + 1 := by omega
  have hl : (shL n (f.take k)).length = k := by rw [shL_len, List.length_take]; omega
  rw [List.set_append_right _ _ (by omega), hl, Nat.sub_self, e, List.replicate_succ, List.set_cons_zero]
  have : f.take (k + 1) = f.take k ++ [f[k]?.getD 0] := by rw [List.take_add_one, List.getElem?_eq_getElem h]; rfl
  rw [this]
  simp [shL]
/-- Places that are few. -/
def tameL (f : List Int) : Prop := ∀ z ∈ f, 0 ≤ z ∧ z ≤ 1000000
theorem tameL_get {f : List Int} (h : tameL f) {k : Nat} (hk : k < f.length) : 0 ≤ f[k]?.getD 0 ∧ f[k]?.getD 0 ≤ 1000000 := by
  rw [List.getElem?_eq_getElem hk]
  exact h _ (List.getElem_mem hk)

set_option maxRecDepth 20000 in
set_option maxHeartbeats 1000000 in
theorem behind_c (n : Nat) (p : Option Addr) (m c lo hi : Nat) (f : List Int) (w : World) (h : ZsAt w lo hi p m f) (hn : n ≤ 1000000) (hm : m ≤ 1000000) (hf : tameL f) :
    Calls Tryd.prog 33 #[.int .i64 n, .slice p m c] w (RowPost (shL n f) w) := by
  have hmk := run_make_row' (P := Tryd.prog) 26 3 (.int .i64 0) 8 Tryd.underlying26 Tryd.infoZ3 rfl .i64 .i64 m (by omega) (by omega) w
  have HL := Lib.hid h.len
  have HR0 : Hid (RowZ (w.alloc (.cells (madeCells #[.int .i64 0] m) 3)) w.heap.size (shK n f 0)) := Lib.hid (by rw [shK_zero, HL.out]; exact rowZ_made w m)
  have HG0 := Lib.hid (World.grownBy_alloc w (.cells (madeCells #[.int .i64 0] m) 3) none)
  have H := Lib.hid h
  have HF := Lib.hid hf
  clear h hf
  go_enter Tryd.func33, Tryd.ntmps33
  go_wp2
  generalize hgb : w.heap.size = gb at *
  have HGB := Lib.hid hgb
  clear hgb
  go_loopw [13] (fun i wr => ∃ k : Nat, k ≤ m ∧ i = .int .i64 k ∧ RowZ wr gb (shK n f k) ∧ w.grownBy wr none) (fun i _ => m - (intOf i).toNat)
  case atStart => exact ⟨0, Nat.zero_le _, rfl, HR0.out, HG0.out⟩
  case round =>
    obtain ⟨k, hk, rfl, hrow, hgr⟩ := hrel
    by_cases hkm : k < m
    · have k0 : (0 : Int) ≤ k := by omega
      have k1 : (k : Int) < m := by omega
      obtain ⟨bf, of', rfl, s1, s2, s3, hcf⟩ := (H.out.calm hgr).cell (by omega)
      have cf := hcf k hkm
      obtain ⟨z0, z1⟩ := tameL_get HF.out (k := k) (by rw [HL.out]; exact hkm)
      have hc := hrow.cell (k := k) (by rw [shK_len (by rw [HL.out]; exact hk), HL.out]; exact hkm)
      have hfz := hrow.free k
      have HSET := Lib.hid (hrow.set (k := k) ((n : Int) + f[k]?.getD 0))
      have HST := Lib.hid (shK_succ (n := n) (f := f) (k := k) (by rw [HL.out]; exact hkm))
      have HGS := Lib.hid (grownBy_new hgr (grownBy_setCell wr ⟨gb, k, none⟩ (.int .i64 ((n : Int) + f[k]?.getD 0))) (by rw [HGB.out]; exact Nat.le_refl _))
      clear hrow hgr HR0 HG0 hcf
      generalize (shK n f k)[k]?.getD 0 = v at *
      generalize f[k]?.getD 0 = z at *
      go_wp2
      exact ⟨⟨k + 1, by omega, by go_num, by rw [← HST.out]; exact HSET.out, HGS.out⟩, by simp [intOf]; omega⟩
    · obtain rfl : k = m := by omega
      have HROW := Lib.hid hrow
      have HGR := Lib.hid hgr
      clear hrow hgr
      go_wp2
      go_ret
      refine ⟨gb, by rw [shL_len, HL.out]; rfl, by rw [HGB.out]; exact Nat.le_refl _, ?_, HGR.out⟩
      have := HROW.out
      rw [← HL.out, shK_end] at this
      exact this

end Go.Proofs.YtihkjgiaajgkpaaDoor
