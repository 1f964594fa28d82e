/- Package patch: concat, sort, compact, Paths, Needs. -/
import Derived.Test.YtcfhnfnhdhloiaaGreatPue
import Derived.Lib.AppendZerosOnto
import Derived.Test.YtcfhnfnhdhloiaaGreatPatP
import Derived.Test.YtcfhnfnhdhloiaaGreatShelg
import Derived.Test.YtcfhnfnhdhloiaaGreatRefPa
import Derived.Sort.OwnSorted
import Derived.Deep.AppendLies
/-! Package patch: Go's own slices.Grow, slices.Concat over strings. -/
namespace Go.Proofs.YtcfhnfnhdhloiaaGreat
open Go.RowKit

/-- How many there are in the first k together. -/
def sumN (N : Nat → Nat) : Nat → Nat
  | 0 => 0
  | k + 1 => sumN N k + N k
theorem sumN_le {N : Nat → Nat} {m : Nat} (h : ∀ k, k < m → N k ≤ 100000) : ∀ k, k ≤ m → sumN N k ≤ k * 100000
  | 0, _ => Nat.le_refl _
  | k + 1, hk => by
    have h1 := sumN_le h k (by omega)
    have h2 := h k (by omega)
    show sumN N k + N k ≤ _
    omega

/-- Grow of nothing by nothing. -/
theorem growS_zero (w : World) : Calls Tryz.prog 70 #[.slice none 0 0, .int .i64 0] w fun e w' => e = .returned (.slice none 0 0) ∧ w' = w := by
  go_enter Tryz.func70, Tryz.ntmps70
  go_wp2
  go_ret
  exact ⟨rfl, rfl⟩

set_option maxRecDepth 20000 in
set_option maxHeartbeats 1000000 in
/-- Grow of nothing by n: a row of its own of which nothing is used. -/
theorem growS_pos (n : Nat) (hn : 0 < n) (hs : n ≤ 2000000) (w : World) : Calls Tryz.prog 70 #[.slice none 0 0, .int .i64 n] w fun e w' =>
    ∃ p c, e = .returned (.slice (some p) 0 c) ∧ w'.ownsRow w.heap.size 9 1 (.slice (some p) 0 c) 0 [] ∧ w.grownBy w' none := by
  obtain ⟨i0, hi0, hz0, hz1, hz2⟩ := info_parts infoTx
  have hold : (Builtin.firstCells i0.size 0 (.slice none 0 0)).run Tryz.prog w.drew = .ok ([] : List Value).toArray w.drew := run_firstCells_none w.drew i0.size 0 0 0
  have hrz := fun ty => Lib.run_append_grow_zeros (P := Tryz.prog) w 24 3 ty 9 i0 (.string .empty) .i64 .i64 Tryz.underlying24 Tryz.underlying3 hi0 hz0 none 0 0 [] hold n hn (by omega) (by omega) (by omega)
    (by rw [hz2]; omega) (growslice_fits (by omega) (by rw [hz2]; omega))
  rw [Nat.zero_add] at hrz
  have hGn : n ≤ grownCap w n 0 9 := grownCap_ge w _ _ _
  have hG63 : grownCap w n 0 9 ≤ 9223372036854775807 := by
    have := grownCap_le_maxLen w n 0 9 (by unfold maxLen; omega)
    unfold maxLen at this
    omega
  have hGn0 := hGn
  have HP : Hid (∀ G W, G = grownCap w n 0 9 → W = (w.alloc (.cells (Builtin.zeroCells #[.string .empty] n ++ Builtin.zeroCells #[.string .empty] (G - n)) 9)).drew →
      W.ownsRow w.heap.size 9 1 (.slice (some ⟨w.heap.size, 0, none⟩) 0 G) 0 [] ∧ w.grownBy W none) := Lib.hid (by
    rintro G W hG rfl
    rw [← hG] at hGn0
    refine ⟨⟨rfl, .inr ⟨w.heap.size, G, _, rfl, Nat.le_refl _, heap_alloc_new w _, Nat.zero_le _, ?_, ?_, rfl⟩⟩, grownBy_trans (World.grownBy_alloc w _ none) (grownBy_drewN _ 1 none)⟩
    · rw [hG]; exact grownCap_le_maxLen w n 0 9 (by unfold maxLen; omega)
    · simp [size_zeroCells]; omega)
  obtain ⟨G, hG⟩ : ∃ G, G = grownCap w n 0 9 := ⟨_, rfl⟩
  rw [← hG] at hrz hGn hG63
  have HG := Lib.hid hG
  have n0 : ¬ ((n : Int) < 0) := by omega
  have n1 : (n : Int) > 0 := by omega
  clear hold hG hGn0
  go_enter Tryz.func70, Tryz.ntmps70
  go_wp2_with (at_builtin; refine Lib.wpList_append_run _ rfl _ _ _ _ rfl _ _ rfl rfl _ _ (hrz _) ?_)
  all_goals
    go_ret
    exact ⟨_, _, rfl, (HP.out _ _ HG.out rfl).1, (HP.out _ _ HG.out rfl).2⟩

/-- The first k of them, one behind the other. -/
def catS (Ls : Nat → List ByteArray) : Nat → List ByteArray
  | 0 => []
  | k + 1 => catS Ls k ++ Ls k

set_option maxRecDepth 20000 in
set_option maxHeartbeats 2000000 in
/-- Concat: all strings in a row of their own. -/
theorem concat_c (m b lo hi : Nat) (P : Nat → Option Addr) (N C : Nat → Nat) (Ls : Nat → List ByteArray) (w : World) (hm : m ≤ 3) (hN : ∀ k, k < m → N k ≤ 100000)
    (hc : ∀ k, k < m → w.cell? ⟨b, k, none⟩ = some (.slice (P k) (N k) (C k)) ∧ StrsAt w lo hi (P k) (N k) (Ls k) ∧ (P k = none → C k = 0)) (hb : b < w.heap.size) :
    Calls Tryz.prog 37 #[.slice (some ⟨b, 0, none⟩) m m] w (StrsPost (catS Ls m) w) := by
  obtain ⟨i0, hi', hz0, hz1, hz2⟩ := info_parts infoTx
  have HC := Lib.hid hc
  have HN := Lib.hid hN
  have HS := Lib.hid (sumN_le hN)
  have HJ : Hid (∀ k, k ≤ m → (catS Ls k).length = sumN N k) := Lib.hid (by
    intro k
    induction k with
    | zero => intro _; rfl
    | succ k ih =>
      intro hk
      show (catS Ls k ++ Ls k).length = sumN N k + N k
      rw [List.length_append, ih (by omega), (hc k (by omega)).2.1.len])
  clear hc hN
  go_enter Tryz.func37, Tryz.ntmps37
  go_wp2
  go_loopw [3, 11] (fun s i wr => ∃ k : Nat, k ≤ m ∧ i = .int .i64 k ∧ s = .int .i64 (sumN N k : Nat) ∧ wr = w) (fun _ i _ => m - (intOf i).toNat)
  case atStart => exact ⟨0, Nat.zero_le _, rfl, rfl, rfl⟩
  case round =>
    obtain ⟨k, hk, rfl, rfl, hwr⟩ := hrel
    subst wr
    by_cases hkm : k < m
    · have k0 : (0 : Int) ≤ k := by omega
      have k1 : (k : Int) < m := by omega
      have c0 := (HC.out k hkm).1
      have s1 := HS.out k hk
      have s2 := HN.out k hkm
      have HSS : Hid (sumN N (k + 1) = sumN N k + N k) := Lib.hid rfl
      generalize sumN N k = s at *
      generalize N k = x at *
      generalize P k = y at *
      generalize C k = z at *
      have s3 : ¬ ((s : Int) + x < 0) := by omega
      go_wp2
      exact ⟨⟨k + 1, by omega, by go_num, by rw [HSS.out]; go_num, trivial⟩, by simp [intOf]; omega⟩
    · obtain rfl : k = m := by omega
      have HS1 := Lib.hid (HS.out k hk)
      have HGROW : Hid (∃ u, Calls Tryz.prog 70 #[.slice none 0 0, .int .i64 (sumN N k : Nat)] w fun e w' => ∃ v, e = .returned v ∧ (v = .slice none 0 0 ∨ ∃ p c, v = .slice (some p) 0 c) ∧ w'.ownsRow w.heap.size 9 1 v 0 [] ∧ w.grownBy w' none ∧ u = true) := Lib.hid (by
        refine ⟨true, ?_⟩
        rcases Nat.eq_zero_or_pos (sumN N k) with e | e
        · rw [e]
          refine (growS_zero w).mono ?_
          rintro e w' ⟨rfl, rfl⟩
          exact ⟨_, rfl, .inl rfl, World.ownsRow_nil _ _ _ _, grownBy_refl _ _, rfl⟩
        · refine (growS_pos _ e (by have := HS1.out; omega) w).mono ?_
          rintro e w' ⟨p, c, rfl, h1, h2⟩
          exact ⟨_, rfl, .inr ⟨_, _, rfl⟩, h1, h2, rfl⟩)
      obtain ⟨_, HGROW⟩ := HGROW.out
      generalize hsm : sumN N k = s at *
      have HSM := Lib.hid hsm
      clear hsm
      go_wp2_with fail
      refine HGROW.mono ?_
      rintro e w1 ⟨v, rfl, hv, how, hg1, _⟩
      have HOW := Lib.hid how
      have HG1 := Lib.hid hg1
      have hv0 : ∃ pv cv, v = .slice pv 0 cv := by rcases hv with rfl | ⟨p, c, rfl⟩ <;> exact ⟨_, _, rfl⟩
      obtain ⟨pv, cv, rfl⟩ := hv0
      clear how hg1 hv
      go_wp2
      go_loopw [6, 27] (fun o i wq => ∃ (j : Nat) (po : Option Addr) (co : Nat), j ≤ k ∧ i = .int .i64 j ∧ o = .slice po (sumN N j) co ∧ wq.ownsRow w.heap.size 9 1 (.slice po (sumN N j) co) (sumN N j) (scells (catS Ls j)) ∧ w.grownBy wq none) (fun _ i _ => k - (intOf i).toNat)
      case atStart => exact ⟨0, pv, cv, Nat.zero_le _, rfl, rfl, HOW.out, HG1.out⟩
      case round =>
        obtain ⟨j, po, co, hj, rfl, rfl, how, hgr⟩ := hrel
        have HOW := Lib.hid how
        have HGR := Lib.hid hgr
        have hsz := hgr.size
        clear how hgr HG1
        by_cases hjk : j < k
        · have j0 : (0 : Int) ≤ j := by omega
          have j1 : (j : Int) < k := by omega
          obtain ⟨c0, hst, hnil⟩ := HC.out j hjk
          have c1 := (World.cell?_of_block (a := ⟨b, j, none⟩) (HGR.out.block b hb (by simp))).trans c0
          have HST := Lib.hid (hst.calm HGR.out)
          have HLEN := Lib.hid hst.len
          have s1 := HS.out j (by omega)
          have s2 := HN.out j hjk
          have HSS : Hid (sumN N (j + 1) = sumN N j + N j) := Lib.hid rfl
          have HJS : Hid (scells (catS Ls (j + 1)) = scells (catS Ls j) ++ scells (Ls j)) := Lib.hid (by rw [← scells_app]; rfl)
          clear c0 hst
          cases hp : P j with
          | none =>
            rw [hp] at c1 HST hnil
            have z0 := hnil rfl
            have hn0 : N j = 0 := by
              rcases Nat.eq_zero_or_pos (N j) with e | e
              · exact e
              · obtain ⟨_, _, e, _⟩ := HST.out.cell e; cases e
            rw [z0, hn0] at c1
            rw [hn0] at HSS HLEN
            have hnl : Ls j = [] := List.eq_nil_of_length_eq_zero HLEN.out
            rw [hnl] at HJS
            clear hnil
            go_wp2_with (at_builtin; refine wpList_append_own_none rfl _ _ 24 rfl w.heap.size 9 i0 1 Tryz.underlying24 hi' (.slice po (sumN N j) co) (sumN N j) (scells (catS Ls j)) rfl HOW.out rfl ?_)
            go_wp2
            refine ⟨⟨j + 1, po, co, by omega, by go_num, by rw [HSS.out, Nat.add_zero], ?_, HGR.out⟩, by simp [intOf]; omega⟩
            rw [HSS.out, HJS.out, Nat.add_zero]
            simpa [scells] using HOW.out
          | some ad =>
            rw [hp] at c1 HST
            have hnews := Lib.hid (strs_news HST.out)
            have hl1 := HLEN.out
            clear hnil
            go_wp2_with (at_builtin; refine wpList_append_own _ rfl _ _ 24 rfl w.heap.size 9 i0 (.string .empty) 1 16 Tryz.underlying24 hi' hz0 hz1 hz2 rfl (by decide) (.slice po (sumN N j) co) (sumN N j) (scells (catS Ls j)) rfl HOW.out ad (N j) (C j) (scells (Ls j)) rfl (by rw [scells_lenP, hl1]; omega) hnews.out (scells_oneP _) (by unfold maxLen; omega) (by omega) hsz ?_; intro v' w2 hown' hgrow _)
            obtain ⟨p2, c2, rfl⟩ := ownsRow_sl hown'
            have HO2 := Lib.hid hown'
            have HG2 := Lib.hid hgrow
            clear hown' hgrow
            go_wp2
            refine ⟨⟨j + 1, p2, c2, by omega, by go_num, by rw [HSS.out], ?_, ownsRow_new HGR.out HOW.out HG2.out⟩, by simp [intOf]; omega⟩
            rw [HSS.out, HJS.out]
            exact HO2.out
        · obtain rfl : j = k := by omega
          have j1 : ¬ ((j : Int) < j) := by omega
          have HLJ := Lib.hid (HJ.out j (Nat.le_refl _))
          go_wp2
          go_ret
          exact ⟨_, rfl, by rw [HLJ.out]; exact HOW.out, HGR.out⟩


end Go.Proofs.YtcfhnfnhdhloiaaGreat
/-! Package patch: Paths. -/
namespace Go.Proofs.YtcfhnfnhdhloiaaGreat
open Go.RowKit Go.Sort

theorem grownBy_put {α : Type} [Inhabited α] (enc : α → Value) {w : World} {g n : Nat} (d : Array α) : w.grownBy (putRow enc (Sort.ahead w n) g 0 d) (some g) := by
  refine ⟨rfl, rfl, rfl, by simp, fun k hk hne => ?_⟩
  have : g ≠ k := fun e => hne (by rw [e])
  simp [putRow, mapBlock, Sort.ahead, Array.getElem?_modify, this]
theorem sortS_c (ss : List (List UInt8)) (base : Nat) (v : Value) (w : World) (h : w.ownsRow base 9 1 v ss.length (ss.map encStr)) (hn : ss.length ≤ 1000000) :
    Calls Tryz.prog 39 #[v] w fun e w' => e = .returned (.tuple #[]) ∧ w'.ownsRow base 9 1 v ss.length ((ss.mergeSort fun x y => decide (x ≤ y)).map encStr) ∧ w.grownBy w' v.ownBlock := by
  have h' := h
  rcases h'.2 with ⟨rfl, h0⟩ | ⟨g, cap, cur, rfl, hb, hg, hle, h2, h3, h4⟩
  · have hs : ss = [] := List.eq_nil_of_length_eq_zero h0
    subst hs
    refine (Tryz.slices_Sort_string_none none 0 w).mono ?_
    rintro e w' ⟨rfl, rfl⟩
    exact ⟨rfl, by simpa using h, grownBy_refl _ _⟩
  · refine (Tryz.slices_Sort_string g 0 cap ss w (Go.holds_of_block hg (by simpa using h4)) (Array.getElem?_eq_some_iff.1 hg).1 (by omega)).mono ?_
    rintro e w' ⟨rfl, n, os, rfl⟩
    exact ⟨rfl, ownsRow_sorted (by simp) hb hg hle h2 h3, grownBy_sorted _⟩
theorem comp_len {α : Type} [Inhabited α] [DecidableEq α] (zs : List α) : (Lib.compact zs).length ≤ zs.length := by
  unfold Lib.compact Lib.compactUpTo
  rw [List.length_map]
  have := List.length_filter_le (Lib.keeps zs.toArray) (List.range zs.length)
  rwa [List.length_range] at this
/-- What is left of a sorted row. -/
theorem compactS_c (ss zs : List (List UInt8)) (hz : zs = ss.mergeSort fun x y => decide (x ≤ y)) (base : Nat) (v : Value) (w : World) (h : w.ownsRow base 9 1 v ss.length (zs.map encStr)) (hn : ss.length ≤ 1000000) :
    Calls Tryz.prog 40 #[v] w fun e w' => ∃ p c R, e = .returned (.slice p (R : List ByteArray).length c) ∧ StrsAt w' base w'.heap.size p R.length R ∧ R.length ≤ c ∧ (p = none → c = 0) ∧ risR ltS R ∧ (∀ x, x ∈ R ↔ bl x ∈ ss) ∧ w.grownBy w' v.ownBlock := by
  have hzl : zs.length = ss.length := by rw [hz]; exact List.length_mergeSort ss
  rcases h.2 with ⟨rfl, h0⟩ | ⟨g, cap, cur, rfl, hb, hg, hle, h2, h3, h4⟩
  · have hs : ss = [] := List.eq_nil_of_length_eq_zero h0
    subst hs
    refine (Tryz.slices_Compact_string_empty none 0 w).mono ?_
    rintro e w' ⟨rfl, rfl⟩
    exact ⟨none, 0, [], rfl, ⟨rfl, fun h => absurd h (by decide)⟩, Nat.le_refl _, fun _ => rfl, List.Pairwise.nil, fun x => by simp, grownBy_refl _ _⟩
  · have hH : Holds encStr w g 0 zs.toArray := Go.holds_of_block hg (by rw [hzl]; simpa using h4)
    have hc := Tryz.slices_Compact_string g 0 cap zs w hH (by omega) (by omega)
    rw [hzl] at hc
    refine hc.mono ?_
    rintro e w' ⟨rfl, q, rfl⟩
    obtain ⟨hr1, hr2⟩ := compUp_ris linB zs.toArray zs.length (by rw [hz]; intro i j hij hj; exact mergeB_sorted ss i j hij (by simpa using hj)) zs.length (Nat.le_refl _)
    have hmem := compUp_mem zs.toArray zs.length
    have hcl := comp_len zs
    change risR ltB (Lib.compact zs) at hr1
    change ∀ x, x ∈ Lib.compact zs ↔ _ at hmem
    have hL : (Lib.compact zs ++ List.replicate (ss.length - (Lib.compact zs).length) []).toArray.size = zs.toArray.size := by simp; omega
    have hh := holds_putRow encStr (Sort.ahead w q) g 0 zs.toArray _ (holds_ahead _ _ _ _ _ _ hH) hL
    refine ⟨some ⟨g, 0, none⟩, cap, (Lib.compact zs).map mkB, by rw [List.length_map], ⟨rfl, fun hn => ⟨g, 0, rfl, hb, ?_, Nat.le_refl _, fun i hi => ?_⟩⟩, by rw [List.length_map]; omega, (fun h => by cases h), ?_, fun x => ?_, grownBy_put encStr _⟩
    · simpa using (Array.getElem?_eq_some_iff.1 hg).1
    · rw [List.length_map] at hi
      have := (hh i (by rw [hL]; simp; omega)).1
      rw [this]
      rw [getElem!_pos _ i (by rw [hL]; simp; omega)]
      simp only [List.getElem_toArray]
      rw [List.getElem_append_left hi, List.getElem?_map, List.getElem?_eq_getElem hi]
      rfl
    · refine List.pairwise_map.2 (hr1.imp fun {a b} h => ?_)
      show Op.bytesLess (mkB a).toList (mkB b).toList = true
      rw [ByteArray.toList_eq, ByteArray.toList_eq]
      simpa [mkB, ltB] using h
    · rw [List.mem_map]
      constructor
      · rintro ⟨y, hy, rfl⟩
        rw [bl_mk]
        obtain ⟨j, hj, e⟩ := (hmem y).1 hy
        have : y ∈ zs := by
          rw [← e, getElem!_pos _ j (by simpa using hj)]
          simp
        rw [hz] at this
        exact List.mem_mergeSort.1 this
      · intro hx
        refine ⟨bl x, (hmem _).2 ?_, mk_bl x⟩
        have : bl x ∈ zs := by rw [hz]; exact List.mem_mergeSort.2 hx
        obtain ⟨j, hj, e⟩ := List.getElem_of_mem this
        exact ⟨j, hj, by rw [getElem!_pos _ j (by simpa using hj)]; simpa using e⟩

theorem owns_low {w : World} {base base' : Nat} {e : TypeId} {size n : Nat} {v : Value} {xs : List Value} (h : w.ownsRow base e size v n xs) (hb : base' ≤ base) : w.ownsRow base' e size v n xs := by
  refine ⟨h.1, ?_⟩
  rcases h.2 with h2 | ⟨g, cap, cur, e1, h1, h3⟩
  · exact .inl h2
  · exact .inr ⟨g, cap, cur, e1, Nat.le_trans hb h1, h3⟩
/-- Concat of three lists, laid one behind the other in a row of slices. -/
theorem concat3_c (pa pb pc : Option Addr) (na ca nb cb nc cc : Nat) (A B C L : List ByteArray) (W : World) (loa hia lob hib loc hic : Nat) (ha : StrsAt W loa hia pa na A) (hb : StrsAt W lob hib pb nb B) (hc : StrsAt W loc hic pc nc C)
    (za : pa = none → ca = 0) (zb : pb = none → cb = 0) (zc : pc = none → cc = 0) (la : na ≤ 100000) (lb : nb ≤ 100000) (lc : nc ≤ 100000) (hL : L = A ++ B ++ C) :
    Calls Tryz.prog 37 #[.slice (some ⟨W.heap.size, 0, none⟩) 3 3] (W.alloc (.cells #[.slice pa na ca, .slice pb nb cb, .slice pc nc cc] 24)) fun e w' => ∃ p c, e = .returned (.slice p L.length c) ∧ w'.ownsRow W.heap.size 9 1 (.slice p L.length c) L.length (scells L) ∧ W.grownBy w' none := by
  have hg := World.grownBy_alloc W (.cells #[.slice pa na ca, .slice pb nb cb, .slice pc nc cc] 24) none
  have hbx := BoxV.new W [.slice pa na ca, .slice pb nb cb, .slice pc nc cc] 24
  have h := concat_c 3 W.heap.size 0 (W.alloc (.cells #[.slice pa na ca, .slice pb nb cb, .slice pc nc cc] 24)).heap.size
    (fun k => if k = 0 then pa else if k = 1 then pb else pc) (fun k => if k = 0 then na else if k = 1 then nb else nc) (fun k => if k = 0 then ca else if k = 1 then cb else cc) (fun k => if k = 0 then A else if k = 1 then B else C) _ (Nat.le_refl _)
    (fun k hk => by
      show (if k = 0 then na else if k = 1 then nb else nc) ≤ 100000
      split
      · exact la
      · split
        · exact lb
        · exact lc)
    (fun k hk => by
      have h3 : k = 0 ∨ k = 1 ∨ k = 2 := by omega
      rcases h3 with rfl | rfl | rfl
      · exact ⟨hbx.cell rfl, (ha.calm hg).wideP, za⟩
      · exact ⟨hbx.cell rfl, (hb.calm hg).wideP, zb⟩
      · exact ⟨hbx.cell rfl, (hc.calm hg).wideP, zc⟩)
    hbx.lt
  have e : catS (fun k => if k = 0 then A else if k = 1 then B else C) 3 = L := by rw [hL]; simp [catS]
  rw [e] at h
  refine h.mono ?_
  rintro e' w' ⟨v, rfl, hrow, hgr⟩
  obtain ⟨p, c, rfl⟩ := ownsRow_sl hrow
  exact ⟨p, c, rfl, owns_low hrow (by simp), grownBy_trans hg hgr⟩
theorem scells_bl (L : List ByteArray) : scells L = (L.map bl).map encStr := by
  unfold scells
  rw [List.map_map]
  apply List.map_congr_left
  intro x _
  show Value.string x = Value.string (mkB (bl x))
  rw [mk_bl]

set_option maxRecDepth 8000 in
set_option maxHeartbeats 8000000 in
theorem patPaths_c (id : Nat) (pd : Option Addr) (nd cd : Nat) (pm : Option Addr) (nm cm : Nat) (px : Option Addr) (nx cx : Nat) (ph : Option Addr) (nh ch : Nat) (lo hi : Nat) (p : Pt) (w : World)
    (h : PtAt w lo hi id pd nd cd pm nm cm px nx cx ph nh ch p) (hb : PBig p) :
    Calls Tryz.prog 13 #[.agg #[.int .u32 (id : Int), .slice pd nd cd, .slice pm nm cm, .slice px nx cx, .slice ph nh ch]] w fun e w' => ∃ q m c, e = .returned (.slice q m c) ∧ StrsAt w' w.heap.size w'.heap.size q m (pathsL p) ∧ m ≤ c ∧ (q = none → c = 0) ∧ w.grownBy w' none := by
  have HG := Lib.hid (World.grownBy_alloc w (.cells #[.int .u32 (id : Int), .slice pd nd cd, .slice pm nm cm, .slice px nx cx, .slice ph nh ch] 27) none)
  have HB := Lib.hid (BoxV.new w [.int .u32 (id : Int), .slice pd nd cd, .slice pm nm cm, .slice px nx cx, .slice ph nh ch] 27)
  have H := Lib.hid (h.calm HG.out)
  have hm1 : nm ≤ 100000 := by have := hb.makes; have := h.makes.len; omega
  have hx1 : nx ≤ 100000 := by have := hb.drops; have := h.drops.len; omega
  have hh1 : nh ≤ 100000 := by have := hb.hunks; have := h.hunks.len; omega
  have HLH := Lib.hid h.hunks.len
  clear h
  go_enter Tryz.func13, Tryz.ntmps13
  go_upto_region 1 with fail
  generalize w.alloc _ = w1 at *
  generalize hwg : w.heap.size = g1 at *
  have HWG := Lib.hid hwg
  clear hwg
  obtain ⟨LS, hLS⟩ : ∃ LS, (pHunks p).map hPath = LS := ⟨_, rfl⟩
  have HLS := Lib.hid hLS
  have hll : LS.length = nh := by rw [← hLS, List.length_map, HLH.out]
  have HPA : Hid (∀ W, w1.grownBy W none → Calls Tryz.prog 38 #[.slice ph nh ch] W fun e w' => ∃ p9 c9, e = .returned (.slice p9 nh c9) ∧ StrsAt w' 0 w'.heap.size p9 nh LS ∧ (p9 = none → c9 = 0) ∧ W.grownBy w' none) := Lib.hid fun W hg =>
    (paths_c ph nh ch lo hi (pHunks p) W (H.out.calm hg).hunks (by omega)).mono fun e w' h => by
      obtain ⟨p9, c9, e1, h1, h2, h3, h4⟩ := h
      rw [hLS, hll] at e1 h1
      exact ⟨p9, c9, e1, h1.wideP, h3, h4⟩
  obtain ⟨L, hL⟩ : ∃ L, pMakes p ++ pDrops p ++ LS = L := ⟨_, rfl⟩
  have HLL := Lib.hid hL
  have HCO : Hid (∀ W p9 c9 lo' hi', w1.grownBy W none → StrsAt W lo' hi' p9 nh LS → (p9 = none → c9 = 0) → Calls Tryz.prog 37 #[.slice (some ⟨W.heap.size, 0, none⟩) 3 3] (W.alloc (.cells #[.slice pm nm cm, .slice px nx cx, .slice p9 nh c9] 24)) fun e w' => ∃ p c, e = .returned (.slice p L.length c) ∧ w'.ownsRow W.heap.size 9 1 (.slice p L.length c) L.length (scells L) ∧ W.grownBy w' none) := Lib.hid fun W p9 c9 lo' hi' hg h9 z9 =>
    concat3_c pm px p9 nm cm nx cx nh c9 (pMakes p) (pDrops p) LS L W lo hi lo hi lo' hi' (H.out.calm hg).makes (H.out.calm hg).drops h9 H.out.zm H.out.zx z9 hm1 hx1 hh1 hL.symm
  have HLN : Hid (L.length ≤ 1000000) := Lib.hid (by rw [← hL, List.length_append, List.length_append, H.out.makes.len, H.out.drops.len, hll]; omega)
  clear hLS hL
  have hgr : w1.grownBy w1.drew none := grownBy_drewN w1 1 none
  have henv := HB.out.calm hgr
  have hz9 : Hid (∃ c : Nat, c = 7) := Lib.hid ⟨7, rfl⟩
  have hP : StrsAt w1.drew 0 0 none 0 [] := ⟨rfl, fun h => absurd h (Nat.lt_irrefl _)⟩
  have hR : True := trivial
  go_region_held3 (fun w' => w'.cell? ⟨g1, 2, none⟩ = some (.slice pm nm cm) ∧ w'.cell? ⟨g1, 3, none⟩ = some (.slice px nx cx) ∧ w'.cell? ⟨g1, 4, none⟩ = some (.slice ph nh ch)) (first | exact ⟨henv.cell (k := 2) rfl, henv.cell (k := 3) rfl, henv.cell (k := 4) rfl⟩ | go_keep)
    (first | (go_at_call 38; with_reducible refine (HPA.out _ hgr).mono ?_; rintro e w5 ⟨p9, c9, rfl, hat, hz, hg5⟩; have henv := henv.calm hg5; have hgr := grownBy_trans hgr hg5; have hP := hat; have hz9 := Lib.hid hz; clear hg5 hat hz) | (go_at_call 37; with_reducible refine (HCO.out _ _ _ _ _ hgr hP hz9.out).mono ?_; rintro e w5 ⟨pq, cq, rfl, hrow, hg5⟩; have henv := henv.calm hg5; have hsz5 := hgr.size; have hgr := grownBy_trans hgr hg5; have hR := hrow; clear hg5 hrow))
  have HGR := Lib.hid (grownBy_trans HG.out hgr)
  have HR := Lib.hid (owns_low hR hsz5)
  clear henv hgr hz9 hP hR
  obtain ⟨ln, hln⟩ : ∃ ln, L.length = ln := ⟨_, rfl⟩
  have HLE := Lib.hid hln
  rw [hln] at HR HLN ⊢
  have hss : (L.map bl).length = ln := by rw [List.length_map, hln]
  have HS := Lib.hid (sortS_c (L.map bl) w1.heap.size (.slice pq ln cq) w5 (by rw [hss, ← scells_bl]; exact HR.out) (by rw [hss]; exact HLN.out))
  rw [hss] at HS
  obtain ⟨zs, hzs⟩ : ∃ zs, zs = (L.map bl).mergeSort fun x y => decide (x ≤ y) := ⟨_, rfl⟩
  rw [← hzs] at HS
  have HZS := Lib.hid hzs
  have HSS := Lib.hid hss
  have hgs1 := HG.out.size
  clear hln hzs hss
  go_wp2_with fail
  refine HS.out.mono ?_
  rintro e w6 ⟨rfl, hrow6, hgr6⟩
  have HG6 := Lib.hid (ownsRow_new HGR.out (owns_low HR.out (by have := HWG.out; omega)) hgr6)
  have HC := Lib.hid (compactS_c (L.map bl) zs HZS.out w1.heap.size (.slice pq ln cq) w6 (by rw [HSS.out]; exact hrow6) (by rw [HSS.out]; exact HLN.out))
  have HR6 := Lib.hid hrow6
  clear hrow6 hgr6 HS HR
  go_wp2_with fail
  refine HC.out.mono ?_
  rintro e w7 ⟨p7, c7, R, rfl, hat, hle, hz7, hris, hmem, hgr7⟩
  have HRP : Hid (R = pathsL p) := Lib.hid (pathsL_uniq hris fun x => by
    rw [hmem, List.mem_map]
    constructor
    · rintro ⟨y, hy, e⟩
      rw [← bl_inj e]
      rw [← HLL.out, List.mem_append, List.mem_append] at hy
      rw [HLS.out]
      rcases hy with (h | h) | h
      · exact .inl h
      · exact .inr (.inl h)
      · exact .inr (.inr h)
    · rintro h
      refine ⟨x, ?_, rfl⟩
      rw [HLS.out] at h
      rw [← HLL.out, List.mem_append, List.mem_append]
      rcases h with h | h | h
      · exact .inl (.inl h)
      · exact .inl (.inr h)
      · exact .inr h)
  have HG7 := Lib.hid (ownsRow_new HG6.out (owns_low HR6.out (by have := HWG.out; omega)) hgr7)
  have HAT := Lib.hid hat
  clear hat hris hmem hgr7 HC
  go_wp2
  go_ret
  refine ⟨p7, R.length, c7, rfl, ?_, hle, hz7, HG7.out⟩
  rw [← HRP.out]
  exact ⟨HAT.out.len, fun hn => by
    obtain ⟨b, off, e, h1, h2, h3, hc⟩ := HAT.out.cell hn
    exact ⟨b, off, e, by have := HWG.out; omega, h2, h3, hc⟩⟩

end Go.Proofs.YtcfhnfnhdhloiaaGreat
/-! Package patch: Needs, by what the sort of numbers does. -/
namespace Go.Proofs.YtcfhnfnhdhloiaaGreat
open Go.RowKit Go.Sort

/-- What slices.Sort does to numbers in a row of their own. -/
structure SortU : Prop where
  row : ∀ (blk cap : Nat) (zs : List Int) (w : World), Holds (Value.int .u32) w blk 0 zs.toArray → blk < w.heap.size → zs.length ≤ 1000000 → zs.length ≤ cap →
    Calls Tryz.prog 34 #[.slice (some ⟨blk, 0, none⟩) zs.length cap] w fun e w' => e = .returned (.tuple #[]) ∧ ∃ ys : Array Int, Holds (Value.int .u32) w' blk 0 ys ∧ ys.size = zs.length ∧ ys.toList.Perm zs ∧
      (∀ i j, i < j → j < ys.size → ltI ys[j]! ys[i]! = false) ∧ w.grownBy w' (some blk)
  none : ∀ (w : World), Calls Tryz.prog 34 #[.slice none 0 0] w fun e w' => e = .returned (.tuple #[]) ∧ w.grownBy w' none

theorem compactU_nil (w : World) : Calls Tryz.prog 35 #[.slice none 0 0] w fun e w' => e = .returned (.slice none 0 0) ∧ w' = w := by
  go_enter Tryz.func35, Tryz.ntmps35
  go_wp2
  go_ret
  exact ⟨rfl, rfl⟩
/-- What is left of a sorted row of numbers. -/
theorem compactU_c (blk cap : Nat) (ys : Array Int) (l : List Nat) (w : World) (hH : Holds (Value.int .u32) w blk 0 ys) (hb : blk < w.heap.size) (hn : ys.size ≤ 1000000) (hc : ys.size ≤ cap) (hs : ∀ i j, i < j → j < ys.size → ltI ys[j]! ys[i]! = false) (hm : ys.toList.Perm (l.map fun x : Nat => (x : Int))) :
    Calls Tryz.prog 35 #[.slice (some ⟨blk, 0, none⟩) ys.size cap] w fun e w' => ∃ R : List Nat, e = .returned (.slice (some ⟨blk, 0, none⟩) R.length cap) ∧ NsAt .u32 w' blk w'.heap.size (some ⟨blk, 0, none⟩) R.length R ∧ R.length ≤ ys.size ∧ risR ltN R ∧ (∀ x, x ∈ R ↔ x ∈ l) ∧ w.grownBy w' (some blk) := by
  refine (Tryz.slices_Compact_u32 0 (fun w => Tryz.zeroValue22 w) blk 0 cap ys w hH (by omega) hc).mono ?_
  rintro e w' ⟨rfl, q, rfl⟩
  obtain ⟨hr1, -⟩ := compUp_ris linI ys ys.size hs ys.size (Nat.le_refl _)
  have hmem := compUp_mem ys ys.size
  have hcl : (Lib.compactUpTo ys ys.size).length ≤ ys.size := by
    have := comp_len ys.toList
    unfold Lib.compact at this
    simpa using this
  have hL : (Lib.compactUpTo ys ys.size ++ List.replicate (ys.size - (Lib.compactUpTo ys ys.size).length) 0).toArray.size = ys.size := by simp; omega
  have hh := holds_putRow (Value.int .u32) (Sort.ahead w q) blk 0 ys _ (holds_ahead _ _ _ _ _ _ hH) hL
  have hnn : ∀ x ∈ Lib.compactUpTo ys ys.size, ∃ n : Nat, x = (n : Int) ∧ n ∈ l := fun x hx => by
    obtain ⟨j, hj, e⟩ := (hmem x).1 hx
    have h1 : x ∈ ys.toList := by rw [← e, getElem!_pos _ j hj]; simp
    have h2 := hm.mem_iff.1 h1
    obtain ⟨n, hn, e2⟩ := List.mem_map.1 h2
    exact ⟨n, e2.symm, hn⟩
  refine ⟨(Lib.compactUpTo ys ys.size).map Int.toNat, by rw [List.length_map], ⟨rfl, fun h0 => ⟨blk, 0, rfl, Nat.le_refl _, by simpa using hb, Nat.le_refl _, fun i hi => ?_⟩⟩, by rw [List.length_map]; omega, ?_, fun x => ?_, grownBy_put (Value.int .u32) _⟩
  · rw [List.length_map] at hi
    rw [(hh i (by rw [hL]; omega)).1, getElem!_pos _ i (by rw [hL]; omega)]
    simp only [List.getElem_toArray]
    rw [List.getElem_append_left hi, List.getElem?_map, List.getElem?_eq_getElem hi]
    obtain ⟨n, e, _⟩ := hnn _ (List.getElem_mem hi)
    simp only [Option.map_some, Option.getD_some, e, Int.toNat_natCast]
  · refine List.pairwise_map.2 (hr1.imp_of_mem fun {a b} ha hb h => ?_)
    obtain ⟨n, rfl, _⟩ := hnn a ha
    obtain ⟨m, rfl, _⟩ := hnn b hb
    simpa [ltN, ltI] using h
  · rw [List.mem_map]
    constructor
    · rintro ⟨y, hy, rfl⟩
      obtain ⟨n, rfl, h⟩ := hnn y hy
      simpa using h
    · intro hx
      refine ⟨(x : Int), (hmem _).2 ?_, by simp⟩
      have h1 : (x : Int) ∈ ys.toList := hm.mem_iff.2 (List.mem_map.2 ⟨x, hx, rfl⟩)
      obtain ⟨j, hj, e⟩ := List.getElem_of_mem h1
      have hj' : j < ys.size := by simpa using hj
      exact ⟨j, hj', by rw [getElem!_pos _ j hj']; simpa using e⟩

/-- The numbers named, but one's own. -/
def nameF (id : Nat) (l : List Ln) : List Nat := (l.map fun x => x.1).filter fun x => decide (x ≠ id)
theorem nameF_app (id : Nat) (a b : List Ln) : nameF id (a ++ b) = nameF id a ++ nameF id b := by unfold nameF; rw [List.map_append, List.filter_append]
theorem nameF_len (id : Nat) (l : List Ln) : (nameF id l).length ≤ l.length := by
  unfold nameF
  have := List.length_filter_le (fun x => decide (x ≠ id)) (l.map fun x => x.1)
  rwa [List.length_map] at this
def namesF (id : Nat) (hs : List Hk) : List Nat := hs.flatMap fun h => nameF id (namedL (hEdges h) (hKills h))
theorem namesH_eq (h : Hk) : namesH h = (namedL (hEdges h) (hKills h)).map fun x => x.1 := by
  unfold namesH namedL
  rw [List.map_append, List.map_flatMap]
  rfl
theorem namesF_mem {p : Pt} {x : Nat} : x ∈ namesF (pID p) (pHunks p) ↔ x ∈ namesL p ∧ x ≠ pID p := by
  unfold namesF namesL nameF
  rw [List.mem_flatMap, List.mem_flatMap]
  simp only [List.mem_filter, decide_eq_true_eq]
  constructor
  · rintro ⟨h, hh, hx, hne⟩
    exact ⟨⟨h, hh, by rw [namesH_eq]; exact hx⟩, hne⟩
  · rintro ⟨⟨h, hh, hx⟩, hne⟩
    exact ⟨h, hh, by rw [namesH_eq] at hx; exact hx, hne⟩
theorem namesF_succ {id : Nat} {hs : List Hk} {k : Nat} (hk : k < hs.length) : namesF id (hs.take (k + 1)) = namesF id (hs.take k) ++ nameF id (namedL (hEdges (hs[k]?.getD hk0)) (hKills (hs[k]?.getD hk0))) := by
  unfold namesF
  rw [take_snoc hk hk0, List.flatMap_append]
  simp
theorem nameF_succ {id : Nat} {l : List Ln} {j : Nat} (hj : j < l.length) : nameF id (l.take (j + 1)) = nameF id (l.take j) ++ (if (l[j]?.getD (0, 0)).1 = id then [] else [(l[j]?.getD (0, 0)).1]) := by
  rw [take_snoc hj (0, 0), nameF_app]
  congr 1
  unfold nameF
  by_cases h : (l[j]?.getD (0, 0)).1 = id
  · rw [if_pos h]; simp [h]
  · rw [if_neg h]; simp [h]

theorem owns_calm {w w' : World} {base : Nat} {e : TypeId} {size n : Nat} {v : Value} {xs : List Value} (h : w.ownsRow base e size v n xs) (hg : w.grownBy w' none) : w'.ownsRow base e size v n xs := h.kept hg (by
  cases v.ownBlock with
  | none => exact .inl rfl
  | some g => exact .inr (by simp))
theorem LnsAt.far {w w' : World} {lo hi n : Nat} {p : Option Addr} {l : List Ln} (h : LnsAt w lo hi p n l) {ob : Option Nat} (hg : w.grownBy w' ob) (hh : hi ≤ w.heap.size) (hf : ∀ g, ob = some g → g < lo ∨ hi ≤ g) : LnsAt w' lo hi p n l :=
  h.stay ⟨hg.size, fun i h1 h2 => hg.block i (by omega) fun e => by
    rcases hf i (by rw [e]) with h3 | h3 <;> omega⟩
theorem ris_nodup {α : Type} {lt : α → α → Bool} (O : Lin lt) {l : List α} (h : risR lt l) : l.Nodup := h.imp fun {a b} h e => by
  rw [e, O.irr] at h
  cases h
theorem holdsU {w : World} {g : Nat} {cur : Array Value} {e : TypeId} {l : List Nat} (hb : w.heap[g]? = some (.cells cur e (0, 0))) (ht : cur.toList.take l.length = ncells .u32 l) : Holds (Value.int .u32) w g 0 (l.map fun x : Nat => (x : Int)).toArray := by
  intro j hj
  have hj' : j < l.length := by simpa using hj
  refine ⟨?_, by simp [World.frozen?, hb]⟩
  have h1 : (cur.toList.take l.length)[j]? = (ncells .u32 l)[j]? := by rw [ht]
  rw [List.getElem?_take_of_lt hj', ncells_get hj'] at h1
  simp only [World.cell?, hb, Nat.zero_add]
  simp only [Option.isSome_none, Bool.false_eq_true, if_false]
  rw [← Array.getElem?_toList, h1, getElem!_pos _ j hj]
  simp [hj']

set_option maxRecDepth 8000 in
set_option maxHeartbeats 8000000 in
theorem needs_c (hS : SortU) (id : Nat) (pd : Option Addr) (nd cd : Nat) (pm : Option Addr) (nm cm : Nat) (px : Option Addr) (nx cx : Nat) (ph : Option Addr) (nh ch : Nat) (lo hi : Nat) (p : Pt) (w : World)
    (h : PtAt w lo hi id pd nd cd pm nm cm px nx cx ph nh ch p) (hb : PBig p) :
    Calls Tryz.prog 10 #[.agg #[.int .u32 (id : Int), .slice pd nd cd, .slice pm nm cm, .slice px nx cx, .slice ph nh ch]] w fun e w' => ∃ q m c, e = .returned (.slice q m c) ∧ NsAt .u32 w' w.heap.size w'.heap.size q m (needsL p) ∧ m ≤ c ∧ (q = none → c = 0) ∧ m ≤ 1000000 ∧ w.grownBy w' none := by
  obtain ⟨i0, hi0, hz0, hz1, hz2⟩ := info_parts infoU32
  have HG := Lib.hid (World.grownBy_alloc w (.cells #[.int .u32 (id : Int), .slice pd nd cd, .slice pm nm cm, .slice px nx cx, .slice ph nh ch] 27) none)
  have HB := Lib.hid (BoxV.new w [.int .u32 (id : Int), .slice pd nd cd, .slice pm nm cm, .slice px nx cx, .slice ph nh ch] 27)
  have H := Lib.hid (h.calm HG.out)
  have HL := Lib.hid h.hunks.len
  have HI := Lib.hid h.num
  have HBB := Lib.hid hb.hs
  have hh1 : nh ≤ 20 := by have := hb.hunks; have := h.hunks.len; omega
  clear h hb
  go_enter Tryz.func10, Tryz.ntmps10
  go_upto_region 1 with fail
  generalize w.alloc _ = w1 at *
  generalize hwg : w.heap.size = g1 at *
  have HWG := Lib.hid hwg
  clear hwg
  have r4 := HB.out.cell (k := 4) rfl
  have hgs := HG.out.size
  go_wp2
  clear r4
  go_loopw [3, 11] (fun v i wr => ∃ (k : Nat) (pre : List Nat), k ≤ nh ∧ i = .int .i64 k ∧ pre.length ≤ k * 3000 ∧ Hid (namesF id ((pHunks p).take k) = pre) ∧ wr.ownsRow w1.heap.size 22 1 v pre.length (ncells .u32 pre) ∧ w1.grownBy wr none) (fun _ i _ => nh - (intOf i).toNat)
  case atStart => exact ⟨0, [], Nat.zero_le _, rfl, Nat.zero_le _, Lib.hid rfl, World.ownsRow_nil _ _ _ _, grownBy_refl _ _⟩
  case round =>
    obtain ⟨k, pre, hk, rfl, hpre, HE, hrow, hgr⟩ := hrel
    have HROW := Lib.hid hrow
    have HGR := Lib.hid hgr
    by_cases hkn : k < nh
    · have k0 : (0 : Int) ≤ k := by omega
      have k1 : (k : Int) < nh := by omega
      have hkl : k < (pHunks p).length := by rw [HL.out]; exact hkn
      obtain ⟨b, o, rfl, _, _, _, hc⟩ := (H.out.hunks.calm hgr).cell (by omega)
      obtain ⟨pa, na, ca, pe, ne, ce, pk, nk, ck, cx0, cx1, cx2, cx3, hh⟩ := hc k hkn
      have HST := Lib.hid (namesF_succ (id := id) hkl)
      rw [HE.out] at HST
      have hbx := HBB.out _ (get_mem (d := hk0) hkl)
      have HH := Lib.hid hh
      clear hc hrow hgr hh
      generalize (pHunks p)[k]?.getD hk0 = x at *
      have hle := HH.out.edges.len
      have hlk := HH.out.kills.len
      have hga := World.grownBy_alloc wr (.cells #[.string (hPath x), .slice pa na ca, .slice pe ne ce, .slice pk nk ck] 50) none
      have HBX := Lib.hid (BoxV.new wr [.string (hPath x), .slice pa na ca, .slice pe ne ce, .slice pk nk ck] 50)
      have HROW2 := Lib.hid (HROW.out.alloc (.cells #[.string (hPath x), .slice pa na ca, .slice pe ne ce, .slice pk nk ck] 50))
      have HG2 := Lib.hid (grownBy_trans HGR.out hga)
      have HH2 := Lib.hid (HH.out.calm hga)
      have hne9 : ne ≤ 1000 := by omega
      have hnk9 : nk ≤ 1000 := by omega
      clear hga HROW hle hlk hbx
      go_upto_region 5 with fail
      generalize wr.alloc _ = w3 at *
      generalize wr.heap.size = gX at *
      obtain ⟨y0, y1, y2, y3⟩ := HBX.out.four
      have HNL := Lib.hid (namedL_len (hEdges x) (hKills x))
      have hnl0 := HNL.out
      rw [HH2.out.edges.len, HH2.out.kills.len] at hnl0
      have HNC := Lib.hid (named_c (hPath x) pa na ca pe ne ce pk nk ck lo hi lo hi (hEdges x) (hKills x) w3 HH2.out.edges HH2.out.kills HH2.out.zk (by omega) (by omega))
      generalize hPath x = pth at *
      obtain ⟨nl, hnl⟩ : ∃ nl, namedL (hEdges x) (hKills x) = nl := ⟨_, rfl⟩
      rw [hnl] at HNC HST hnl0
      obtain ⟨ll, hll⟩ : ∃ ll, nl.length = ll := ⟨_, rfl⟩
      have HLL := Lib.hid hll
      rw [hll] at hnl0
      clear cx0 cx1 cx2 cx3 HBX HH HH2 HNL hnl hll
      go_wp2_with fail
      refine HNC.out.mono ?_
      rintro e w4 ⟨p9, c9, rfl, hat, _, _, hg4⟩
      have HAT := Lib.hid hat
      rw [HLL.out] at HAT ⊢
      have HG4 := Lib.hid (grownBy_trans HG2.out hg4)
      have HROW4 := Lib.hid (owns_calm HROW2.out hg4)
      have HFAR := Lib.hid (fun g hg => Or.inl (b := w4.heap.size ≤ g) (HROW2.out.lt g hg).2)
      generalize w3.heap.size = lo9 at *
      generalize hh9 : w4.heap.size = hi9 at HFAR HAT
      have HHI := Lib.hid (Nat.le_of_eq hh9.symm)
      clear hh9
      clear hat hg4 y0 y1 y2 y3 HROW2 HG2 HNC
      have hgs4 := HG4.out.size
      go_wp2
      go_loopw [3, 18] (fun v i wr => ∃ (j : Nat) (pre2 : List Nat), j ≤ ll ∧ i = .int .i64 j ∧ pre2.length ≤ k * 3000 + j ∧ Hid (pre ++ nameF id (nl.take j) = pre2) ∧ wr.ownsRow w1.heap.size 22 1 v pre2.length (ncells .u32 pre2) ∧ Hid (∀ g, v.ownBlock = some g → g < lo9 ∨ hi9 ≤ g) ∧ Hid (LnsAt wr lo9 hi9 p9 ll nl) ∧ hi9 ≤ wr.heap.size ∧ w1.grownBy wr none) (fun _ i _ => ll - (intOf i).toNat)
      case atStart => exact ⟨0, pre, Nat.zero_le _, rfl, by omega, Lib.hid (by simp [nameF]), HROW4.out, HFAR, HAT, HHI.out, HG4.out⟩
      case round =>
        clear HROW4 HFAR HAT HHI
        obtain ⟨j, pre2, hj, rfl, hpre2, HE2, hrow2, HFR, HAT2, hhi9, hgr2⟩ := hrel
        have HROW := Lib.hid hrow2
        have HGR2 := Lib.hid hgr2
        by_cases hjn : j < ll
        · have j0 : (0 : Int) ≤ j := by omega
          have j1 : (j : Int) < ll := by omega
          obtain ⟨b', o', rfl, _, _, _, hc'⟩ := HAT2.out.cell (by omega)
          obtain ⟨cx0, cx1⟩ := hc' j hjn
          have hst2 := nameF_succ (id := id) (show j < nl.length by rw [HLL.out]; exact hjn)
          have HST2 : Hid (pre ++ nameF id (nl.take (j + 1)) = pre2 ++ (if (nl[j]?.getD (0, 0)).1 = id then [] else [(nl[j]?.getD (0, 0)).1])) := Lib.hid (by rw [hst2, ← List.append_assoc, HE2.out])
          have hbx0 := (HB.out.calm hgr2).cell (k := 0) rfl
          clear hc' hrow2 hgr2 hst2
          generalize nl[j]?.getD (0, 0) = y at *
          obtain ⟨y1, y2⟩ := y
          simp only at cx0 cx1
          have hga := World.grownBy_alloc wr (.cells #[.int .u32 (y1 : Int), .int .i64 y2] 44) none
          have HBY := Lib.hid (BoxV.new wr [.int .u32 (y1 : Int), .int .i64 y2] 44)
          have HROW2 := Lib.hid (HROW.out.alloc (.cells #[.int .u32 (y1 : Int), .int .i64 y2] 44))
          have HG5 := Lib.hid (grownBy_trans HGR2.out hga)
          have HAT5 := Lib.hid (HAT2.out.calm hga)
          have hhi5 : hi9 ≤ (wr.alloc (.cells #[.int .u32 (y1 : Int), .int .i64 y2] 44)).heap.size := by have := hga.size; omega
          have hbx1 := cell_calmG hga hbx0
          clear hga HROW hbx0
          go_upto_region 8 with fail
          generalize wr.alloc _ = w5 at *
          generalize wr.heap.size = gY at *
          have hg5s := HG5.out.size
          have z0 := HBY.out.cell (k := 0) rfl
          have z1 := HBY.out.cell (k := 1) rfl
          clear cx0 cx1 HBY
          by_cases hyi : y1 = id
          · have e1 : ((y1 : Int) != (id : Int)) = false := by rw [hyi]; simp
            have HN : Hid (pre ++ nameF id (nl.take (j + 1)) = pre2) := Lib.hid (by rw [HST2.out, if_pos hyi, List.append_nil])
            clear hyi HST2
            go_wp2
            exact ⟨⟨j + 1, pre2, by omega, by go_num, by omega, HN, HROW2.out, HFR, HAT5, hhi5, HG5.out⟩, by simp [intOf]; omega⟩
          · have e1 : ((y1 : Int) != (id : Int)) = true := by simp; omega
            have HN : Hid (pre ++ nameF id (nl.take (j + 1)) = pre2 ++ [y1]) := Lib.hid (by rw [HST2.out, if_neg hyi])
            clear hyi HST2
            have hga2 := World.grownBy_alloc w5 (.cells #[.int .u32 (y1 : Int)] 22) none
            have HAT6 := Lib.hid (HAT5.out.calm hga2)
            have hhi6 : hi9 ≤ (w5.alloc (.cells #[.int .u32 (y1 : Int)] 22)).heap.size := by have := hga2.size; omega
            have HHI6 := Lib.hid hhi6
            have HHI5 := Lib.hid hhi5
            clear hga2 hhi6
            go_wp2_with (at_builtin; refine wpList_append_lies _ rfl _ _ 23 rfl w1.heap.size 22 i0 (.int .u32 0) 1 4 Tryz.underlying23 hi0 hz0 hz1 hz2 rfl (by decide) _ _ _ rfl (HROW2.out.alloc _) ⟨w5.heap.size, 0, none⟩ 1 1 [.int .u32 (y1 : Int)] rfl rfl box_src (by simp [Value.oneCell']) (by decide) (by unfold maxLen; omega) (by omega) (by simp; omega) _ rfl ?_; intro g6 c6 w6 hrow6 hgrow6 hlies hg6; have HO := Lib.hid hrow6; have HGA := Lib.hid (grownBy_app HG5.out HROW2.out hgrow6); have HAT7 := Lib.hid (HAT6.out.far hgrow6 HHI6.out HFR.out); have HF7 := Lib.hid (show g6 < lo9 ∨ hi9 ≤ g6 from hlies.elim (fun h => HFR.out g6 h) (fun h => Or.inr (by rw [h]; exact HHI6.out))); have hhi7 := Nat.le_trans HHI6.out hgrow6.size; clear hrow6 hgrow6 hlies)
            exact ⟨⟨j + 1, pre2 ++ [y1], by omega, by go_num, by simp; omega, HN, by rw [ncells_app, List.length_append]; exact HO.out, Lib.hid (fun g hg => by simp [Value.ownBlock] at hg; subst hg; exact HF7.out), HAT7, hhi7, HGA.out⟩, by simp [intOf]; omega⟩
        · obtain rfl : ll = j := by omega
          have j1 : ¬ ((ll : Int) < ll) := by omega
          have HN : Hid (namesF id ((pHunks p).take (k + 1)) = pre2) := Lib.hid (by
            have := HE2.out
            rw [List.take_of_length_le (by rw [HLL.out]; exact Nat.le_refl _)] at this
            rw [HST.out, this])
          clear hrow2 hgr2
          go_wp2
          exact ⟨⟨k + 1, pre2, by omega, by go_num, by omega, HN, HROW.out, HGR2.out⟩, by simp [intOf]; omega⟩
    · obtain rfl : nh = k := by omega
      have k1 : ¬ ((nh : Int) < nh) := by omega
      have HN : Hid (namesF id (pHunks p) = pre) := Lib.hid (by have := HE.out; rwa [List.take_of_length_le (by rw [HL.out]; exact Nat.le_refl _)] at this)
      have HM : Hid (∀ x, x ∈ pre ↔ x ∈ namesL p ∧ x ≠ pID p) := Lib.hid fun x => by rw [← HN.out, ← HI.out]; exact namesF_mem
      have hpl : pre.length ≤ 60000 := by omega
      rcases HROW.out.2 with ⟨rfl, h0⟩ | ⟨g, cap, cur, rfl, hb, hg, hle, h2, h3, h4⟩
      · have hp0 : pre = [] := List.eq_nil_of_length_eq_zero h0
        subst hp0
        have HNE : Hid ([] = needsL p) := Lib.hid (needsL_uniq List.Pairwise.nil HM.out)
        clear hrow hgr HROW HE HN
        go_wp2_with fail
        refine (hS.none _).mono ?_
        rintro e w5 ⟨rfl, hg5⟩
        have HG5 := Lib.hid (grownBy_trans HG.out (grownBy_trans HGR.out hg5))
        clear hg5
        go_wp2_with fail
        refine (compactU_nil _).mono ?_
        rintro e w6 ⟨rfl, h9⟩
        subst w6
        go_wp2
        go_ret
        refine ⟨none, 0, 0, rfl, ?_, Nat.le_refl _, fun _ => rfl, by omega, HG5.out⟩
        rw [← HNE.out]
        exact nsAt_nil _ _ _ _
      · have hzl : (pre.map fun x : Nat => (x : Int)).length = pre.length := List.length_map _
        have hgl : g < wr.heap.size := (Array.getElem?_eq_some_iff.1 hg).1
        have HC := hS.row g cap (pre.map fun x : Nat => (x : Int)) wr (holdsU hg (by simpa using h4)) hgl (by omega) (by omega)
        rw [hzl] at HC
        have HSC := Lib.hid HC
        have HGB := Lib.hid hb
        have hgs1 := HG.out.size
        clear hrow hgr HROW HE HN HC hg h2 h3 h4 hzl
        go_wp2_with fail
        refine HSC.out.mono ?_
        rintro e w5 ⟨rfl, ys, hys, hsz, hperm, hsrt, hg5⟩
        have hgl5 : g < w5.heap.size := Nat.lt_of_lt_of_le hgl hg5.size
        have HC := Lib.hid (compactU_c g cap ys pre w5 hys hgl5 (by omega) (by omega) hsrt hperm)
        rw [hsz] at HC
        have hle9 := hle
        have HG5 := Lib.hid (grownBy_new HGR.out hg5 hb)
        clear hys hsz hperm hsrt hg5 HSC
        go_wp2_with fail
        refine HC.out.mono ?_
        rintro e w6 ⟨R, rfl, hat, hrl, hris, hmem, hg6⟩
        have HRN : Hid (R = needsL p) := Lib.hid (needsL_uniq hris fun x => by rw [hmem]; exact HM.out x)
        have HG6 := Lib.hid (grownBy_new HG5.out hg6 hb)
        have HAT := Lib.hid hat
        have HRB : Hid (R.length ≤ 1000000) := Lib.hid (by omega)
        have hrl : R.length ≤ cap := by omega
        clear hat hris hmem hg6 HC
        go_wp2
        go_ret
        refine ⟨some ⟨g, 0, none⟩, R.length, cap, rfl, ?_, hrl, fun h => (by cases h), HRB.out, grownBy_trans HG.out HG6.out⟩
        rw [← HRN.out]
        exact ⟨HAT.out.len, fun hn => by
          obtain ⟨b, off, e, h1, h2, h3, hc⟩ := HAT.out.cell hn
          exact ⟨b, off, e, by have := HWG.out; have := HGB.out; omega, h2, h3, hc⟩⟩

end Go.Proofs.YtcfhnfnhdhloiaaGreat
