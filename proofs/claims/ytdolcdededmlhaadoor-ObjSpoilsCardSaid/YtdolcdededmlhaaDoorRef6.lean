/- The contracts of the reference's Make and Same. -/
import Derived.Test.YtdolcdededmlhaaDoorRef5
namespace Go.Proofs.YtdolcdededmlhaaDoor
open Go.RowKit

set_option maxRecDepth 20000 in
set_option maxHeartbeats 2000000 in
theorem refSame_r (p q p' q' : Option Addr) (n c m d n' c' m' d' lo hi lo' hi' : Nat) (L L' : List ByteArray) (P P' : List (Int × Int)) (r : Bool) (w : World) (h : ObjAt w lo hi p n q m L P) (h' : ObjAt w lo' hi' p' n' q' m' L' P') (hn : n ≤ 1000000) (hm : m ≤ 1000000)
    (hr : (decide (L = L') && decide (P = P')) = r) :
    Calls Tryd.prog 19 #[.agg #[.slice p n c, .slice q m d], .agg #[.slice p' n' c', .slice q' m' d']] w fun e w' => e = .returned (.bool r) ∧ w.grownBy w' none := by
  have hg0 := grownBy_trans (World.grownBy_alloc w (.cells #[.slice p n c, .slice q m d] 25) none) (World.grownBy_alloc _ (.cells #[.slice p' n' c', .slice q' m' d'] 25) none)
  have H1 := Lib.hid (h.calm hg0)
  have H2 := Lib.hid (h'.calm hg0)
  have HL1 := Lib.hid h.ls.len
  have HL2 := Lib.hid h'.ls.len
  have HP1 := Lib.hid h.ps.len
  have HP2 := Lib.hid h'.ps.len
  have HR := Lib.hid hr
  have HG0 := Lib.hid hg0
  clear h h' hg0 hr
  by_cases hl : n = n'
  · obtain rfl : n = n' := hl
    have hb : ((n : Int) != (n : Int)) = false := by simp
    by_cases hl2 : m = m'
    · obtain rfl : m = m' := hl2
      have hb2 : ((m : Int) != (m : Int)) = false := by simp
      go_enter Tryd.func19, Tryd.ntmps19
      go_wp2
      go_loopw [5] (fun i wr => ∃ k : Nat, k ≤ n ∧ i = .int .i64 k ∧ Hid (L.take k = L'.take k) ∧ ((w.alloc (.cells #[.slice p n c, .slice q m d] 25)).alloc (.cells #[.slice p' n c', .slice q' m d'] 25)).grownBy wr none) (fun i _ => n - (intOf i).toNat)
      case atStart => exact ⟨0, Nat.zero_le _, rfl, Lib.hid rfl, grownBy_refl _ _⟩
      case round =>
        obtain ⟨k, hk, rfl, HT, hgr⟩ := hrel
        obtain ⟨⟨b0, b1⟩, ⟨b2, b3⟩, hgw⟩ := box22 hgr
        by_cases hkn : k < n
        · obtain ⟨g1, o1, rfl, q1, q2, q3, hc1⟩ := (H1.out.calm hgr).ls.cell (by omega)
          obtain ⟨g2, o2, rfl, r1, r2, r3, hc2⟩ := (H2.out.calm hgr).ls.cell (by omega)
          have x1 := hc1 k hkn
          have y1 := hc2 k hkn
          clear hc1 hc2
          have k0 : (0 : Int) ≤ k := by omega
          have k1 : (k : Int) < n := by omega
          by_cases heq : L[k]?.getD .empty = L'[k]?.getD .empty
          · have HT2 := Lib.hid (take_eqS (by rw [HL1.out]; exact hkn) (by rw [HL2.out]; exact hkn) HT.out heq)
            have hN : ((L[k]?.getD .empty).toList == (L'[k]?.getD .empty).toList) = true := by rw [str_eq]; simpa using heq
            clear heq
            generalize L[k]?.getD .empty = u at *
            generalize L'[k]?.getD .empty = v at *
            go_wp2
            go_quiet (fail)
            go_wp2
            exact ⟨⟨k + 1, by omega, by go_num, HT2, grownBy_trans hgr (grownBy_drewN _ _ none)⟩, by simp [intOf]; omega⟩
          · have hN : ((L[k]?.getD .empty).toList == (L'[k]?.getD .empty).toList) = false := by rw [str_eq]; simpa using heq
            have hrf : r = false := by
              rw [← HR.out, Bool.and_eq_false_iff]
              refine .inl (decide_eq_false fun e => heq (by rw [e]))
            subst hrf
            clear heq
            generalize L[k]?.getD .empty = u at *
            generalize L'[k]?.getD .empty = v at *
            go_wp2
            go_quiet (fail)
            go_wp2
            go_ret
            exact ⟨rfl, grownBy_trans hgw (grownBy_drewN _ _ none)⟩
        · obtain rfl : n = k := by omega
          have k1 : ¬ ((n : Int) < n) := by omega
          have hLL : L = L' := by
            have := HT.out
            rw [List.take_of_length_le (by rw [HL1.out]; exact Nat.le_refl _), List.take_of_length_le (by rw [HL2.out]; exact Nat.le_refl _)] at this
            exact this
          have HR2 : Hid (decide (P = P') = r) := Lib.hid (by rw [← HR.out, hLL]; simp)
          clear hLL
          generalize wr = wo at *
          go_wp2
          go_loopw [6] (fun i wr => ∃ k : Nat, k ≤ m ∧ i = .int .i64 k ∧ Hid (P.take k = P'.take k) ∧ ((w.alloc (.cells #[.slice p n c, .slice q m d] 25)).alloc (.cells #[.slice p' n c', .slice q' m d'] 25)).grownBy wr none) (fun i _ => m - (intOf i).toNat)
          case atStart => exact ⟨0, Nat.zero_le _, rfl, Lib.hid rfl, hgr⟩
          case round =>
            obtain ⟨j, hj, rfl, HTP, hgj⟩ := hrel
            obtain ⟨⟨b0, b1⟩, ⟨b2, b3⟩, hgv⟩ := box22 hgj
            by_cases hjm : j < m
            · obtain ⟨g1, o1, rfl, q1, q2, q3, hc1⟩ := (H1.out.calm hgj).ps.cell (by omega)
              obtain ⟨g2, o2, rfl, r1, r2, r3, hc2⟩ := (H2.out.calm hgj).ps.cell (by omega)
              obtain ⟨x1, x2⟩ := hc1 j hjm
              obtain ⟨y1, y2⟩ := hc2 j hjm
              clear hc1 hc2
              have j0 : (0 : Int) ≤ j := by omega
              have j1 : (j : Int) < m := by omega
              have hN := pair_neq (P[j]?.getD (0, 0)).1 (P[j]?.getD (0, 0)).2 (P'[j]?.getD (0, 0)).1 (P'[j]?.getD (0, 0)).2
              by_cases heq : P[j]?.getD (0, 0) = P'[j]?.getD (0, 0)
              · have e1 : (!((P[j]?.getD (0, 0)).1 == (P'[j]?.getD (0, 0)).1 && (P[j]?.getD (0, 0)).2 == (P'[j]?.getD (0, 0)).2)) = false := by rw [heq]; simp
                rw [e1] at hN
                have HT2 := Lib.hid (take_eq_succ (by rw [HP1.out]; exact hjm) (by rw [HP2.out]; exact hjm) HTP.out heq)
                clear heq e1
                generalize P[j]?.getD (0, 0) = u at *
                generalize P'[j]?.getD (0, 0) = v at *
                go_wp2
                go_quiet (fail)
                go_wp2
                exact ⟨⟨j + 1, by omega, by go_num, HT2, grownBy_trans hgj (grownBy_drewN _ _ none)⟩, by simp [intOf]; omega⟩
              · have e1 : (!((P[j]?.getD (0, 0)).1 == (P'[j]?.getD (0, 0)).1 && (P[j]?.getD (0, 0)).2 == (P'[j]?.getD (0, 0)).2)) = true := by
                  rw [Bool.not_eq_true', Bool.and_eq_false_iff, beq_eq_false_iff_ne, beq_eq_false_iff_ne]
                  by_cases e0 : (P[j]?.getD (0, 0)).1 = (P'[j]?.getD (0, 0)).1
                  · exact .inr fun e2 => heq (Prod.ext e0 e2)
                  · exact .inl e0
                rw [e1] at hN
                have hrf : r = false := by
                  rw [← HR2.out]
                  exact decide_eq_false fun e => heq (by rw [e])
                subst hrf
                clear heq e1
                generalize P[j]?.getD (0, 0) = u at *
                generalize P'[j]?.getD (0, 0) = v at *
                go_wp2
                go_quiet (fail)
                go_wp2
                go_ret
                exact ⟨rfl, grownBy_trans hgv (grownBy_drewN _ _ none)⟩
            · obtain rfl : m = j := by omega
              have j1 : ¬ ((m : Int) < m) := by omega
              have hrt : r = true := by
                have := HTP.out
                rw [List.take_of_length_le (by rw [HP1.out]; exact Nat.le_refl _), List.take_of_length_le (by rw [HP2.out]; exact Nat.le_refl _)] at this
                rw [← HR2.out]
                simpa using this
              subst hrt
              go_wp2
              go_ret
              exact ⟨rfl, hgv⟩
    · have hb2 : ((m : Int) != (m' : Int)) = true := by simp; omega
      have hrf : r = false := by
        rw [← HR.out, Bool.and_eq_false_iff]
        exact .inr (decide_eq_false fun e => hl2 (by rw [← HP1.out, ← HP2.out, e]))
      subst hrf
      clear hl2
      go_enter Tryd.func19, Tryd.ntmps19
      go_wp2
      go_ret
      exact ⟨rfl, HG0.out⟩
  · have hb : ((n : Int) != (n' : Int)) = true := by simp; omega
    have hrf : r = false := by
      rw [← HR.out, Bool.and_eq_false_iff]
      exact .inl (decide_eq_false fun e => hl (by rw [← HL1.out, ← HL2.out, e]))
    subst hrf
    clear hl
    go_enter Tryd.func19, Tryd.ntmps19
    go_wp2
    go_ret
    exact ⟨rfl, HG0.out⟩

theorem ObjAt.set {w : World} {lo hi : Nat} {p : Option Addr} {n : Nat} {q : Option Addr} {m : Nat} {L : List ByteArray} {P : List (Int × Int)} (h : ObjAt w lo hi p n q m L P) {a : Addr} (ha : a.block < lo) (x : Value) : ObjAt (w.setCell a x) lo hi p n q m L P := by
  have hk : Kept a.block (a.block + 1) w (w.setCell a x) := Kept.row (grownBy_setCell w a x) (Nat.le_refl _) (Nat.lt_succ_self _)
  exact ⟨h.ls.apart hk (.inr (by omega)), h.ps.apart hk (.inr (by omega))⟩

theorem ObjAt.wider {w : World} {lo hi : Nat} {p : Option Addr} {n : Nat} {q : Option Addr} {m : Nat} {L : List ByteArray} {P : List (Int × Int)} (h : ObjAt w lo hi p n q m L P) {lo' hi' : Nat} (h1 : lo' ≤ lo) (h2 : hi ≤ hi') (h3 : hi' ≤ w.heap.size) : ObjAt w lo' hi' p n q m L P := by
  refine ⟨⟨h.ls.len, fun hn => ?_⟩, ⟨h.ps.len, fun hn => ?_⟩⟩
  · obtain ⟨b, off, e, q1, q2, q3, hc⟩ := h.ls.cell hn
    exact ⟨b, off, e, by omega, by omega, h3, hc⟩
  · obtain ⟨b, off, e, q1, q2, q3, hc⟩ := h.ps.cell hn
    exact ⟨b, off, e, by omega, by omega, h3, hc⟩

def RefMakePost (L : List ByteArray) (P : List (Int × Int)) (w : World) (e : Ending) (w' : World) : Prop :=
  ∃ p c q d, e = .returned (.agg #[.slice p L.length c, .slice q P.length d]) ∧ ObjAt w' w.heap.size w'.heap.size p L.length q P.length L P ∧ w.grownBy w' none

set_option maxHeartbeats 2000000 in
theorem refMake_c (p : Option Addr) (n c lo hi lo' hi' r : Nat) (L : List ByteArray) (R : Nat → Nat → Bool) (w : World) (h : StrsAt w lo hi p n L) (hc : p = none → c = 0) (hn : n ≤ 200) (hR : IsMat w lo' hi' r n R) :
    Calls Tryd.prog 24 #[.slice p n c, .pointer (some ⟨r, 0, none⟩)] w (RefMakePost L (pairsL n (clo n R) n) w) := by
  obtain ⟨i0, hi', hz0, hz1, hz2⟩ := info_parts Tryd.info9
  have hg0 := World.grownBy_alloc w (.cells #[.slice none 0 0, .slice none 0 0] 25) none
  have H1 := Lib.hid (h.calm hg0)
  have HR := Lib.hid (hR.calm hg0)
  have HLEN := Lib.hid h.len
  have HG0 := Lib.hid hg0
  clear h hR hg0
  match p, H1, hc with
  | none, H1, hc =>
    have hn0 : n = 0 := by
      rcases Nat.eq_zero_or_pos n with e | e
      · exact e
      · obtain ⟨_, _, e, _⟩ := H1.out.cell e; cases e
    obtain rfl := hc rfl
    subst hn0
    have hL : L = [] := List.eq_nil_of_length_eq_zero HLEN.out
    subst hL
    clear H1 hc HLEN
    go_enter Tryd.func24, Tryd.ntmps24
    go_wp2_with (at_builtin; refine wpList_append_own_none rfl _ _ 22 rfl w.heap.size 9 i0 1 Tryd.underlying22 hi' (.slice none 0 0) 0 [] rfl (World.ownsRow_nil _ _ _ _) rfl ?_)
    refine (matClosure_c _ _ _ _ R _ (by exact HR.out)).mono ?_
    rintro e w2 ⟨rc, rfl, hRC, hg2⟩
    have HG2 := Lib.hid hg2
    have HRC := Lib.hid hRC
    clear hg2 hRC
    go_wp2_with fail
    refine (matPairs_c _ _ _ _ (clo 0 R) _ (by exact HRC.out)).mono ?_
    rintro e w3 ⟨pv, cv, rfl, hv, hg3⟩
    have HV := Lib.hid hv
    have hg3' := grownBy_trans HG2.out hg3
    have b0 := (box2 hg3').1
    have b1 := (box2 hg3').2.1
    have bf := (box2f hg3').1
    have bf1 := (box2f hg3').2
    have HG3 := Lib.hid (box2 hg3').2.2
    have hz : w.heap.size + 1 ≤ w2.heap.size := by have := HG2.out.size; simp at this; omega
    clear hg3 hg3' hv
    generalize pairsL 0 (clo 0 R) 0 = P at *
    go_wp2
    refine bodyPost_ret (v := .agg #[.slice none 0 0, .slice pv P.length cv]) (by simp [results, Tryd.results24, go_sem, b0, b1]) rfl ⟨none, 0, pv, cv, rfl, ?_, ?_⟩
    · have h0 : ObjAt w3 w2.heap.size w3.heap.size none 0 pv P.length [] P := ⟨strsAt_nil _ _ _, HV.out⟩
      have h1 := (h0.set (a := ⟨w.heap.size, 0, none⟩) (by show w.heap.size < _; omega) (.slice none 0 0)).set (a := ⟨w.heap.size, 1, none⟩) (by show w.heap.size < _; omega) (.slice pv P.length cv)
      exact h1.wider (by omega) (by simp [World.setCell]) (Nat.le_refl _)
    · exact grownBy_setCell_new _ (grownBy_setCell_new _ HG3.out (Nat.le_refl _)) (Nat.le_refl _)
  | some ad, H1, _ =>
    have hnews := Lib.hid (strs_news H1.out)
    obtain rfl : L.length = n := HLEN.out
    have hbnd : L.length ≤ maxLen := by unfold maxLen; omega
    clear H1 HLEN
    go_enter Tryd.func24, Tryd.ntmps24
    go_wp2_with (at_builtin; refine wpList_append_own _ rfl _ _ 22 rfl (w.heap.size + 1) 9 i0 (.string .empty) 1 16 Tryd.underlying22 hi' hz0 hz1 hz2 rfl (by decide) (.slice none 0 0) 0 [] rfl (World.ownsRow_nil _ _ _ _) ad L.length c (scells L) rfl (by simp [scells]) hnews.out (scells_one L) (by omega) (by omega) (by simp) ?_; intro v' w1 hown hgrow _)
    rw [Nat.zero_add, List.nil_append] at hown
    have hgrow' : (w.alloc (.cells #[.slice none 0 0, .slice none 0 0] 25)).grownBy w1 none := by simpa [Value.ownBlock] using hgrow
    obtain ⟨pu, cu, rfl, hpu⟩ := strsAt_own hown
    have HU1 := Lib.hid hpu
    have HG1 := Lib.hid hgrow'
    clear hown hgrow hgrow' hpu
    refine (matClosure_c _ _ _ _ R _ (by exact HR.out.calm HG1.out)).mono ?_
    rintro e w2 ⟨rc, rfl, hRC, hg2⟩
    have HU2 := Lib.hid (HU1.out.calm hg2)
    have HG2 := Lib.hid (grownBy_trans HG1.out hg2)
    have HRC := Lib.hid hRC
    have hz12 := hg2.size
    clear hg2 hRC
    go_wp2_with fail
    refine (matPairs_c _ _ _ _ (clo L.length R) _ (by exact HRC.out)).mono ?_
    rintro e w3 ⟨pv, cv, rfl, hv, hg3⟩
    have HV := Lib.hid hv
    have HU3 := Lib.hid (HU2.out.calm hg3)
    have hg3' := grownBy_trans HG2.out hg3
    have b0 := (box2 hg3').1
    have b1 := (box2 hg3').2.1
    have bf := (box2f hg3').1
    have bf1 := (box2f hg3').2
    have HG3 := Lib.hid (box2 hg3').2.2
    have hz : w.heap.size + 1 ≤ w2.heap.size := by have := HG2.out.size; simp at this; omega
    have hz23 := hg3.size
    clear hg3 hg3' hv
    generalize pairsL L.length (clo L.length R) L.length = P at *
    go_wp2
    refine bodyPost_ret (v := .agg #[.slice pu L.length cu, .slice pv P.length cv]) (by simp [results, Tryd.results24, go_sem, b0, b1]) rfl ⟨pu, cu, pv, cv, rfl, ?_, ?_⟩
    · have h0 : ObjAt w3 (w.heap.size + 1) w3.heap.size pu L.length pv P.length L P := by
        refine ⟨⟨HU3.out.len, fun hn => ?_⟩, ⟨HV.out.len, fun hn => ?_⟩⟩
        · obtain ⟨b, off, e, q1, q2, q3, hc⟩ := HU3.out.cell hn
          exact ⟨b, off, e, by omega, by omega, Nat.le_refl _, hc⟩
        · obtain ⟨b, off, e, q1, q2, q3, hc⟩ := HV.out.cell hn
          exact ⟨b, off, e, by omega, by omega, Nat.le_refl _, hc⟩
      have h1 := (h0.set (a := ⟨w.heap.size, 0, none⟩) (by show w.heap.size < _; omega) (.slice pu L.length cu)).set (a := ⟨w.heap.size, 1, none⟩) (by show w.heap.size < _; omega) (.slice pv P.length cv)
      exact h1.wider (by omega) (by simp [World.setCell]) (Nat.le_refl _)
    · exact grownBy_setCell_new _ (grownBy_setCell_new _ HG3.out (Nat.le_refl _)) (Nat.le_refl _)

end Go.Proofs.YtdolcdededmlhaaDoor
