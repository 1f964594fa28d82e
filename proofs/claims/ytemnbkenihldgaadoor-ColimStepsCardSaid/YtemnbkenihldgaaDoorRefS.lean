/- The reference's Pairs, Make, glued, Push, with what they say of a nil slice of pairs. -/
import Derived.Test.YtemnbkenihldgaaDoorConC
namespace Go.Proofs.YtemnbkenihldgaaDoor
open Go.RowKit Go.Shelf

def PairsPostS (l : List (Int × Int)) (w : World) (e : Ending) (w' : World) : Prop :=
  ∃ p c, e = .returned (.slice p l.length c) ∧ PairsAt w' w.heap.size w'.heap.size p l.length l ∧ w.grownBy w' none ∧ (p = none → c = 0)
def RefMakePostS (L : List ByteArray) (P : List (Int × Int)) (w : World) (e : Ending) (w' : World) : Prop :=
  ∃ p c q d, e = .returned (.agg #[.slice p L.length c, .slice q P.length d]) ∧ ObjAt w' w.heap.size w'.heap.size p L.length q P.length L P ∧ w.grownBy w' none ∧ (q = none → d = 0)
def GluedPostS (N : Nat) (Lb : List ByteArray) (P : List (Int × Int)) (L : List Nat) (w : World) (e : Ending) (w' : World) : Prop :=
  ∃ p c q d g, e = .returned (.tuple #[.agg #[.slice p (labG Lb L).length c, .slice q (gluP L P).length d], .slice (some ⟨g, 0, none⟩) N N]) ∧ ObjAt w' w.heap.size w'.heap.size p (labG Lb L).length q (gluP L P).length (labG Lb L) (gluP L P) ∧ ZsAt w' w.heap.size w'.heap.size (some ⟨g, 0, none⟩) N (atZ L) ∧ w.grownBy w' none ∧ (q = none → d = 0)
def RRes4S (L : List ByteArray) (P : List (Int × Int)) (I J : List Int) (r : Int) (w : World) (e : Ending) (w' : World) : Prop :=
  ∃ p c q d pi ci pj cj, e = .returned (.tuple #[.agg #[.slice p L.length c, .slice q P.length d], .slice pi I.length ci, .slice pj J.length cj, .int .i64 r]) ∧
    ObjAt w' w.heap.size w'.heap.size p L.length q P.length L P ∧ ZsAt w' w.heap.size w'.heap.size pi I.length I ∧ ZsAt w' w.heap.size w'.heap.size pj J.length J ∧ w.grownBy w' none ∧ (q = none → d = 0)

set_option maxHeartbeats 4000000 in
theorem matPairs_s (lo hi p n : Nat) (R : Nat → Nat → Bool) (w : World) (h : IsMat w lo hi p n R) : Calls Tryd.prog 58 #[.pointer (some ⟨p, 0, none⟩)] w (PairsPostS (pairsL n R n) w) := by
  obtain ⟨i0, hi0, hz0, hz1, hz2⟩ := info_parts Tryd.info74
  have hn := h.small
  have H := Lib.hid h
  clear h
  go_enter Tryd.func58, Tryd.ntmps58
  go_wp2
  go_loopw [3, 4] (fun v i wr => ∃ a : Nat, a ≤ n ∧ i = .int .i64 a ∧ OwnP wr w.heap.size v (pairsL n R a) ∧ w.grownBy wr none) (fun _ i _ => n - (intOf i).toNat)
  case atStart => exact ⟨0, Nat.zero_le _, rfl, ⟨none, 0, rfl, World.ownsRow_nil _ _ _ _⟩, grownBy_refl _ _⟩
  case round =>
    obtain ⟨a, ha, rfl, ⟨pa, ca, rfl, hra⟩, hga⟩ := hrel
    have hc0a := (H.out.calm hga).c0
    by_cases han : a < n
    · have HGA := Lib.hid hga
      have HRA := Lib.hid hra
      have HPE := Lib.hid (pairsP_end n R a)
      have HPZ := Lib.hid (pairsP_zero n R a)
      clear hga hra
      go_wp2_with fail
      go_loopw [3, 5] (fun v i wr => ∃ b : Nat, b ≤ n ∧ i = .int .i64 b ∧ OwnP wr w.heap.size v (pairsP n R a b) ∧ w.grownBy wr none) (fun _ i _ => n - (intOf i).toNat)
      case atStart => exact ⟨0, Nat.zero_le _, rfl, ⟨pa, ca, by rw [HPZ.out], by rw [HPZ.out]; exact HRA.out⟩, HGA.out⟩
      case round =>
        obtain ⟨b, hb, rfl, ⟨pq, cq, rfl, hrow⟩, hgb⟩ := hrel
        have hc0b := (H.out.calm hgb).c0
        by_cases hbn : b < n
        · obtain ⟨mb0, rb0, cap0, g1, g2, g3⟩ := (H.out.calm hgb).get han hbn
          have HGB := Lib.hid hgb
          have HROW := Lib.hid hrow
          have hsz : w.heap.size ≤ wr.heap.size := hgb.size
          have hql := pairsP_len n R a b hn (by omega) (by omega)
          have a0 : (0 : Int) ≤ a := by omega
          have b0 : (0 : Int) ≤ b := by omega
          have a1 : (a : Int) < n := by omega
          have b1 : (b : Int) < n := by omega
          clear hgb hrow
          cases hab : R a b
          · rw [hab] at g3
            have HNO := Lib.hid (pairsP_no (n := n) hab)
            clear hab
            generalize pairsP n R a b = q at *
            go_wp2
            exact ⟨⟨b + 1, by omega, by go_num, ⟨pq, cq, by rw [HNO.out], by rw [HNO.out]; exact HROW.out⟩, HGB.out⟩, by simp [intOf]; omega⟩
          · rw [hab] at g3
            have HYES := Lib.hid (pairsP_yes (n := n) hab)
            clear hab
            generalize pairsP n R a b = q at *
            go_wp2_with (at_builtin; refine wpList_append_own _ rfl _ _ 23 rfl w.heap.size 74 i0 (.agg #[.int .i64 0, .int .i64 0]) 2 16 Tryd.underlying23 hi0 hz0 hz1 hz2 rfl (by decide) _ _ _ rfl (HROW.out.alloc _) ⟨wr.heap.size, 0, none⟩ 1 1 [.int .i64 a, .int .i64 b] rfl rfl (cell_two_new _ _ _ _) (by simp [Value.oneCell']) (by unfold maxLen; omega) (by omega) (by simp; omega) ?_; intro v' w2 hown' hgrow _; obtain ⟨g', cap', rfl⟩ := ownsRow_succ hown')
            have HE : Hid (OwnP w2 w.heap.size (.slice (some ⟨g', 0, none⟩) (q.length + 1) cap') (pairsP n R a (b + 1)) ∧ w.grownBy w2 none) := by
              refine Lib.hid ⟨⟨some ⟨g', 0, none⟩, cap', by rw [HYES.out]; simp, ?_⟩, ?_⟩
              · rw [HYES.out, pcells_snoc]
                simpa using hown'
              · have hga := grownBy_trans HGB.out (World.grownBy_alloc wr (.cells #[.int .i64 a, .int .i64 b] 74) none)
                have hgrow' : (wr.alloc (.cells #[.int .i64 a, .int .i64 b] 74)).grownBy w2 (Value.slice pq q.length cq).ownBlock := hgrow
                cases hob : (Value.slice pq q.length cq).ownBlock with
                | none => rw [hob] at hgrow'; exact grownBy_trans hga hgrow'
                | some r =>
                  rw [hob] at hgrow'
                  exact grownBy_new hga hgrow' (HROW.out.lt r hob).1
            clear hown' hgrow
            go_wp2
            exact ⟨⟨b + 1, by omega, by go_num, HE.out.1, HE.out.2⟩, by simp [intOf]; omega⟩
        · obtain rfl : b = n := by omega
          rw [HPE.out] at hrow ⊢
          go_wp2
          exact ⟨⟨a + 1, by omega, by go_num, ⟨pq, cq, rfl, hrow⟩, hgb⟩, by simp [intOf]; omega⟩
    · obtain rfl : a = n := by omega
      obtain ⟨pp, cc, hpe, hpairs⟩ := pairsAt_own hra
      simp only [Value.slice.injEq, true_and] at hpe
      obtain ⟨rfl, rfl⟩ := hpe
      have hnn : pa = none → ca = 0 := by
        rintro rfl
        rcases hra.2 with ⟨h5, _⟩ | ⟨g', cap, cur, h5, _⟩
        · (simp only [Value.slice.injEq] at h5; exact h5.2.2)
        · (simp only [Value.slice.injEq] at h5; exact absurd h5.1 (by simp))
      have HE := Lib.hid (show PairsPostS (pairsL a R a) w (.returned (.slice pa (pairsL a R a).length ca)) wr from ⟨pa, ca, rfl, hpairs, hga, hnn⟩)
      clear hra hga hpairs hnn
      generalize (pairsL a R a).length = L at *
      go_wp2
      go_ret
      exact HE.out


set_option maxHeartbeats 2000000 in
theorem refMake_s (p : Option Addr) (n c lo hi lo' hi' r : Nat) (L : List ByteArray) (R : Nat → Nat → Bool) (w : World) (h : StrsAt w lo hi p n L) (hc : p = none → c = 0) (hn : n ≤ 200) (hR : IsMat w lo' hi' r n R) :
    Calls Tryd.prog 42 #[.slice p n c, .pointer (some ⟨r, 0, none⟩)] w (RefMakePostS L (pairsL n (clo n R) n) w) := by
  obtain ⟨i0, hi', hz0, hz1, hz2⟩ := info_parts Tryd.info9
  have hg0 := World.grownBy_alloc w (.cells #[.slice none 0 0, .slice none 0 0] 25) none
  have H1 := Lib.hid (h.calm hg0)
  have HR := Lib.hid (hR.calm hg0)
  have HLEN := Lib.hid h.len
  have HG0 := Lib.hid hg0
  clear h hR hg0
  match p, H1, hc with
  | none, H1, hc =>
    have hn0 : n = 0 := by
      rcases Nat.eq_zero_or_pos n with e | e
      · exact e
      · obtain ⟨_, _, e, _⟩ := H1.out.cell e; cases e
    obtain rfl := hc rfl
    subst hn0
    have hL : L = [] := List.eq_nil_of_length_eq_zero HLEN.out
    subst hL
    clear H1 hc HLEN
    go_enter Tryd.func42, Tryd.ntmps42
    go_wp2_with (at_builtin; refine wpList_append_own_none rfl _ _ 22 rfl w.heap.size 9 i0 1 Tryd.underlying22 hi' (.slice none 0 0) 0 [] rfl (World.ownsRow_nil _ _ _ _) rfl ?_)
    refine (matClosure_c _ _ _ _ R _ (by exact HR.out)).mono ?_
    rintro e w2 ⟨rc, rfl, hRC, hg2⟩
    have HG2 := Lib.hid hg2
    have HRC := Lib.hid hRC
    clear hg2 hRC
    go_wp2_with fail
    refine (matPairs_s _ _ _ _ (clo 0 R) _ (by exact HRC.out)).mono ?_
    rintro e w3 ⟨pv, cv, rfl, hv, hg3, hpn⟩
    have HPNN := Lib.hid hpn
    clear hpn
    have HV := Lib.hid hv
    have hg3' := grownBy_trans HG2.out hg3
    have b0 := (box2 hg3').1
    have b1 := (box2 hg3').2.1
    have bf := (box2f hg3').1
    have bf1 := (box2f hg3').2
    have HG3 := Lib.hid (box2 hg3').2.2
    have hz : w.heap.size + 1 ≤ w2.heap.size := by have := HG2.out.size; simp at this; omega
    clear hg3 hg3' hv
    generalize pairsL 0 (clo 0 R) 0 = P at *
    go_wp2
    refine bodyPost_ret (v := .agg #[.slice none 0 0, .slice pv P.length cv]) (by simp [results, Tryd.results42, go_sem, b0, b1]) rfl ⟨none, 0, pv, cv, rfl, ?_, ?_, HPNN.out⟩
    · have h0 : ObjAt w3 w2.heap.size w3.heap.size none 0 pv P.length [] P := ⟨strsAt_nil _ _ _, HV.out⟩
      have h1 := (h0.set (a := ⟨w.heap.size, 0, none⟩) (by show w.heap.size < _; omega) (.slice none 0 0)).set (a := ⟨w.heap.size, 1, none⟩) (by show w.heap.size < _; omega) (.slice pv P.length cv)
      exact h1.wider (by omega) (by simp [World.setCell]) (Nat.le_refl _)
    · exact grownBy_setCell_new _ (grownBy_setCell_new _ HG3.out (Nat.le_refl _)) (Nat.le_refl _)
  | some ad, H1, _ =>
    have hnews := Lib.hid (strs_news H1.out)
    obtain rfl : L.length = n := HLEN.out
    have hbnd : L.length ≤ maxLen := by unfold maxLen; omega
    clear H1 HLEN
    go_enter Tryd.func42, Tryd.ntmps42
    go_wp2_with (at_builtin; refine wpList_append_own _ rfl _ _ 22 rfl (w.heap.size + 1) 9 i0 (.string .empty) 1 16 Tryd.underlying22 hi' hz0 hz1 hz2 rfl (by decide) (.slice none 0 0) 0 [] rfl (World.ownsRow_nil _ _ _ _) ad L.length c (scells L) rfl (by simp [scells]) hnews.out (scells_one L) (by omega) (by omega) (by simp) ?_; intro v' w1 hown hgrow _)
    rw [Nat.zero_add, List.nil_append] at hown
    have hgrow' : (w.alloc (.cells #[.slice none 0 0, .slice none 0 0] 25)).grownBy w1 none := by simpa [Value.ownBlock] using hgrow
    obtain ⟨pu, cu, rfl, hpu⟩ := strsAt_own hown
    have HU1 := Lib.hid hpu
    have HG1 := Lib.hid hgrow'
    clear hown hgrow hgrow' hpu
    refine (matClosure_c _ _ _ _ R _ (by exact HR.out.calm HG1.out)).mono ?_
    rintro e w2 ⟨rc, rfl, hRC, hg2⟩
    have HU2 := Lib.hid (HU1.out.calm hg2)
    have HG2 := Lib.hid (grownBy_trans HG1.out hg2)
    have HRC := Lib.hid hRC
    have hz12 := hg2.size
    clear hg2 hRC
    go_wp2_with fail
    refine (matPairs_s _ _ _ _ (clo L.length R) _ (by exact HRC.out)).mono ?_
    rintro e w3 ⟨pv, cv, rfl, hv, hg3, hpn⟩
    have HPNN := Lib.hid hpn
    clear hpn
    have HV := Lib.hid hv
    have HU3 := Lib.hid (HU2.out.calm hg3)
    have hg3' := grownBy_trans HG2.out hg3
    have b0 := (box2 hg3').1
    have b1 := (box2 hg3').2.1
    have bf := (box2f hg3').1
    have bf1 := (box2f hg3').2
    have HG3 := Lib.hid (box2 hg3').2.2
    have hz : w.heap.size + 1 ≤ w2.heap.size := by have := HG2.out.size; simp at this; omega
    have hz23 := hg3.size
    clear hg3 hg3' hv
    generalize pairsL L.length (clo L.length R) L.length = P at *
    go_wp2
    refine bodyPost_ret (v := .agg #[.slice pu L.length cu, .slice pv P.length cv]) (by simp [results, Tryd.results42, go_sem, b0, b1]) rfl ⟨pu, cu, pv, cv, rfl, ?_, ?_, HPNN.out⟩
    · have h0 : ObjAt w3 (w.heap.size + 1) w3.heap.size pu L.length pv P.length L P := by
        refine ⟨⟨HU3.out.len, fun hn => ?_⟩, ⟨HV.out.len, fun hn => ?_⟩⟩
        · obtain ⟨b, off, e, q1, q2, q3, hc⟩ := HU3.out.cell hn
          exact ⟨b, off, e, by omega, by omega, Nat.le_refl _, hc⟩
        · obtain ⟨b, off, e, q1, q2, q3, hc⟩ := HV.out.cell hn
          exact ⟨b, off, e, by omega, by omega, Nat.le_refl _, hc⟩
      have h1 := (h0.set (a := ⟨w.heap.size, 0, none⟩) (by show w.heap.size < _; omega) (.slice pu L.length cu)).set (a := ⟨w.heap.size, 1, none⟩) (by show w.heap.size < _; omega) (.slice pv P.length cv)
      exact h1.wider (by omega) (by simp [World.setCell]) (Nat.le_refl _)
    · exact grownBy_setCell_new _ (grownBy_setCell_new _ HG3.out (Nat.le_refl _)) (Nat.le_refl _)


set_option maxRecDepth 20000 in
set_option maxHeartbeats 4000000 in
theorem glued_s (p q : Option Addr) (N c m d lo0 hi0 lo hi b : Nat) (Lb : List ByteArray) (P : List (Int × Int)) (L : List Nat) (w : World) (h : ObjAt w lo0 hi0 p N q m Lb P) (hu : IsRn w lo hi b L) (his : isL L) (hLN : L.length = N) (hN : N ≤ 40) (hm : m ≤ 2000000) (hin : allIn N P = true) :
    Calls Tryd.prog 19 #[.agg #[.slice p N c, .slice q m d], .pointer (some ⟨b, 0, none⟩)] w (GluedPostS N Lb P L w) := by
  obtain ⟨i0, hi0', hz0, hz1, hz2⟩ := info_parts Tryd.info9
  have H := Lib.hid h
  have HU := Lib.hid hu
  have HIS := Lib.hid his
  have HLN := Lib.hid hLN
  have HIN := Lib.hid hin
  have HPL := Lib.hid h.ps.len
  clear h hu his hLN hin
  go_enter Tryd.func19, Tryd.ntmps19
  go_wp2_with fail
  have he := boxEnv_two7 w (.slice p N c) (.slice q m d) (.slice none 0 0) (.slice none 0 0)
  generalize (w.alloc (.cells #[.slice p N c, .slice q m d] 25)).alloc (.cells #[.slice none 0 0, .slice none 0 0] 25) = W2 at *
  refine (placesR_c lo hi b L W2 (HU.out.calm he.1) HIS.out).mono ?_
  rintro e w1 ⟨gp, rfl, hrow, hg1⟩
  have hpl := placesL_len L
  rw [HLN.out] at hpl
  rw [hpl] at hrow ⊢
  have he1 := he.calm hg1
  have HE1 := Lib.hid he1
  have HROW := Lib.hid (hrow.mono (base' := w.heap.size) he.1.size)
  have hs1 := he1.1.size
  clear hg1 he he1 hrow hpl
  go_wp2
  go_loopw [7, 8] (fun out i wr => ∃ (k : Nat) (pl : Option Addr) (cl : Nat), k ≤ N ∧ i = .int .i64 k ∧ out = .slice pl (cntR L k) cl ∧ wr.ownsRow w1.heap.size 9 1 (.slice pl (cntR L k) cl) (cntR L k) (scells ((labG Lb L).take (cntR L k))) ∧ w1.grownBy wr none) (fun _ i _ => N - (intOf i).toNat)
  case atStart => exact ⟨0, none, 0, Nat.zero_le _, rfl, rfl, World.ownsRow_nil _ _ _ _, grownBy_refl _ _⟩
  case round =>
    obtain ⟨k, pl, cl, hk, rfl, rfl, hown, hgr⟩ := hrel
    have HOWN := Lib.hid hown
    have HGR := Lib.hid hgr
    have hsz := hgr.size
    by_cases hkn : k < N
    · have k0 : (0 : Int) ≤ k := by omega
      have k1 : (k : Int) < N := by omega
      have hkl : k < L.length := by rw [HLN.out]; exact hkn
      have hcell := (HROW.out.calm hgr).cell (j := k) (x := plc6 L k) (by rw [nx_get (by rw [placesL_len]; exact hkl), nx_places hkl])
      have hcs := cntR_succ L k
      have hcle := cntR_le L k
      by_cases hlead : nx L k = k
      · have hpk : plc6 L k = cntR L k := plc_root hlead
        rw [if_pos hlead] at hcs
        have hld : (leadL L)[cntR L k]? = some k := by
          have := leads_at HIS.out (Nat.le_refl _) hkl hlead
          rwa [leads_eq HIS.out] at this
        have HST : Hid (scells ((labG Lb L).take (cntR L k + 1)) = scells ((labG Lb L).take (cntR L k)) ++ [.string (Lb[k]?.getD .empty)]) := Lib.hid (by rw [labG_take hld, scells_app]; first | done | rfl)
        have HCS := Lib.hid hcs
        obtain ⟨pb, po, rfl, s1, s2, s3, hcl⟩ := (H.out.ls.calm (grownBy_trans HE1.out.1 hgr)).cell (by omega)
        have c0 := hcl k hkn
        have he2 := HE1.out.calm hgr
        have b0 := (he2.2 0 _ rfl).c0
        have heq : ((plc6 L k : Int) == (cntR L k : Int)) = true := by rw [hpk]; simp
        clear hown hgr hcl he2 hcs hld hpk
        generalize hlb : Lb[k]?.getD .empty = lb at *
        generalize plc6 L k = y at *
        generalize hcc : cntR L k = cc at *
        have b0' : wr.cell? ⟨w.heap.size, 0, none⟩ = some (.slice (some ⟨pb, po, none⟩) N c) := b0
        clear b0
        go_wp2_with (at_builtin; refine wpList_append_own _ rfl _ _ 22 rfl w1.heap.size 9 i0 (.string .empty) 1 16 Tryd.underlying22 hi0' hz0 hz1 hz2 rfl (by decide) (.slice pl cc cl) cc (scells ((labG Lb L).take cc)) rfl (HOWN.out.alloc _) ⟨wr.heap.size, 0, none⟩ 1 1 [.string lb] rfl rfl (World.news_of_block (heap_new wr _)) (by simp [Value.oneCell']) (by unfold maxLen; omega) (by omega) (by simp; omega) ?_; intro v' w2 hown' hgrow _; obtain ⟨g', cap', rfl⟩ := ownsRow_succ hown'; have HO2 := Lib.hid hown'; have HG2 := Lib.hid hgrow; clear hown' hgrow)
        go_wp2
        refine ⟨⟨k + 1, _, cap', by omega, by go_num, by rw [HCS.out], ?_, sgrow HGR.out HOWN.out HG2.out⟩, by simp [intOf]; omega⟩
        rw [HCS.out, HST.out]
        exact HO2.out
      · have hlt : nx L k < k := by have := HIS.out.le k hkl; omega
        have hpk : plc6 L k < cntR L k := cntR_lt hlt (HIS.out.fix k hkl)
        rw [if_neg hlead, Nat.add_zero] at hcs
        have HCS := Lib.hid hcs
        have heq : ((plc6 L k : Int) == (cntR L k : Int)) = false := by simp; omega
        clear hown hgr hcs
        generalize plc6 L k = y at *
        generalize hcc : cntR L k = cc at *
        go_wp2
        refine ⟨⟨k + 1, pl, cl, by omega, by go_num, by rw [HCS.out]; first | done | rfl, ?_, HGR.out⟩, by simp [intOf]; omega⟩
        rw [HCS.out]
        exact HOWN.out
    · obtain rfl : k = N := by omega
      have k1 : ¬ ((k : Int) < k) := by omega
      have hM : cntR L k = cntR L L.length := by rw [HLN.out]
      have hMl : cntR L L.length ≤ 40 := Nat.le_trans (cntR_le L L.length) (by rw [HLN.out]; exact hN)
      have HPL2 : Hid (∀ e, e < k → ∃ y : Nat, (atZ L)[e]?.getD 0 = (y : Int) ∧ y = plc6 L e ∧ y < cntR L L.length) := Lib.hid (fun e he => ⟨_, atZ_get (by rw [HLN.out]; exact he), rfl, plc6_lt HIS.out (by rw [HLN.out]; exact he)⟩)
      have HLG := Lib.hid (labG_len Lb L)
      have HGP : Hid (gluP L P = pairsL (cntR L L.length) (clo (cntR L L.length) (ofL (cntR L L.length) (mapP (atZ L) P))) (cntR L L.length)) := Lib.hid rfl
      rw [hM, List.take_of_length_le (by rw [HLG.out]; exact Nat.le_refl _)] at hown
      rw [hM]
      generalize hMM : cntR L L.length = M at *
      clear hM hMM HOWN
      have HOWN := Lib.hid hown
      clear hown
      go_wp2_with fail
      refine (matNew_c M _ (by omega)).mono ?_
      rintro e wn ⟨rb, rfl, hR0, hgn⟩
      have HR0 := Lib.hid hR0
      have HGN := Lib.hid hgn
      have hrt := hR0.top
      clear hR0
      have HGW := Lib.hid (grownBy_trans HE1.out.1 hgr)
      have hgw2 := grownBy_trans HE1.out.1 (grownBy_trans hgr hgn)
      generalize wr = wo at *
      go_wp2
      go_loopw [10] (fun i wr => ∃ j : Nat, j ≤ m ∧ i = .int .i64 j ∧ IsMat wr wo.heap.size wn.heap.size rb M (ofL M (mapP (atZ L) (P.take j))) ∧ wo.grownBy wr none) (fun i _ => m - (intOf i).toNat)
      case atStart => exact ⟨0, Nat.zero_le _, rfl, HR0.out, HGN.out⟩
      case round =>
        obtain ⟨j, hj, rfl, hrl, hgq⟩ := hrel
        have HRL := Lib.hid hrl
        have HGQ := Lib.hid hgq
        have heq := HE1.out.calm (grownBy_trans hgr hgq)
        have b0 : wr.cell? ⟨w.heap.size, 0, none⟩ = _ := (heq.2 0 _ rfl).c0
        have b1 : wr.cell? ⟨w.heap.size, 1, none⟩ = _ := (heq.2 0 _ rfl).c1
        clear heq
        by_cases hjm : j < m
        · have j0 : (0 : Int) ≤ j := by omega
          have j1 : (j : Int) < m := by omega
          obtain ⟨qb, qo, rfl, y1, y2, y3, hcp⟩ := (H.out.ps.calm (grownBy_trans HGW.out hgq)).cell (by omega)
          obtain ⟨z0, z1⟩ := hcp j hjm
          have HI := Lib.hid (inI_of_all (k := j) HIN.out (by rw [HPL.out]; exact hjm))
          have HTK := Lib.hid (show P.take (j + 1) = P.take j ++ [P[j]?.getD (0, 0)] by rw [List.take_add_one, List.getElem?_eq_getElem (by rw [HPL.out]; exact hjm)]; rfl)
          have hrj := HROW.out.calm (grownBy_trans hgr hgq)
          clear hcp hrl
          obtain ⟨x, hx⟩ : ∃ x, x = P[j]?.getD (0, 0) := ⟨_, rfl⟩
          rw [← hx] at z0 z1 HI HTK
          clear hx
          obtain ⟨xa, xb⟩ := x
          obtain ⟨a0, a1, a2, a3⟩ : 0 ≤ xa ∧ xa < k ∧ 0 ≤ xb ∧ xb < k := by have := HI.out; unfold inI at this; simp only at this; omega
          simp only at z0 z1
          obtain ⟨xa, rfl⟩ := Int.eq_ofNat_of_zero_le a0
          obtain ⟨xb, rfl⟩ := Int.eq_ofNat_of_zero_le a2
          obtain ⟨ya, hya, hya0, hya1⟩ := HPL2.out xa (by omega)
          obtain ⟨yb, hyb, hyb0, hyb1⟩ := HPL2.out xb (by omega)
          have hla : xa < L.length := by rw [HLN.out]; omega
          have hlb : xb < L.length := by rw [HLN.out]; omega
          have cwa := hrj.cell (j := xa) (x := ya) (by rw [hya0, nx_get (by rw [placesL_len]; exact hla), nx_places hla])
          have cwb := hrj.cell (j := xb) (x := yb) (by rw [hyb0, nx_get (by rw [placesL_len]; exact hlb), nx_places hlb])
          have HADD : Hid (ofL M (mapP (atZ L) (P.take (j + 1))) = addR (ofL M (mapP (atZ L) (P.take j))) ya yb) := Lib.hid (by
            rw [HTK.out]
            unfold mapP
            rw [List.map_append, List.map_cons, List.map_nil, ofL_snoc]
            simp only [Int.toNat_natCast, hya, hyb]
            rw [addI_yes ⟨by omega, by omega, by omega, by omega⟩]
            simp only [Int.toNat_natCast])
          obtain ⟨pm, mb, rbb, cap, rfl, hc1, hcm, hcr, hfr, hput⟩ := HRL.out.put (T := addR (ofL M (mapP (atZ L) (P.take j))) ya yb) hya1 hyb1 true (addR_put _ _ _) (addR_supp HRL.out.supp hya1 hyb1)
          have HPUT := Lib.hid (hput (wr.drewN 1) rfl rfl rfl rfl)
          have q0 : (0 : Int) ≤ ya := by omega
          have q1 : (ya : Int) < M := by omega
          have q2 : (0 : Int) ≤ yb := by omega
          have q3 : (yb : Int) < M := by omega
          clear hput hrj hya hyb hya0 hyb0 hgq
          go_wp2
          refine wp_region_still_tail 25 (by kernel_rfl) (by kernel_rfl) ?_
          simp only [List.take_succ_cons, List.take_zero, List.drop_succ_cons, List.drop_zero]
          repeat still_step
          refine wpStill_nil ?_
          change wpList _ _ _ _ _ wr.drew
          go_wp2
          exact ⟨⟨j + 1, by omega, by go_num, by rw [HADD.out]; exact HPUT.out.1, Kept.new HGQ.out HPUT.out.2 (Nat.le_refl _)⟩, by simp [intOf]; omega⟩
        · obtain rfl : j = m := by omega
          have hPj : P.take j = P := List.take_of_length_le (by rw [HPL.out]; exact Nat.le_refl _)
          rw [hPj] at HRL
          have hown := HOWN.out
          have hnil : pl = none → cl = 0 := by
            rintro rfl
            rcases hown.2 with ⟨h5, _⟩ | ⟨g', cap, cur, h5, _⟩
            · (simp only [Value.slice.injEq] at h5; exact h5.2.2)
            · (simp only [Value.slice.injEq] at h5; exact absurd h5.1 (by simp))
          have hst : StrsAt wo w1.heap.size wo.heap.size pl M (labG Lb L) := by
            obtain ⟨p9, c9, e9, hst⟩ := strsAt_own (by rw [HLG.out]; exact hown)
            rw [HLG.out] at e9 hst
            injection e9 with e1 e2 e3
            subst e1
            exact hst
          have hst2 := hst.calm hgq
          have he5 := HE1.out.calm (grownBy_trans hgr hgq)
          have HE5 := Lib.hid he5
          have HRW := Lib.hid (HROW.out.calm (grownBy_trans hgr hgq))
          have hbase : w.heap.size + 1 < wr.heap.size := (he5.2 1 _ rfl).lt
          clear hPj hrl hown hst he5
          go_wp2_with fail
          refine (refMake_s pl M cl _ _ _ _ rb (labG Lb L) _ wr hst2 hnil (by omega) HRL.out).mono ?_
          rintro e w6 ⟨p6, c6, q6, d6, rfl, hob, hg6, hqn⟩
          have HQN := Lib.hid hqn
          clear hqn
          rw [← HGP.out] at hob ⊢
          have he6 := HE5.out.calm hg6
          have b1 := he6.2 1 _ rfl
          have y0 : w6.cell? ⟨w.heap.size + 1, 0, none⟩ = _ := b1.c0
          have y1 : w6.cell? ⟨w.heap.size + 1, 1, none⟩ = _ := b1.c1
          have f0 : w6.frozen? ⟨w.heap.size + 1, 0, none⟩ = _ := b1.free 0
          have f1 : w6.frozen? ⟨w.heap.size + 1, 1, none⟩ = _ := b1.free 1
          have hfin : ∀ W9, W9 = (w6.setCell ⟨w.heap.size + 1, 0, none⟩ (.slice p6 (labG Lb L).length c6)).setCell ⟨w.heap.size + 1, 1, none⟩ (.slice q6 (gluP L P).length d6) →
              W9.cell? ⟨w.heap.size + 1, 0, none⟩ = some (.slice p6 (labG Lb L).length c6) ∧ W9.cell? ⟨w.heap.size + 1, 1, none⟩ = some (.slice q6 (gluP L P).length d6) ∧ GluedPostS k Lb P L w (.returned (.tuple #[.agg #[.slice p6 (labG Lb L).length c6, .slice q6 (gluP L P).length d6], .slice (some ⟨gp, 0, none⟩) k k])) W9 := by
            rintro W9 rfl
            have q1 := grownBy_setCell w6 ⟨w.heap.size + 1, 0, none⟩ (.slice p6 (labG Lb L).length c6)
            have q2 := grownBy_setCell (w6.setCell ⟨w.heap.size + 1, 0, none⟩ (.slice p6 (labG Lb L).length c6)) ⟨w.heap.size + 1, 1, none⟩ (.slice q6 (gluP L P).length d6)
            have hb9 := (show BoxO w6 (w.heap.size + 1) _ _ from b1).set0 (.slice p6 (labG Lb L).length c6) |>.set1 (.slice q6 (gluP L P).length d6)
            have hr6 := HRW.out.calm hg6
            have hgne : gp ≠ w.heap.size + 1 := by
              rintro rfl
              obtain ⟨c9, fz, hk⟩ := hr6.kind
              have hb : w6.heap[w.heap.size + 1]? = _ := b1
              rw [hb] at hk
              simp at hk
            have hlt := hr6.lt.2
            have k1 := (q1.block gp hlt (by intro e; injection e with e; exact hgne e))
            have k2 := (q2.block gp (Nat.lt_of_lt_of_le hlt q1.size) (by intro e; injection e with e; exact hgne e))
            have hr9 := hr6.block (k2.trans k1)
            have hz9 := zsAt_rowI hr9
            rw [placesL_len, HLN.out] at hz9
            have ho9 := (hob.set (a := ⟨w.heap.size + 1, 0, none⟩) (by show w.heap.size + 1 < wr.heap.size; exact hbase) (.slice p6 (labG Lb L).length c6)).set (a := ⟨w.heap.size + 1, 1, none⟩) (by show w.heap.size + 1 < wr.heap.size; exact hbase) (.slice q6 (gluP L P).length d6)
            exact ⟨hb9.c0, hb9.c1, p6, c6, q6, d6, gp, rfl, ho9.wider (by omega) (Nat.le_trans q1.size q2.size) (Nat.le_refl _), hz9, grownBy_setCell_new _ (grownBy_setCell_new _ he6.1 (by show _ ≤ w.heap.size + 1; omega)) (by show _ ≤ w.heap.size + 1; omega), HQN.out⟩
          have HFIN := Lib.hid hfin
          clear hfin hob he6 b1 hg6 hst2 hnil hgw2 hgr hgn hgq
          go_wp2
          obtain ⟨y8, y9, hres⟩ := HFIN.out _ rfl
          exact bodyPost_ret (v := .tuple #[.agg #[.slice p6 (labG Lb L).length c6, .slice q6 (gluP L P).length d6], .slice (some ⟨gp, 0, none⟩) k k]) (by simp [results, Tryd.results19, go_sem, y8, y9]) rfl hres


set_option maxRecDepth 20000 in
set_option maxHeartbeats 4000000 in
theorem refPush_s (p0 q0 p q p' q' pf pg : Option Addr) (n0 c0 m0 d0 n c m d n' c' m' d' nf cf cg : Nat) (lo0 hi0 lo hi lo' hi' lof hif log hig : Nat) (L0 L L' : List ByteArray) (P0 P P' : List (Int × Int)) (f g : List Int) (w : World) (h0 : ObjAt w lo0 hi0 p0 n0 q0 m0 L0 P0) (h : ObjAt w lo hi p n q m L P) (h' : ObjAt w lo' hi' p' n' q' m' L' P') (hf : ZsAt w lof hif pf nf f) (hg : ZsAt w log hig pg nf g) (hm0 : m0 ≤ 400000) (hm : m ≤ 400000) (hm' : m' ≤ 400000) (hnf : nf ≤ 1000000) (hn40 : n0 ≤ 40) (hl : n + n' ≤ 40) (hq1 : arB L0 P0 L P f = true) (hq2 : arB L0 P0 L' P' g = true) (hp0 : p = none → c = 0) (hp0' : p' = none → c' = 0) (hq0 : q = none → d = 0) :
    Calls Tryd.prog 8 #[.agg #[.slice p0 n0 c0, .slice q0 m0 d0], .agg #[.slice p n c, .slice q m d], .agg #[.slice p' n' c', .slice q' m' d'], .slice pf nf cf, .slice pg nf cg] w (RRes4S (labG (L ++ L') (joinsL (n + n') f (shL n g))) (gluP (joinsL (n + n') f (shL n g)) (P ++ shP n P')) ((atZ (joinsL (n + n') f (shL n g))).take n) ((atZ (joinsL (n + n') f (shL n g))).drop n) 0 w) := by
  have HINb := Lib.hid (show allIn n' P' = true by have := (chk_in (arB_chk hq2).2).2.2.1; rwa [h'.ls.len] at this)
  have HIN := Lib.hid (show allIn (n + n') (P ++ shP n P') = true from allIn_app (by have := (chk_in (arB_chk hq1).2).2.2.1; rwa [h.ls.len] at this) HINb.out)
  have HGB := Lib.hid (show ∀ k, k < nf → 0 ≤ g[k]?.getD 0 ∧ g[k]?.getD 0 < n' from fun k hk => by
    have h1 := (arB_hasZ hq2).2 (g[k]?.getD 0) (by rw [List.getElem?_eq_getElem (by rw [hg.len]; exact hk)]; exact List.getElem_mem _)
    rwa [h'.ls.len] at h1)
  have HLA := Lib.hid (show (L ++ L').length = n + n' by rw [List.length_append, h.ls.len, h'.ls.len])
  have HPA := Lib.hid (show (P ++ shP n P').length = m + m' by rw [List.length_append, shP_len, h.ps.len, h'.ps.len])
  have dd0 : ¬ ((40 : Int) < n0) := by omega
  have d1 : ¬ ((40 : Int) < n) := by omega
  have d2 : ¬ ((40 : Int) - n < n') := by omega
  have HP0 := Lib.hid hp0
  have HP0' := Lib.hid hp0'
  have HQ0 := Lib.hid hq0
  have H0 := Lib.hid h0
  have H := Lib.hid h
  have H' := Lib.hid h'
  have HF := Lib.hid hf
  have HG0 := Lib.hid hg
  have HR1 := Lib.hid hq1
  have HR3 := Lib.hid hq2
  have HGL := Lib.hid hg.len
  clear h0 h h' hf hg hq1 hq2 hp0 hp0' hq0
  have he := boxEnv_four w (.slice p0 n0 c0) (.slice q0 m0 d0) (.slice p n c) (.slice q m d) (.slice p' n' c') (.slice q' m' d') (.slice none 0 0) (.slice none 0 0)
  obtain ⟨a00, a01, b00, b01, b10, b11⟩ := he.three
  have HE := Lib.hid he
  clear he
  go_enter Tryd.func8, Tryd.ntmps8
  go_wp2_with fail
  have he0 := HE.out
  generalize ((((w.alloc (.cells #[.slice p0 n0 c0, .slice q0 m0 d0] 25)).alloc (.cells #[.slice p n c, .slice q m d] 25)).alloc (.cells #[.slice p' n' c', .slice q' m' d'] 25)).alloc (.cells #[.slice none 0 0, .slice none 0 0] 25)) = W0 at *
  have ha := H0.out.calm he0.1
  have ho := H.out.calm he0.1
  have hof := HF.out.calm he0.1
  clear he0
  refine (refArrow_r p0 q0 p q pf n0 c0 m0 d0 n c m d nf cf _ _ _ _ _ _ L0 L P0 P f true _ ha ho hof hnf (by omega) (by omega) HR1.out).mono ?_
  rintro e w3 ⟨rfl, hg3⟩
  have he3 := HE.out.calm hg3
  have HE3 := Lib.hid he3
  have ha := H0.out.calm he3.1
  have ho' := H'.out.calm he3.1
  have hog := HG0.out.calm he3.1
  obtain ⟨a00, a01, b00, b01, b10, b11⟩ := he3.three
  clear hof hg3 he3 ho
  go_wp2_with fail
  refine (refArrow_r p0 q0 p' q' pg n0 c0 m0 d0 n' c' m' d' nf cg _ _ _ _ _ _ L0 L' P0 P' g true _ ha ho' hog hnf (by omega) (by omega) HR3.out).mono ?_
  rintro e w4 ⟨rfl, hg4⟩
  have he4 := HE3.out.calm hg4
  have HE4 := Lib.hid he4
  obtain ⟨a00, a01, b00, b01, b10, b11⟩ := he4.three
  clear ha ho' hog hg4 he4 HE3 HE
  go_wp2_with fail
  rw [show (n : Int) + (n' : Int) = ((n + n' : Nat) : Int) from by omega]
  refine (newR_c (n + n') w4 (by omega)).mono ?_
  rintro e w5 ⟨ub, rfl, hu, hg5⟩
  have HU := Lib.hid hu
  have HG5 := Lib.hid hg5
  have htop := hu.top
  clear hu hg5
  generalize hlo : w4.heap.size = lo9 at *
  have HLO := Lib.hid hlo
  clear hlo
  generalize hhi : w5.heap.size = hi9 at *
  clear hhi
  go_wp2
  go_loopw [16] (fun i wr => ∃ k : Nat, k ≤ nf ∧ i = .int .i64 k ∧ IsRn wr lo9 hi9 ub (joinsK (List.range (n + n')) f (shL n g) k) ∧ w4.grownBy wr none) (fun i _ => nf - (intOf i).toNat)
  case atStart => exact ⟨0, Nat.zero_le _, rfl, HU.out, HG5.out⟩
  case round =>
    obtain ⟨k, hk, rfl, hu, hgr⟩ := hrel
    have HUK := Lib.hid hu
    have HGR := Lib.hid hgr
    have hek := HE4.out.calm hgr
    by_cases hka : k < nf
    · have k0 : (0 : Int) ≤ k := by omega
      have k1 : (k : Int) < nf := by omega
      obtain ⟨bf, of', rfl, f1, f2, f3, hcf⟩ := (HF.out.calm hek.1).cell (by omega)
      obtain ⟨bg, og', rfl, q1, q2, q3, hcg⟩ := (HG0.out.calm hek.1).cell (by omega)
      have cf9 := hcf k hka
      have cg9 := hcg k hka
      have HS : Hid (joinsK (List.range (n + n')) f (shL n g) (k + 1) = joinZ (joinsK (List.range (n + n')) f (shL n g) k) (f[k]?.getD 0) (g[k]?.getD 0 + (n : Int))) := Lib.hid (by
        rw [joinsK]
        congr 1
        rw [shL_get (by rw [HGL.out]; exact hka)]
        omega)
      have hgb := HGB.out k hka
      clear hcf hcg hu hgr hek
      generalize f[k]?.getD 0 = x at *
      generalize g[k]?.getD 0 = y at *
      have hw0 := wrap_few (y + (n : Int)) (by omega) (by omega)
      generalize hyn : y + (n : Int) = yn at hw0 HS
      have hw : IntKind.i64.wrap (y + (n : Int)) = yn := by rw [hyn]; exact hw0
      clear hw0 hyn hgb
      go_wp2_with fail
      refine wp_region_still_tail 11 (by kernel_rfl) (by kernel_rfl) ?_
      simp only [List.take_succ_cons, List.take_zero, List.drop_succ_cons, List.drop_zero]
      repeat still_step
      refine wpStill_nil ?_
      change wpList _ _ _ _ _ wr.drew
      go_wp2_with fail
      refine (joinR_c lo9 hi9 ub _ x yn _ (HUK.out.calm (grownBy_drewN wr 1 none))).mono ?_
      rintro e w6 ⟨rfl, h6, hk6⟩
      have HA6 := Lib.hid (show IsRn w6 lo9 hi9 ub (joinsK (List.range (n + n')) f (shL n g) (k + 1)) by rw [HS.out]; exact h6)
      have HG6 := Lib.hid (Kept.new (grownBy_trans HGR.out (grownBy_drewN wr 1 none)) hk6 (by rw [HLO.out]; exact Nat.le_refl _))
      clear h6 hk6
      go_wp2
      exact ⟨⟨k + 1, by omega, by go_num, HA6.out, HG6.out⟩, by simp [intOf]; omega⟩
    · obtain rfl : k = nf := by omega
      have k9 : ¬ ((k : Int) < k) := by omega
      have hJ : joinsK (List.range (n + n')) f (shL n g) k = joinsL (n + n') f (shL n g) := by unfold joinsL; rw [HF.out.len]
      rw [hJ] at HUK
      have HEK := Lib.hid hek
      obtain ⟨a00, a01, b00, b01, b10, b11⟩ := hek.three
      have ho := H.out.calm hek.1
      have ho' := H'.out.calm hek.1
      have HJI := Lib.hid (joinsL_is (n + n') f (shL n g))
      have HJL := Lib.hid (joinsL_len (n + n') f (shL n g))
      generalize joinsL (n + n') f (shL n g) = J at *
      clear hJ hu hgr hek
      go_wp2_with fail
      refine (refBeside_c p q p' q' n c m d n' c' m' d' _ _ _ _ L L' P P' _ ho ho' (by omega) (by omega) (by omega) (by omega) HP0.out HP0'.out HQ0.out HINb.out).mono ?_
      rintro e w6 ⟨p6, c6, q6, d6, rfl, ho6, hg6⟩
      rw [HLA.out, HPA.out] at ho6 ⊢
      have he6 := HEK.out.calm hg6
      have HE6 := Lib.hid he6
      have hu6 := HUK.out.calm hg6
      clear ho ho' hg6 he6 a00 a01 b00 b01 b10 b11
      go_wp2_with fail
      refine (glued_s p6 q6 (n + n') c6 (m + m') d6 _ _ lo9 hi9 ub (L ++ L') (P ++ shP n P') J _ ho6 hu6 HJI.out HJL.out hl (by omega) HIN.out).mono ?_
      rintro e w7 ⟨p7, c7, q7, d7, g7, rfl, ho7, hz7, hg7, hqn⟩
      have HQN := Lib.hid hqn
      clear hqn
      have he7 := HE6.out.calm hg7
      have hbase : w.heap.size + 1 + 1 + 1 < w6.heap.size := (HE6.out.2 3 _ rfl).lt
      generalize hX : (labG (L ++ L') J).length = lX at *
      generalize hY : (gluP J (P ++ shP n P')).length = lY at *
      have HXY := Lib.hid (And.intro hX hY)
      have hga := World.grownBy_alloc w7 (.cells #[.slice p7 lX c7, .slice q7 lY d7] 25) none
      have hbo := BoxO.new w7 (.slice p7 lX c7) (.slice q7 lY d7)
      have hza : (atZ J).length = n + n' := by rw [atZ_len, HJL.out]
      clear hX hY hu6 ho6 HE6
      go_wp2_with fail
      generalize hw8 : w7.alloc (.cells #[.slice p7 lX c7, .slice q7 lY d7] 25) = w8 at *
      clear hw8
      have hd : w8.grownBy w8.drew none := grownBy_drewN w8 1 none
      have g8 := grownBy_trans hga hd
      have he8 := he7.calm g8
      have hb8 := hbo.calm hd
      have ho8 := ho7.calm g8
      have hz8 := hz7.calm g8
      have nn0 : (0 : Int) ≤ n := by omega
      have nn1 : (n : Int) ≤ (n : Int) + n' := by omega
      have hzT := hz8.takeZ (m := n) (by omega)
      have hzD := hz8.dropZ (n := n) (m := n') rfl
      obtain ⟨ad, hzz, hzE⟩ : ∃ ad : Addr, ((n' = 0) = True ∧ ad = ⟨g7, 0, none⟩ ∨ (n' = 0) = False ∧ ad = ⟨g7, n, none⟩) ∧ ZsAt w8.drew w6.heap.size w7.heap.size (some ad) n' ((atZ J).drop n) := by
        rcases Nat.eq_zero_or_pos n' with hz | hz
        · exact ⟨⟨g7, 0, none⟩, .inl ⟨by simp [hz], rfl⟩, ⟨hzD.len, fun hp => by omega⟩⟩
        · exact ⟨⟨g7, n, none⟩, .inr ⟨by simp; omega, rfl⟩, hzD⟩
      have HTKL := Lib.hid hzT.len
      have HDRL := Lib.hid hzE.len
      have b80 := hb8.c0
      have b81 := hb8.c1
      obtain ⟨b20, b21, f20, f21⟩ := he8.fourth
      have e20 : w8.cell? ⟨w.heap.size + 1 + 1 + 1, 0, none⟩ = some (.slice none 0 0) := b20
      have e21 : w8.cell? ⟨w.heap.size + 1 + 1 + 1, 1, none⟩ = some (.slice none 0 0) := b21
      have e22 : w8.frozen? ⟨w.heap.size + 1 + 1 + 1, 0, none⟩ = false := f20
      have e23 : w8.frozen? ⟨w.heap.size + 1 + 1 + 1, 1, none⟩ = false := f21
      have HFIN : Hid (∀ W8, W8 = (w8.drew.setCell ⟨w.heap.size + 1 + 1 + 1, 0, none⟩ (.slice p7 lX c7)).setCell ⟨w.heap.size + 1 + 1 + 1, 1, none⟩ (.slice q7 lY d7) →
          W8.cell? ⟨w.heap.size + 1 + 1 + 1, 0, none⟩ = some (.slice p7 lX c7) ∧ W8.cell? ⟨w.heap.size + 1 + 1 + 1, 1, none⟩ = some (.slice q7 lY d7) ∧
          RRes4S (labG (L ++ L') J) (gluP J (P ++ shP n P')) ((atZ J).take n) ((atZ J).drop n) 0 w (.returned (.tuple #[.agg #[.slice p7 lX c7, .slice q7 lY d7], .slice (some ⟨g7, 0, none⟩) n (n + n'), .slice (some ad) n' n', .int .i64 0])) W8) := Lib.hid (by
        rintro W8 rfl
        generalize hXX : Value.slice p7 lX c7 = X at *
        generalize hYY : Value.slice q7 lY d7 = Y at *
        have heF := he8.set4 X Y
        obtain ⟨c0, c1, _, _⟩ := heF.fourth
        have q1 := grownBy_setCell w8.drew ⟨w.heap.size + 1 + 1 + 1, 0, none⟩ X
        have q2 := grownBy_setCell (w8.drew.setCell ⟨w.heap.size + 1 + 1 + 1, 0, none⟩ X) ⟨w.heap.size + 1 + 1 + 1, 1, none⟩ Y
        have k1 := Kept.row q1 (Nat.le_refl _) (Nat.lt_succ_self _)
        have k2 := Kept.row q2 (Nat.le_refl _) (Nat.lt_succ_self _)
        have hobF := (ho8.set (a := ⟨w.heap.size + 1 + 1 + 1, 0, none⟩) (by show w.heap.size + 1 + 1 + 1 < w6.heap.size; exact hbase) X).set (a := ⟨w.heap.size + 1 + 1 + 1, 1, none⟩) (by show w.heap.size + 1 + 1 + 1 < w6.heap.size; exact hbase) Y
        have hzTF := (hzT.apart k1 (.inr (by show w.heap.size + 1 + 1 + 1 + 1 ≤ w6.heap.size; omega))).apart k2 (.inr (by show w.heap.size + 1 + 1 + 1 + 1 ≤ w6.heap.size; omega))
        have hzEF := (hzE.apart k1 (.inr (by show w.heap.size + 1 + 1 + 1 + 1 ≤ w6.heap.size; omega))).apart k2 (.inr (by show w.heap.size + 1 + 1 + 1 + 1 ≤ w6.heap.size; omega))
        have z1 := q1.size
        have z2 := q2.size
        have z3 := g8.size
        obtain ⟨hX, hY⟩ := HXY.out
        subst hXX hYY hX hY
        refine ⟨c0, c1, p7, c7, q7, d7, some ⟨g7, 0, none⟩, n + n', some ad, n', by rw [HTKL.out, HDRL.out], hobF.wider (by omega) (by omega) (Nat.le_refl _), ?_, ?_, heF.1, HQN.out⟩
        · rw [HTKL.out]
          exact hzTF.wider (by omega) (by omega) (Nat.le_refl _)
        · rw [HDRL.out]
          exact hzEF.wider (by omega) (by omega) (Nat.le_refl _))
      have hn3 : n ≤ n + n' := by omega
      have hsub : n + n' - n = n' := by omega
      have hne7 : w.heap.size + 1 + 1 + 1 ≠ w7.heap.size := by
        have h9 : w6.heap.size ≤ w7.heap.size := hg7.size
        omega
      have hbs := hb8
      have hbx := And.intro hbs.c0 hbs.c1
      clear he7 hga hbo he8 ho8 hz8 ho7 hz7 hg7 hza hzT hzD hzE g8 hb8
      rcases hzz with ⟨hzz, rfl⟩ | ⟨hzz, rfl⟩
      all_goals
        go_region_held3 (fun w' => w'.cell? ⟨w7.heap.size, 0, none⟩ = some (.slice p7 lX c7) ∧ w'.cell? ⟨w7.heap.size, 1, none⟩ = some (.slice q7 lY d7)) (first | exact hbx | exact hbs.far hne7 _ _ | go_keep)
          (first
            | (go_at_call 20; fail))
        obtain ⟨c8, c9, hres⟩ := HFIN.out (((w8.setCell ⟨w.heap.size + 1 + 1 + 1, 0, none⟩ (.slice p7 lX c7)).setCell ⟨w.heap.size + 1 + 1 + 1, 1, none⟩ (.slice q7 lY d7)).drew) rfl
        clear hbx hbs e20 e21 e22 e23 b20 b21 f20 f21 b80 b81 hd HFIN
        generalize ((w8.setCell ⟨w.heap.size + 1 + 1 + 1, 0, none⟩ (.slice p7 lX c7)).setCell ⟨w.heap.size + 1 + 1 + 1, 1, none⟩ (.slice q7 lY d7)).drew = w9 at *
        go_wp2
        exact bodyPost_ret (v := .tuple #[.agg #[.slice p7 lX c7, .slice q7 lY d7], .slice (some ⟨g7, 0, none⟩) n (n + n'), .slice (some _) n' n', .int .i64 0]) (by simp [results, Tryd.results8, go_sem, c8, c9]) rfl hres


set_option maxHeartbeats 1000000 in
theorem refPush_z (p0 q0 p1 q1 p2 q2 pf pg : Option Addr) (n0 c0 m0 d0 n1 c1 m1 d1 n2 c2 m2 d2 nf cf ng cg : Nat) (lo0 hi0 lo1 hi1 lo2 hi2 lof hif log hig : Nat) (L0 L1 L2 : List ByteArray) (P0 P1 P2 : List (Int × Int)) (f g : List Int) (A : List ByteArray) (B : List (Int × Int)) (I J : List Int) (w : World) (hv : PushV L0 P0 L1 P1 L2 P2 f g A B I J 0) (a0 : ObjAt w lo0 hi0 p0 n0 q0 m0 L0 P0) (a1 : ObjAt w lo1 hi1 p1 n1 q1 m1 L1 P1) (a2 : ObjAt w lo2 hi2 p2 n2 q2 m2 L2 P2) (zf : ZsAt w lof hif pf nf f) (zg : ZsAt w log hig pg ng g) (b0 : n0 ≤ 50 ∧ m0 ≤ 400000) (b1 : n1 ≤ 50 ∧ m1 ≤ 400000) (b2 : n2 ≤ 50 ∧ m2 ≤ 400000) (bf : nf ≤ 60) (_bg : ng ≤ 60) (k1 : p1 = none → c1 = 0) (k2 : p2 = none → c2 = 0) (k3 : q1 = none → d1 = 0) :
    Calls Tryd.prog 8 #[.agg #[.slice p0 n0 c0, .slice q0 m0 d0], .agg #[.slice p1 n1 c1, .slice q1 m1 d1], .agg #[.slice p2 n2 c2, .slice q2 m2 d2], .slice pf nf cf, .slice pg ng cg] w (RRes4S A B I J 0 w) := by
  have hA := (hv.cases.resolve_left (fun h => by have := h.1; omega)).2
  have l0 := a0.ls.len
  have l1 := a1.ls.len
  have l2 := a2.ls.len
  have lf := zf.len
  have lg := zg.len
  have hf1 := hA.few
  have hs0 := lab_small (chk_in (arB_chk hA.af).1).1
  obtain ⟨e1, e2, e3, e4, e5⟩ := hv
  rw [if_pos e1.symm] at e2 e3 e4 e5
  have e6 := (arB_hasZ hA.af).1
  have e7 := (arB_hasZ hA.ag).1
  obtain rfl : ng = nf := by omega
  rw [l1, l2] at e2 e3 e4 e5
  have haf := hA.af
  have hag := hA.ag
  clear hA
  subst e2 e3 e4 e5
  exact refPush_s p0 q0 p1 q1 p2 q2 pf pg n0 c0 m0 d0 n1 c1 m1 d1 n2 c2 m2 d2 _ cf cg lo0 hi0 lo1 hi1 lo2 hi2 lof hif log hig L0 L1 L2 P0 P1 P2 f g w a0 a1 a2 zf zg (by omega) (by omega) (by omega) (by omega) (by omega) (by omega) haf hag k1 k2 k3

end Go.Proofs.YtemnbkenihldgaaDoor
