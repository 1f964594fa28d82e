/- The contract of Reduce of package order. -/
import Derived.Test.YtkipldmkdnjkaaaDoorOrdC
import Derived.Test.YtkipldmkdnjkaaaDoorMatY
namespace Go.Proofs.YtkipldmkdnjkaaaDoor
open Go.RowKit

theorem ownsRow_lower {w : World} {base base' size n : Nat} {e : TypeId} {v : Value} {xs : List Value} (h : w.ownsRow base e size v n xs) (hb : base' ≤ base) : w.ownsRow base' e size v n xs :=
  ⟨h.1, h.2.imp id fun ⟨g, cap, cur, h1, h2, h3⟩ => ⟨g, cap, cur, h1, Nat.le_trans hb h2, h3⟩⟩
/-- isAhead of two classes of a grid. -/
theorem isAhead_g (lo hi p n i j base g m cap : Nat) (C : Nat → Nat → Bool) (w : World) (ib ic : Nat → Nat) (h : IsRel w lo hi p n C) (hg : Grid w base (.slice (some ⟨g, 0, none⟩) m cap) (circL C n) ib ic) (f t : List Nat) (hf : (circL C n)[i]? = some f) (ht : (circL C n)[j]? = some t) :
    Calls Tryd.prog 21 #[.pointer (some ⟨p, 0, none⟩), .slice (some ⟨ib i, 0, none⟩) f.length (ic i), .slice (some ⟨ib j, 0, none⟩) t.length (ic j)] w fun e w' => e = .returned (.bool (aheadL C f t)) ∧ ∃ m, w' = w.drewN m := by
  obtain ⟨x, l, q1, q2, q3, q4, q5, q6, q7, q8, q9⟩ := hg.nth (k := i) (List.getElem?_eq_some_iff.1 hf).1
  obtain ⟨y, l', r1, r2, r3, r4, r5, r6, r7, r8, r9⟩ := hg.nth (k := j) (List.getElem?_eq_some_iff.1 ht).1
  rw [hf] at q1
  rw [ht] at r1
  cases q1
  cases r1
  have := isAhead_c lo hi p n (ib i) f.length (ic i) (ib j) t.length (ic j) x y C w h q8 r8 q5 r5 q3 r3
  unfold aheadL
  rw [q4, r4]
  exact this

theorem any_take_succ (f : List Nat → Bool) {ls : List (List Nat)} {j : Nat} {l : List Nat} (h : ls[j]? = some l) : (ls.take (j + 1)).any f = ((ls.take j).any f || f l) := by
  rw [List.take_add_one, h, List.any_append]
  simp
theorem any_of {f : List Nat → Bool} {ls : List (List Nat)} {j : Nat} {l : List Nat} (h : ls[j]? = some l) (hf : f l = true) : ls.any f = true :=
  List.any_eq_true.2 ⟨l, List.mem_of_getElem? h, hf⟩

/-- Pairs in new memory, and room for them. -/
def PairsPostC (l : List (Int × Int)) (w : World) (e : Ending) (w' : World) : Prop :=
  ∃ p c, e = .returned (.slice p l.length c) ∧ (l.length ≤ c ∧ c ≤ 9223372036854775807) ∧ PairsAt w' w.heap.size w'.heap.size p l.length l ∧ w.grownBy w' none

set_option maxHeartbeats 4000000 in
theorem reduce_cc (lo hi p n : Nat) (R : Nat → Nat → Bool) (w : World) (h : IsRel w lo hi p n R) : Calls Tryd.prog 6 #[.pointer (some ⟨p, 0, none⟩)] w (PairsPostC (redL (clo n R) n) w) := by
  obtain ⟨i0, hi0, hz0, hz1, hz2⟩ := info_parts Tryd.info25
  have H := Lib.hid h
  have hn := h.small
  have HS := Lib.hid h.supp
  clear h
  go_enter Tryd.func6, Tryd.ntmps6
  go_wp2_with fail
  refine (ordClosure_c lo hi p n R _ H.out).mono ?_
  rintro e w1 ⟨q, rfl, h1, hg1⟩
  have H1 := Lib.hid h1
  have HG := Lib.hid hg1
  clear h1 hg1
  go_wp2_with fail
  refine (classes_c _ _ q n (clo n R) _ H1.out (clo_trans HS.out)).mono ?_
  rintro e w3 ⟨v, rfl, ⟨ib, ic, hgrid⟩, hg3⟩
  have HREL := Lib.hid (H1.out.calm hg3)
  have HG3 := Lib.hid (grownBy_trans HG.out hg3)
  obtain ⟨pg, cap, rfl, hpg⟩ := hgrid.slice
  have HPG := Lib.hid hpg
  have hll := circ_le (clo n R) n
  have HGRID := Lib.hid hgrid
  have HRED : Hid (redL (clo n R) n = redK (clo n R) (circL (clo n R) n) (circL (clo n R) n)) := Lib.hid rfl
  rw [HRED.out]
  clear hgrid hpg hg3 HG H1 HS H HRED
  generalize clo n R = C at *
  generalize hL : (circL C n).length = L at *
  have HL := Lib.hid hL
  clear hL
  generalize w1.heap.size = base at *
  clear w1
  go_wp2
  go_loopw [5, 18] (fun v i wr => ∃ k : Nat, k ≤ L ∧ i = .int .i64 k ∧ OwnP wr w3.heap.size v (redK C (circL C n) ((circL C n).take k)) ∧ w3.grownBy wr none) (fun _ i _ => L - (intOf i).toNat)
  case atStart => exact ⟨0, Nat.zero_le _, rfl, ⟨none, 0, rfl, World.ownsRow_nil _ _ _ _⟩, grownBy_refl _ _⟩
  case round =>
    obtain ⟨i, hi', rfl, hown, hgr⟩ := hrel
    have HOWN := Lib.hid hown
    have HGR := Lib.hid hgr
    clear hown hgr
    by_cases hil : i < L
    · obtain ⟨g, rfl, hgb, hgl⟩ := HPG.out i hil
      obtain ⟨f, hf⟩ : ∃ f, (circL C n)[i]? = some f := ⟨_, List.getElem?_eq_getElem (by rw [HL.out]; exact hil)⟩
      have HF := Lib.hid hf
      have hcf := (HGRID.out.calm HGR.out).head hf
      have i0' : (0 : Int) ≤ i := by omega
      have i1 : (i : Int) < L := by omega
      have HKS : Hid (redK C (circL C n) ((circL C n).take (i + 1)) = redK C (circL C n) ((circL C n).take i) ++ redF C (circL C n) f (circL C n)) := Lib.hid (by
        rw [List.take_add_one, hf]
        exact redK_snoc _ _ _ _)
      have hkl : (redK C (circL C n) ((circL C n).take i)).length ≤ 40000 := by
        have h1 := redK_len C (circL C n) ((circL C n).take i)
        rw [List.length_take, HL.out] at h1
        have h2 : min i L * L ≤ 200 * 200 := Nat.mul_le_mul (by omega) (by omega)
        omega
      clear hf
      generalize redK C (circL C n) ((circL C n).take i) = q0 at *
      obtain ⟨pq, cq, rfl, hq⟩ := HOWN.out
      have HQ := Lib.hid hq
      clear hq HOWN
      go_wp2
      go_step3
      go_wp2
      go_step3
      go_wp2
      go_loopw [5, 24] (fun v i wi => ∃ k : Nat, k ≤ L ∧ i = .int .i64 k ∧ OwnP wi w3.heap.size v (q0 ++ redF C (circL C n) f ((circL C n).take k)) ∧ w3.grownBy wi none) (fun _ i _ => L - (intOf i).toNat)
      case atStart => exact ⟨0, Nat.zero_le _, rfl, ⟨pq, cq, by simp [redF], by simpa [redF] using HQ.out⟩, HGR.out⟩
      case round =>
        obtain ⟨k, hk', rfl, hownk, hgk⟩ := hrel
        obtain ⟨pk, ck, rfl, hqk⟩ := hownk
        have HQK := Lib.hid hqk
        have HGK := Lib.hid hgk
        clear hqk hgk
        by_cases hkL : k < L
        · obtain ⟨t, ht⟩ : ∃ t, (circL C n)[k]? = some t := ⟨_, List.getElem?_eq_getElem (by rw [HL.out]; exact hkL)⟩
          have HT := Lib.hid ht
          have HGRK := Lib.hid (HGRID.out.calm HGK.out)
          have hct := HGRK.out.head ht
          have k0 : (0 : Int) ≤ k := by omega
          have k1 : (k : Int) < L := by omega
          have HFS : Hid (redF C (circL C n) f ((circL C n).take (k + 1)) = redF C (circL C n) f ((circL C n).take k) ++ if aheadL C f t && !betw C (circL C n) f t then [(((f.headD 0 : Nat) : Int), ((t.headD 0 : Nat) : Int))] else []) := Lib.hid (by
            rw [List.take_add_one, ht]
            exact redF_snoc _ _ _ _ _)
          have hfl : (redF C (circL C n) f ((circL C n).take k)).length ≤ 200 := by
            have h1 := redF_len C (circL C n) f ((circL C n).take k)
            rw [List.length_take, HL.out] at h1
            omega
          have HFS2 : Hid (q0 ++ redF C (circL C n) f ((circL C n).take (k + 1)) = (q0 ++ redF C (circL C n) f ((circL C n).take k)) ++ if aheadL C f t && !betw C (circL C n) f t then [(((f.headD 0 : Nat) : Int), ((t.headD 0 : Nat) : Int))] else []) := Lib.hid (by rw [HFS.out, List.append_assoc])
          have hqq : (q0 ++ redF C (circL C n) f ((circL C n).take k)).length ≤ 40200 := by rw [List.length_append]; omega
          clear ht HFS hfl
          generalize q0 ++ redF C (circL C n) f ((circL C n).take k) = qq at *
          go_wp2_with fail
          refine (isAhead_g _ _ q n i k base g L cap C _ ib ic (HREL.out.calm HGK.out) HGRK.out f t HF.out HT.out).mono ?_
          rintro e w' ⟨he, m, rfl⟩
          cases hft : aheadL C f t
          · rw [hft] at he
            subst he
            have HE : Hid (q0 ++ redF C (circL C n) f ((circL C n).take (k + 1)) = qq) := Lib.hid (by rw [HFS2.out, hft]; simp)
            clear hft
            go_wp2
            exact ⟨⟨k + 1, by omega, by go_num, ⟨pk, ck, by rw [HE.out], by rw [HE.out]; exact HQK.out⟩, grownBy_trans HGK.out (grownBy_drewN wr m none)⟩, by simp [intOf]; omega⟩
          · rw [hft] at he
            subst he
            have HFT := Lib.hid hft
            clear hft
            have HQM : Hid ((wr.drewN m).ownsRow w3.heap.size 25 2 (.slice pk qq.length ck) qq.length (pcells qq)) := Lib.hid HQK.out
            have HGM := Lib.hid (grownBy_trans HGK.out (grownBy_drewN wr m none))
            have HGRM := Lib.hid (HGRK.out.calm (grownBy_drewN wr m none))
            clear hcf hct HGRK HGK HQK HGR
            generalize wr.drewN m = wm at *
            go_wp2
            go_loopw [35] (fun i wi => ∃ j : Nat, j ≤ L ∧ i = .int .i64 j ∧ ((circL C n).take j).any (fun b => aheadL C f b && aheadL C b t) = false ∧ ∃ m, wi = wm.drewN m) (fun i _ => L - (intOf i).toNat)
            case atStart => exact ⟨0, Nat.zero_le _, rfl, by simp, 0, rfl⟩
            case round =>
              obtain ⟨j, hj', rfl, hany, m2, rfl⟩ := hrel
              have HANY := Lib.hid hany
              clear hany
              by_cases hjL : j < L
              · obtain ⟨b, hb⟩ : ∃ b, (circL C n)[j]? = some b := ⟨_, List.getElem?_eq_getElem (by rw [HL.out]; exact hjL)⟩
                have HB := Lib.hid hb
                have hcb := HGRM.out.head hb
                have j0 : (0 : Int) ≤ j := by omega
                have j1 : (j : Int) < L := by omega
                clear hb
                go_wp2_with fail
                refine (isAhead_g _ _ q n i j base g L cap C _ ib ic (HREL.out.calm (grownBy_trans HGM.out (grownBy_drewN wm m2 none))) (HGRM.out.calm (grownBy_drewN wm m2 none)) f b HF.out HB.out).mono ?_
                rintro e w' ⟨he, m3, rfl⟩
                cases hfb : aheadL C f b
                · rw [hfb] at he
                  subst he
                  have HE := Lib.hid (show ((circL C n).take (j + 1)).any (fun b => aheadL C f b && aheadL C b t) = false by rw [any_take_succ _ HB.out, HANY.out, hfb]; rfl)
                  clear hfb
                  go_wp2
                  exact ⟨⟨j + 1, by omega, by go_num, HE.out, _, rfl⟩, by simp [intOf]; omega⟩
                · rw [hfb] at he
                  subst he
                  have HFB := Lib.hid hfb
                  clear hfb
                  go_wp2_with fail
                  refine (isAhead_g _ _ q n j k base g L cap C _ ib ic (HREL.out.calm (grownBy_trans HGM.out (grownBy_drewN wm _ none))) (HGRM.out.calm (grownBy_drewN wm _ none)) b t HB.out HT.out).mono ?_
                  rintro e w' ⟨he, m4, rfl⟩
                  cases hbt : aheadL C b t
                  · rw [hbt] at he
                    subst he
                    have HE := Lib.hid (show ((circL C n).take (j + 1)).any (fun b => aheadL C f b && aheadL C b t) = false by rw [any_take_succ _ HB.out, HANY.out, hbt]; simp)
                    clear hbt
                    go_wp2
                    exact ⟨⟨j + 1, by omega, by go_num, HE.out, _, rfl⟩, by simp [intOf]; omega⟩
                  · rw [hbt] at he
                    subst he
                    have HE : Hid (q0 ++ redF C (circL C n) f ((circL C n).take (k + 1)) = qq) := Lib.hid (by
                      have : betw C (circL C n) f t = true := any_of HB.out (by rw [HFB.out, hbt]; rfl)
                      rw [HFS2.out, this]; simp)
                    clear hbt
                    go_wp2
                    exact ⟨⟨k + 1, by omega, by go_num, ⟨pk, ck, by rw [HE.out], by rw [HE.out]; exact HQM.out⟩, grownBy_trans HGM.out (grownBy_drewN wm _ none)⟩, by simp [intOf]; omega⟩
              · obtain rfl : j = L := by omega
                have HE : Hid (q0 ++ redF C (circL C n) f ((circL C n).take (k + 1)) = qq ++ [(((f.headD 0 : Nat) : Int), ((t.headD 0 : Nat) : Int))]) := Lib.hid (by
                  have h1 := HANY.out
                  rw [List.take_of_length_le (by rw [HL.out]; exact Nat.le_refl _)] at h1
                  have : betw C (circL C n) f t = false := h1
                  rw [HFS2.out, this, HFT.out]; rfl)
                obtain ⟨x, f', x1, _, _, x4, x5, x6, _, x8, _⟩ := (HGRM.out.calm (grownBy_drewN wm m2 none)).nth (k := i) (by rw [HL.out]; exact hil)
                obtain ⟨y, t', y1, _, _, y4, y5, y6, _, y8, _⟩ := (HGRM.out.calm (grownBy_drewN wm m2 none)).nth (k := k) (by rw [HL.out]; exact hkL)
                rw [HF.out] at x1
                rw [HT.out] at y1
                cases x1
                cases y1
                rw [x4, y4] at HE
                have HQN : Hid ((wm.drewN m2).ownsRow w3.heap.size 25 2 (.slice pk qq.length ck) qq.length (pcells qq)) := Lib.hid HQM.out
                have HGN := Lib.hid (grownBy_trans HGM.out (grownBy_drewN wm m2 none))
                have hsn : w3.heap.size ≤ (wm.drewN m2).heap.size := HGN.out.size
                have f0 : (0 : Int) < f.length := by omega
                have t0 : (0 : Int) < t.length := by omega
                clear x4 y4 HGM HQM HGRM HANY
                generalize wm.drewN m2 = wn at *
                go_wp2
                go_region_law (refine step_append_lies _ (by rfl) _ _ _ (by rfl) w3.heap.size 25 i0 (.agg #[.int .i64 0, .int .i64 0]) 2 16 Tryd.underlying22 hi0 hz0 hz1 hz2 rfl (by decide) (.slice pk qq.length ck) qq.length (pcells qq) (by rfl) (by exact HQN.out.drew.alloc _) ⟨wn.heap.size, 0, none⟩ 1 1 [.int .i64 x, .int .i64 y] (by rfl) rfl (by exact cell_two_new _ _ _ _) (by simp [Value.oneCell']) (by decide) (by unfold maxLen; omega) (by omega) (by simp; omega) (wn.heap.size + 1) (by simp) ?_; intro g' cap' w2 hown' hgrow _ _)
                all_goals go_wp2
                all_goals
                  have HE2 : Hid (OwnP w2 w3.heap.size (.slice (some ⟨g', 0, none⟩) (qq.length + 1) cap') (qq ++ [((x : Int), (y : Int))]) ∧ w3.grownBy w2 none) := by
                    refine Lib.hid ⟨⟨some ⟨g', 0, none⟩, cap', by simp, ?_⟩, ?_⟩
                    · rw [pcells_snoc]
                      simpa using hown'
                    · have hga := grownBy_trans HGN.out (grownBy_trans (grownBy_drewN wn 1 none) (World.grownBy_alloc wn.drew (.cells #[.int .i64 x, .int .i64 y] 25) none))
                      have hgrow' : (wn.drew.alloc (.cells #[.int .i64 x, .int .i64 y] 25)).grownBy w2 (Value.slice pk qq.length ck).ownBlock := hgrow
                      cases hob : (Value.slice pk qq.length ck).ownBlock with
                      | none => rw [hob] at hgrow'; exact grownBy_trans hga hgrow'
                      | some r =>
                        rw [hob] at hgrow'
                        exact grownBy_new hga hgrow' (HQN.out.lt r hob).1
                  exact ⟨⟨k + 1, by omega, by go_num, by rw [HE.out]; exact HE2.out.1, HE2.out.2⟩, by simp [intOf]; omega⟩
        · obtain rfl : k = L := by omega
          have HE : Hid (q0 ++ redF C (circL C n) f ((circL C n).take k) = redK C (circL C n) ((circL C n).take (i + 1))) := Lib.hid (by
            rw [HKS.out, List.take_of_length_le (by rw [HL.out]; exact Nat.le_refl _)])
          rw [HE.out] at HQK ⊢
          go_wp2
          rw [Exit.noGoto_normal]
          go_wp2
          exact ⟨⟨i + 1, by omega, by go_num, ⟨pk, ck, rfl, HQK.out⟩, HGK.out⟩, by simp [intOf]; omega⟩
    · obtain rfl : i = L := by omega
      obtain ⟨pq, cq, rfl, hq⟩ := HOWN.out
      rw [List.take_of_length_le (by rw [HL.out]; exact Nat.le_refl _)] at hq ⊢
      obtain ⟨pp, cc, hpe, hpairs⟩ := pairsAt_own (ownsRow_lower hq HG3.out.size)
      simp only [Value.slice.injEq, true_and] at hpe
      obtain ⟨rfl, rfl⟩ := hpe
      have hroom : (redK C (circL C n) (circL C n)).length ≤ cq ∧ cq ≤ 9223372036854775807 := by
        rcases hq.2 with ⟨h1, h2⟩ | ⟨_, _, _, h1, _, _, h2, h3, _⟩
        · simp only [Value.slice.injEq] at h1
          omega
        · simp only [Value.slice.injEq] at h1
          unfold maxLen at h3
          omega
      have HE := Lib.hid (show PairsPostC (redK C (circL C n) (circL C n)) w (.returned (.slice pq (redK C (circL C n) (circL C n)).length cq)) wr from ⟨pq, cq, rfl, hroom, hpairs, grownBy_trans HG3.out HGR.out⟩)
      clear hroom
      clear hq hpairs
      generalize (redK C (circL C n) (circL C n)).length = M at *
      go_wp2
      go_ret
      exact HE.out

theorem reduce_c (lo hi p n : Nat) (R : Nat → Nat → Bool) (w : World) (h : IsRel w lo hi p n R) : Calls Tryd.prog 6 #[.pointer (some ⟨p, 0, none⟩)] w (PairsPost (redL (clo n R) n) w) :=
  (reduce_cc lo hi p n R w h).mono fun _ _ ⟨p, c, h1, _, h2, h3⟩ => ⟨p, c, h1, h2, h3⟩

end Go.Proofs.YtkipldmkdnjkaaaDoor
