/- The contract of Reduce of package centoref2. -/
import Derived.Deep.RegionLaw
import Derived.Test.YtkipldmkdnjkaaaRefE
namespace Go.Proofs.Ytkipldmkdnjkaaa
open Go.RowKit

def betwI (C : Nat → Nat → Bool) (ls : List (List Nat)) (i k j : Nat) : Bool := decide (j ≠ i) && (decide (j ≠ k) && (C (hdK ls i) (hdK ls j) && C (hdK ls j) (hdK ls k)))
theorem betw_same {C : Nat → Nat → Bool} {n i k : Nat} (hi : i < (circL C n).length) (hk : k < (circL C n).length) : betw C (circL C n) ((circL C n).getD i []) ((circL C n).getD k []) = (List.range (circL C n).length).any (betwI C (circL C n) i k) := by
  rw [Bool.eq_iff_iff]
  unfold betw
  simp only [List.any_eq_true, List.mem_range]
  constructor
  · rintro ⟨b, hb, h⟩
    obtain ⟨j, hj⟩ := List.getElem?_of_mem hb
    obtain ⟨hjl, hje⟩ := List.getElem?_eq_some_iff.1 hj
    have e : b = (circL C n).getD j [] := by rw [List.getD_eq_getElem?_getD, hj]; rfl
    rw [e, ahead_hd hjl hi, ahead_hd hk hjl] at h
    refine ⟨j, hjl, ?_⟩
    unfold betwI
    simp only [Bool.and_eq_true, decide_eq_true_eq] at h ⊢
    exact ⟨fun e => h.1.1 e.symm, h.2.1, h.1.2, h.2.2⟩
  · rintro ⟨j, hjl, h⟩
    refine ⟨(circL C n).getD j [], by rw [List.getD_eq_getElem?_getD, List.getElem?_eq_getElem hjl]; exact List.getElem_mem hjl, ?_⟩
    rw [ahead_hd hjl hi, ahead_hd hk hjl]
    unfold betwI at h
    simp only [Bool.and_eq_true, decide_eq_true_eq] at h ⊢
    exact ⟨⟨fun e => h.1 e.symm, h.2.2.1⟩, h.2.1, h.2.2.2⟩
theorem any_succ (f : Nat → Bool) (k : Nat) : (List.range (k + 1)).any f = ((List.range k).any f || f k) := by
  rw [List.range_succ, List.any_append]
  simp

/-- What the reads of Reduce find. -/
structure RedIn (w : World) (p n g L cap : Nat) (C : Nat → Nat → Bool) (ls : List (List Nat)) (ib ic : Nat → Nat) (mb mcap : Nat) (rb : Nat → Nat) : Prop where
  c1 : w.cell? ⟨p, 1, none⟩ = some (.slice (some ⟨mb, 0, none⟩) n mcap)
  row : ∀ a, a < n → w.cell? ⟨mb, a, none⟩ = some (.slice (some ⟨rb a, 0, none⟩) n n)
  bit : ∀ a b, a < n → b < n → w.cell? ⟨rb a, b, none⟩ = some (.bool (C a b))
  cls : ∀ k, k < L → ∃ len : Nat, 0 < len ∧ w.cell? ⟨g, k, none⟩ = some (.slice (some ⟨ib k, 0, none⟩) len (ic k)) ∧ w.cell? ⟨ib k, 0, none⟩ = some (.int .i64 (hdK ls k)) ∧ hdK ls k < n

theorem redIn_of {w : World} {lo hi p n base g L cap : Nat} {C : Nat → Nat → Bool} {ib ic : Nat → Nat} (h : IsMat w lo hi p n C) (hg : Grid w base (.slice (some ⟨g, 0, none⟩) L cap) (circL C n) ib ic) (hL : (circL C n).length = L) (h0 : 0 < n) : ∃ mb mcap rb, RedIn w p n g L cap C (circL C n) ib ic mb mcap rb := by
  obtain ⟨mb, mcap, rb, g1, g2, g3⟩ := h.rows h0
  refine ⟨mb, mcap, rb, g1, g2, g3, fun k hk => ?_⟩
  obtain ⟨l, _, e2, e3, e4, e5⟩ := hg.hd (k := k) (by rw [hL]; exact hk)
  exact ⟨l.length, e3, e4, e5, e2⟩

set_option maxRecDepth 100000 in
set_option maxHeartbeats 4000000 in
theorem matReduce_c (lo hi p n : Nat) (C : Nat → Nat → Bool) (w : World) (h : IsMat w lo hi p n C) : Calls Try.prog 18 #[.pointer (some ⟨p, 0, none⟩)] w (PairsPost (redL C n) w) := by
  obtain ⟨i0, hi0, hz0, hz1, hz2⟩ := info_parts Try.info47
  have H := Lib.hid h
  have hn := h.small
  clear h
  go_enter Try.func18, Try.ntmps18
  go_wp2_with fail
  refine (matCircles_c lo hi p n C _ H.out).mono ?_
  rintro e w3 ⟨v, rfl, ⟨ib, ic, hgrid⟩, hg3⟩
  obtain ⟨pg, cap, rfl, hpg⟩ := hgrid.slice
  have HMAT := Lib.hid (H.out.calm hg3)
  have HGRID := Lib.hid hgrid
  have HPG := Lib.hid hpg
  have HG3 := Lib.hid hg3
  have hll := circ_le C n
  have HRED : Hid (redL C n = redK C (circL C n) (circL C n)) := Lib.hid rfl
  rw [HRED.out]
  generalize hL : (circL C n).length = L at *
  have HL := Lib.hid hL
  clear hL hgrid hpg hg3 H HRED
  go_wp2
  go_loopw [4, 5] (fun v i wr => ∃ k : Nat, k ≤ L ∧ i = .int .i64 k ∧ OwnP wr w3.heap.size v (redK C (circL C n) ((circL C n).take k)) ∧ w3.grownBy wr none) (fun _ i _ => L - (intOf i).toNat)
  case atStart => exact ⟨0, Nat.zero_le _, rfl, ⟨none, 0, rfl, World.ownsRow_nil _ _ _ _⟩, grownBy_refl _ _⟩
  case round =>
    obtain ⟨i, hi', rfl, hown, hgr⟩ := hrel
    have HOWN := Lib.hid hown
    have HGR := Lib.hid hgr
    clear hown hgr
    by_cases hil : i < L
    · obtain ⟨g, rfl, hgb, hgl⟩ := HPG.out i hil
      have hic : i < (circL C n).length := by rw [HL.out]; exact hil
      obtain ⟨f, hf⟩ : ∃ f, (circL C n)[i]? = some f := ⟨_, List.getElem?_eq_getElem hic⟩
      have HF : Hid ((circL C n).getD i [] = f) := Lib.hid (by rw [List.getD_eq_getElem?_getD, hf]; rfl)
      have i0' : (0 : Int) ≤ i := by omega
      have i1 : (i : Int) < L := by omega
      have HKS : Hid (redK C (circL C n) ((circL C n).take (i + 1)) = redK C (circL C n) ((circL C n).take i) ++ redF C (circL C n) f (circL C n)) := Lib.hid (by
        rw [List.take_add_one, hf]
        exact redK_snoc _ _ _ _)
      have hkl : (redK C (circL C n) ((circL C n).take i)).length ≤ 40000 := by
        have h1 := redK_len C (circL C n) ((circL C n).take i)
        rw [List.length_take, HL.out] at h1
        have h2 : min i L * L ≤ 200 * 200 := Nat.mul_le_mul (by omega) (by omega)
        omega
      clear hf hic
      generalize redK C (circL C n) ((circL C n).take i) = q0 at *
      obtain ⟨pq, cq, rfl, hq⟩ := HOWN.out
      have HQ := Lib.hid hq
      clear hq HOWN
      go_wp2
      go_loopw [4, 6] (fun v i wi => ∃ k : Nat, k ≤ L ∧ i = .int .i64 k ∧ OwnP wi w3.heap.size v (q0 ++ redF C (circL C n) f ((circL C n).take k)) ∧ w3.grownBy wi none) (fun _ i _ => L - (intOf i).toNat)
      case atStart => exact ⟨0, Nat.zero_le _, rfl, ⟨pq, cq, by simp [redF], by simpa [redF] using HQ.out⟩, HGR.out⟩
      case round =>
        obtain ⟨k, hk', rfl, hownk, hgk⟩ := hrel
        obtain ⟨pk, ck, rfl, hqk⟩ := hownk
        have HQK := Lib.hid hqk
        have HGK := Lib.hid hgk
        clear hqk hgk
        by_cases hkL : k < L
        · have hic : i < (circL C n).length := by rw [HL.out]; exact hil
          have hkc : k < (circL C n).length := by rw [HL.out]; exact hkL
          obtain ⟨t, ht⟩ : ∃ t, (circL C n)[k]? = some t := ⟨_, List.getElem?_eq_getElem hkc⟩
          have HT : Hid ((circL C n).getD k [] = t) := Lib.hid (by rw [List.getD_eq_getElem?_getD, ht]; rfl)
          obtain ⟨mb, mcap, rb, hin⟩ := redIn_of (HMAT.out.calm HGK.out) (HGRID.out.calm HGK.out) HL.out (by omega)
          have HIN := Lib.hid hin
          obtain ⟨len1, a1, a2, a3, a4⟩ := hin.cls i hil
          obtain ⟨len2, b1, b2, b3, b4⟩ := hin.cls k hkL
          have hc1 := hin.c1
          have r1 := hin.row _ a4
          have r2 := hin.bit _ _ a4 b4
          have k0 : (0 : Int) ≤ k := by omega
          have k1 : (k : Int) < L := by omega
          have HFS2 : Hid (q0 ++ redF C (circL C n) f ((circL C n).take (k + 1)) = (q0 ++ redF C (circL C n) f ((circL C n).take k)) ++ if aheadL C f t && !betw C (circL C n) f t then [(((f.headD 0 : Nat) : Int), ((t.headD 0 : Nat) : Int))] else []) := Lib.hid (by
            rw [List.take_add_one, ht, List.append_assoc]
            congr 1
            exact redF_snoc _ _ _ _ _)
          have hqq : (q0 ++ redF C (circL C n) f ((circL C n).take k)).length ≤ 40200 := by
            have h1 := redF_len C (circL C n) f ((circL C n).take k)
            rw [List.length_take, HL.out] at h1
            rw [List.length_append]
            omega
          have HAH : Hid (aheadL C f t = (decide (i ≠ k) && C (hdK (circL C n) i) (hdK (circL C n) k))) := Lib.hid (by rw [← HF.out, ← HT.out]; exact ahead_hd hkc hic)
          have HBW : Hid (betw C (circL C n) f t = (List.range L).any (betwI C (circL C n) i k)) := Lib.hid (by rw [← HF.out, ← HT.out, betw_same hic hkc, HL.out])
          have l1 : (0 : Int) < len1 := by omega
          have l2 : (0 : Int) < len2 := by omega
          have x0 : (0 : Int) ≤ (hdK (circL C n) i : Nat) := by omega
          have x1 : ((hdK (circL C n) i : Nat) : Int) < n := by omega
          have y0 : (0 : Int) ≤ (hdK (circL C n) k : Nat) := by omega
          have y1 : ((hdK (circL C n) k : Nat) : Int) < n := by omega
          clear ht hin hic hkc
          generalize q0 ++ redF C (circL C n) f ((circL C n).take k) = qq at *
          by_cases hik : i = k
          · subst hik
            have HE : Hid (q0 ++ redF C (circL C n) f ((circL C n).take (i + 1)) = qq) := Lib.hid (by rw [HFS2.out, HAH.out]; simp)
            go_wp2
            go_quiet (fail)
            go_wp2
            exact ⟨⟨i + 1, by omega, by go_num, ⟨pk, ck, by rw [HE.out], by rw [HE.out]; exact HQK.out⟩, grownBy_trans HGK.out (grownBy_drewN _ _ none)⟩, by simp [intOf]; omega⟩
          · have hne : ((i : Int) == (k : Int)) = false := by simp; omega
            cases hc : C (hdK (circL C n) i) (hdK (circL C n) k)
            · rw [hc] at r2
              have HE : Hid (q0 ++ redF C (circL C n) f ((circL C n).take (k + 1)) = qq) := Lib.hid (by rw [HFS2.out, HAH.out, hc]; simp)
              clear hc
              go_wp2
              go_quiet (fail)
              go_wp2
              exact ⟨⟨k + 1, by omega, by go_num, ⟨pk, ck, by rw [HE.out], by rw [HE.out]; exact HQK.out⟩, grownBy_trans HGK.out (grownBy_drewN _ _ none)⟩, by simp [intOf]; omega⟩
            · rw [hc] at r2
              have HAT : Hid (aheadL C f t = true) := Lib.hid (by rw [HAH.out, hc]; simp [hik])
              clear hc
              go_wp2
              go_quiet (fail)
              have HGM := Lib.hid (grownBy_trans HGK.out (grownBy_drewN wr nq none))
              have HQM : Hid ((wr.drewN nq).ownsRow w3.heap.size 47 2 (.slice pk qq.length ck) qq.length (pcells qq)) := Lib.hid HQK.out
              clear HIN HGK HQK a2 a3 b2 b3 hc1 r1 r2 l1 l2 a1 b1
              generalize wr.drewN nq = wm at *
              go_wp2
              go_loopw [7, 8] (fun bt j wi => ∃ jj : Nat, jj ≤ L ∧ j = .int .i64 jj ∧ bt = .bool ((List.range jj).any (betwI C (circL C n) i k)) ∧ wm.grownBy wi none) (fun _ j _ => L - (intOf j).toNat)
              case atStart => exact ⟨0, Nat.zero_le _, rfl, rfl, grownBy_refl _ _⟩
              case round =>
                obtain ⟨j, hj, rfl, rfl, hgj⟩ := hrel
                have HGJ := Lib.hid hgj
                by_cases hjL : j < L
                · have HSUC := Lib.hid (any_succ (betwI C (circL C n) i k) j)
                  generalize (List.range j).any (betwI C (circL C n) i k) = B at *
                  have j0 : (0 : Int) ≤ j := by omega
                  have j1 : (j : Int) < L := by omega
                  cases B
                  · by_cases hji : j = i
                    · subst hji
                      have HBI : Hid (betwI C (circL C n) j k j = false) := Lib.hid (by simp [betwI])
                      have hnn : ((j : Int) != (j : Int)) = false := by simp
                      clear hgj
                      go_wp2
                      go_quiet (fail)
                      go_wp2
                      exact ⟨⟨j + 1, by omega, by go_num, by rw [HSUC.out, HBI.out]; rfl, grownBy_trans HGJ.out (grownBy_drewN _ _ none)⟩, by simp [intOf]; omega⟩
                    · have hnn : ((j : Int) != (i : Int)) = true := by simp [bne]; omega
                      by_cases hjk : j = k
                      · subst hjk
                        have HBI : Hid (betwI C (circL C n) i j j = false) := Lib.hid (by simp [betwI])
                        have hnk : ((j : Int) != (j : Int)) = false := by simp
                        clear hgj
                        go_wp2
                        go_quiet (fail)
                        go_wp2
                        exact ⟨⟨j + 1, by omega, by go_num, by rw [HSUC.out, HBI.out]; rfl, grownBy_trans HGJ.out (grownBy_drewN _ _ none)⟩, by simp [intOf]; omega⟩
                      · have hnk : ((j : Int) != (k : Int)) = true := by simp [bne]; omega
                        have HBI : Hid (betwI C (circL C n) i k j = (C (hdK (circL C n) i) (hdK (circL C n) j) && C (hdK (circL C n) j) (hdK (circL C n) k))) := Lib.hid (by simp [betwI, hji, hjk])
                        obtain ⟨mb', mcap', rb', hin⟩ := redIn_of (HMAT.out.calm (grownBy_trans HGM.out hgj)) (HGRID.out.calm (grownBy_trans HGM.out hgj)) HL.out (by omega)
                        obtain ⟨len1, a1, a2, a3, a4'⟩ := hin.cls i hil
                        obtain ⟨len2, b1, b2, b3, b4'⟩ := hin.cls k hkL
                        obtain ⟨len3, c1, c2, c3, c4⟩ := hin.cls j hjL
                        have hc1 := hin.c1
                        have r1 := hin.row _ a4
                        have r2 := hin.bit _ _ a4 c4
                        have r3 := hin.row _ c4
                        have r4 := hin.bit _ _ c4 b4
                        have l1 : (0 : Int) < len1 := by omega
                        have l2 : (0 : Int) < len2 := by omega
                        have l3 : (0 : Int) < len3 := by omega
                        have z0 : (0 : Int) ≤ (hdK (circL C n) j : Nat) := by omega
                        have z1 : ((hdK (circL C n) j : Nat) : Int) < n := by omega
                        clear hin hgj a4' b4'
                        generalize C (hdK (circL C n) j) (hdK (circL C n) k) = v2 at *
                        generalize C (hdK (circL C n) i) (hdK (circL C n) j) = v1 at *
                        cases v1
                        · go_wp2
                          go_quiet (fail)
                          go_wp2
                          exact ⟨⟨j + 1, by omega, by go_num, by rw [HSUC.out, HBI.out]; rfl, grownBy_trans HGJ.out (grownBy_drewN _ _ none)⟩, by simp [intOf]; omega⟩
                        · go_wp2
                          go_quiet (fail)
                          go_wp2
                          exact ⟨⟨j + 1, by omega, by go_num, by rw [HSUC.out, HBI.out]; cases v2 <;> rfl, grownBy_trans HGJ.out (grownBy_drewN _ _ none)⟩, by simp [intOf]; omega⟩
                  · clear hgj
                    go_wp2
                    go_quiet (fail)
                    go_wp2
                    exact ⟨⟨j + 1, by omega, by go_num, by rw [HSUC.out]; rfl, grownBy_trans HGJ.out (grownBy_drewN _ _ none)⟩, by simp [intOf]; omega⟩
                · obtain rfl : j = L := by omega
                  have HGN := Lib.hid (grownBy_trans HGM.out hgj)
                  have HQN : Hid (wr.ownsRow w3.heap.size 47 2 (.slice pk qq.length ck) qq.length (pcells qq)) := Lib.hid (HQM.out.kept hgj (by cases (Value.slice pk qq.length ck).ownBlock <;> simp))
                  clear hgj
                  cases hB : (List.range j).any (betwI C (circL C n) i k)
                  · have HE : Hid (q0 ++ redF C (circL C n) f ((circL C n).take (k + 1)) = qq ++ [(((hdK (circL C n) i : Nat) : Int), ((hdK (circL C n) k : Nat) : Int))]) := Lib.hid (by
                      rw [HFS2.out, HAT.out, HBW.out, hB, ← HF.out, ← HT.out]; rfl)
                    clear hB
                    obtain ⟨mb', mcap', rb', hin⟩ := redIn_of (HMAT.out.calm HGN.out) (HGRID.out.calm HGN.out) HL.out (by omega)
                    obtain ⟨len1, a1, a2, a3, a4'⟩ := hin.cls i hil
                    obtain ⟨len2, b1, b2, b3, b4'⟩ := hin.cls k hkL
                    have l1 : (0 : Int) < len1 := by omega
                    have l2 : (0 : Int) < len2 := by omega
                    have hsn : w3.heap.size ≤ wr.heap.size := HGN.out.size
                    clear hin a4' b4' HGM HQM HGJ
                    generalize hdK (circL C n) i = x at *
                    generalize hdK (circL C n) k = y at *
                    generalize wr = wn at *
                    go_wp2
                    go_region_law (refine step_append_lies _ (by rfl) _ _ _ (by rfl) w3.heap.size 47 i0 (.agg #[.int .i64 0, .int .i64 0]) 2 16 Try.underlying22 hi0 hz0 hz1 hz2 rfl (by decide) (.slice pk qq.length ck) qq.length (pcells qq) (by rfl) (by exact HQN.out.drew.alloc _) ⟨wn.heap.size, 0, none⟩ 1 1 [.int .i64 x, .int .i64 y] (by rfl) rfl (by exact cell_two_new _ _ _ _) (by simp [Value.oneCell']) (by decide) (by unfold maxLen; omega) (by omega) (by simp; omega) (wn.heap.size + 1) (by simp) ?_; intro g' cap' w2 hown' hgrow _ _)
                    all_goals go_wp2
                    all_goals
                      have HE2 : Hid (OwnP w2 w3.heap.size (.slice (some ⟨g', 0, none⟩) (qq.length + 1) cap') (qq ++ [((x : Int), (y : Int))]) ∧ w3.grownBy w2 none) := by
                        refine Lib.hid ⟨⟨some ⟨g', 0, none⟩, cap', by simp, ?_⟩, ?_⟩
                        · rw [pcells_snoc]
                          simpa using hown'
                        · have hga := grownBy_trans HGN.out (grownBy_trans (grownBy_drewN wn 1 none) (World.grownBy_alloc wn.drew (.cells #[.int .i64 x, .int .i64 y] 47) none))
                          have hgrow' : (wn.drew.alloc (.cells #[.int .i64 x, .int .i64 y] 47)).grownBy w2 (Value.slice pk qq.length ck).ownBlock := hgrow
                          cases hob : (Value.slice pk qq.length ck).ownBlock with
                          | none => rw [hob] at hgrow'; exact grownBy_trans hga hgrow'
                          | some r =>
                            rw [hob] at hgrow'
                            exact grownBy_new hga hgrow' (HQN.out.lt r hob).1
                      exact ⟨⟨k + 1, by omega, by go_num, by rw [HE.out]; exact HE2.out.1, HE2.out.2⟩, by simp [intOf]; omega⟩
                  · have HE : Hid (q0 ++ redF C (circL C n) f ((circL C n).take (k + 1)) = qq) := Lib.hid (by rw [HFS2.out, HBW.out, hB]; simp)
                    clear hB
                    go_wp2
                    exact ⟨⟨k + 1, by omega, by go_num, ⟨pk, ck, by rw [HE.out], by rw [HE.out]; exact HQN.out⟩, HGN.out⟩, by simp [intOf]; omega⟩
        · obtain rfl : k = L := by omega
          have HE : Hid (q0 ++ redF C (circL C n) f ((circL C n).take k) = redK C (circL C n) ((circL C n).take (i + 1))) := Lib.hid (by
            rw [HKS.out, List.take_of_length_le (by rw [HL.out]; exact Nat.le_refl _)])
          rw [HE.out] at HQK ⊢
          go_wp2
          exact ⟨⟨i + 1, by omega, by go_num, ⟨pk, ck, rfl, HQK.out⟩, HGK.out⟩, by simp [intOf]; omega⟩
    · obtain rfl : i = L := by omega
      obtain ⟨pq, cq, rfl, hq⟩ := HOWN.out
      rw [List.take_of_length_le (by rw [HL.out]; exact Nat.le_refl _)] at hq ⊢
      obtain ⟨pp, cc, hpe, hpairs⟩ := pairsAt_own (ownsRow_lower hq HG3.out.size)
      simp only [Value.slice.injEq, true_and] at hpe
      obtain ⟨rfl, rfl⟩ := hpe
      have HE := Lib.hid (show PairsPost (redK C (circL C n) (circL C n)) w (.returned (.slice pq (redK C (circL C n) (circL C n)).length cq)) wr from ⟨pq, cq, rfl, hpairs, grownBy_trans HG3.out HGR.out⟩)
      clear hq hpairs
      generalize (redK C (circL C n) (circL C n)).length = M at *
      go_wp2
      go_ret
      exact HE.out

end Go.Proofs.Ytkipldmkdnjkaaa
