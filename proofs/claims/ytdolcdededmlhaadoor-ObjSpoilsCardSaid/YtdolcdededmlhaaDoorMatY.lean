/- The contract of Pairs of package centoref2. -/
import Derived.Test.YtdolcdededmlhaaDoorMatX
namespace Go.Proofs.YtdolcdededmlhaaDoor
open Go.RowKit

/-- Pairs so far, in a slice of their own. -/
def OwnP (w : World) (base : Nat) (v : Value) (q : List (Int × Int)) : Prop := ∃ p c, v = .slice p q.length c ∧ w.ownsRow base 38 2 (.slice p q.length c) q.length (pcells q)

theorem OwnP.calm {w w' : World} {base : Nat} {v : Value} {q : List (Int × Int)} (h : OwnP w base v q) (hg : w.grownBy w' none) : OwnP w' base v q := by
  obtain ⟨p, c, h1, h2⟩ := h
  exact ⟨p, c, h1, h2.kept hg (by cases (Value.slice p q.length c).ownBlock <;> simp)⟩

theorem onL_succ (S : Nat → Bool) (b : Nat) : onL S (b + 1) = onL S b ++ if S b then [b] else [] := by
  unfold onL
  rw [List.range_succ, List.filter_append, List.filter_cons]
  cases S b <;> rfl

/-- The pairs of the rows ahead of a, and of row a those ahead of b. -/
def pairsP (n : Nat) (R : Nat → Nat → Bool) (a b : Nat) : List (Int × Int) := pairsL n R a ++ (onL (R a) b).map fun y : Nat => ((a : Int), (y : Int))
theorem pairsP_zero (n : Nat) (R : Nat → Nat → Bool) (a : Nat) : pairsP n R a 0 = pairsL n R a := by simp [pairsP, onL]
theorem pairsP_end (n : Nat) (R : Nat → Nat → Bool) (a : Nat) : pairsP n R a n = pairsL n R (a + 1) := (pairsL_succ n R a).symm
theorem pairsP_yes {n : Nat} {R : Nat → Nat → Bool} {a b : Nat} (h : R a b = true) : pairsP n R a (b + 1) = pairsP n R a b ++ [((a : Int), (b : Int))] := by
  unfold pairsP
  rw [onL_succ, h]
  simp
theorem pairsP_no {n : Nat} {R : Nat → Nat → Bool} {a b : Nat} (h : R a b = false) : pairsP n R a (b + 1) = pairsP n R a b := by
  unfold pairsP
  rw [onL_succ, h]
  simp
theorem pairsP_len (n : Nat) (R : Nat → Nat → Bool) (a b : Nat) (hn : n ≤ 200) (ha : a ≤ 200) (hb : b ≤ 200) : (pairsP n R a b).length ≤ 40200 := by
  unfold pairsP
  rw [List.length_append, List.length_map]
  have h1 := pairsL_len n R a
  have h2 := onL_le (R a) b
  have h3 : a * n ≤ 200 * 200 := Nat.mul_le_mul ha hn
  omega

set_option maxHeartbeats 4000000 in
theorem matPairs_c (lo hi p n : Nat) (R : Nat → Nat → Bool) (w : World) (h : IsMat w lo hi p n R) : Calls Tryd.prog 12 #[.pointer (some ⟨p, 0, none⟩)] w (PairsPost (pairsL n R n) w) := by
  obtain ⟨i0, hi0, hz0, hz1, hz2⟩ := info_parts Tryd.info38
  have hn := h.small
  have H := Lib.hid h
  clear h
  go_enter Tryd.func12, Tryd.ntmps12
  go_wp2
  go_loopw [3, 4] (fun v i wr => ∃ a : Nat, a ≤ n ∧ i = .int .i64 a ∧ OwnP wr w.heap.size v (pairsL n R a) ∧ w.grownBy wr none) (fun _ i _ => n - (intOf i).toNat)
  case atStart => exact ⟨0, Nat.zero_le _, rfl, ⟨none, 0, rfl, World.ownsRow_nil _ _ _ _⟩, grownBy_refl _ _⟩
  case round =>
    obtain ⟨a, ha, rfl, ⟨pa, ca, rfl, hra⟩, hga⟩ := hrel
    have hc0a := (H.out.calm hga).c0
    by_cases han : a < n
    · have HGA := Lib.hid hga
      have HRA := Lib.hid hra
      have HPE := Lib.hid (pairsP_end n R a)
      have HPZ := Lib.hid (pairsP_zero n R a)
      clear hga hra
      go_wp2_with fail
      go_loopw [3, 5] (fun v i wr => ∃ b : Nat, b ≤ n ∧ i = .int .i64 b ∧ OwnP wr w.heap.size v (pairsP n R a b) ∧ w.grownBy wr none) (fun _ i _ => n - (intOf i).toNat)
      case atStart => exact ⟨0, Nat.zero_le _, rfl, ⟨pa, ca, by rw [HPZ.out], by rw [HPZ.out]; exact HRA.out⟩, HGA.out⟩
      case round =>
        obtain ⟨b, hb, rfl, ⟨pq, cq, rfl, hrow⟩, hgb⟩ := hrel
        have hc0b := (H.out.calm hgb).c0
        by_cases hbn : b < n
        · obtain ⟨mb0, rb0, cap0, g1, g2, g3⟩ := (H.out.calm hgb).get han hbn
          have HGB := Lib.hid hgb
          have HROW := Lib.hid hrow
          have hsz : w.heap.size ≤ wr.heap.size := hgb.size
          have hql := pairsP_len n R a b hn (by omega) (by omega)
          have a0 : (0 : Int) ≤ a := by omega
          have b0 : (0 : Int) ≤ b := by omega
          have a1 : (a : Int) < n := by omega
          have b1 : (b : Int) < n := by omega
          clear hgb hrow
          cases hab : R a b
          · rw [hab] at g3
            have HNO := Lib.hid (pairsP_no (n := n) hab)
            clear hab
            generalize pairsP n R a b = q at *
            go_wp2
            exact ⟨⟨b + 1, by omega, by go_num, ⟨pq, cq, by rw [HNO.out], by rw [HNO.out]; exact HROW.out⟩, HGB.out⟩, by simp [intOf]; omega⟩
          · rw [hab] at g3
            have HYES := Lib.hid (pairsP_yes (n := n) hab)
            clear hab
            generalize pairsP n R a b = q at *
            go_wp2_with (at_builtin; refine wpList_append_own _ rfl _ _ 23 rfl w.heap.size 38 i0 (.agg #[.int .i64 0, .int .i64 0]) 2 16 Tryd.underlying23 hi0 hz0 hz1 hz2 rfl (by decide) _ _ _ rfl (HROW.out.alloc _) ⟨wr.heap.size, 0, none⟩ 1 1 [.int .i64 a, .int .i64 b] rfl rfl (cell_two_new _ _ _ _) (by simp [Value.oneCell']) (by unfold maxLen; omega) (by omega) (by simp; omega) ?_; intro v' w2 hown' hgrow _; obtain ⟨g', cap', rfl⟩ := ownsRow_succ hown')
            have HE : Hid (OwnP w2 w.heap.size (.slice (some ⟨g', 0, none⟩) (q.length + 1) cap') (pairsP n R a (b + 1)) ∧ w.grownBy w2 none) := by
              refine Lib.hid ⟨⟨some ⟨g', 0, none⟩, cap', by rw [HYES.out]; simp, ?_⟩, ?_⟩
              · rw [HYES.out, pcells_snoc]
                simpa using hown'
              · have hga := grownBy_trans HGB.out (World.grownBy_alloc wr (.cells #[.int .i64 a, .int .i64 b] 38) none)
                have hgrow' : (wr.alloc (.cells #[.int .i64 a, .int .i64 b] 38)).grownBy w2 (Value.slice pq q.length cq).ownBlock := hgrow
                cases hob : (Value.slice pq q.length cq).ownBlock with
                | none => rw [hob] at hgrow'; exact grownBy_trans hga hgrow'
                | some r =>
                  rw [hob] at hgrow'
                  exact grownBy_new hga hgrow' (HROW.out.lt r hob).1
            clear hown' hgrow
            go_wp2
            exact ⟨⟨b + 1, by omega, by go_num, HE.out.1, HE.out.2⟩, by simp [intOf]; omega⟩
        · obtain rfl : b = n := by omega
          rw [HPE.out] at hrow ⊢
          go_wp2
          exact ⟨⟨a + 1, by omega, by go_num, ⟨pq, cq, rfl, hrow⟩, hgb⟩, by simp [intOf]; omega⟩
    · obtain rfl : a = n := by omega
      obtain ⟨pp, cc, hpe, hpairs⟩ := pairsAt_own hra
      simp only [Value.slice.injEq, true_and] at hpe
      obtain ⟨rfl, rfl⟩ := hpe
      have HE := Lib.hid (show PairsPost (pairsL a R a) w (.returned (.slice pa (pairsL a R a).length ca)) wr from ⟨pa, ca, rfl, hpairs, hga⟩)
      clear hra hga hpairs
      generalize (pairsL a R a).length = L at *
      go_wp2
      go_ret
      exact HE.out

end Go.Proofs.YtdolcdededmlhaaDoor
