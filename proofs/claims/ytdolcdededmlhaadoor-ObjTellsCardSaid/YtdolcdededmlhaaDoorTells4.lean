/- The walk of the statement ObjTells: at every input it answers true and leaves all that lay as it lay. Condition: the table of the lowest places is in memory. -/
import Derived.Test.YtdolcdededmlhaaDoorKnow4
namespace Go.Proofs.YtdolcdededmlhaaDoor
open Go.RowKit

/-- What ObjTells has at hand: two objects, each in a box. -/
structure OEnv (w W : World) (xa ya xb yb : Value) (p q : Option Addr) (n m : Nat) (L : List ByteArray) (P : List (Int × Int)) (p' q' : Option Addr) (n' m' : Nat) (L' : List ByteArray) (P' : List (Int × Int)) : Prop where
  g : w.grownBy W none
  t0 : Tab w
  a : ObjAt W 0 w.heap.size p n q m L P
  b : ObjAt W 0 w.heap.size p' n' q' m' L' P'
  a0 : W.cell? ⟨w.heap.size, 0, none⟩ = some xa
  a1 : W.cell? ⟨w.heap.size, 1, none⟩ = some ya
  b0 : W.cell? ⟨w.heap.size + 1, 0, none⟩ = some xb
  b1 : W.cell? ⟨w.heap.size + 1, 1, none⟩ = some yb
  z : w.heap.size + 1 < W.heap.size

section
variable {w W W' : World} {xa ya xb yb : Value} {p q : Option Addr} {n m : Nat} {L : List ByteArray} {P : List (Int × Int)} {p' q' : Option Addr} {n' m' : Nat} {L' : List ByteArray} {P' : List (Int × Int)}
theorem OEnv.t (h : OEnv w W xa ya xb yb p q n m L P p' q' n' m' L' P') : Tab W := h.t0.grown h.g (by simp)
theorem OEnv.calm (h : OEnv w W xa ya xb yb p q n m L P p' q' n' m' L' P') (hg : W.grownBy W' none) : OEnv w W' xa ya xb yb p q n m L P p' q' n' m' L' P' :=
  have e : ∀ B, B ≤ w.heap.size + 1 → W'.heap[B]? = W.heap[B]? := fun B hB => hg.block B (Nat.lt_of_le_of_lt hB h.z) (by simp)
  ⟨grownBy_trans h.g hg, h.t0, h.a.calm hg, h.b.calm hg, (World.cell?_of_block (a := ⟨w.heap.size, 0, none⟩) (e w.heap.size (Nat.le_succ _))).trans h.a0, (World.cell?_of_block (a := ⟨w.heap.size, 1, none⟩) (e w.heap.size (Nat.le_succ _))).trans h.a1,
    (World.cell?_of_block (a := ⟨w.heap.size + 1, 0, none⟩) (e (w.heap.size + 1) (Nat.le_refl _))).trans h.b0, (World.cell?_of_block (a := ⟨w.heap.size + 1, 1, none⟩) (e (w.heap.size + 1) (Nat.le_refl _))).trans h.b1, Nat.lt_of_lt_of_le h.z hg.size⟩
theorem oenv_new {c d c' d' : Nat} (ht : Tab w) (h : ObjAt w 0 w.heap.size p n q m L P) (h' : ObjAt w 0 w.heap.size p' n' q' m' L' P') :
    OEnv w ((w.alloc (.cells #[.slice p n c, .slice q m d] 25)).alloc (.cells #[.slice p' n' c', .slice q' m' d'] 25)) (.slice p n c) (.slice q m d) (.slice p' n' c') (.slice q' m' d') p q n m L P p' q' n' m' L' P' := by
  have hg := grownBy_trans (World.grownBy_alloc w (.cells #[.slice p n c, .slice q m d] 25) none) (World.grownBy_alloc _ (.cells #[.slice p' n' c', .slice q' m' d'] 25) none)
  obtain ⟨⟨a0, a1⟩, ⟨b0, b1⟩, _⟩ := box22 (grownBy_refl ((w.alloc (.cells #[.slice p n c, .slice q m d] 25)).alloc (.cells #[.slice p' n' c', .slice q' m' d'] 25)) none)
  exact ⟨hg, ht, h.calm hg, h'.calm hg, a0, a1, b0, b1, by simp⟩
end

theorem same_refl (L : List ByteArray) (P : List (Int × Int)) : (decide (L = L) && decide (P = P)) = true := by simp

set_option maxRecDepth 100000 in
set_option maxHeartbeats 4000000 in
theorem objTells_in (p q p' q' : Option Addr) (n c m d n' c' m' d' : Nat) (L L' : List ByteArray) (P P' : List (Int × Int)) (w : World) (ht : Tab w) (h : ObjAt w 0 w.heap.size p n q m L P) (h' : ObjAt w 0 w.heap.size p' n' q' m' L' P')
    (hn : n ≤ maxLen) (hn' : n' ≤ maxLen) (hc : p = none → c = 0) (hd : q = none → d = 0) :
    Calls Tryd.prog 3 #[.agg #[.slice p n c, .slice q m d], .agg #[.slice p' n' c', .slice q' m' d']] w fun e w' => e = .returned (.bool true) ∧ w.grownBy w' none := by
  have HE0 := Lib.hid (oenv_new (c := c) (d := d) (c' := c') (d' := d') ht h h')
  have HLEN := Lib.hid h.ls.len
  have HPLEN := Lib.hid h.ps.len
  have HC := Lib.hid hc
  have HD := Lib.hid hd
  have HN := Lib.hid hn
  have HN' := Lib.hid hn'
  clear ht h h' hc hd hn hn'
  go_enter Tryd.func3, Tryd.ntmps3
  go_wp2_with fail
  refine (known4_c _ HE0.out.t).mono ?_
  rintro e w1 ⟨rfl, hg1⟩
  have HE1 := Lib.hid (HE0.out.calm hg1)
  clear hg1
  have a0 := HE1.out.a0
  have a1 := HE1.out.a1
  cases hf : fewB L m
  · have HF := Lib.hid hf
    clear hf
    go_wp2_with fail
    refine (few_r _ _ _ _ _ _ _ _ L P false _ (by exact HE1.out.a) HN.out HF.out).mono ?_
    rintro e w2 ⟨rfl, hg2⟩
    have HG := Lib.hid (HE1.out.calm hg2).g
    clear hg2
    go_wp2
    go_ret
    exact ⟨rfl, HG.out⟩
  · have HF := Lib.hid hf
    have hs : n ≤ 50 ∧ m ≤ 200 := by
      unfold fewB at hf
      simp only [Bool.and_eq_true, decide_eq_true_eq] at hf
      rw [HLEN.out] at hf
      exact hf.2
    obtain ⟨hs1, hs2⟩ := hs
    clear hf
    go_wp2_with fail
    refine (few_r _ _ _ _ _ _ _ _ L P true _ (by exact HE1.out.a) HN.out HF.out).mono ?_
    rintro e w2 ⟨rfl, hg2⟩
    have HE2 := Lib.hid (HE1.out.calm hg2)
    clear hg2 a0 a1
    have b0 := HE2.out.b0
    have b1 := HE2.out.b1
    cases hf' : fewB L' m'
    · have HF' := Lib.hid hf'
      clear hf'
      go_wp2_with fail
      refine (few_r _ _ _ _ _ _ _ _ L' P' false _ (by exact HE2.out.b) HN'.out HF'.out).mono ?_
      rintro e w3 ⟨rfl, hg3⟩
      have HG := Lib.hid (HE2.out.calm hg3).g
      clear hg3
      go_wp2
      go_ret
      exact ⟨rfl, HG.out⟩
    · have HF' := Lib.hid hf'
      clear hf'
      go_wp2_with fail
      refine (few_r _ _ _ _ _ _ _ _ L' P' true _ (by exact HE2.out.b) HN'.out HF'.out).mono ?_
      rintro e w3 ⟨rfl, hg3⟩
      have henv := HE2.out.calm hg3
      clear hg3 b0 b1
      go_wp2_with fail
      have hm6 : m ≤ 1000000 := by omega
      have hn6 : n ≤ 1000000 := by omega
      have HL6 : Hid (L.length ≤ 1000000) := Lib.hid (by rw [HLEN.out]; exact hn6)
      have HP6 : Hid (P.length ≤ 1000000) := Lib.hid (by rw [HPLEN.out]; exact hm6)
      go_region_held3 (fun w' => w'.cell? ⟨w.heap.size, 0, none⟩ = some (.slice p n c) ∧ w'.cell? ⟨w.heap.size, 1, none⟩ = some (.slice q m d)) (first | exact ⟨henv.a0, henv.a1⟩ | go_keep)
        (first
          | (go_at_call 9; refine (objRel_c _ _ _ _ _ _ _ _ L P _ (henv.calm (grownBy_drewN _ 1 none)).a hm6).mono ?_; rintro e w4 ⟨r, rfl, hr, hg⟩; have henv := (henv.calm (grownBy_drewN _ 1 none)).calm hg)
          | (go_at_call 10; refine (refRel_c _ _ _ _ _ _ _ _ L P _ henv.a hm6).mono ?_; rintro e w5 ⟨rm, rfl, hM, hg⟩; have henv := henv.calm hg; have hr := hr.calm hg))
      have HE5 := Lib.hid henv
      have HR := Lib.hid hr
      have HM := Lib.hid hM
      have hsm := hr.small
      clear henv hr hM hg
      generalize hN9 : objN L P = N at *
      generalize hR9 : objR L P = R at *
      clear hN9 hR9
      go_wp2_with fail
      refine (relPairs_c _ _ _ N R _ (by exact HR.out) HE5.out.t).mono ?_
      rintro e w6 ⟨pa, ca, rfl, hpa, hg6⟩
      have HE6 := Lib.hid (HE5.out.calm hg6)
      have HR6 := Lib.hid (HR.out.calm hg6)
      have HM6 := Lib.hid (HM.out.calm hg6)
      have HPA := Lib.hid hpa
      clear hpa hg6
      go_wp2_with fail
      refine (matPairs_c _ _ _ N R _ (by exact HM6.out)).mono ?_
      rintro e w7 ⟨pb, cb, rfl, hpb, hg7⟩
      have HE7 := Lib.hid (HE6.out.calm hg7)
      have HR7 := Lib.hid (HR6.out.calm hg7)
      have HM7 := Lib.hid (HM6.out.calm hg7)
      have HPA7 := Lib.hid (HPA.out.calm hg7)
      have HPB := Lib.hid hpb
      have hQL : (pairsL N R N).length ≤ 40000 := by
        have := pairsL_len N R N
        have : N * N ≤ 200 * 200 := Nat.mul_le_mul hsm hsm
        omega
      clear hpb hg7
      generalize pairsL N R N = Q at *
      generalize hql : Q.length = k9 at *
      clear hql
      have hm0 := HM7.out.c0
      have hb1 : ((k9 : Int) != (k9 : Int)) = false := by simp
      have hb2 : ((N : Int) != (N : Int)) = false := by simp
      go_wp2_with fail
      go_quiet ((go_at_call 13; exact Calls.quiet_of_same (relLen_c _ _ r N R _ (by exact HR7.out.calm (grownBy_drewN _ _ none)))))
      clear hm0
      have hg8 := grownBy_drewN w7 nq none
      generalize w7.drewN nq = w8 at hg8 ⊢
      go_wp2
      go_loopw [9] (fun i wr => ∃ k : Nat, k ≤ k9 ∧ i = .int .i64 k ∧ w7.grownBy wr none) (fun i _ => k9 - (intOf i).toNat)
      case atStart => exact ⟨0, Nat.zero_le _, rfl, hg8⟩
      case round =>
        obtain ⟨k, hk, rfl, hgr⟩ := hrel
        by_cases hkn : k < k9
        · obtain ⟨g1, o1, rfl, q1, q2, q3, hc1⟩ := (HPA7.out.calm hgr).cell (by omega)
          obtain ⟨g2, o2, rfl, r1, r2, r3, hc2⟩ := (HPB.out.calm hgr).cell (by omega)
          obtain ⟨x1, x2⟩ := hc1 k hkn
          obtain ⟨y1, y2⟩ := hc2 k hkn
          clear hc1 hc2
          have k0 : (0 : Int) ≤ k := by omega
          have k1 : (k : Int) < k9 := by omega
          generalize Q[k]?.getD (0, 0) = u at *
          have hN := pair_neq u.1 u.2 u.1 u.2
          have e1 : (!(u.1 == u.1 && u.2 == u.2)) = false := by simp
          rw [e1] at hN
          clear e1
          go_wp2
          go_quiet (fail)
          go_wp2
          exact ⟨⟨k + 1, by omega, by go_num, grownBy_trans hgr (grownBy_drewN _ _ none)⟩, by simp [intOf]; omega⟩
        · obtain rfl : k9 = k := by omega
          have k1 : ¬ ((k9 : Int) < k9) := by omega
          have henv := HE7.out.calm hgr
          obtain ⟨ch, HCH⟩ : ∃ ch, Hid (chk L P = ch) := ⟨_, Lib.hid rfl⟩
          obtain ⟨bi, HBI⟩ : ∃ bi, Hid ((chk L P == 0) = bi) := ⟨_, Lib.hid rfl⟩
          obtain ⟨bs, HBS⟩ : ∃ bs, Hid ((decide (L = L') && decide (P = P')) = bs) := ⟨_, Lib.hid rfl⟩
          have hcc : (ch == ch) = true := by simp
          have hii : (bi == bi) = true := by simp
          have hss : (bs == bs) = true := by simp
          clear hgr hk hkn
          go_wp2_with fail
          try simp only [List.append_eq, List.cons_append, List.nil_append]
          go_region_held3 (fun w' => w'.cell? ⟨w.heap.size, 0, none⟩ = some (.slice p n c) ∧ w'.cell? ⟨w.heap.size, 1, none⟩ = some (.slice q m d) ∧ w'.cell? ⟨w.heap.size + 1, 0, none⟩ = some (.slice p' n' c') ∧ w'.cell? ⟨w.heap.size + 1, 1, none⟩ = some (.slice q' m' d')) (first | exact ⟨henv.a0, henv.a1, henv.b0, henv.b1⟩ | go_keep)
            (first
              | (go_at_call 14; refine (check_c _ _ _ _ _ _ _ _ L P ch _ (henv.calm (grownBy_drewN _ 1 none)).a hm6 HCH.out).mono ?_; rintro e w9 ⟨rfl, hg⟩; have henv := (henv.calm (grownBy_drewN _ 1 none)).calm hg)
              | (go_at_call 15; refine (refCheck_c _ _ _ _ _ _ _ _ L P ch _ henv.a hm6 HCH.out).mono ?_; rintro e w9 ⟨rfl, hg⟩; have henv := henv.calm hg)
              | (go_at_call 16; refine (is_c _ _ _ _ _ _ _ _ L P bi _ henv.a hm6 HBI.out).mono ?_; rintro e w9 ⟨rfl, hg⟩; have henv := henv.calm hg)
              | (go_at_call 17; refine (refIs_c _ _ _ _ _ _ _ _ L P bi _ henv.a hm6 HBI.out).mono ?_; rintro e w9 ⟨rfl, hg⟩; have henv := henv.calm hg)
              | (go_at_call 19; refine (refSame_r _ _ _ _ _ _ _ _ _ _ _ _ _ _ _ _ L L' P P' bs _ henv.a henv.b hn6 hm6 HBS.out).mono ?_; rintro e w9 ⟨rfl, hg⟩; have henv := henv.calm hg)
              | (go_at_call 20; refine (objCopy_c _ _ _ _ _ _ _ _ L P _ henv.a hn6 hm6 HC.out HD.out).mono ?_; rintro e w9 ⟨u, v, rfl, hown, hg⟩; obtain ⟨pu, cu, pv, cv, rfl, rfl, hcp⟩ := hown.at; have henv := henv.calm hg)
              | (go_at_call 18; (first | (with_reducible refine (objSame_r _ _ _ _ _ _ _ _ _ _ _ _ _ _ _ _ L L' P P' bs _ henv.a henv.b hn6 hm6 HBS.out).mono ?_) | (refine (objSame_r _ _ _ _ _ _ _ _ _ _ _ _ _ _ _ _ L L P P true _ hcp henv.a HL6.out HP6.out (same_refl L P)).mono ?_)); rintro e w9 ⟨rfl, hg⟩; have henv := henv.calm hg))
          have HG := Lib.hid henv.g
          clear henv
          go_wp2
          go_ret
          exact ⟨rfl, HG.out⟩

end Go.Proofs.YtdolcdededmlhaaDoor
