/- The walk of the statement ArrowThen: at every input it answers true and leaves all that lay as it lay. -/
import Derived.Test.YtjimgihfejjilaaKnow5
import Derived.Test.YtjimgihfejjilaaThenP
namespace Go.Proofs.Ytjimgihfejjilaa
open Go.RowKit

/-- What ArrowThen has at hand: three objects, each in a box, two maps. -/
structure CEnv (w W : World) (lo hi lo' hi' lc hc lof hif log hig : Nat) (p q p' q' pc qc pf pg : Option Addr) (n c m d n' c' m' d' nc cc mc dc nf ng : Nat) (L L' Lc : List ByteArray) (P P' Pc : List (Int × Int)) (f g : List Int) : Prop where
  a : ObjAt W lo hi p n q m L P
  b : ObjAt W lo' hi' p' n' q' m' L' P'
  o : ObjAt W lc hc pc nc qc mc Lc Pc
  f : ZsAt W lof hif pf nf f
  k : ZsAt W log hig pg ng g
  a0 : W.cell? ⟨w.heap.size, 0, none⟩ = some (.slice p n c)
  a1 : W.cell? ⟨w.heap.size, 1, none⟩ = some (.slice q m d)
  b0 : W.cell? ⟨w.heap.size + 1, 0, none⟩ = some (.slice p' n' c')
  b1 : W.cell? ⟨w.heap.size + 1, 1, none⟩ = some (.slice q' m' d')
  c0 : W.cell? ⟨w.heap.size + 1 + 1, 0, none⟩ = some (.slice pc nc cc)
  c1 : W.cell? ⟨w.heap.size + 1 + 1, 1, none⟩ = some (.slice qc mc dc)
  z : w.heap.size + 1 + 1 < W.heap.size
  g : w.grownBy W none

section
variable {w W W' : World} {lo hi lo' hi' lc hc lof hif log hig : Nat} {p q p' q' pc qc pf pg : Option Addr} {n c m d n' c' m' d' nc cc mc dc nf ng : Nat} {L L' Lc : List ByteArray} {P P' Pc : List (Int × Int)} {f g : List Int}
theorem CEnv.calm (h : CEnv w W lo hi lo' hi' lc hc lof hif log hig p q p' q' pc qc pf pg n c m d n' c' m' d' nc cc mc dc nf ng L L' Lc P P' Pc f g) (hg : W.grownBy W' none) : CEnv w W' lo hi lo' hi' lc hc lof hif log hig p q p' q' pc qc pf pg n c m d n' c' m' d' nc cc mc dc nf ng L L' Lc P P' Pc f g := by
  have hz := h.z
  have k0 := hg.block w.heap.size (by omega) (by simp)
  have k1 := hg.block (w.heap.size + 1) (by omega) (by simp)
  have k2 := hg.block (w.heap.size + 1 + 1) (by omega) (by simp)
  exact ⟨h.a.calm hg, h.b.calm hg, h.o.calm hg, h.f.calm hg, h.k.calm hg, (World.cell?_of_block (a := ⟨w.heap.size, 0, none⟩) k0).trans h.a0, (World.cell?_of_block (a := ⟨w.heap.size, 1, none⟩) k0).trans h.a1, (World.cell?_of_block (a := ⟨w.heap.size + 1, 0, none⟩) k1).trans h.b0, (World.cell?_of_block (a := ⟨w.heap.size + 1, 1, none⟩) k1).trans h.b1, (World.cell?_of_block (a := ⟨w.heap.size + 1 + 1, 0, none⟩) k2).trans h.c0, (World.cell?_of_block (a := ⟨w.heap.size + 1 + 1, 1, none⟩) k2).trans h.c1, Nat.lt_of_lt_of_le hz hg.size, grownBy_trans h.g hg⟩
theorem cenv_new (h : ObjAt w lo hi p n q m L P) (h' : ObjAt w lo' hi' p' n' q' m' L' P') (hc' : ObjAt w lc hc pc nc qc mc Lc Pc) (hf : ZsAt w lof hif pf nf f) (hk : ZsAt w log hig pg ng g) :
    CEnv w (((w.alloc (.cells #[.slice p n c, .slice q m d] 25)).alloc (.cells #[.slice p' n' c', .slice q' m' d'] 25)).alloc (.cells #[.slice pc nc cc, .slice qc mc dc] 25)) lo hi lo' hi' lc hc lof hif log hig p q p' q' pc qc pf pg n c m d n' c' m' d' nc cc mc dc nf ng L L' Lc P P' Pc f g := by
  have g3 := World.grownBy_alloc ((w.alloc (.cells #[.slice p n c, .slice q m d] 25)).alloc (.cells #[.slice p' n' c', .slice q' m' d'] 25)) (.cells #[.slice pc nc cc, .slice qc mc dc] 25) none
  have b3 := box2 (grownBy_refl (((w.alloc (.cells #[.slice p n c, .slice q m d] 25)).alloc (.cells #[.slice p' n' c', .slice q' m' d'] 25)).alloc (.cells #[.slice pc nc cc, .slice qc mc dc] 25)) none)
  obtain ⟨⟨a0, a1⟩, ⟨b0, b1⟩, hg⟩ := box22 g3
  simp only [World.size_alloc] at b3
  exact ⟨h.calm hg, h'.calm hg, hc'.calm hg, hf.calm hg, hk.calm hg, a0, a1, b0, b1, b3.1, b3.2.1, by simp, hg⟩
end

/-- .. and what came of the maps. -/
structure DEnv (w W : World) (lo hi lo' hi' lc hc lof hif log hig : Nat) (p q p' q' pc qc pf pg : Option Addr) (n c m d n' c' m' d' nc cc mc dc nf ng : Nat) (L L' Lc : List ByteArray) (P P' Pc : List (Int × Int)) (f g : List Int) (bh bi bk : Nat) : Prop where
  t : CEnv w W lo hi lo' hi' lc hc lof hif log hig p q p' q' pc qc pf pg n c m d n' c' m' d' nc cc mc dc nf ng L L' Lc P P' Pc f g
  h : ZsAt W bh (bh + 1) (some ⟨bh, 0, none⟩) nf (thenL f g)
  i : ZsAt W bi (bi + 1) (some ⟨bi, 0, none⟩) nf f
  k : ZsAt W bk (bk + 1) (some ⟨bk, 0, none⟩) nf f
theorem DEnv.calm {w W W' : World} {lo hi lo' hi' lc hc lof hif log hig : Nat} {p q p' q' pc qc pf pg : Option Addr} {n c m d n' c' m' d' nc cc mc dc nf ng : Nat} {L L' Lc : List ByteArray} {P P' Pc : List (Int × Int)} {f g : List Int} {bh bi bk : Nat} (h : DEnv w W lo hi lo' hi' lc hc lof hif log hig p q p' q' pc qc pf pg n c m d n' c' m' d' nc cc mc dc nf ng L L' Lc P P' Pc f g bh bi bk) (hg : W.grownBy W' none) : DEnv w W' lo hi lo' hi' lc hc lof hif log hig p q p' q' pc qc pf pg n c m d n' c' m' d' nc cc mc dc nf ng L L' Lc P P' Pc f g bh bi bk :=
  ⟨h.t.calm hg, h.h.calm hg, h.i.calm hg, h.k.calm hg⟩
theorem grownBy_drew1 (w : World) : w.grownBy w.drew none := grownBy_drewN w 1 none
theorem dec_refl' (l : List Int) : decide (l = l) = true := by simp

set_option maxRecDepth 100000 in
set_option maxHeartbeats 8000000 in
theorem arrowThen_in (p q p' q' pc qc pf pg : Option Addr) (n c m d n' c' m' d' nc cc mc dc nf cf ng cg lo hi lo' hi' lc hc lof hif log hig : Nat) (L L' Lc : List ByteArray) (P P' Pc : List (Int × Int)) (f g : List Int) (w : World) (h : ObjAt w lo hi p n q m L P) (h' : ObjAt w lo' hi' p' n' q' m' L' P') (hcc : ObjAt w lc hc pc nc qc mc Lc Pc) (hf : ZsAt w lof hif pf nf f) (hg : ZsAt w log hig pg ng g)
    (hn : n ≤ maxLen) (hn' : n' ≤ maxLen) (hnc : nc ≤ maxLen) :
    Calls Try.prog 4 #[.agg #[.slice p n c, .slice q m d], .agg #[.slice p' n' c', .slice q' m' d'], .agg #[.slice pc nc cc, .slice qc mc dc], .slice pf nf cf, .slice pg ng cg] w fun e w' => e = .returned (.bool true) ∧ w.grownBy w' none := by
  have HE0 := Lib.hid (cenv_new (c := c) (d := d) (c' := c') (d' := d') (cc := cc) (dc := dc) h h' hcc hf hg)
  have HLF := Lib.hid hf.len
  have HLG := Lib.hid hg.len
  have HLL := Lib.hid h.ls.len
  have HLL' := Lib.hid h'.ls.len
  have HN := Lib.hid hn
  have HN' := Lib.hid hn'
  have HNC := Lib.hid hnc
  clear h h' hf hg hcc hn hn' hnc
  go_enter Try.func4, Try.ntmps4
  go_wp2_with fail
  refine (known5_c _).mono ?_
  rintro e w1 ⟨rfl, hg1⟩
  have HE1 := Lib.hid (HE0.out.calm hg1)
  clear hg1 HE0
  have xa0 := HE1.out.a0
  have xa1 := HE1.out.a1
  cases hfw : fewB L m
  · have HF := Lib.hid hfw
    clear hfw
    go_wp2_with fail
    refine (few5_r _ _ _ _ _ _ _ _ L P false _ (by exact HE1.out.a) HN.out HF.out).mono ?_
    rintro e w2 ⟨rfl, hg⟩
    have HG := Lib.hid (HE1.out.calm hg).g
    clear hg
    go_wp2
    go_ret
    exact ⟨rfl, HG.out⟩
  · have HF := Lib.hid hfw
    have hmA : m ≤ 1000000 := by
      unfold fewB at hfw
      simp only [Bool.and_eq_true, decide_eq_true_eq] at hfw
      omega
    clear hfw
    go_wp2_with fail
    refine (few5_r _ _ _ _ _ _ _ _ L P true _ (by exact HE1.out.a) HN.out HF.out).mono ?_
    rintro e w2 ⟨rfl, hg⟩
    have HE2 := Lib.hid (HE1.out.calm hg)
    clear hg HF HE1 xa0 xa1
    have xb0 := HE2.out.b0
    have xb1 := HE2.out.b1
    cases hfw : fewB L' m'
    · have HF := Lib.hid hfw
      clear hfw
      go_wp2_with fail
      refine (few5_r _ _ _ _ _ _ _ _ L' P' false _ (by exact HE2.out.b) HN'.out HF.out).mono ?_
      rintro e w3 ⟨rfl, hg⟩
      have HG := Lib.hid (HE2.out.calm hg).g
      clear hg
      go_wp2
      go_ret
      exact ⟨rfl, HG.out⟩
    · have HF := Lib.hid hfw
      have hmB : m' ≤ 1000000 := by
        unfold fewB at hfw
        simp only [Bool.and_eq_true, decide_eq_true_eq] at hfw
        omega
      clear hfw
      go_wp2_with fail
      refine (few5_r _ _ _ _ _ _ _ _ L' P' true _ (by exact HE2.out.b) HN'.out HF.out).mono ?_
      rintro e w3 ⟨rfl, hg⟩
      have HE3 := Lib.hid (HE2.out.calm hg)
      clear hg HF HE2 xb0 xb1
      have xc0 := HE3.out.c0
      have xc1 := HE3.out.c1
      cases hfw : fewB Lc mc
      · have HF := Lib.hid hfw
        clear hfw
        go_wp2_with fail
        refine (few5_r _ _ _ _ _ _ _ _ Lc Pc false _ (by exact HE3.out.o) HNC.out HF.out).mono ?_
        rintro e w4 ⟨rfl, hg⟩
        have HG := Lib.hid (HE3.out.calm hg).g
        clear hg
        go_wp2
        go_ret
        exact ⟨rfl, HG.out⟩
      · have HF := Lib.hid hfw
        have hmC : mc ≤ 1000000 := by
          unfold fewB at hfw
          simp only [Bool.and_eq_true, decide_eq_true_eq] at hfw
          omega
        clear hfw
        go_wp2_with fail
        refine (few5_r _ _ _ _ _ _ _ _ Lc Pc true _ (by exact HE3.out.o) HNC.out HF.out).mono ?_
        rintro e w4 ⟨rfl, hg⟩
        have HE4 := Lib.hid (HE3.out.calm hg)
        clear hg HF HE3 xc0 xc1
        by_cases hf60 : nf ≤ 60
        case neg =>
          have f60 : decide ((60 : Int) < nf) = true := decide_eq_true (by omega)
          have HG := Lib.hid HE4.out.g
          go_wp2
          go_ret
          exact ⟨rfl, HG.out⟩
        have f60 : decide ((60 : Int) < nf) = false := decide_eq_false (by omega)
        have hnf6 : nf ≤ 1000000 := by omega
        by_cases hg60 : ng ≤ 60
        case neg =>
          have g60 : decide ((60 : Int) < ng) = true := decide_eq_true (by omega)
          have HG := Lib.hid HE4.out.g
          go_wp2
          go_ret
          exact ⟨rfl, HG.out⟩
        have g60 : decide ((60 : Int) < ng) = false := decide_eq_false (by omega)
        have hng6 : ng ≤ 1000000 := by omega
        have a0 := HE4.out.a0
        have a1 := HE4.out.a1
        have b0 := HE4.out.b0
        have b1 := HE4.out.b1
        cases hab : arB L P L' P' f
        case false =>
          have HA := Lib.hid hab
          clear hab
          go_wp2_with fail
          refine (arIs_r _ _ _ _ _ _ _ _ _ _ _ _ _ _ _ _ _ _ _ _ _ L L' P P' f false _ (by exact HE4.out.a) (by exact HE4.out.b) (by exact HE4.out.f) hnf6 hmA hmB HA.out).mono ?_
          rintro e w5 ⟨rfl, hg⟩
          have HG := Lib.hid (HE4.out.calm hg).g
          clear hg
          go_wp2
          go_ret
          exact ⟨rfl, HG.out⟩
        have HA := Lib.hid hab
        clear hab
        go_wp2_with fail
        refine (arIs_r _ _ _ _ _ _ _ _ _ _ _ _ _ _ _ _ _ _ _ _ _ L L' P P' f true _ (by exact HE4.out.a) (by exact HE4.out.b) (by exact HE4.out.f) hnf6 hmA hmB HA.out).mono ?_
        rintro e w5 ⟨rfl, hg⟩
        have HE5 := Lib.hid (HE4.out.calm hg)
        clear hg a0 a1 b0 b1 HE4
        have b0 := HE5.out.b0
        have b1 := HE5.out.b1
        have c0 := HE5.out.c0
        have c1 := HE5.out.c1
        cases hbc : arB L' P' Lc Pc g
        case false =>
          have HB := Lib.hid hbc
          clear hbc
          go_wp2_with fail
          refine (arIs_r _ _ _ _ _ _ _ _ _ _ _ _ _ _ _ _ _ _ _ _ _ L' Lc P' Pc g false _ (by exact HE5.out.b) (by exact HE5.out.o) (by exact HE5.out.k) hng6 hmB hmC HB.out).mono ?_
          rintro e w6 ⟨rfl, hg⟩
          have HG := Lib.hid (HE5.out.calm hg).g
          clear hg
          go_wp2
          go_ret
          exact ⟨rfl, HG.out⟩
        have HB := Lib.hid hbc
        clear hbc
        go_wp2_with fail
        refine (arIs_r _ _ _ _ _ _ _ _ _ _ _ _ _ _ _ _ _ _ _ _ _ L' Lc P' Pc g true _ (by exact HE5.out.b) (by exact HE5.out.o) (by exact HE5.out.k) hng6 hmB hmC HB.out).mono ?_
        rintro e w6 ⟨rfl, hg⟩
        have HE6 := Lib.hid (HE5.out.calm hg)
        clear hg b0 b1 c0 c1 HE5
        obtain ⟨q1, q2, q3, q4, _⟩ := arB_parts HA.out
        obtain ⟨_, _, r3, _, _⟩ := arB_parts HB.out
        have hn40 : n ≤ 40 := by have := chk_small q1; rw [HLL.out] at this; exact this
        have hn40' : n' ≤ 40 := by have := chk_small q2; rw [HLL'.out] at this; exact this
        have HFN : Hid (f.length = n) := Lib.hid (q3.trans HLL.out)
        have HNF : Hid (nf = n) := Lib.hid (HLF.out.symm.trans HFN.out)
        have HTB : Hid (thenB f n' = true) := Lib.hid (by rw [← HLL'.out]; exact lab_has q4)
        have HT1 : Hid (thenB f g.length = true) := Lib.hid (by rw [r3, HLL'.out]; exact HTB.out)
        have HT2 : Hid (thenB (idL n) f.length = true ∧ thenL (idL n) f = f) := Lib.hid ⟨thenB_id (by rw [HFN.out]; exact Nat.le_refl _), by rw [← HFN.out]; exact thenL_id⟩
        have HT3 : Hid (thenB f (idL n').length = true ∧ thenL f (idL n') = f) := Lib.hid ⟨by rw [idL_len]; exact HTB.out, thenL_id2 HTB.out⟩
        have HAC := Lib.hid (arB_then HA.out HB.out)
        have HAA := Lib.hid (arB_id q1)
        have HAN := Lib.hid (arB_nil q1)
        rw [HLL.out] at HAA
        clear q1 q2 q3 q4 r3
        go_wp2_with fail
        refine (then_c _ _ _ _ _ _ _ _ _ _ f g _ (by exact HE6.out.f) (by exact HE6.out.k) hnf6).mono ?_
        rintro e w7 ⟨hg, ⟨_, bh, rfl, _, hrow⟩ | ⟨h1, _⟩⟩
        case inr => rw [HT1.out] at h1; cases h1
        have hh := hrow.at1
        rw [thenL_len, HLF.out] at hh
        have HH7 := Lib.hid hh
        have HE7 := Lib.hid (HE6.out.calm hg)
        have eLF : (f.length : Nat) = nf := HLF.out
        rw [eLF]
        clear hg hrow hh HE6 eLF
        have a0 := HE7.out.a0
        go_wp2_with fail
        refine (ident_c n n _ (idN_nat hn40)).mono ?_
        rintro e w8 ⟨bz, rfl, _, hrow, hg⟩
        have HZ8 := Lib.hid hrow.at1
        have HH8 := Lib.hid (HH7.out.calm hg)
        have HE8 := Lib.hid (HE7.out.calm hg)
        have hzl : (idL n).length ≤ 1000000 := by rw [idL_len]; omega
        clear hg hrow a0 HE7 HH7
        go_wp2_with fail
        refine (then_c _ _ _ _ _ _ _ _ _ _ (idL n) f _ (by exact HZ8.out) (by exact HE8.out.f) hzl).mono ?_
        rintro e w9 ⟨hg, ⟨_, bi, rfl, _, hrow⟩ | ⟨h1, _⟩⟩
        case inr => rw [HT2.out.1] at h1; cases h1
        rw [HT2.out.2] at hrow
        have hi9 := hrow.at1
        rw [HLF.out] at hi9
        have HI9 := Lib.hid hi9
        have HH9 := Lib.hid (HH8.out.calm hg)
        have HE9 := Lib.hid (HE8.out.calm hg)
        have eIL : (idL n).length = nf := by rw [idL_len]; exact HNF.out.symm
        rw [eIL]
        clear hg hrow hi9 hzl HZ8 HE8 HH8 eIL
        have b0 := HE9.out.b0
        go_wp2_with fail
        refine (ident_c n' n' _ (idN_nat hn40')).mono ?_
        rintro e w10 ⟨by', rfl, _, hrow, hg⟩
        have HZ10 := Lib.hid hrow.at1
        have HI10 := Lib.hid (HI9.out.calm hg)
        have HH10 := Lib.hid (HH9.out.calm hg)
        have HE10 := Lib.hid (HE9.out.calm hg)
        clear hg hrow b0 HE9 HH9 HI9
        go_wp2_with fail
        refine (then_c _ _ _ _ _ _ _ _ _ _ f (idL n') _ (by exact HE10.out.f) (by exact HZ10.out) hnf6).mono ?_
        rintro e w11 ⟨hg, ⟨_, bk, rfl, _, hrow⟩ | ⟨h1, _⟩⟩
        case inr => rw [HT3.out.1] at h1; cases h1
        rw [HT3.out.2] at hrow
        have hk11 := hrow.at1
        rw [HLF.out] at hk11
        have henv : DEnv w w11 lo hi lo' hi' lc hc lof hif log hig p q p' q' pc qc pf pg n c m d n' c' m' d' nc cc mc dc nf ng L L' Lc P P' Pc f g bh bi bk := ⟨HE10.out.calm hg, HH10.out.calm hg, HI10.out.calm hg, hk11⟩
        have eLF : (f.length : Nat) = nf := HLF.out
        rw [eLF]
        have HIL : Hid ((idL n).length ≤ 1000000) := Lib.hid (by rw [idL_len]; omega)
        clear hg hrow hk11 HZ10 HE10 HH10 HI10 eLF
        have h00 : (0 : Nat) ≤ 1000000 := by omega
        go_wp2_with fail
        try simp only [List.append_eq, List.cons_append, List.nil_append]
        have henv := henv.calm (grownBy_drew1 w11)
        go_region_held3 (fun w' => w'.cell? ⟨w.heap.size, 0, none⟩ = some (.slice p n c) ∧ w'.cell? ⟨w.heap.size, 1, none⟩ = some (.slice q m d) ∧ w'.cell? ⟨w.heap.size + 1 + 1, 0, none⟩ = some (.slice pc nc cc) ∧ w'.cell? ⟨w.heap.size + 1 + 1, 1, none⟩ = some (.slice qc mc dc)) (first | exact ⟨henv.t.a0, henv.t.a1, henv.t.c0, henv.t.c1⟩ | go_keep)
          (first
            | (go_at_call 10; (first | (with_reducible refine (arIs_r _ _ _ _ _ _ _ _ _ _ _ _ _ _ _ _ _ _ _ _ _ L Lc P Pc (thenL f g) true _ henv.t.a henv.t.o henv.h hnf6 hmA hmC HAC.out).mono ?_) | (with_reducible refine (arIs_r _ _ _ _ _ _ _ _ _ _ _ _ _ _ _ _ _ _ _ _ _ L L P P (idL n) true _ henv.t.a henv.t.a hzz HIL.out hmA hmA HAA.out).mono ?_) | (with_reducible refine (arIs_r none none _ _ none 0 0 0 0 _ _ _ _ 0 0 0 0 _ _ 0 0 [] L [] P [] true _ ⟨strsAt_nil _ _ _, pairsAt_nil _ _ _⟩ henv.t.a (zsAt_nil _ _ _) h00 h00 hmA HAN.out).mono ?_)); rintro e w12 ⟨rfl, hg⟩; have henv := henv.calm hg)
            | (go_at_call 17; (first | (with_reducible refine (arSame_r _ _ _ _ _ _ _ _ _ _ f f true _ henv.i henv.t.f hnf6 (dec_refl' f)).mono ?_) | (with_reducible refine (arSame_r _ _ _ _ _ _ _ _ _ _ f f true _ henv.k henv.t.f hnf6 (dec_refl' f)).mono ?_)); rintro e w12 ⟨rfl, hg⟩; have henv := henv.calm hg)
            | (go_at_call 15; refine (ident_c n n _ (idN_nat hn40)).mono ?_; rintro e w12 ⟨bz, rfl, _, hrow, hg⟩; have henv := henv.calm hg; have hzz := hrow.at1))
        have HG := Lib.hid henv.t.g
        clear henv
        go_wp2
        go_ret
        exact ⟨rfl, HG.out⟩

end Go.Proofs.Ytjimgihfejjilaa
