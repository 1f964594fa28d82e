/- The walk of the statement ArrowTells: at every input it answers true and leaves all that lay as it lay. -/
import Derived.Test.YtjimgihfejjilaaKnow5
namespace Go.Proofs.Ytjimgihfejjilaa
open Go.RowKit

/-- What Then answers, in one. -/
def thenX (f g : List Int) : List Int := if thenB f g.length then thenL f g else []
theorem thenX_len (f g : List Int) : (thenX f g).length ≤ f.length := by
  unfold thenX
  split
  · rw [thenL_len]; exact Nat.le_refl _
  · exact Nat.zero_le _
def ThenU (f g : List Int) (bk : Bool) (w : World) (e : Ending) (w' : World) : Prop := ∃ p n c, e = .returned (.tuple #[.slice p n c, .bool bk]) ∧ ZsAt w' w.heap.size w'.heap.size p n (thenX f g) ∧ w.grownBy w' none
theorem then_u (p q : Option Addr) (n c m d lo hi lo' hi' : Nat) (f g : List Int) (bk : Bool) (w : World) (hf : ZsAt w lo hi p n f) (hg : ZsAt w lo' hi' q m g) (hn : n ≤ 1000000) (hb : thenB f g.length = bk) :
    Calls Try.prog 8 #[.slice p n c, .slice q m d] w (ThenU f g bk w) := by
  refine (then_c p q n c m d lo hi lo' hi' f g w hf hg hn).mono ?_
  rintro e w' ⟨h1, ⟨h2, b, rfl, h3, h4⟩ | ⟨h2, rfl⟩⟩
  · refine ⟨_, _, _, by rw [← hb, h2], ?_, h1⟩
    have := h4.at (lo := w.heap.size) h3
    unfold thenX
    rw [h2, if_pos rfl]
    rw [thenL_len] at this
    exact this
  · refine ⟨_, _, _, by rw [← hb, h2], ?_, h1⟩
    unfold thenX
    rw [h2, if_neg (by decide)]
    exact zsAt_nil _ _ _
theorem refThen_u (p q : Option Addr) (n c m d lo hi lo' hi' : Nat) (f g : List Int) (bk : Bool) (w : World) (hf : ZsAt w lo hi p n f) (hg : ZsAt w lo' hi' q m g) (hn : n ≤ 1000000) (hb : thenB f g.length = bk) :
    Calls Try.prog 9 #[.slice p n c, .slice q m d] w (ThenU f g bk w) := by
  refine (refThen_c p q n c m d lo hi lo' hi' f g w hf hg hn).mono ?_
  rintro e w' ⟨h1, ⟨h2, p', c', rfl, h4⟩ | ⟨h2, rfl⟩⟩
  · refine ⟨_, _, _, by rw [← hb, h2], ?_, h1⟩
    unfold thenX
    rw [h2, if_pos rfl]
    exact h4
  · refine ⟨_, _, _, by rw [← hb, h2], ?_, h1⟩
    unfold thenX
    rw [h2, if_neg (by decide)]
    exact zsAt_nil _ _ _
theorem ZsAt.nil0 {w : World} {lo hi n : Nat} {p : Option Addr} {l : List Int} (h : ZsAt w lo hi p n l) (hp : p = none) : n = 0 := by
  rcases Nat.eq_zero_or_pos n with e | e
  · exact e
  · obtain ⟨b, off, e2, _⟩ := h.cell e
    rw [hp] at e2
    cases e2

/-- All that ArrowTells has at hand. -/
structure AEnv (w W : World) (lo hi lo' hi' lof hif log hig : Nat) (p q p' q' pf pg : Option Addr) (n c m d n' c' m' d' nf ng : Nat) (L L' : List ByteArray) (P P' : List (Int × Int)) (f g : List Int) : Prop where
  e : Env3 W w.heap.size lo hi lo' hi' lof hif p q p' q' pf n c m d n' c' m' d' nf L L' P P' f
  k : ZsAt W log hig pg ng g
  g : w.grownBy W none
theorem AEnv.calm {w W W' : World} {lo hi lo' hi' lof hif log hig : Nat} {p q p' q' pf pg : Option Addr} {n c m d n' c' m' d' nf ng : Nat} {L L' : List ByteArray} {P P' : List (Int × Int)} {f g : List Int} (h : AEnv w W lo hi lo' hi' lof hif log hig p q p' q' pf pg n c m d n' c' m' d' nf ng L L' P P' f g) (hg : W.grownBy W' none) : AEnv w W' lo hi lo' hi' lof hif log hig p q p' q' pf pg n c m d n' c' m' d' nf ng L L' P P' f g :=
  ⟨h.e.calm hg, h.k.calm hg, grownBy_trans h.g hg⟩

theorem dec_refl (l : List Int) : decide (l = l) = true := by simp
/-- .. and what both Thens gave. -/
structure BEnv (w W : World) (lo hi lo' hi' lof hif log hig : Nat) (p q p' q' pf pg : Option Addr) (n c m d n' c' m' d' nf ng : Nat) (L L' : List ByteArray) (P P' : List (Int × Int)) (f g : List Int) (lox hix loy hiy : Nat) (px py : Option Addr) (nx ny : Nat) (X : List Int) : Prop where
  t : AEnv w W lo hi lo' hi' lof hif log hig p q p' q' pf pg n c m d n' c' m' d' nf ng L L' P P' f g
  x : ZsAt W lox hix px nx X
  y : ZsAt W loy hiy py ny X
theorem BEnv.calm {w W W' : World} {lo hi lo' hi' lof hif log hig : Nat} {p q p' q' pf pg : Option Addr} {n c m d n' c' m' d' nf ng : Nat} {L L' : List ByteArray} {P P' : List (Int × Int)} {f g : List Int} {lox hix loy hiy : Nat} {px py : Option Addr} {nx ny : Nat} {X : List Int} (h : BEnv w W lo hi lo' hi' lof hif log hig p q p' q' pf pg n c m d n' c' m' d' nf ng L L' P P' f g lox hix loy hiy px py nx ny X) (hg : W.grownBy W' none) : BEnv w W' lo hi lo' hi' lof hif log hig p q p' q' pf pg n c m d n' c' m' d' nf ng L L' P P' f g lox hix loy hiy px py nx ny X :=
  ⟨h.t.calm hg, h.x.calm hg, h.y.calm hg⟩

set_option maxRecDepth 100000 in
set_option maxHeartbeats 8000000 in
theorem arrowTells_in (p q p' q' pf pg : Option Addr) (n c m d n' c' m' d' nf cf ng cg lo hi lo' hi' lof hif log hig : Nat) (L L' : List ByteArray) (P P' : List (Int × Int)) (f g : List Int) (z : Int) (w : World) (h : ObjAt w lo hi p n q m L P) (h' : ObjAt w lo' hi' p' n' q' m' L' P') (hf : ZsAt w lof hif pf nf f) (hg : ZsAt w log hig pg ng g)
    (hn : n ≤ maxLen) (hn' : n' ≤ maxLen) :
    Calls Try.prog 3 #[.agg #[.slice p n c, .slice q m d], .agg #[.slice p' n' c', .slice q' m' d'], .slice pf nf cf, .slice pg ng cg, .int .i64 z] w fun e w' => e = .returned (.bool true) ∧ w.grownBy w' none := by
  have hg0 := grownBy_trans (World.grownBy_alloc w (.cells #[.slice p n c, .slice q m d] 25) none) (World.grownBy_alloc _ (.cells #[.slice p' n' c', .slice q' m' d'] 25) none)
  have hbx := box22 (grownBy_refl ((w.alloc (.cells #[.slice p n c, .slice q m d] 25)).alloc (.cells #[.slice p' n' c', .slice q' m' d'] 25)) none)
  have HE0 : Hid (AEnv w ((w.alloc (.cells #[.slice p n c, .slice q m d] 25)).alloc (.cells #[.slice p' n' c', .slice q' m' d'] 25)) lo hi lo' hi' lof hif log hig p q p' q' pf pg n c m d n' c' m' d' nf ng L L' P P' f g) :=
    Lib.hid ⟨⟨h.calm hg0, h'.calm hg0, hf.calm hg0, hbx.1.1, hbx.1.2, hbx.2.1.1, hbx.2.1.2, by simp⟩, hg.calm hg0, hg0⟩
  have HLF := Lib.hid hf.len
  have HLL := Lib.hid h.ls.len
  have HLL' := Lib.hid h'.ls.len
  have HN := Lib.hid hn
  have HN' := Lib.hid hn'
  have HFN := Lib.hid (fun e => hf.nil0 e)
  clear h h' hf hg hg0 hbx hn hn'
  go_enter Try.func3, Try.ntmps3
  go_wp2_with fail
  refine (known5_c _).mono ?_
  rintro e w1 ⟨rfl, hg1⟩
  have HE1 := Lib.hid (HE0.out.calm hg1)
  clear hg1 HE0
  have a0 := HE1.out.e.b0
  have a1 := HE1.out.e.b1
  cases hfw : fewB L m
  · have HF := Lib.hid hfw
    clear hfw
    go_wp2_with fail
    refine (few5_r _ _ _ _ _ _ _ _ L P false _ (by exact HE1.out.e.a) HN.out HF.out).mono ?_
    rintro e w2 ⟨rfl, hg2⟩
    have HG := Lib.hid (HE1.out.calm hg2).g
    clear hg2
    go_wp2
    go_ret
    exact ⟨rfl, HG.out⟩
  · have HF := Lib.hid hfw
    have hm6 : m ≤ 1000000 := by
      unfold fewB at hfw
      simp only [Bool.and_eq_true, decide_eq_true_eq] at hfw
      omega
    clear hfw
    go_wp2_with fail
    refine (few5_r _ _ _ _ _ _ _ _ L P true _ (by exact HE1.out.e.a) HN.out HF.out).mono ?_
    rintro e w2 ⟨rfl, hg2⟩
    have HE2 := Lib.hid (HE1.out.calm hg2)
    clear hg2 a0 a1 HE1
    have b0 := HE2.out.e.b2
    have b1 := HE2.out.e.b3
    cases hfw : fewB L' m'
    · have HF' := Lib.hid hfw
      clear hfw
      go_wp2_with fail
      refine (few5_r _ _ _ _ _ _ _ _ L' P' false _ (by exact HE2.out.e.b) HN'.out HF'.out).mono ?_
      rintro e w3 ⟨rfl, hg3⟩
      have HG := Lib.hid (HE2.out.calm hg3).g
      clear hg3
      go_wp2
      go_ret
      exact ⟨rfl, HG.out⟩
    · have HF' := Lib.hid hfw
      have hm6' : m' ≤ 1000000 := by
        unfold fewB at hfw
        simp only [Bool.and_eq_true, decide_eq_true_eq] at hfw
        omega
      clear hfw
      go_wp2_with fail
      refine (few5_r _ _ _ _ _ _ _ _ L' P' true _ (by exact HE2.out.e.b) HN'.out HF'.out).mono ?_
      rintro e w3 ⟨rfl, hg3⟩
      have HE3 := Lib.hid (HE2.out.calm hg3)
      clear hg3 b0 b1 HE2
      by_cases hf60 : nf ≤ 60
      · have f60 : decide ((60 : Int) < nf) = false := decide_eq_false (by omega)
        have hnf6 : nf ≤ 1000000 := by omega
        by_cases hg60 : ng ≤ 60
        · have g60 : decide ((60 : Int) < ng) = false := decide_eq_false (by omega)
          have hng6 : ng ≤ 1000000 := by omega
          obtain ⟨bk, HBK⟩ : ∃ bk, Hid (thenB f g.length = bk) := ⟨_, Lib.hid rfl⟩
          go_wp2_with fail
          refine (then_u _ _ _ _ _ _ _ _ _ _ f g bk _ (by exact HE3.out.e.f) (by exact HE3.out.k) hnf6 HBK.out).mono ?_
          rintro e w4 ⟨px, nx, cx, rfl, hx, hg4⟩
          have HE4 := Lib.hid (HE3.out.calm hg4)
          have HX4 := Lib.hid hx
          clear hg4 hx HE3
          go_wp2_with fail
          refine (refThen_u _ _ _ _ _ _ _ _ _ _ f g bk _ (by exact HE4.out.e.f) (by exact HE4.out.k) hnf6 HBK.out).mono ?_
          rintro e w5 ⟨py, ny, cy, rfl, hy, hg5⟩
          have hnx6 : nx ≤ 1000000 := by
            have := HX4.out.len
            have := thenX_len f g
            have := HLF.out
            omega
          have henv : BEnv w w5 lo hi lo' hi' lof hif log hig p q p' q' pf pg n c m d n' c' m' d' nf ng L L' P P' f g _ _ _ _ px py nx ny (thenX f g) := ⟨HE4.out.calm hg5, HX4.out.calm hg5, hy⟩
          clear hg5 hy HE4 HX4
          generalize w3.heap.size = s3 at *
          generalize w4.heap.size = s4 at *
          generalize w5.heap.size = s5 at *
          obtain ⟨ba, HBA⟩ : ∃ ba, Hid (arB L P L' P' f = ba) := ⟨_, Lib.hid rfl⟩
          obtain ⟨bi, HBI⟩ : ∃ bi, Hid (invB L P L' P' f g = bi) := ⟨_, Lib.hid rfl⟩
          obtain ⟨bs, HBS⟩ : ∃ bs, Hid (decide (f = g) = bs) := ⟨_, Lib.hid rfl⟩
          obtain ⟨bj, HBJ⟩ : ∃ bj, Hid (injB f = bj) := ⟨_, Lib.hid rfl⟩
          obtain ⟨k9, HK9⟩ : ∃ k9, Hid (idN z = k9) := ⟨_, Lib.hid rfl⟩
          have HL9 : Hid ((idL k9).length ≤ 1000000) := Lib.hid (by rw [idL_len, ← HK9.out]; unfold idN; omega)
          have haa : (ba == ba) = true := by simp
          have hii : (bi == bi) = true := by simp
          have hkk : (bk == bk) = true := by simp
          have hss : (bs == bs) = true := by simp
          have hjj : (bj == bj) = true := by simp
          generalize thenX f g = X at *
          go_wp2_with fail
          try simp only [List.append_eq, List.cons_append, List.nil_append]
          go_region_held3 (fun w' => w'.cell? ⟨w.heap.size, 0, none⟩ = some (.slice p n c) ∧ w'.cell? ⟨w.heap.size, 1, none⟩ = some (.slice q m d) ∧ w'.cell? ⟨w.heap.size + 1, 0, none⟩ = some (.slice p' n' c') ∧ w'.cell? ⟨w.heap.size + 1, 1, none⟩ = some (.slice q' m' d')) (first | exact ⟨henv.t.e.b0, henv.t.e.b1, henv.t.e.b2, henv.t.e.b3⟩ | go_keep)
            (first
              | (go_at_call 10; refine (arIs_r _ _ _ _ _ _ _ _ _ _ _ _ _ _ _ _ _ _ _ _ _ L L' P P' f ba _ (henv.calm (grownBy_drewN _ 1 none)).t.e.a (henv.calm (grownBy_drewN _ 1 none)).t.e.b (henv.calm (grownBy_drewN _ 1 none)).t.e.f hnf6 hm6 hm6' HBA.out).mono ?_; rintro e w9 ⟨rfl, hg⟩; have henv := (henv.calm (grownBy_drewN _ 1 none)).calm hg)
              | (go_at_call 11; refine (refArrow_r _ _ _ _ _ _ _ _ _ _ _ _ _ _ _ _ _ _ _ _ _ L L' P P' f ba _ henv.t.e.a henv.t.e.b henv.t.e.f hnf6 hm6 hm6' HBA.out).mono ?_; rintro e w9 ⟨rfl, hg⟩; have henv := henv.calm hg)
              | (go_at_call 12; refine (arInv_r _ _ _ _ _ _ _ _ _ _ _ _ _ _ _ _ _ _ _ _ _ _ _ _ _ _ L L' P P' f g bi _ henv.t.e.a henv.t.e.b henv.t.e.f henv.t.k hnf6 hng6 hm6 hm6' HBI.out).mono ?_; rintro e w9 ⟨rfl, hg⟩; have henv := henv.calm hg)
              | (go_at_call 13; refine (refInv_r _ _ _ _ _ _ _ _ _ _ _ _ _ _ _ _ _ _ _ _ _ _ _ _ _ _ L L' P P' f g bi _ henv.t.e.a henv.t.e.b henv.t.e.f henv.t.k hnf6 hng6 hm6 hm6' HBI.out).mono ?_; rintro e w9 ⟨rfl, hg⟩; have henv := henv.calm hg)
              | (go_at_call 15; refine (ident_c z k9 _ HK9.out).mono ?_; rintro e w9 ⟨bz, rfl, _, hrow, hg⟩; have henv := henv.calm hg; have hzi := hrow.at1)
              | (go_at_call 16; refine (refIdent_c z k9 _ HK9.out).mono ?_; rintro e w9 ⟨pz, cz, rfl, hzj, hg⟩; have henv := henv.calm hg; have hzi := hzi.calm hg)
              | (go_at_call 14; (first | (with_reducible refine (alike_r _ _ _ _ _ _ _ _ _ _ X X true _ henv.x henv.y hnx6 (dec_refl X)).mono ?_) | (with_reducible refine (alike_r _ _ _ _ _ _ _ _ _ _ (idL k9) (idL k9) true _ hzi hzj HL9.out (dec_refl _)).mono ?_) | (with_reducible refine (alike_r _ _ _ _ _ _ _ _ _ _ f g bs _ henv.t.e.f henv.t.k hnf6 HBS.out).mono ?_)); rintro e w9 ⟨rfl, hg⟩; have henv := henv.calm hg)
              | (go_at_call 17; refine (arSame_r _ _ _ _ _ _ _ _ _ _ f g bs _ henv.t.e.f henv.t.k hnf6 HBS.out).mono ?_; rintro e w9 ⟨rfl, hg⟩; have henv := henv.calm hg)
              | (go_at_call 18; refine (inj_r _ _ _ _ _ f bj _ henv.t.e.f hnf6 HFN.out HBJ.out).mono ?_; rintro e w9 ⟨rfl, hg⟩; have henv := henv.calm hg)
              | (go_at_call 19; refine (once_r _ _ _ _ _ f bj _ henv.t.e.f hnf6 HBJ.out).mono ?_; rintro e w9 ⟨rfl, hg⟩; have henv := henv.calm hg))
          have HG := Lib.hid henv.t.g
          clear henv
          go_wp2
          go_ret
          exact ⟨rfl, HG.out⟩
        · have g60 : decide ((60 : Int) < ng) = true := decide_eq_true (by omega)
          have HG := Lib.hid HE3.out.g
          go_wp2
          go_ret
          exact ⟨rfl, HG.out⟩
      · have f60 : decide ((60 : Int) < nf) = true := decide_eq_true (by omega)
        have HG := Lib.hid HE3.out.g
        go_wp2
        go_ret
        exact ⟨rfl, HG.out⟩

end Go.Proofs.Ytjimgihfejjilaa
