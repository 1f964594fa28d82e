/- Package push and the document's gluing hand back the same: Push, Sum, Equal, each in one contract for both. -/
import Derived.Test.YtihkjgiaajgkpaaDoorRef7e
import Derived.Test.YtihkjgiaajgkpaaDoorRef7f
namespace Go.Proofs.YtihkjgiaajgkpaaDoor
open Go.RowKit

theorem gluP_len7 (J : List Nat) (P : List (Int × Int)) (h : J.length ≤ 40) : (gluP J P).length ≤ 1600 := by
  have h1 := cntR_le J J.length
  have h2 : cntR J J.length * cntR J J.length ≤ 40 * 40 := Nat.mul_le_mul (by omega) (by omega)
  have := pairsL_len (cntR J J.length) (clo (cntR J J.length) (gluR J P)) (cntR J J.length)
  unfold gluP
  omega
theorem labG_len7 (Lb : List ByteArray) (J : List Nat) (h : J.length ≤ 40) : (labG Lb J).length ≤ 40 := by
  rw [labG_len]
  have h1 := cntR_le J J.length
  omega

theorem pushBoth (p0 q0 p q p' q' pf pg : Option Addr) (n0 c0 m0 d0 n c m d n' c' m' d' nf cf ng cg : Nat) (lo0 hi0 lo hi lo' hi' lof hif log hig : Nat) (L0 L L' : List ByteArray) (P0 P P' : List (Int × Int)) (f g : List Int) (hn0 : n0 ≤ 50) (hn : n ≤ 50) (hn' : n' ≤ 50) (hm0 : m0 ≤ 200) (hm : m ≤ 200) (hm' : m' ≤ 200) (hnf : nf ≤ 60) (hng : ng ≤ 60) (hl0 : L0.length = n0) (hl : L.length = n) (hl' : L'.length = n') (hmm : P.length = m) (hmm' : P'.length = m') (hfl : f.length = nf) (hgl : g.length = ng) (hp0 : p = none → c = 0) (hp0' : p' = none → c' = 0) (hq0 : q = none → d = 0) :
    ∃ (A : List ByteArray) (B : List (Int × Int)) (I J : List Int) (r : Int), (A.length ≤ 1000000 ∧ B.length ≤ 1000000 ∧ I.length ≤ 1000000 ∧ J.length ≤ 1000000) ∧
      (∀ w, ObjAt w lo0 hi0 p0 n0 q0 m0 L0 P0 → ObjAt w lo hi p n q m L P → ObjAt w lo' hi' p' n' q' m' L' P' → ZsAt w lof hif pf nf f → ZsAt w log hig pg ng g → Tab w →
        Calls Tryd.prog 12 #[.agg #[.slice p0 n0 c0, .slice q0 m0 d0], .agg #[.slice p n c, .slice q m d], .agg #[.slice p' n' c', .slice q' m' d'], .slice pf nf cf, .slice pg ng cg] w (Res4 A B I J r w)) ∧
      (∀ w, ObjAt w lo0 hi0 p0 n0 q0 m0 L0 P0 → ObjAt w lo hi p n q m L P → ObjAt w lo' hi' p' n' q' m' L' P' → ZsAt w lof hif pf nf f → ZsAt w log hig pg ng g →
        Calls Tryd.prog 13 #[.agg #[.slice p0 n0 c0, .slice q0 m0 d0], .agg #[.slice p n c, .slice q m d], .agg #[.slice p' n' c', .slice q' m' d'], .slice pf nf cf, .slice pg ng cg] w (RRes4 A B I J r w)) := by
  by_cases h1 : 40 < n0
  · exact ⟨[], [], [], [], 11, ⟨by simp, by simp, by simp, by simp⟩, fun w _ _ _ _ _ _ => push_large1 p0 q0 p q p' q' pf pg n0 c0 m0 d0 n c m d n' c' m' d' nf cf ng cg w (by omega) h1, fun w _ _ _ _ _ => refPush_large1 p0 q0 p q p' q' pf pg n0 c0 m0 d0 n c m d n' c' m' d' nf cf ng cg w h1⟩
  by_cases h2 : 40 < n + n'
  · refine ⟨[], [], [], [], 11, ⟨by simp, by simp, by simp, by simp⟩, fun w _ _ _ _ _ _ => push_large2 p0 q0 p q p' q' pf pg n0 c0 m0 d0 n c m d n' c' m' d' nf cf ng cg w (by omega) (by omega) (by omega) h2, fun w _ _ _ _ _ => ?_⟩
    by_cases h3 : 40 < n
    · exact refPush_large2 p0 q0 p q p' q' pf pg n0 c0 m0 d0 n c m d n' c' m' d' nf cf ng cg w (by omega) h3
    · exact refPush_large3 p0 q0 p q p' q' pf pg n0 c0 m0 d0 n c m d n' c' m' d' nf cf ng cg w (by omega) (by omega) h2
  cases har : (arB L0 P0 L P f && arB L0 P0 L' P' g) with
  | false =>
    exact ⟨[], [], [], [], 10, ⟨by simp, by simp, by simp, by simp⟩, fun w a b c9 d9 e9 _ => push_form p0 q0 p q p' q' pf pg n0 c0 m0 d0 n c m d n' c' m' d' nf cf ng cg lo0 hi0 lo hi lo' hi' lof hif log hig L0 L L' P0 P P' f g w a b c9 d9 e9 (by omega) (by omega) (by omega) (by omega) (by omega) (by omega) (by omega) har, fun w a b c9 d9 e9 => refPush_form p0 q0 p q p' q' pf pg n0 c0 m0 d0 n c m d n' c' m' d' nf cf ng cg lo0 hi0 lo hi lo' hi' lof hif log hig L0 L L' P0 P P' f g w a b c9 d9 e9 (by omega) (by omega) (by omega) (by omega) (by omega) (by omega) (by omega) har⟩
  | true =>
    rw [Bool.and_eq_true] at har
    obtain ⟨ha, hb⟩ := har
    have e1 := (arB_hasZ ha).1
    have e2 := (arB_hasZ hb).1
    obtain rfl : ng = nf := by omega
    have hJ : (joinsL (n + n') f (shL n g)).length ≤ 40 := by rw [joinsL_len]; omega
    refine ⟨labG (L ++ L') (joinsL (n + n') f (shL n g)), gluP (joinsL (n + n') f (shL n g)) (P ++ shP n P'), (atZ (joinsL (n + n') f (shL n g))).take n, (atZ (joinsL (n + n') f (shL n g))).drop n, 0, ⟨?_, ?_, ?_, ?_⟩, fun w a b c9 d9 e9 t9 => push_ok p0 q0 p q p' q' pf pg n0 c0 m0 d0 n c m d n' c' m' d' _ cf cg lo0 hi0 lo hi lo' hi' lof hif log hig L0 L L' P0 P P' f g w a b c9 d9 e9 (by omega) (by omega) (by omega) (by omega) (by omega) (by omega) ha hb t9 hp0 hp0' hq0, fun w a b c9 d9 e9 => refPush_ok p0 q0 p q p' q' pf pg n0 c0 m0 d0 n c m d n' c' m' d' _ cf cg lo0 hi0 lo hi lo' hi' lof hif log hig L0 L L' P0 P P' f g w a b c9 d9 e9 (by omega) (by omega) (by omega) (by omega) (by omega) (by omega) ha hb hp0 hp0' hq0⟩
    · exact Nat.le_trans (labG_len7 _ _ hJ) (by omega)
    · exact Nat.le_trans (gluP_len7 _ _ hJ) (by omega)
    · rw [List.length_take, atZ_len]; omega
    · rw [List.length_drop, atZ_len]; omega

theorem sumBoth (p q p' q' : Option Addr) (n c m d n' c' m' d' : Nat) (lo hi lo' hi' : Nat) (L L' : List ByteArray) (P P' : List (Int × Int)) (hn : n ≤ 50) (hn' : n' ≤ 50) (hm : m ≤ 200) (hm' : m' ≤ 200) (hl : L.length = n) (hl' : L'.length = n') (hmm : P.length = m) (hmm' : P'.length = m') (hp0 : p = none → c = 0) (hp0' : p' = none → c' = 0) (hq0 : q = none → d = 0) :
    ∃ (A : List ByteArray) (B : List (Int × Int)) (I J : List Int) (r : Int), (A.length ≤ 1000000 ∧ B.length ≤ 1000000 ∧ I.length ≤ 1000000 ∧ J.length ≤ 1000000) ∧
      (∀ w, ObjAt w lo hi p n q m L P → ObjAt w lo' hi' p' n' q' m' L' P' →
        Calls Tryd.prog 16 #[.agg #[.slice p n c, .slice q m d], .agg #[.slice p' n' c', .slice q' m' d']] w (Res4 A B I J r w)) ∧
      (∀ w, ObjAt w lo hi p n q m L P → ObjAt w lo' hi' p' n' q' m' L' P' →
        Calls Tryd.prog 17 #[.agg #[.slice p n c, .slice q m d], .agg #[.slice p' n' c', .slice q' m' d']] w (RRes4 A B I J r w)) := by
  by_cases h2 : 40 < n + n'
  · refine ⟨[], [], [], [], 11, ⟨by simp, by simp, by simp, by simp⟩, fun w _ _ => sum_large p q p' q' n c m d n' c' m' d' w (by omega) (by omega) h2, fun w _ _ => ?_⟩
    by_cases h3 : 40 < n
    · exact refSum_large1 p q p' q' n c m d n' c' m' d' w h3
    · exact refSum_large2 p q p' q' n c m d n' c' m' d' w (by omega) h2
  cases har : (chk L P == 0 && chk L' P' == 0) with
  | false =>
    exact ⟨[], [], [], [], 10, ⟨by simp, by simp, by simp, by simp⟩, fun w b c9 => sum_form p q p' q' n c m d n' c' m' d' lo hi lo' hi' L L' P P' w b c9 (by omega) (by omega) (by omega) (by omega) (by omega) har, fun w b c9 => refSum_form p q p' q' n c m d n' c' m' d' lo hi lo' hi' L L' P P' w b c9 (by omega) (by omega) (by omega) har⟩
  | true =>
    have hc : chk L P = 0 ∧ chk L' P' = 0 := by simpa using har
    refine ⟨L ++ L', P ++ shP n P', idL n, shL n (idL n'), 0, ⟨?_, ?_, ?_, ?_⟩, fun w b c9 => sum_ok p q p' q' n c m d n' c' m' d' lo hi lo' hi' L L' P P' w b c9 (by omega) (by omega) (by omega) (by omega) (by omega) hc.1 hc.2 hp0 hp0' hq0, fun w b c9 => refSum_ok p q p' q' n c m d n' c' m' d' lo hi lo' hi' L L' P P' w b c9 (by omega) (by omega) (by omega) hc.1 hc.2 hp0 hp0' hq0⟩
    · rw [List.length_append]; omega
    · rw [List.length_append, shP_len]; omega
    · rw [idL_len]; omega
    · rw [shL_len, idL_len]; omega

theorem eqlBoth (p q p' q' pf pg : Option Addr) (n c m d n' c' m' d' nf cf ng cg : Nat) (lo hi lo' hi' lof hif log hig : Nat) (L L' : List ByteArray) (P P' : List (Int × Int)) (f g : List Int) (hn : n ≤ 50) (hn' : n' ≤ 50) (hm : m ≤ 200) (hm' : m' ≤ 200) (hnf : nf ≤ 60) (hng : ng ≤ 60) (hl : L.length = n) (hl' : L'.length = n') (hfl : f.length = nf) (hgl : g.length = ng) :
    ∃ (A : List ByteArray) (B : List (Int × Int)) (I : List Int) (r : Int), (A.length ≤ 1000000 ∧ B.length ≤ 1000000 ∧ I.length ≤ 1000000) ∧
      (∀ w, ObjAt w lo hi p n q m L P → ObjAt w lo' hi' p' n' q' m' L' P' → ZsAt w lof hif pf nf f → ZsAt w log hig pg ng g → Tab w →
        Calls Tryd.prog 18 #[.agg #[.slice p n c, .slice q m d], .agg #[.slice p' n' c', .slice q' m' d'], .slice pf nf cf, .slice pg ng cg] w (Res3 A B I r w)) ∧
      (∀ w, ObjAt w lo hi p n q m L P → ObjAt w lo' hi' p' n' q' m' L' P' → ZsAt w lof hif pf nf f → ZsAt w log hig pg ng g →
        Calls Tryd.prog 19 #[.agg #[.slice p n c, .slice q m d], .agg #[.slice p' n' c', .slice q' m' d'], .slice pf nf cf, .slice pg ng cg] w (RRes3 A B I r w)) := by
  by_cases h1 : 40 < n
  · exact ⟨[], [], [], 11, ⟨by simp, by simp, by simp⟩, fun w _ _ _ _ _ => eql_large1 p q p' q' pf pg n c m d n' c' m' d' nf cf ng cg w (by omega) h1, fun w _ _ _ _ => refEql_large1 p q p' q' pf pg n c m d n' c' m' d' nf cf ng cg w h1⟩
  by_cases h2 : 40 < n'
  · exact ⟨[], [], [], 11, ⟨by simp, by simp, by simp⟩, fun w _ _ _ _ _ => eql_large2 p q p' q' pf pg n c m d n' c' m' d' nf cf ng cg w (by omega) (by omega) h2, fun w _ _ _ _ => refEql_large2 p q p' q' pf pg n c m d n' c' m' d' nf cf ng cg w (by omega) h2⟩
  cases har : (arB L P L' P' f && arB L P L' P' g) with
  | false =>
    exact ⟨[], [], [], 10, ⟨by simp, by simp, by simp⟩, fun w b c9 d9 e9 _ => eql_form p q p' q' pf pg n c m d n' c' m' d' nf cf ng cg lo hi lo' hi' lof hif log hig L L' P P' f g w b c9 d9 e9 (by omega) (by omega) (by omega) (by omega) (by omega) (by omega) har, fun w b c9 d9 e9 => refEql_form p q p' q' pf pg n c m d n' c' m' d' nf cf ng cg lo hi lo' hi' lof hif log hig L L' P P' f g w b c9 d9 e9 (by omega) (by omega) (by omega) (by omega) (by omega) (by omega) har⟩
  | true =>
    rw [Bool.and_eq_true] at har
    obtain ⟨ha, hb⟩ := har
    have e1 := (arB_hasZ ha).1
    have e2 := (arB_hasZ hb).1
    obtain rfl : ng = nf := by omega
    have hJ : (joinsL n' f g).length ≤ 40 := by rw [joinsL_len]; omega
    refine ⟨labG L' (joinsL n' f g), gluP (joinsL n' f g) P', atZ (joinsL n' f g), 0, ⟨?_, ?_, ?_⟩, fun w b c9 d9 e9 t9 => eql_ok p q p' q' pf pg n c m d n' c' m' d' _ cf _ cg lo hi lo' hi' lof hif log hig L L' P P' f g w b c9 d9 e9 (by omega) (by omega) (by omega) (by omega) (by omega) (by omega) ha hb rfl t9, fun w b c9 d9 e9 => refEql_ok p q p' q' pf pg n c m d n' c' m' d' _ cf cg lo hi lo' hi' lof hif log hig L L' P P' f g w b c9 d9 e9 (by omega) (by omega) (by omega) (by omega) (by omega) ha hb⟩
    · exact Nat.le_trans (labG_len7 _ _ hJ) (by omega)
    · exact Nat.le_trans (gluP_len7 _ _ hJ) (by omega)
    · rw [atZ_len]; omega

end Go.Proofs.YtihkjgiaajgkpaaDoor
