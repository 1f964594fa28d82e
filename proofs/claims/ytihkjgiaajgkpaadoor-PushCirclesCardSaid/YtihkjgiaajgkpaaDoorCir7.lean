/- The walk of the statement PushCircles: at every input it answers true and leaves all that lay as it lay. Condition: the table of the lowest places is in memory. -/
import Derived.Test.YtihkjgiaajgkpaaDoorCirA
import Derived.Test.YtihkjgiaajgkpaaDoorArrs
namespace Go.Proofs.YtihkjgiaajgkpaaDoor
open Go.RowKit

set_option maxRecDepth 20000 in
set_option maxHeartbeats 4000000 in
theorem pushCircles_in (n k : Nat) (w : World) (hn : n < 256) (hk : n % 8 + 2 = k) (ht : Tab w) : Calls Tryd.prog 8 #[.int .u8 n] w fun e w' => e = .returned (.bool true) ∧ w.grownBy w' none := by
  obtain ⟨i0, hi', hz0, hz1, hz2⟩ := info_parts Tryd.info9
  obtain ⟨j0, hj', jz0, jz1, jz2⟩ := info_parts Tryd.infoZ3
  have n0 : (0 : Int) ≤ n := by omega
  have n1 : (n : Int) < 256 := by omega
  have hk2 : 2 ≤ k := by omega
  have hk10 : k < 10 := by omega
  have HK := Lib.hid (show (n : Int) % 8 + 2 = (k : Int) by omega)
  have HT := Lib.hid ht
  clear hk ht
  go_enter Tryd.func8, Tryd.ntmps8
  go_wp2_with fail
  refine (known7_c _ HT.out).mono ?_
  rintro e w1 ⟨rfl, hg1⟩
  have HG1 := Lib.hid hg1
  have HCE := Lib.hid (CE.start w1 k)
  clear hg1
  go_wp2_with fail
  rw [HK.out]
  go_loopw [4, 5, 6, 7] (fun sl sf sg si wr => ∃ (vl : Value) (gf cf gg cg i : Nat), i ≤ k ∧ vl = sl ∧ sf = .slice (some ⟨gf, 0, none⟩) i cf ∧ sg = .slice (some ⟨gg, 0, none⟩) i cg ∧ si = .int .i64 i ∧ CE w1 wr vl gf cf gg cg k i i i) (fun _ _ _ si _ => k - (intOf si).toNat)
  case atStart => exact ⟨_, _, _, _, _, 0, Nat.zero_le _, rfl, rfl, rfl, rfl, HCE.out⟩
  case round =>
    obtain ⟨vl, gf, cf, gg, cg, i, hi, rfl, rfl, rfl, rfl, hce⟩ := hrel
    by_cases hik : i < k
    · have k0 : (0 : Int) ≤ i := by omega
      have k1 : (i : Int) < k := by omega
      have hs1 := hce.gr.size
      have gl := hce.gl
      have fl := hce.fl
      have hw1 : IntKind.i64.wrap ((k : Int) - 1) = (k : Int) - 1 := wrap_few _ (by omega) (by omega)
      have hw2 : IntKind.i64.wrap ((k : Int) - 1 - (i : Int)) = (k : Int) - 1 - i := wrap_few _ (by omega) (by omega)
      have HC0 := Lib.hid (hce.calm (World.grownBy_alloc wr (.cells #[.string sX] 9) none))
      clear hce
      have hgk : i < k := hik
      go_wp2_with (at_builtin; (first
        | (refine wpList_append_own _ rfl _ _ 22 rfl w1.heap.size 9 i0 (.string .empty) 1 16 Tryd.underlying22 hi' hz0 hz1 hz2 rfl (by decide) _ i (scells (List.replicate i sX)) rfl HC0.out.ls ⟨wr.heap.size, 0, none⟩ 1 1 [.string sX] rfl rfl (World.news_of_block (heap_new wr _)) (by simp [Value.oneCell']) (by unfold maxLen; omega) (by omega) (by simp; omega) ?_; intro v2 w2 hown2 hgrow2 _; have hc2 := HC0.out.str hown2 hgrow2; have HC2 := Lib.hid (hc2.calm (World.grownBy_alloc w2 (.cells #[.int .i64 (i : Int)] 3) none)); have hs2 := hc2.gr.size; have gl2 := hc2.gl; have fl2 := hc2.fl; clear hown2 hgrow2 hc2 HC0)
        | (refine wpList_append_lies _ rfl _ _ 26 rfl w1.heap.size 3 j0 (.int .i64 0) 1 8 Tryd.underlying26 hj' jz0 jz1 jz2 rfl (by decide) (.slice (some ⟨gf, 0, none⟩) i cf) i (zcells (idL i)) rfl HC2.out.f ⟨w2.heap.size, 0, none⟩ 1 1 [.int .i64 (i : Int)] rfl rfl (World.news_of_block (heap_new w2 _)) (by simp [Value.oneCell']) (by decide) (by unfold maxLen; omega) (by omega) (by simp; omega) (w2.heap.size + 1) (by simp) ?_; intro g3 c3 w3 hown3 hgrow3 hb3 hlt3; have hc3 := HC2.out.fst hown3 hgrow3 hb3 (by omega) hlt3; have HC3 := Lib.hid (hc3.calm (World.grownBy_alloc w3 (.cells #[.int .i64 ((k : Int) - 1 - (i : Int))] 3) none)); have hs3 := hc3.gr.size; have gl3 := hc3.gl; have fl3 := hc3.fl; clear hown3 hgrow3 hb3 hlt3 hc3 HC2)
        | (refine wpList_append_lies _ rfl _ _ 26 rfl w1.heap.size 3 j0 (.int .i64 0) 1 8 Tryd.underlying26 hj' jz0 jz1 jz2 rfl (by decide) (.slice (some ⟨gg, 0, none⟩) i cg) i (zcells ((cirG k).take i)) rfl HC3.out.g ⟨w3.heap.size, 0, none⟩ 1 1 [.int .i64 ((k : Int) - 1 - (i : Int))] rfl rfl (World.news_of_block (heap_new w3 _)) (by simp [Value.oneCell']) (by decide) (by unfold maxLen; omega) (by omega) (by simp; omega) (w3.heap.size + 1) (by simp) ?_; intro g4 c4 w4 hown4 hgrow4 hb4 hlt4; have HC4 := Lib.hid (HC3.out.snd hgk hown4 hgrow4 hb4 (by omega) hlt4); clear hown4 hgrow4 hb4 hlt4 HC3)))
      exact ⟨⟨_, _, _, _, _, i + 1, by omega, rfl, by go_num, by go_num, by go_num, HC4.out⟩, by simp [intOf]; omega⟩
    · obtain rfl : i = k := by omega
      have k1 : ¬ ((i : Int) < i) := by omega
      have hls := hce.ls
      have hnil : vl = .slice none 0 0 ∨ ∃ g c', vl = .slice (some ⟨g, 0, none⟩) i c' := by
        rcases hls.2 with ⟨h5, _⟩ | ⟨g, cap, cur, h5, _⟩
        · exact .inl h5
        · exact .inr ⟨g, cap, h5⟩
      have hrl : (List.replicate i sX).length = i := List.length_replicate
      obtain ⟨p, c, e1, hst⟩ := strsAt_own (l := List.replicate i sX) (by rw [hrl]; exact hls)
      rw [hrl] at e1 hst
      subst e1
      have hp0 : p = none → c = 0 := by
        rintro rfl
        rcases hnil with h5 | ⟨g, c', h5⟩
        · injection h5
        · injection h5 with h6; cases h6
      obtain ⟨pf, cf', e2, hzf⟩ := zsAt_own (l := idL i) (by rw [idL_len]; exact hce.f)
      rw [idL_len] at e2 hzf
      injection e2 with e3 e4 e5
      subst e3
      have hcg : (cirG i).take i = cirG i := List.take_of_length_le (by rw [cirG_len]; exact Nat.le_refl _)
      have hg0 := hce.g
      rw [hcg] at hg0
      obtain ⟨pg, cg', e6, hzg⟩ := zsAt_own (l := cirG i) (by rw [cirG_len]; exact hg0)
      rw [cirG_len] at e6 hzg
      injection e6 with e7 e8 e9
      subst e7
      have HP0 := Lib.hid hp0
      have HST := Lib.hid hst
      have HZF := Lib.hid hzf
      have HZG := Lib.hid hzg
      have HGL := Lib.hid (grownBy_trans HG1.out hce.gr)
      have HML := Lib.hid (show (rowP i).length ≤ 100 from by
        have h1 := pairsL_len i (rowR i) i
        have h2 : i * i ≤ 10 * 10 := Nat.mul_le_mul (by omega) (by omega)
        unfold rowP
        omega)
      have h2k : i * i ≤ 10 * 10 := Nat.mul_le_mul (by omega) (by omega)
      obtain ⟨KK, hKK⟩ : ∃ KK, i * i = KK := ⟨_, rfl⟩
      have hw3 : IntKind.i64.wrap ((i : Int) * (i : Int)) = (KK : Int) := by
        have : (i : Int) * (i : Int) = (KK : Int) := by rw [← hKK]; simp
        rw [this]
        exact wrap_few _ (by omega) (by omega)
      have HAF := Lib.hid (cir_arrow (k := i) (f := idL i) (by omega) (idL_len i) (fun e he => by rw [idL_at he]; omega))
      have HAG := Lib.hid (cir_arrow (k := i) (f := cirG i) (by omega) (cirG_len i) (fun e he => by rw [cirG_at he]; omega))
      have HANS := Lib.hid (cir_ans hk2 hk10 (List.replicate i sX ++ List.replicate i sX))
      have HNI := Lib.hid (show injB (idL i) = true ∧ injB (cirG i) = true from by
        have h := cirOK_at hk2 hk10
        unfold cirOK at h
        simp only [Bool.and_eq_true] at h
        exact ⟨h.2.2.2.2.2.1, h.2.2.2.2.2.2⟩)
      have HKK := Lib.hid hKK
      clear hce hls hnil hrl hst hp0 hzf hzg e4 e5 e8 e9 hcg hg0 hKK h2k
      go_wp2_with fail
      refine (row7_c p i c _ _ _ _ HST.out (by omega)).mono ?_
      rintro e w5 ⟨q1, d1, rfl, ho1, hq1, hg5⟩
      have HO1 := Lib.hid ho1
      have HQ1 := Lib.hid hq1
      have HG5 := Lib.hid hg5
      clear ho1 hq1 hg5
      go_wp2_with fail
      refine (row7_c p i c _ _ _ _ (HST.out.calm HG5.out) (by omega)).mono ?_
      rintro e w6 ⟨q2, d2, rfl, ho2, hq2, hg6⟩
      have HO2 := Lib.hid ho2
      have HG6 := Lib.hid (grownBy_trans HG5.out hg6)
      have HO1 := Lib.hid (HO1.out.calm hg6)
      have HGW := Lib.hid (grownBy_trans HGL.out (grownBy_trans HG5.out hg6))
      clear ho2 hq2 hg6
      go_wp2_with fail
      refine ((push_ok p none p q1 p q2 _ _ i c 0 0 i c (rowP i).length d1 i c (rowP i).length d2 i _ _ 0 _ 0 _ 0 _ _ _ _ _ (List.replicate i sX) (List.replicate i sX) (List.replicate i sX) [] (rowP i) (rowP i) (idL i) (cirG i) w6 ⟨HO1.out.ls, pairsAt_nil _ _ _⟩ HO1.out HO2.out (HZF.out.calm HG6.out) (HZG.out.calm HG6.out) (by omega) (Nat.le_trans HML.out (by omega)) (Nat.le_trans HML.out (by omega)) (by omega) (by omega) (by omega) HAF.out HAG.out (HT.out.grown HGW.out (by simp)) HP0.out HP0.out HQ1.out).mono fun e w' h => resN_of h HANS.out.a (HANS.out.b.trans HKK.out) (by rw [HANS.out.i, idL_len]) (by rw [HANS.out.j, cirG_len])).mono ?_
      rintro e w7 ⟨p7, c7, q7, d7, pi, ci, pj, cj, l7, h7, rfl, _, ho7, hi7, hj7, hg7⟩
      rw [HANS.out.i] at hi7
      rw [HANS.out.j] at hj7
      have hga := World.grownBy_alloc w7 (.cells #[.slice p7 i c7, .slice q7 KK d7] 25) none
      have hbo := BoxO.new w7 (.slice p7 i c7) (.slice q7 KK d7)
      have HI8 := Lib.hid (hi7.calm hga)
      have HJ8 := Lib.hid (hj7.calm hga)
      have HG8 := Lib.hid (grownBy_trans HGW.out (grownBy_trans hg7 hga))
      have x0 := hbo.c0
      have x1 := hbo.c1
      have HNN := Lib.hid (fun (q : Option Addr) (w9 : World) (z : List Int) (h : ZsAt w9 l7 h7 q i z) => (show q = none → i = 0 from by
        rintro rfl
        obtain ⟨_, _, e, _⟩ := h.cell (by omega)
        cases e))
      clear ho7 hi7 hj7 hg7 hga hbo HANS
      go_wp2_with fail
      generalize w7.alloc (.cells #[.slice p7 i c7, .slice q7 KK d7] 25) = w8 at *
      refine (inj_r pi i ci _ _ (idL i) true _ HI8.out (by omega) (HNN.out _ _ _ HI8.out) HNI.out.1).mono ?_
      rintro e w9 ⟨rfl, hg9⟩
      have HG9 := Lib.hid hg9
      have HJ9 := Lib.hid (HJ8.out.calm hg9)
      clear hg9 x0 x1
      go_wp2_with fail
      refine (inj_r pj i cj _ _ (cirG i) true _ HJ9.out (by omega) (HNN.out _ _ _ HJ9.out) HNI.out.2).mono ?_
      rintro e wA ⟨rfl, hgA⟩
      have HEND := Lib.hid (grownBy_trans HG8.out (grownBy_trans HG9.out hgA))
      clear hgA
      go_wp2
      go_ret
      exact ⟨rfl, HEND.out⟩

end Go.Proofs.YtihkjgiaajgkpaaDoor
