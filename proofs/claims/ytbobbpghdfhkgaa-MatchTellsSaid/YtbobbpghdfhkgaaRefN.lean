/- The reference's next, Longest, Is. -/
import Derived.Test.YtbobbpghdfhkgaaRefM
import Derived.Test.YtbobbpghdfhkgaaMatK
namespace Go.Proofs.Ytbobbpghdfhkgaa
open Go.RowKit

theorem hit_here {a b : List ByteArray} {i k p q P Q : Nat} (h : nextL a b i k p q) (hi : i ≤ P) (hk : k ≤ Q) (hP : P ≤ p) (hQ : P = p → Q ≤ q) (hh : hitL a b i k P Q) : P = p ∧ Q = q := by
  by_cases e : P = p
  · subst e
    refine ⟨rfl, ?_⟩
    by_cases e2 : Q = q
    · exact e2
    · exact absurd hh (h.none2 Q hk (by have := hQ rfl; omega))
  · exact absurd hh (h.none1 P Q hi (by omega) hk hh.2.1)

set_option maxRecDepth 100000 in
set_option maxHeartbeats 4000000 in
theorem refNext_c (p1 p2 : Option Addr) (n m c1 c2 mb lo i k p q : Nat) (rb : Nat → Nat) (a b : List ByteArray) (w : World) (h1 : TxtAt w p1 n c1 a) (h2 : TxtAt w p2 m c2 b) (hg : GridM w lo mb (n + 1) (m + 1) 0 rb (fun i k => (tabL a b i k : Int))) (hn : n ≤ 1000) (hm : m ≤ 1000) (hik : i ≤ n) (hkk : k ≤ m) (hnx : nextL a b i k p q) :
    Calls Try.prog 21 #[.slice p1 n c1, .slice p2 m c2, .slice (some ⟨mb, 0, none⟩) (n + 1) (n + 1), .int .i64 i, .int .i64 k] w fun e w' => e = .returned (.tuple #[.int .i64 p, .int .i64 q]) ∧ w.grownBy w' none := by
  have H1 := Lib.hid h1
  have H2 := Lib.hid h2
  have HAL := Lib.hid h1.len
  have HBL := Lib.hid h2.len
  have HG := Lib.hid hg
  have hpn : p < n := by rw [← HAL.out]; exact hnx.hit.1
  have hqm : q < m := by rw [← HBL.out]; exact hnx.hit.2.1
  have hip := hnx.ip
  have hkq := hnx.kq
  have HNX := Lib.hid hnx
  clear h1 h2 hg hnx
  obtain ⟨N, hN⟩ : ∃ N, N = n + 1 := ⟨_, rfl⟩
  obtain ⟨M, hM⟩ : ∃ M, M = m + 1 := ⟨_, rfl⟩
  rw [← hN, ← hM] at HG
  rw [← hN]
  have hM2 : M ≤ 1001 := by omega
  have hN2 : N ≤ 1001 := by omega
  have HN := Lib.hid hN
  have HM := Lib.hid hM
  clear hN hM
  go_enter Try.func21, Try.ntmps21
  go_wp2
  go_loopw [12] (fun s wr => ∃ P : Nat, i ≤ P ∧ P ≤ p ∧ s = .int .i64 P ∧ w.grownBy wr none) (fun s _ => n - (intOf s).toNat)
  case atStart => exact ⟨i, Nat.le_refl _, hip, rfl, grownBy_refl _ _⟩
  case round =>
    obtain ⟨P, hiP, hPp, rfl, hgr⟩ := hrel
    have P1 : (P : Int) < n := by omega
    have P0 : (0 : Int) ≤ P := by omega
    go_upto_region 5 with fail
    generalize wr = wo at *
    go_loopw [13] (fun s wr => ∃ Q : Nat, k ≤ Q ∧ Q ≤ m ∧ (P = p → Q ≤ q) ∧ s = .int .i64 Q ∧ w.grownBy wr none) (fun s _ => m - (intOf s).toNat)
    case atStart => exact ⟨k, Nat.le_refl _, hkk, fun _ => hkq, rfl, hgr⟩
    case round =>
      obtain ⟨Q, hkQ, hQm, hQq, rfl, hgx⟩ := hrel
      clear hgr
      by_cases hQ : Q < m
      · have Q1 : (Q : Int) < m := by omega
        have Q0 : (0 : Int) ≤ Q := by omega
        obtain ⟨loa, hia, hsa⟩ := (H1.out.calm hgx).at'
        obtain ⟨lob, hib, hsb⟩ := (H2.out.calm hgx).at'
        obtain ⟨ba, oa, rfl, _, _, _, hca⟩ := hsa.cell (by omega)
        obtain ⟨bb, ob, rfl, _, _, _, hcb⟩ := hsb.cell (by omega)
        have ca := hca P (by omega)
        have cb := hcb Q hQ
        have HEQ : Hid (a[P]? = b[Q]? ↔ a[P]?.getD .empty = b[Q]?.getD .empty) := Lib.hid (by
          rw [List.getElem?_eq_getElem (by rw [HAL.out]; omega), List.getElem?_eq_getElem (by rw [HBL.out]; exact hQ)]
          simp)
        clear hca hcb hsa hsb
        generalize a[P]?.getD .empty = ta at *
        generalize b[Q]?.getD .empty = tb at *
        obtain ⟨S, hS⟩ : ∃ S, S = P + 1 := ⟨_, rfl⟩
        obtain ⟨T, hT⟩ : ∃ T, T = Q + 1 := ⟨_, rfl⟩
        have hSw : IntKind.i64.wrap ((P : Int) + 1) = (S : Int) := by rw [IntWalk.i64_in _ (by omega)]; omega
        have hTw : IntKind.i64.wrap ((Q : Int) + 1) = (T : Int) := by rw [IntWalk.i64_in _ (by omega)]; omega
        have hSN : S < N := by have := HN.out; omega
        have hTM : T < M := by have := HM.out; omega
        have hiN : i < N := by have := HN.out; omega
        have hkM : k < M := by have := HM.out; omega
        have hSN' : (S : Int) < N := by omega
        have hTM' : (T : Int) < M := by omega
        have hiN' : (i : Int) < N := by omega
        have hkM' : (k : Int) < M := by omega
        have S0 : (0 : Int) ≤ S := by omega
        have T0 : (0 : Int) ≤ T := by omega
        have i0' : (0 : Int) ≤ i := by omega
        have k0' : (0 : Int) ≤ k := by omega
        have g1 := (HG.out.calm hgx).hcell (i := S) (Nat.zero_le _) hSN
        have g2 := (HG.out.calm hgx).hcell (i := i) (Nat.zero_le _) hiN
        have d1 := (HG.out.calm hgx).cell (i := S) (k := T) (Nat.zero_le _) hSN hTM
        have d2 := (HG.out.calm hgx).cell (i := i) (k := k) (Nat.zero_le _) hiN hkM
        have HHIT : Hid (ta = tb → tabL a b S T + 1 = tabL a b i k → P = p ∧ Q = q) := Lib.hid fun e1 e2 =>
          hit_here HNX.out hiP hkQ hPp hQq ⟨by rw [HAL.out]; omega, by rw [HBL.out]; exact hQ, HEQ.out.2 e1, by rw [← hS, ← hT]; exact e2⟩
        have HIS : Hid (P = p → Q = q → ta = tb ∧ tabL a b S T + 1 = tabL a b i k) := Lib.hid fun e1 e2 => by
          subst e1 e2
          exact ⟨HEQ.out.1 HNX.out.hit.2.2.1, by rw [hS, hT]; exact HNX.out.hit.2.2.2⟩
        have zsm := (tabL_small a b S T).1
        rw [HAL.out] at zsm
        have ysm := (tabL_small a b i k).1
        rw [HAL.out] at ysm
        generalize tabL a b S T = z at *
        generalize tabL a b i k = y at *
        generalize rb S = r1 at *
        generalize rb i = r2 at *
        clear hS hT
        by_cases heq : ta = tb
        · have e5 := toList_eq heq
          by_cases hy : z + 1 = y
          · obtain ⟨rfl, rfl⟩ := HHIT.out heq hy
            have e6 : (((z : Int) + 1) == (y : Int)) = true := by rw [beq_iff_eq]; omega
            clear heq
            go_wp2
            go_quiet (fail)
            go_wp2
            go_ret2
            exact ⟨rfl, grownBy_trans hgx (grownBy_drewN _ _ none)⟩
          · have e6 : (((z : Int) + 1) == (y : Int)) = false := by rw [beq_eq_false_iff_ne]; omega
            have hno : P = p → Q + 1 ≤ q := fun e => by
              have := hQq e
              by_cases e2 : Q = q
              · exact absurd (HIS.out e e2).2 hy
              · omega
            have HNO := Lib.hid hno
            clear heq hno
            go_wp2
            go_quiet (fail)
            clear hTw hSw
            go_wp2
            exact ⟨⟨Q + 1, by omega, by omega, HNO.out, by go_num, grownBy_trans hgx (grownBy_drewN _ _ none)⟩, by simp [intOf]; omega⟩
        · have e5 := toList_ne heq
          have hno : P = p → Q + 1 ≤ q := fun e => by
            have := hQq e
            by_cases e2 : Q = q
            · exact absurd (HIS.out e e2).1 heq
            · omega
          have HNO := Lib.hid hno
          clear heq hno
          go_wp2
          go_quiet (fail)
          clear hTw hSw
          go_wp2
          exact ⟨⟨Q + 1, by omega, by omega, HNO.out, by go_num, grownBy_trans hgx (grownBy_drewN _ _ none)⟩, by simp [intOf]; omega⟩
      · obtain rfl : Q = m := by omega
        have Q1 : ¬ ((Q : Int) < Q) := by omega
        have hPp2 : P + 1 ≤ p := by
          by_cases e : P = p
          · have := hQq e; omega
          · omega
        go_wp2
        exact ⟨⟨P + 1, by omega, hPp2, by go_num, hgx⟩, by simp [intOf]; omega⟩

set_option maxHeartbeats 4000000 in
theorem refLongest_c (p1 p2 : Option Addr) (n m c1 c2 : Nat) (a b : List ByteArray) (l : List (Nat × Nat)) (w : World) (h1 : TxtAt w p1 n c1 a) (h2 : TxtAt w p2 m c2 b) (hn : n ≤ 200) (hm : m ≤ 200) (hl : LgL a b 0 0 l) :
    Calls Try.prog 12 #[.slice p1 n c1, .slice p2 m c2] w (PairsPost (l.map intP) w) := by
  obtain ⟨i0, hi0, hz0, hz1, hz2⟩ := info_parts Try.info33
  have H1 := Lib.hid h1
  have H2 := Lib.hid h2
  have HL := Lib.hid hl
  clear h1 h2 hl
  go_enter Try.func12, Try.ntmps12
  go_wp2_with fail
  refine (refFirst_c _ _ _ _ _ H1.out hn).mono ?_
  rintro e w1 ⟨rfl, h9⟩
  subst w1
  go_wp2_with fail
  refine (refFirst_c _ _ _ _ _ H2.out hm).mono ?_
  rintro e w1 ⟨rfl, h9⟩
  subst w1
  go_wp2_with fail
  refine (refTable_c _ _ _ _ _ _ _ _ _ H1.out H2.out (by omega) (by omega)).mono ?_
  rintro e w2 ⟨mb, rb, rfl, hg, hx⟩
  have HG := Lib.hid hg
  have HX := Lib.hid hx
  have HAL := Lib.hid H1.out.len
  have HBL := Lib.hid H2.out.len
  clear hg hx
  go_wp2
  go_loopw [8, 9, 10] (fun v i kk wr => ∃ (I K : Nat) (pre : List (Nat × Nat)), I ≤ n ∧ K ≤ m ∧ i = .int .i64 I ∧ kk = .int .i64 K ∧ pre.length ≤ I ∧ Hid (∀ rest, LgL a b I K rest → LgL a b 0 0 (pre ++ rest)) ∧
      wr.ownsRow w2.heap.size 33 2 v pre.length (pcells (pre.map intP)) ∧ w2.grownBy wr none) (fun _ i _ _ => n - (intOf i).toNat)
  case atStart => exact ⟨0, 0, [], Nat.zero_le _, Nat.zero_le _, rfl, rfl, Nat.le_refl _, Lib.hid fun _ h => h, World.ownsRow_nil _ _ _ _, grownBy_refl _ _⟩
  case round =>
    obtain ⟨I, K, pre, hI, hK, rfl, rfl, hpre, HLG, hrow, hgr⟩ := hrel
    have hbs := hgr.size
    have I0 : (0 : Int) ≤ I := by omega
    have I1 : (I : Int) < (n : Int) + 1 := by omega
    have K0 : (0 : Int) ≤ K := by omega
    have K1 : (K : Int) < (m : Int) + 1 := by omega
    have g0 := (HG.out.calm hgr).hcell (i := I) (Nat.zero_le _) (by omega)
    have g1 := (HG.out.calm hgr).cell (i := I) (k := K) (Nat.zero_le _) (by omega) (by omega)
    have HROW := Lib.hid hrow
    have HGR := Lib.hid hgr
    clear hrow hgr
    obtain ⟨T, hT⟩ : ∃ T, tabL a b I K = T := ⟨_, rfl⟩
    rw [hT] at g1
    generalize rb I = ri at *
    by_cases h0 : T = 0
    · subst h0
      have hfin := HLG.out [] (.done hT)
      rw [List.append_nil] at hfin
      have HF := Lib.hid (hfin.uniq HL.out)
      clear hfin hT
      go_wp2
      go_ret
      obtain rfl := HF.out
      obtain ⟨p, c, rfl, hat⟩ := pairsAt_own (l := pre.map intP) (by rw [List.length_map]; exact HROW.out)
      exact ⟨p, c, rfl, hat.lower HX.out.size, grownBy_trans HX.out HGR.out⟩
    · have hT0 : (0 : Int) < T := by omega
      obtain ⟨p, q, hnx⟩ := nextL_ex (a := a) (b := b) (i := I) (k := K) (by omega)
      have hpn : p < n := by rw [← HAL.out]; exact hnx.hit.1
      have hqm : q < m := by rw [← HBL.out]; exact hnx.hit.2.1
      have hip := hnx.ip
      have HLG2 : Hid (∀ rest, LgL a b (p + 1) (q + 1) rest → LgL a b 0 0 ((pre ++ [(p, q)]) ++ rest)) := Lib.hid fun rest h => by
        rw [List.append_assoc]
        exact HLG.out _ (.more (by omega) hnx h)
      have HNX := Lib.hid hnx
      clear hnx hT
      go_upto_region 6 with fail
      clear g0 g1
      go_wp2_with fail
      refine (refNext_c _ _ n m _ _ mb _ I K p q rb a b _ (H1.out.calm (grownBy_trans HX.out HGR.out)) (H2.out.calm (grownBy_trans HX.out HGR.out)) (HG.out.calm HGR.out) (by omega) (by omega) hI hK HNX.out).mono ?_
      rintro e w3 ⟨rfl, hg3⟩
      have HR3 := Lib.hid (World.ownsRow.kept HROW.out hg3 (Classical.em _))
      have HG3 := Lib.hid (grownBy_trans HGR.out hg3)
      have hb3 := hg3.size
      clear hg3
      go_wp2_with (at_builtin; refine wpList_append_own _ rfl _ _ 23 rfl w2.heap.size 33 i0 (.agg #[.int .i64 0, .int .i64 0]) 2 16 Try.underlying23 hi0 hz0 hz1 hz2 rfl (by decide) _ _ _ rfl (HR3.out.alloc _) ⟨w3.heap.size, 0, none⟩ 1 1 [.int .i64 p, .int .i64 q] rfl rfl (cell_two_new _ _ _ _) (by simp [Value.oneCell']) (by unfold maxLen; omega) (by omega) (by simp; omega) ?_; intro v' w4 hown' hgrow _; obtain ⟨g', cap', rfl⟩ := ownsRow_succ hown'; have HO := Lib.hid hown'; have HGA := Lib.hid (grownBy_app HG3.out HR3.out hgrow); clear hown' hgrow)
      exact ⟨⟨p + 1, q + 1, pre ++ [(p, q)], by omega, by omega, by go_num, by go_num, by simp; omega, HLG2, by rw [natPairs_snoc]; simpa using HO.out, HGA.out⟩, by simp [intOf]; omega⟩

set_option maxRecDepth 100000 in
set_option maxHeartbeats 4000000 in
theorem refIs_c (p1 p2 p3 : Option Addr) (n m L c1 c2 c3 lo hi : Nat) (a b : List ByteArray) (l : List (Int × Int)) (r : Bool) (w : World) (h1 : TxtAt w p1 n c1 a) (h2 : TxtAt w p2 m c2 b) (h3 : PairsAt w lo hi p3 L l) (hn : n ≤ 200) (hm : m ≤ 200) (hL : L ≤ 1000000) (hr : isMB a b l = r) :
    Calls Try.prog 16 #[.slice p1 n c1, .slice p2 m c2, .slice p3 L c3] w fun e w' => e = .returned (.bool r) ∧ w.grownBy w' none := by
  have H1 := Lib.hid h1
  have H2 := Lib.hid h2
  have H3 := Lib.hid h3
  have HR := Lib.hid hr
  clear h1 h2 h3 hr
  go_enter Try.func16, Try.ntmps16
  go_wp2
  go_loopw [7] (fun i wr => ∃ k : Nat, k ≤ L ∧ i = .int .i64 k ∧ Hid (upM a b l k = true) ∧ w.grownBy wr none) (fun i _ => L - (intOf i).toNat)
  case atStart => exact ⟨0, Nat.zero_le _, rfl, Lib.hid rfl, grownBy_refl _ _⟩
  case round =>
    obtain ⟨k, hk, rfl, HUP, hgr⟩ := hrel
    by_cases hkL : k < L
    · obtain ⟨b3, o3, rfl, z1, z2, z3, hc⟩ := H3.out.cell (by omega)
      have hb3 : wr.heap[b3]? = w.heap[b3]? := hgr.block b3 (by omega) (by simp)
      have d1 := (World.cell?_of_block (a := ⟨b3, o3 + k * 2, none⟩) hb3).trans (hc k hkL).1
      have d2 := (World.cell?_of_block (a := ⟨b3, o3 + k * 2 + 1, none⟩) hb3).trans (hc k hkL).2
      have HC := Lib.hid hc
      have hlen : l.length = L := H3.out.len
      have HNO := Lib.hid (isMB_no (a := a) (b := b) (l := l) (n := k) (by omega))
      have HYES := Lib.hid (upM_succ a b l k)
      clear hc hlen
      generalize hpr : l[k]?.getD (0, 0) = pr at *
      obtain ⟨u, v⟩ := pr
      have k0 : (0 : Int) ≤ k := by omega
      have k1 : (k : Int) < L := by omega
      have HAL := Lib.hid H1.out.len
      have HBL := Lib.hid H2.out.len
      clear hpr
      go_upto_region 5 with fail
      have ha := World.grownBy_alloc wr (.cells #[.int .i64 u, .int .i64 v] 33) none
      have HN5 := Lib.hid (PairB.new wr u v)
      have HG5 := Lib.hid (grownBy_trans hgr ha)
      have HZ := Lib.hid (show b3 < w.heap.size by omega)
      clear ha hgr d1 d2 hb3
      generalize wr.alloc (.cells #[.int .i64 u, .int .i64 v] 33) = W5 at *
      generalize wr.heap.size = g at *
      have p0 := HN5.out.c0
      have p1' := HN5.out.c1
      obtain ⟨x, y, HAH⟩ : ∃ x y, Hid (ahead l k = (x, y)) := ⟨_, _, Lib.hid rfl⟩
      rw [HAH.out] at HNO HYES
      have HF : Hid (¬ (0 ≤ u ∧ 0 ≤ v ∧ u < a.length ∧ v < b.length ∧ a[u.toNat]? = b[v.toNat]? ∧ x < u ∧ y < v) → r = false) := Lib.hid fun h => by
        rw [← HR.out]
        exact HNO.out (okP_no h)
      by_cases t1 : u < 0
      · have e1 : decide (u < 0) = true := decide_eq_true t1
        go_wp2
        go_quiet (fail)
        go_wp2
        obtain rfl : r = false := HF.out (by rintro ⟨h, _⟩; omega)
        go_ret
        exact ⟨rfl, grownBy_trans HG5.out (grownBy_drewN _ _ none)⟩
      · have e1 : decide (u < 0) = false := decide_eq_false t1
        by_cases t2 : v < 0
        · have e2 : decide (v < 0) = true := decide_eq_true t2
          go_wp2
          go_quiet (fail)
          go_wp2
          obtain rfl : r = false := HF.out (by rintro ⟨_, h, _⟩; omega)
          go_ret
          exact ⟨rfl, grownBy_trans HG5.out (grownBy_drewN _ _ none)⟩
        · have e2 : decide (v < 0) = false := decide_eq_false t2
          by_cases t3 : (n : Int) ≤ u
          · have e3 : decide ((n : Int) ≤ u) = true := decide_eq_true t3
            go_wp2
            go_quiet (fail)
            go_wp2
            obtain rfl : r = false := HF.out (by rintro ⟨_, _, h, _⟩; rw [HAL.out] at h; omega)
            go_ret
            exact ⟨rfl, grownBy_trans HG5.out (grownBy_drewN _ _ none)⟩
          · have e3 : decide ((n : Int) ≤ u) = false := decide_eq_false t3
            by_cases t4 : (m : Int) ≤ v
            · have e4 : decide ((m : Int) ≤ v) = true := decide_eq_true t4
              go_wp2
              go_quiet (fail)
              go_wp2
              obtain rfl : r = false := HF.out (by rintro ⟨_, _, _, h, _⟩; rw [HBL.out] at h; omega)
              go_ret
              exact ⟨rfl, grownBy_trans HG5.out (grownBy_drewN _ _ none)⟩
            · have e4 : decide ((m : Int) ≤ v) = false := decide_eq_false t4
              obtain ⟨U, rfl⟩ : ∃ U : Nat, u = (U : Int) := ⟨u.toNat, by omega⟩
              obtain ⟨V, rfl⟩ : ∃ V : Nat, v = (V : Int) := ⟨v.toNat, by omega⟩
              have hU : U < n := by omega
              have hV : V < m := by omega
              have u0 : (0 : Int) ≤ U := by omega
              have v0 : (0 : Int) ≤ V := by omega
              have u1 : (U : Int) < n := by omega
              have v1 : (V : Int) < m := by omega
              obtain ⟨loa, hia, HA⟩ := (H1.out.calm HG5.out).at'
              obtain ⟨lob, hib, HBB⟩ := (H2.out.calm HG5.out).at'
              obtain ⟨ba, oa, rfl, _, _, _, hca⟩ := HA.cell (by omega)
              obtain ⟨bb, ob, rfl, _, _, _, hcb⟩ := HBB.cell (by omega)
              have ca := hca U hU
              have cb := hcb V hV
              have HEQ : Hid (a[((U : Nat) : Int).toNat]? = b[((V : Nat) : Int).toNat]? ↔ a[U]?.getD .empty = b[V]?.getD .empty) := Lib.hid (by
                rw [Int.toNat_natCast, Int.toNat_natCast, List.getElem?_eq_getElem (by rw [HAL.out]; exact hU), List.getElem?_eq_getElem (by rw [HBL.out]; exact hV)]
                simp)
              clear hca hcb HA HBB
              generalize a[U]?.getD .empty = s at *
              generalize b[V]?.getD .empty = t at *
              have d2 : ¬ n ≤ U := by omega
              have d4 : ¬ m ≤ V := by omega
              by_cases t5 : s = t
              · have e5 := toList_eq t5
                have HT5 := Lib.hid t5
                clear t5
                cases k with
                | zero =>
                  have hxy : x = -1 ∧ y = -1 := by
                    have := HAH.out
                    unfold ahead at this
                    rw [if_pos rfl] at this
                    exact ⟨(congrArg Prod.fst this).symm, (congrArg Prod.snd this).symm⟩
                  have HXY := Lib.hid hxy
                  have e6 : decide ((0 : Int) < ((0 : Nat) : Int)) = false := by decide
                  clear hxy
                  go_wp2
                  go_quiet (fail)
                  have HG7 := Lib.hid (grownBy_trans HG5.out (grownBy_drewN W5 nq none))
                  have HUP2 : Hid (upM a b l (0 + 1) = true) := Lib.hid (by
                    rw [HYES.out, HUP.out, okP_mk ⟨u0, v0, by rw [HAL.out]; exact u1, by rw [HBL.out]; exact v1, HEQ.out.2 HT5.out, by have := HXY.out; show x < (U : Int); omega, by have := HXY.out; show y < (V : Int); omega⟩]
                    rfl)
                  clear p0 p1'
                  generalize W5.drewN nq = W6 at *
                  go_wp2
                  exact ⟨⟨0 + 1, by omega, by go_num, HUP2, HG7.out⟩, by simp [intOf]; omega⟩
                | succ K =>
                  have hxy := (ahead_succ l K).symm.trans HAH.out
                  have hb5 : W5.heap[b3]? = w.heap[b3]? := HG5.out.block b3 HZ.out (by simp)
                  have q0 := (World.cell?_of_block (a := ⟨b3, o3 + K * 2, none⟩) hb5).trans (HC.out K (by omega)).1
                  have q1 := (World.cell?_of_block (a := ⟨b3, o3 + K * 2 + 1, none⟩) hb5).trans (HC.out K (by omega)).2
                  rw [hxy] at q0 q1
                  have kw : IntKind.i64.wrap (((K + 1 : Nat) : Int) - 1) = (K : Int) := by rw [IntWalk.i64_in _ (by omega)]; omega
                  have kp : (0 : Int) < ((K + 1 : Nat) : Int) := by omega
                  have K0 : (0 : Int) ≤ K := by omega
                  have K1 : (K : Int) < L := by omega
                  clear hxy hb5
                  generalize hkk : K + 1 = kk at *
                  have kp2 : 0 < kk := by omega
                  have HKK := Lib.hid hkk
                  clear hkk
                  have e6 : decide ((0 : Int) < (kk : Int)) = true := decide_eq_true kp
                  have e6' : decide (0 < kk) = true := decide_eq_true kp2
                  by_cases t7 : (U : Int) ≤ x
                  · have e7 : decide ((U : Int) ≤ x) = true := decide_eq_true t7
                    go_wp2
                    go_quiet (fail)
                    go_wp2
                    obtain rfl : r = false := HF.out (by rintro ⟨_, _, _, _, _, h, _⟩; omega)
                    go_ret
                    exact ⟨rfl, grownBy_trans HG5.out (grownBy_drewN _ _ none)⟩
                  · have e7 : decide ((U : Int) ≤ x) = false := decide_eq_false t7
                    by_cases t8 : (V : Int) ≤ y
                    · have e8 : decide ((V : Int) ≤ y) = true := decide_eq_true t8
                      go_wp2
                      go_quiet (fail)
                      go_wp2
                      obtain rfl : r = false := HF.out (by rintro ⟨_, _, _, _, _, _, h⟩; omega)
                      go_ret
                      exact ⟨rfl, grownBy_trans HG5.out (grownBy_drewN _ _ none)⟩
                    · have e8 : decide ((V : Int) ≤ y) = false := decide_eq_false t8
                      go_wp2
                      go_quiet (fail)
                      have HG7 := Lib.hid (grownBy_trans HG5.out (grownBy_drewN W5 nq none))
                      have HUP2 : Hid (upM a b l (kk + 1) = true) := Lib.hid (by
                        rw [HYES.out, HUP.out, okP_mk ⟨u0, v0, by rw [HAL.out]; exact u1, by rw [HBL.out]; exact v1, HEQ.out.2 HT5.out, by show x < (U : Int); omega, by show y < (V : Int); omega⟩]
                        rfl)
                      clear p0 p1' q0 q1 kw
                      generalize W5.drewN nq = W6 at *
                      go_wp2
                      exact ⟨⟨kk + 1, by omega, by go_num, HUP2, HG7.out⟩, by have := HKK.out; simp [intOf]; omega⟩
              · have e5 := toList_ne t5
                have HT5 := Lib.hid t5
                clear t5
                go_wp2
                go_quiet (fail)
                go_wp2
                obtain rfl : r = false := HF.out (by rintro ⟨_, _, _, _, h, _⟩; exact HT5.out (HEQ.out.1 h))
                go_ret
                exact ⟨rfl, grownBy_trans HG5.out (grownBy_drewN _ _ none)⟩
    · obtain rfl : k = L := by omega
      have hf : r = true := by
        rw [← HR.out]
        unfold isMB
        rw [H3.out.len]
        exact HUP.out
      subst hf
      go_wp2
      go_ret
      exact ⟨rfl, hgr⟩

end Go.Proofs.Ytbobbpghdfhkgaa
