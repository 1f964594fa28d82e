/- The reference's objects: the contracts of Rising, Check, Is, Rel, Make, Same. -/
import Derived.Test.YtemnbkenihldgaaDoorObja
/-! The contracts of the reference's Rising, Check, Is, Rel. -/
namespace Go.Proofs.YtemnbkenihldgaaDoor
open Go.RowKit

/-- The first k pairs rise. -/
def upTo (l : List (Int × Int)) (k : Nat) : Bool := (nbr l k).all ltP
theorem upTo_succ (l : List (Int × Int)) (k : Nat) : upTo l (k + 1 + 1) = (upTo l (k + 1) && ltP (l[k]?.getD (0, 0), l[k + 1]?.getD (0, 0))) := by
  unfold upTo
  rw [nbr_succ, List.all_append]
  simp
theorem upTo_not {l : List (Int × Int)} {k m : Nat} (hk : k + 1 < m) (h : ltP (l[k]?.getD (0, 0), l[k + 1]?.getD (0, 0)) = false) : upTo l m = false := by
  obtain ⟨r, e⟩ := nbr_split l hk
  unfold upTo
  rw [e, List.all_append, List.all_append]
  simp [h]

set_option maxRecDepth 20000 in
set_option maxHeartbeats 4000000 in
theorem rising_c (p : Option Addr) (m c lo hi : Nat) (P : List (Int × Int)) (r : Bool) (w : World) (hm : m ≤ 1000000) (hP : PairsAt w lo hi p m P) (hr : risesB P = r) :
    Calls Tryd.prog 36 #[.slice p m c] w fun e w' => e = .returned (.bool r) ∧ w.grownBy w' none := by
  have HU : Hid (upTo P m = r) := Lib.hid (by rw [← hr]; unfold risesB upTo; rw [hP.len])
  have HP := Lib.hid hP
  clear hP hr
  go_enter Tryd.func36, Tryd.ntmps36
  go_wp2
  go_loopw [3] (fun i wr => ∃ k : Nat, (k + 1 ≤ m ∨ k = 0) ∧ i = .int .i64 ((k : Int) + 1) ∧ Hid (upTo P (k + 1) = true) ∧ w.grownBy wr none) (fun i _ => m + 1 - (intOf i).toNat)
  case atStart => exact ⟨0, .inr rfl, rfl, Lib.hid rfl, grownBy_refl _ _⟩
  case round =>
    obtain ⟨k, hk, rfl, HT, hgr⟩ := hrel
    by_cases hkm : k + 1 < m
    · obtain ⟨b, off, rfl, q1, q2, q3, hcells⟩ := (HP.out.calm hgr).cell (by omega)
      obtain ⟨x1, x2⟩ := hcells k (by omega)
      obtain ⟨y1, y2⟩ := hcells (k + 1) (by omega)
      clear hcells
      have e0 : (k : Int) + 1 < m := by omega
      have e1 : IntKind.i64.wrap ((k : Int) + 1 - 1) = k := by rw [IntWalk.i64_in _ (by omega)]; omega
      have e7 : IntKind.i64.wrap (k : Int) = k := by rw [IntWalk.i64_in _ (by omega)]
      have e2 : (0 : Int) ≤ k := by omega
      have e3 : (k : Int) < m := by omega
      have e4 : (0 : Int) ≤ (k : Int) + 1 := by omega
      have e5 : k < m := by omega
      have e6 : ((k : Int) + 1).toNat = k + 1 := by omega
      have HS := Lib.hid (upTo_succ P k)
      have HN := Lib.hid (fun h => upTo_not (l := P) hkm h)
      generalize P[k]?.getD (0, 0) = u at *
      generalize P[k + 1]?.getD (0, 0) = v at *
      by_cases c0 : ltP (u, v) = true
      · have HT2 : Hid (upTo P (k + 1 + 1) = true) := Lib.hid (by rw [HS.out, HT.out, c0]; rfl)
        unfold ltP at c0
        simp only [Bool.or_eq_true, Bool.and_eq_true, decide_eq_true_eq] at c0
        by_cases c1 : u.1 < v.1
        · have d1 : decide (v.1 < u.1) = false := by simp; omega
          have d2 : (v.1 == u.1) = false := by simp; omega
          clear c0
          go_wp2
          go_quiet (fail)
          go_wp2
          exact ⟨⟨k + 1, .inl (by omega), by go_num, HT2, grownBy_trans hgr (grownBy_drewN _ _ none)⟩, by simp [intOf]; omega⟩
        · have d1 : decide (v.1 < u.1) = false := by simp; omega
          have d2 : (v.1 == u.1) = true := by simp; omega
          have d3 : decide (v.2 ≤ u.2) = false := by simp; omega
          clear c0
          go_wp2
          go_quiet (fail)
          go_wp2
          exact ⟨⟨k + 1, .inl (by omega), by go_num, HT2, grownBy_trans hgr (grownBy_drewN _ _ none)⟩, by simp [intOf]; omega⟩
      · have c0' : ltP (u, v) = false := by simpa using c0
        obtain rfl : r = false := by rw [← HU.out]; exact HN.out c0'
        unfold ltP at c0
        simp only [Bool.or_eq_true, Bool.and_eq_true, decide_eq_true_eq] at c0
        by_cases c1 : v.1 < u.1
        · have d1 : decide (v.1 < u.1) = true := by simpa using c1
          clear c0 c0'
          go_wp2
          go_quiet (fail)
          go_wp2
          go_ret
          exact ⟨rfl, grownBy_trans hgr (grownBy_drewN _ _ none)⟩
        · have d1 : decide (v.1 < u.1) = false := by simpa using c1
          have d2 : (v.1 == u.1) = true := by simp; omega
          have d3 : decide (v.2 ≤ u.2) = true := by simp; omega
          clear c0 c0'
          go_wp2
          go_quiet (fail)
          go_wp2
          go_ret
          exact ⟨rfl, grownBy_trans hgr (grownBy_drewN _ _ none)⟩
    · have e0 : ¬ ((k : Int) + 1 < m) := by omega
      obtain rfl : r = true := by
        rw [← HU.out, ← HT.out]
        unfold upTo nbr
        rw [show k + 1 - 1 = m - 1 from by omega]
      go_wp2
      go_ret
      exact ⟨rfl, hgr⟩

end Go.Proofs.YtemnbkenihldgaaDoor
/-! The contracts of the reference's IsTransitive, Check, Is, Rel, Make, Same. -/
namespace Go.Proofs.YtemnbkenihldgaaDoor
open Go.RowKit

theorem grew_same {n : Nat} {R : Nat → Nat → Bool} (h : Supp n R) : (!grewC n R n) = sameR n R (clo n R) := by
  rw [Bool.eq_iff_iff, sameR_iff h (clo_supp h), Bool.not_eq_true']
  constructor
  · intro e
    exact (grewC_none h n e).symm
  · intro e
    cases g : grewC n R n
    · rfl
    · exact absurd e.symm ((grewC_iff h).1 g)

set_option maxHeartbeats 1000000 in
theorem matTrans_b (lo hi p n : Nat) (R : Nat → Nat → Bool) (r : Bool) (w : World) (h : IsMat w lo hi p n R) (hr : (!grewC n R n) = r) : Calls Tryd.prog 37 #[.pointer (some ⟨p, 0, none⟩)] w fun e w' => e = .returned (.bool r) ∧ w.grownBy w' none := by
  have HR : Hid (sameR n R (clo n R) = r) := Lib.hid (by rw [← hr, grew_same h.supp])
  have H := Lib.hid h
  clear h hr
  go_enter Tryd.func37, Tryd.ntmps37
  go_wp2_with fail
  refine (matClosure_c _ _ _ _ R _ (by exact H.out)).mono ?_
  rintro e w1 ⟨q, rfl, hq, hg1⟩
  have H1 := Lib.hid (H.out.calm hg1)
  have HQ := Lib.hid hq
  have HG := Lib.hid hg1
  clear hq hg1
  go_wp2_with fail
  refine (matSame_r _ _ _ _ _ _ n R (clo n R) r _ (by exact H1.out) (by exact HQ.out) HR.out).mono ?_
  rintro e w2 ⟨rfl, hg2⟩
  have HG2 := Lib.hid (grownBy_trans HG.out hg2)
  clear hg2
  go_wp2
  go_ret
  exact ⟨rfl, HG2.out⟩

theorem matOf_ok4 (n : Nat) (p : Option Addr) (L c lo hi : Nat) (l : List (Int × Int)) (w : World) (hl : PairsAt w lo hi p L l) (hL : L ≤ 1000000) (hok : ofErr n l = 0) : Calls Tryd.prog 35 #[.int .i64 n, .slice p L c] w fun e w' => ∃ p, e = .returned (.tuple #[.pointer (some ⟨p, 0, none⟩), .int .i64 0]) ∧ IsMat w' w.heap.size w'.heap.size p n (ofL n l) ∧ w.grownBy w' none :=
  (matOf_c n p L c lo hi l w hl hL).mono fun e w' h => by
    rcases h with ⟨_, q, h1, h2, h3⟩ | ⟨h, _⟩
    · exact ⟨q, h1, h2, h3⟩
    · exact absurd hok h
theorem matOf_err4 (n : Int) (k : Int) (p : Option Addr) (L c lo hi : Nat) (l : List (Int × Int)) (w : World) (hl : PairsAt w lo hi p L l) (hL : L ≤ 1000000) (hk : ofErr n l = k) (hno : k ≠ 0) : Calls Tryd.prog 35 #[.int .i64 n, .slice p L c] w fun e w' => e = .returned (.tuple #[.pointer none, .int .i64 k]) ∧ w.grownBy w' none :=
  (matOf_c n p L c lo hi l w hl hL).mono fun e w' h => by
    rcases h with ⟨h0, _⟩ | ⟨_, h1, h2⟩
    · exact absurd (hk.symm.trans h0) hno
    · exact ⟨by rw [h1, hk], h2⟩

theorem lab_of_all {L : List ByteArray} (h : L.length ≤ 40) (ha : L.all okS = true) : labErr L = 0 := by unfold labErr; rw [if_neg (by omega), ha]; rfl
theorem lab_of_not {L : List ByteArray} (h : L.length ≤ 40) (ha : L.all okS = false) : labErr L = 10 := by unfold labErr; rw [if_neg (by omega), ha]; rfl

set_option maxRecDepth 20000 in
set_option maxHeartbeats 2000000 in
theorem refCheck_c (p q : Option Addr) (n c m d lo hi : Nat) (L : List ByteArray) (P : List (Int × Int)) (k9 : Int) (w : World) (h : ObjAt w lo hi p n q m L P) (hm : m ≤ 1000000) (hk9 : chk L P = k9) :
    Calls Tryd.prog 15 #[.agg #[.slice p n c, .slice q m d]] w fun e w' => e = .returned (.int .i64 k9) ∧ w.grownBy w' none := by
  have hg0 := World.grownBy_alloc w (.cells #[.slice p n c, .slice q m d] 25) none
  by_cases hn : 40 < n
  · have h40 : (40 : Int) < n := by omega
    obtain rfl : k9 = 11 := by
      rw [← hk9, chk_lab (k := 11) (by unfold labErr; rw [h.ls.len, if_pos hn]) (by decide)]
    clear h hk9
    go_enter Tryd.func15, Tryd.ntmps15
    go_wp2
    go_ret
    exact ⟨rfl, hg0⟩
  · have h40 : (n : Int) ≤ 40 := by omega
    have H1 := Lib.hid (h.calm hg0)
    have HLEN := Lib.hid h.ls.len
    have HK := Lib.hid hk9
    have HG0 := Lib.hid hg0
    clear h hk9 hg0
    go_enter Tryd.func15, Tryd.ntmps15
    go_wp2
    go_loop [3] (fun i => ∃ k : Nat, k ≤ n ∧ i = .int .i64 k ∧ Hid ((L.take k).all okS = true)) (fun i => n - (intOf i).toNat)
    case atStart => exact ⟨0, Nat.zero_le _, rfl, Lib.hid rfl⟩
    case round =>
      obtain ⟨k, hk, rfl, HA⟩ := hrel
      by_cases hkn : k < n
      · obtain ⟨b, off, rfl, q1, q2, q3, hc⟩ := H1.out.ls.cell (by omega)
        have hck := hc k hkn
        have k0 : (k : Int) < n := by omega
        have HS := Lib.hid (all_take okS (L := L) (k := k) (by rw [HLEN.out]; exact hkn))
        have HO := Lib.hid (fun h => all_out okS (L := L) (k := k) (by rw [HLEN.out]; exact hkn) h)
        clear hc
        generalize L[k]?.getD .empty = s at *
        by_cases hs : s.size ≤ 60
        · have hs' : (s.size : Int) ≤ 60 := by omega
          have HN : Hid ((L.take (k + 1)).all okS = true) := Lib.hid (by rw [HS.out, HA.out]; simpa [okS] using hs)
          go_wp2
          go_round
          case rel => exact ⟨k + 1, by omega, by go_num, HN⟩
          case measure => simp [intOf]; omega
        · have hs' : (60 : Int) < s.size := by omega
          obtain rfl : k9 = 10 := by
            rw [← HK.out, chk_lab (k := 10) (lab_of_not (by rw [HLEN.out]; omega) (HO.out (by unfold okS; simpa using hs))) (by decide)]
          go_wp2
          go_ret
          exact ⟨rfl, HG0.out⟩
      · obtain rfl : k = n := by omega
        have k0 : ¬ ((k : Int) < k) := by omega
        have HL : Hid (labErr L = 0) := by
          refine Lib.hid (lab_of_all (by rw [HLEN.out]; omega) ?_)
          have := HA.out
          rw [List.take_of_length_le (by rw [HLEN.out]; exact Nat.le_refl _)] at this
          exact this
        have hn2 : k ≤ 200 := by omega
        cases ha : allIn k P
        · have HE : Hid (ofErr (k : Int) P = 10) := Lib.hid (by unfold ofErr; rw [if_neg (by omega), Int.toNat_natCast, ha]; rfl)
          obtain rfl : k9 = 10 := by
            rw [← HK.out]
            exact chk_no HL.out (by rw [HLEN.out, ha]; cases risesB P <;> rfl)
          clear ha
          go_wp2_with fail
          refine (matOf_err4 k 10 _ _ _ _ _ P _ (by exact H1.out.ps) hm HE.out (by decide)).mono ?_
          rintro e w1 ⟨rfl, hg1⟩
          have HG1 := Lib.hid (grownBy_trans HG0.out hg1)
          clear hg1
          go_wp2
          go_ret
          exact ⟨rfl, HG1.out⟩
        · have HE : Hid (ofErr (k : Int) P = 0) := Lib.hid (by unfold ofErr; rw [if_neg (by omega), Int.toNat_natCast, ha]; rfl)
          have HA2 := Lib.hid ha
          clear ha
          go_wp2_with fail
          refine (matOf_ok4 k _ _ _ _ _ P _ (by exact H1.out.ps) hm HE.out).mono ?_
          rintro e w1 ⟨t, rfl, hM, hg1⟩
          have HM := Lib.hid hM
          have b0 := (box2 hg1).1
          have b1 := (box2 hg1).2.1
          have HG1 := Lib.hid (box2 hg1).2.2
          have H2 := Lib.hid (H1.out.calm hg1)
          clear hM hg1
          cases hr : risesB P
          · have HR := Lib.hid hr
            obtain rfl : k9 = 10 := by
              rw [← HK.out]
              exact chk_no HL.out (by rw [hr]; rfl)
            clear hr
            go_wp2_with fail
            refine (rising_c _ _ _ _ _ P false _ hm (by exact H2.out.ps) HR.out).mono ?_
            rintro e w2 ⟨rfl, hg2⟩
            have HG2 := Lib.hid (grownBy_trans HG1.out hg2)
            clear hg2
            go_wp2
            go_ret
            exact ⟨rfl, HG2.out⟩
          · have HR := Lib.hid hr
            clear hr
            go_wp2_with fail
            refine (rising_c _ _ _ _ _ P true _ hm (by exact H2.out.ps) HR.out).mono ?_
            rintro e w2 ⟨rfl, hg2⟩
            have HG2 := Lib.hid (grownBy_trans HG1.out hg2)
            have HM2 := Lib.hid (HM.out.calm hg2)
            clear hg2
            cases ht : grewC k (ofL k P) k
            · have HT := Lib.hid ht
              obtain rfl : k9 = 0 := by
                rw [← HK.out]
                exact chk_ok HL.out (by rw [HLEN.out, HR.out, HA2.out, ht]; rfl)
              clear ht
              go_wp2_with fail
              refine (matTrans_b _ _ _ _ _ true _ (by exact HM2.out) (by rw [HT.out]; rfl)).mono ?_
              rintro e w3 ⟨rfl, hg3⟩
              have HG3 := Lib.hid (grownBy_trans HG2.out hg3)
              clear hg3
              go_wp2
              go_ret
              exact ⟨rfl, HG3.out⟩
            · have HT := Lib.hid ht
              obtain rfl : k9 = 10 := by
                rw [← HK.out]
                exact chk_no HL.out (by rw [HLEN.out, HR.out, HA2.out, ht]; rfl)
              clear ht
              go_wp2_with fail
              refine (matTrans_b _ _ _ _ _ false _ (by exact HM2.out) (by rw [HT.out]; rfl)).mono ?_
              rintro e w3 ⟨rfl, hg3⟩
              have HG3 := Lib.hid (grownBy_trans HG2.out hg3)
              clear hg3
              go_wp2
              go_ret
              exact ⟨rfl, HG3.out⟩

set_option maxHeartbeats 1000000 in
theorem refIs_c (p q : Option Addr) (n c m d lo hi : Nat) (L : List ByteArray) (P : List (Int × Int)) (r : Bool) (w : World) (h : ObjAt w lo hi p n q m L P) (hm : m ≤ 1000000) (hk : (chk L P == 0) = r) :
    Calls Tryd.prog 6 #[.agg #[.slice p n c, .slice q m d]] w fun e w' => e = .returned (.bool r) ∧ w.grownBy w' none := by
  have h1 := h.calm (World.grownBy_alloc w (.cells #[.slice p n c, .slice q m d] 25) none)
  have H1 := Lib.hid h1
  have HK := Lib.hid hk
  clear h h1 hk
  generalize hq : chk L P = k at *
  have HQ := Lib.hid hq
  clear hq
  go_enter Tryd.func6, Tryd.ntmps6
  go_wp2_with fail
  refine (refCheck_c _ _ _ _ _ _ _ _ L P k _ (by exact H1.out) hm HQ.out).mono ?_
  rintro e w1 ⟨rfl, hg⟩
  have HG := Lib.hid (box2 hg).2.2
  clear hg
  go_wp2
  go_ret
  exact ⟨by rw [HK.out]; rfl, HG.out⟩

set_option maxHeartbeats 1000000 in
theorem refRel_c (p q : Option Addr) (n c m d lo hi : Nat) (L : List ByteArray) (P : List (Int × Int)) (w : World) (h : ObjAt w lo hi p n q m L P) (hm : m ≤ 1000000) :
    Calls Tryd.prog 38 #[.agg #[.slice p n c, .slice q m d]] w (MatPost (objN L P) (objR L P) w) := by
  have h1 := h.calm (World.grownBy_alloc w (.cells #[.slice p n c, .slice q m d] 25) none)
  have H1 := Lib.hid h1
  have HLEN := Lib.hid h.ls.len
  clear h h1
  by_cases h0 : chk L P = 0
  · have HO : Hid (objN L P = n ∧ objR L P = ofL n P) := Lib.hid ⟨by unfold objN; rw [if_pos h0, HLEN.out], by unfold objR; rw [if_pos h0, HLEN.out]⟩
    have hl : labErr L = 0 := by
      unfold chk at h0
      by_cases e : labErr L = 0
      · exact e
      · rw [if_pos e] at h0; exact absurd h0 e
    have hn : n ≤ 40 := by have := lab_small hl; rw [HLEN.out] at this; exact this
    have HK := Lib.hid h0
    clear h0 hl
    go_enter Tryd.func38, Tryd.ntmps38
    go_wp2_with fail
    refine (refIs_c _ _ _ _ _ _ _ _ L P true _ (by exact H1.out) hm (by rw [HK.out]; rfl)).mono ?_
    rintro e w1 ⟨rfl, hg⟩
    have b0 := (box2 hg).1
    have b1 := (box2 hg).2.1
    have HG := Lib.hid (box2 hg).2.2
    have H2 := Lib.hid (H1.out.calm hg)
    clear hg
    go_wp2_with fail
    refine (matSome_c n _ _ _ _ _ P _ (by omega) (by exact H2.out.ps) hm).mono ?_
    rintro e w2 ⟨r, rfl, hM, hg2⟩
    have HM := Lib.hid hM
    have hsz := HG.out.size
    have HG2 := Lib.hid (grownBy_trans HG.out hg2)
    clear hM hg2
    go_wp2
    go_ret
    refine ⟨r, rfl, ?_, HG2.out⟩
    rw [HO.out.1, HO.out.2]
    exact HM.out.outer hsz (Nat.le_refl _)
  · have HO : Hid (objN L P = 0 ∧ objR L P = fun _ _ => false) := Lib.hid ⟨by unfold objN; rw [if_neg h0], by unfold objR; rw [if_neg h0]⟩
    have HK : Hid ((chk L P == 0) = false) := Lib.hid (by simpa using h0)
    clear h0
    go_enter Tryd.func38, Tryd.ntmps38
    go_wp2_with fail
    refine (refIs_c _ _ _ _ _ _ _ _ L P false _ (by exact H1.out) hm HK.out).mono ?_
    rintro e w1 ⟨rfl, hg⟩
    have HG := Lib.hid (box2 hg).2.2
    clear hg
    go_wp2_with fail
    refine (matNew_c 0 _ (by omega)).mono ?_
    rintro e w2 ⟨r, rfl, hM, hg2⟩
    have HM := Lib.hid hM
    have hsz := HG.out.size
    have HG2 := Lib.hid (grownBy_trans HG.out hg2)
    clear hM hg2
    go_wp2
    go_ret
    refine ⟨r, rfl, ?_, HG2.out⟩
    rw [HO.out.1, HO.out.2]
    exact HM.out.outer hsz (Nat.le_refl _)

end Go.Proofs.YtemnbkenihldgaaDoor
/-! The contracts of the reference's Make and Same. -/
namespace Go.Proofs.YtemnbkenihldgaaDoor
open Go.RowKit

theorem ObjAt.set {w : World} {lo hi : Nat} {p : Option Addr} {n : Nat} {q : Option Addr} {m : Nat} {L : List ByteArray} {P : List (Int × Int)} (h : ObjAt w lo hi p n q m L P) {a : Addr} (ha : a.block < lo) (x : Value) : ObjAt (w.setCell a x) lo hi p n q m L P := by
  have hk : Kept a.block (a.block + 1) w (w.setCell a x) := Kept.row (grownBy_setCell w a x) (Nat.le_refl _) (Nat.lt_succ_self _)
  exact ⟨h.ls.apart hk (.inr (by omega)), h.ps.apart hk (.inr (by omega))⟩

theorem ObjAt.wider {w : World} {lo hi : Nat} {p : Option Addr} {n : Nat} {q : Option Addr} {m : Nat} {L : List ByteArray} {P : List (Int × Int)} (h : ObjAt w lo hi p n q m L P) {lo' hi' : Nat} (h1 : lo' ≤ lo) (h2 : hi ≤ hi') (h3 : hi' ≤ w.heap.size) : ObjAt w lo' hi' p n q m L P := by
  refine ⟨⟨h.ls.len, fun hn => ?_⟩, ⟨h.ps.len, fun hn => ?_⟩⟩
  · obtain ⟨b, off, e, q1, q2, q3, hc⟩ := h.ls.cell hn
    exact ⟨b, off, e, by omega, by omega, h3, hc⟩
  · obtain ⟨b, off, e, q1, q2, q3, hc⟩ := h.ps.cell hn
    exact ⟨b, off, e, by omega, by omega, h3, hc⟩

def RefMakePost (L : List ByteArray) (P : List (Int × Int)) (w : World) (e : Ending) (w' : World) : Prop :=
  ∃ p c q d, e = .returned (.agg #[.slice p L.length c, .slice q P.length d]) ∧ ObjAt w' w.heap.size w'.heap.size p L.length q P.length L P ∧ w.grownBy w' none

set_option maxHeartbeats 2000000 in
theorem refMake_c (p : Option Addr) (n c lo hi lo' hi' r : Nat) (L : List ByteArray) (R : Nat → Nat → Bool) (w : World) (h : StrsAt w lo hi p n L) (hc : p = none → c = 0) (hn : n ≤ 200) (hR : IsMat w lo' hi' r n R) :
    Calls Tryd.prog 42 #[.slice p n c, .pointer (some ⟨r, 0, none⟩)] w (RefMakePost L (pairsL n (clo n R) n) w) := by
  obtain ⟨i0, hi', hz0, hz1, hz2⟩ := info_parts Tryd.info9
  have hg0 := World.grownBy_alloc w (.cells #[.slice none 0 0, .slice none 0 0] 25) none
  have H1 := Lib.hid (h.calm hg0)
  have HR := Lib.hid (hR.calm hg0)
  have HLEN := Lib.hid h.len
  have HG0 := Lib.hid hg0
  clear h hR hg0
  match p, H1, hc with
  | none, H1, hc =>
    have hn0 : n = 0 := by
      rcases Nat.eq_zero_or_pos n with e | e
      · exact e
      · obtain ⟨_, _, e, _⟩ := H1.out.cell e; cases e
    obtain rfl := hc rfl
    subst hn0
    have hL : L = [] := List.eq_nil_of_length_eq_zero HLEN.out
    subst hL
    clear H1 hc HLEN
    go_enter Tryd.func42, Tryd.ntmps42
    go_wp2_with (at_builtin; refine wpList_append_own_none rfl _ _ 22 rfl w.heap.size 9 i0 1 Tryd.underlying22 hi' (.slice none 0 0) 0 [] rfl (World.ownsRow_nil _ _ _ _) rfl ?_)
    refine (matClosure_c _ _ _ _ R _ (by exact HR.out)).mono ?_
    rintro e w2 ⟨rc, rfl, hRC, hg2⟩
    have HG2 := Lib.hid hg2
    have HRC := Lib.hid hRC
    clear hg2 hRC
    go_wp2_with fail
    refine (matPairs_c _ _ _ _ (clo 0 R) _ (by exact HRC.out)).mono ?_
    rintro e w3 ⟨pv, cv, rfl, hv, hg3⟩
    have HV := Lib.hid hv
    have hg3' := grownBy_trans HG2.out hg3
    have b0 := (box2 hg3').1
    have b1 := (box2 hg3').2.1
    have bf := (box2f hg3').1
    have bf1 := (box2f hg3').2
    have HG3 := Lib.hid (box2 hg3').2.2
    have hz : w.heap.size + 1 ≤ w2.heap.size := by have := HG2.out.size; simp at this; omega
    clear hg3 hg3' hv
    generalize pairsL 0 (clo 0 R) 0 = P at *
    go_wp2
    refine bodyPost_ret (v := .agg #[.slice none 0 0, .slice pv P.length cv]) (by simp [results, Tryd.results42, go_sem, b0, b1]) rfl ⟨none, 0, pv, cv, rfl, ?_, ?_⟩
    · have h0 : ObjAt w3 w2.heap.size w3.heap.size none 0 pv P.length [] P := ⟨strsAt_nil _ _ _, HV.out⟩
      have h1 := (h0.set (a := ⟨w.heap.size, 0, none⟩) (by show w.heap.size < _; omega) (.slice none 0 0)).set (a := ⟨w.heap.size, 1, none⟩) (by show w.heap.size < _; omega) (.slice pv P.length cv)
      exact h1.wider (by omega) (by simp [World.setCell]) (Nat.le_refl _)
    · exact grownBy_setCell_new _ (grownBy_setCell_new _ HG3.out (Nat.le_refl _)) (Nat.le_refl _)
  | some ad, H1, _ =>
    have hnews := Lib.hid (strs_news H1.out)
    obtain rfl : L.length = n := HLEN.out
    have hbnd : L.length ≤ maxLen := by unfold maxLen; omega
    clear H1 HLEN
    go_enter Tryd.func42, Tryd.ntmps42
    go_wp2_with (at_builtin; refine wpList_append_own _ rfl _ _ 22 rfl (w.heap.size + 1) 9 i0 (.string .empty) 1 16 Tryd.underlying22 hi' hz0 hz1 hz2 rfl (by decide) (.slice none 0 0) 0 [] rfl (World.ownsRow_nil _ _ _ _) ad L.length c (scells L) rfl (by simp [scells]) hnews.out (scells_one L) (by omega) (by omega) (by simp) ?_; intro v' w1 hown hgrow _)
    rw [Nat.zero_add, List.nil_append] at hown
    have hgrow' : (w.alloc (.cells #[.slice none 0 0, .slice none 0 0] 25)).grownBy w1 none := by simpa [Value.ownBlock] using hgrow
    obtain ⟨pu, cu, rfl, hpu⟩ := strsAt_own hown
    have HU1 := Lib.hid hpu
    have HG1 := Lib.hid hgrow'
    clear hown hgrow hgrow' hpu
    refine (matClosure_c _ _ _ _ R _ (by exact HR.out.calm HG1.out)).mono ?_
    rintro e w2 ⟨rc, rfl, hRC, hg2⟩
    have HU2 := Lib.hid (HU1.out.calm hg2)
    have HG2 := Lib.hid (grownBy_trans HG1.out hg2)
    have HRC := Lib.hid hRC
    have hz12 := hg2.size
    clear hg2 hRC
    go_wp2_with fail
    refine (matPairs_c _ _ _ _ (clo L.length R) _ (by exact HRC.out)).mono ?_
    rintro e w3 ⟨pv, cv, rfl, hv, hg3⟩
    have HV := Lib.hid hv
    have HU3 := Lib.hid (HU2.out.calm hg3)
    have hg3' := grownBy_trans HG2.out hg3
    have b0 := (box2 hg3').1
    have b1 := (box2 hg3').2.1
    have bf := (box2f hg3').1
    have bf1 := (box2f hg3').2
    have HG3 := Lib.hid (box2 hg3').2.2
    have hz : w.heap.size + 1 ≤ w2.heap.size := by have := HG2.out.size; simp at this; omega
    have hz23 := hg3.size
    clear hg3 hg3' hv
    generalize pairsL L.length (clo L.length R) L.length = P at *
    go_wp2
    refine bodyPost_ret (v := .agg #[.slice pu L.length cu, .slice pv P.length cv]) (by simp [results, Tryd.results42, go_sem, b0, b1]) rfl ⟨pu, cu, pv, cv, rfl, ?_, ?_⟩
    · have h0 : ObjAt w3 (w.heap.size + 1) w3.heap.size pu L.length pv P.length L P := by
        refine ⟨⟨HU3.out.len, fun hn => ?_⟩, ⟨HV.out.len, fun hn => ?_⟩⟩
        · obtain ⟨b, off, e, q1, q2, q3, hc⟩ := HU3.out.cell hn
          exact ⟨b, off, e, by omega, by omega, Nat.le_refl _, hc⟩
        · obtain ⟨b, off, e, q1, q2, q3, hc⟩ := HV.out.cell hn
          exact ⟨b, off, e, by omega, by omega, Nat.le_refl _, hc⟩
      have h1 := (h0.set (a := ⟨w.heap.size, 0, none⟩) (by show w.heap.size < _; omega) (.slice pu L.length cu)).set (a := ⟨w.heap.size, 1, none⟩) (by show w.heap.size < _; omega) (.slice pv P.length cv)
      exact h1.wider (by omega) (by simp [World.setCell]) (Nat.le_refl _)
    · exact grownBy_setCell_new _ (grownBy_setCell_new _ HG3.out (Nat.le_refl _)) (Nat.le_refl _)

end Go.Proofs.YtemnbkenihldgaaDoor
