/- The walk of the statement RelWays: at every input it answers true and leaves all that lay as it lay. Condition: the table of the lowest places is in memory. -/
import Derived.Test.YtkcofakhcpajmaaDoorWaysM
namespace Go.Proofs.YtkcofakhcpajmaaDoor
open Go.RowKit

theorem Tryd.info4 : (Tryd.prog.info? 4).map (fun i => (i.zero, i.size, i.bytes)) = some (some (.bool false), 1, 1) := by kernel_rfl

/-- Marks in a block of their own. -/
structure SeenAt (w : World) (sb k : Nat) (S : Nat → Bool) : Prop where
  lt : sb < w.heap.size
  cell : ∀ b, b < k → w.cell? ⟨sb, b, none⟩ = some (.bool (S b))
  free : ∀ b, b < k → w.frozen? ⟨sb, b, none⟩ = false

theorem SeenAt.calm {w w' : World} {sb k : Nat} {S : Nat → Bool} (h : SeenAt w sb k S) (hg : w.grownBy w' none) : SeenAt w' sb k S :=
  ⟨Nat.lt_of_lt_of_le h.lt hg.size, fun b hb => (World.cell?_of_block (a := ⟨sb, b, none⟩) (hg.block sb h.lt (by simp))).trans (h.cell b hb), fun b hb => (World.frozen?_of_block (a := ⟨sb, b, none⟩) (hg.block sb h.lt (by simp))).trans (h.free b hb)⟩

theorem SeenAt.set {w : World} {sb k : Nat} {S T : Nat → Bool} (h : SeenAt w sb k S) {y : Nat} (hy : y < k) (v : Bool) (hT : ∀ b, b < k → T b = if b = y then v else S b) : SeenAt (w.setCell ⟨sb, y, none⟩ (.bool v)) sb k T := by
  refine ⟨by simp [World.setCell]; exact h.lt, fun b hb => ?_, fun b hb => by rw [World.frozen?_setCell]; exact h.free b hb⟩
  rw [hT b hb]
  by_cases e : b = y
  · subst e
    rw [if_pos rfl]
    exact World.cell?_setCell_same' _ _ _ (by rw [h.cell b hb]; rfl)
  · rw [if_neg e, ← h.cell b hb]
    (apply World.cell?_setCell_other; intro e'; cases e'; exact e rfl)

theorem SeenAt.new (w : World) (k : Nat) : SeenAt (w.alloc (.cells (madeCells #[.bool false] k) 4)) w.heap.size k (fun _ => false) := by
  refine ⟨by simp, fun b hb => ?_, fun b hb => ?_⟩
  · have : (w.alloc (.cells (madeCells #[.bool false] k) 4)).heap[w.heap.size]? = some (.cells (madeCells #[.bool false] k) 4) := World.alloc_heap_new w _
    simp only [World.cell?, this]
    exact made_get _ _ _ hb
  · have : (w.alloc (.cells (madeCells #[.bool false] k) 4)).heap[w.heap.size]? = some (.cells (madeCells #[.bool false] k) 4) := World.alloc_heap_new w _
    simp only [World.frozen?, this]
    simp

/-- The pairs of elements among the first i. -/
def inL (k : Nat) (l : List (Int × Int)) : List (Int × Int) := l.filter fun x => decide (inI k x.1 x.2)
theorem inL_take {k : Nat} {l : List (Int × Int)} {i : Nat} (hi : i < l.length) : inL k (l.take (i + 1)) = inL k (l.take i) ++ (if inI k (l[i]?.getD (0, 0)).1 (l[i]?.getD (0, 0)).2 then [l[i]?.getD (0, 0)] else []) := by
  unfold inL
  rw [List.take_succ_eq_append_getElem hi, List.filter_append, List.getElem?_eq_getElem hi, Option.getD_some, List.filter_cons]
  by_cases h : inI k l[i].1 l[i].2
  · rw [if_pos (by simpa using h), if_pos h]; rfl
  · rw [if_neg (by simpa using h), if_neg h]; rfl
theorem inL_all (k : Nat) (l : List (Int × Int)) : allIn k (inL k l) = true := by
  unfold allIn inL
  rw [List.all_eq_true]
  intro x hx
  exact (List.mem_filter.1 hx).2
theorem inL_len (k : Nat) (l : List (Int × Int)) : (inL k l).length ≤ l.length := List.length_filter_le _ _

theorem passS_take {a : Nat} {q : List (Int × Int)} {S : Nat → Bool} {j : Nat} (hj : j < q.length) : passS a (q.take (j + 1)) S = seeS a (passS a (q.take j) S) (q[j]?.getD (0, 0)) := by
  unfold passS
  rw [List.take_succ_eq_append_getElem hj, List.foldl_append, List.getElem?_eq_getElem hj]
  rfl

theorem relHas_q (lo hi p n : Nat) (a b : Int) (R : Nat → Nat → Bool) (r : Bool) (w : World) (h : IsRel w lo hi p n R) (hr : hasI n R a b = r) : Calls Tryd.prog 21 #[.pointer (some ⟨p, 0, none⟩), .int .i64 a, .int .i64 b] w fun e w' => e = .returned (.bool r) ∧ ∃ m, w' = w.drewN m := by
  rw [← hr]; exact relHas_c lo hi p n a b R w h

theorem seeS_yes {a : Nat} {S : Nat → Bool} {u v : Nat} (h : u = a ∨ S u = true) (b : Nat) : seeS a S ((u : Int), (v : Int)) b = if b = v then true else S b := by
  have e : (decide (u = a) || S u) = true := by simpa using h
  unfold seeS
  simp only [Int.toNat_natCast, e, Bool.true_and]
  by_cases hb : b = v
  · simp [hb]
  · simp [hb]
theorem seeS_no {a : Nat} {S : Nat → Bool} {u v : Nat} (h : ¬ u = a) (h2 : S u = false) : seeS a S ((u : Int), (v : Int)) = S := by
  funext b
  unfold seeS
  simp [h, h2]

set_option maxRecDepth 100000 in
set_option maxHeartbeats 4000000 in
theorem relWays_out (n L c t : Nat) (p : Option Addr) (w : World) (hn : n < 256) (ht : Tab w) (h : 60 < L) :
    Calls Tryd.prog 5 #[.int .u8 n, .slice p L c, .int .u8 t] w fun e w' => e = .returned (.bool true) ∧ w.grownBy w' none := by
  go_enter Tryd.func5, Tryd.ntmps5
  go_wp2_with fail
  refine (known2_c w ht).mono ?_
  rintro e w1 ⟨rfl, hg⟩
  have HG := Lib.hid hg
  clear hg
  go_wp2
  go_ret
  exact ⟨rfl, HG.out⟩

/-- The pairs kept so far, in a slice of their own. -/
def OwnQ (w : World) (base : Nat) (v : Value) (q : List (Int × Int)) : Prop := ∃ p c, v = .slice p q.length c ∧ w.ownsRow base 48 2 (.slice p q.length c) q.length (pcells q)

set_option maxRecDepth 100000 in
set_option maxHeartbeats 8000000 in
theorem relWays_in (n m L c t lo hi : Nat) (p : Option Addr) (l : List (Int × Int)) (w : World) (hn : n < 256) (ht' : t < 256) (hm : n % 20 + 1 = m) (hL : L ≤ 60) (hl : PairsAt w lo hi p L l) (ht : Tab w) :
    Calls Tryd.prog 5 #[.int .u8 n, .slice p L c, .int .u8 t] w fun e w' => e = .returned (.bool true) ∧ w.grownBy w' none := by
  obtain ⟨i0, hi0, hz0, hz1, hz2⟩ := info_parts Tryd.info48
  have HL := Lib.hid hl
  have HLEN := Lib.hid hl.len
  have HT := Lib.hid ht
  have hm1 : m ≤ 20 := by omega
  have hm0 : 1 ≤ m := by omega
  have hmi : (n : Int) % 20 + 1 = (m : Int) := by omega
  have HM := Lib.hid hmi
  clear hl ht hmi hm
  go_enter Tryd.func5, Tryd.ntmps5
  go_wp2_with fail
  refine (known2_c w HT.out).mono ?_
  rintro e w1 ⟨rfl, hg1⟩
  have G1 := Lib.hid hg1
  have hb1 := G1.out.size
  clear hg1
  go_wp2_with fail
  rw [HM.out]
  go_loopw [8, 9] (fun v i wr => ∃ k : Nat, k ≤ L ∧ i = .int .i64 k ∧ OwnQ wr w.heap.size v (inL m (l.take k)) ∧ w.grownBy wr none) (fun _ i _ => L - (intOf i).toNat)
  case atStart => exact ⟨0, Nat.zero_le _, rfl, ⟨none, 0, rfl, World.ownsRow_nil _ _ _ _⟩, G1.out⟩
  case round =>
    obtain ⟨k, hk, rfl, ⟨pq, cq, rfl, hrow⟩, hgr⟩ := hrel
    by_cases hkL : k < L
    · obtain ⟨b, off, rfl, q1, q2, q3, hcs⟩ := (HL.out.calm hgr).cell (by omega)
      obtain ⟨x1, x2⟩ := hcs k hkL
      have HI := Lib.hid (inL_take (k := m) (l := l) (i := k) (by rw [HLEN.out]; exact hkL))
      have hql : (inL m (l.take k)).length ≤ 60 := by
        have := inL_len m (l.take k)
        have := List.length_take_le k l
        omega
      have GR := Lib.hid hgr
      have HROW := Lib.hid hrow
      have hbl : b < wr.heap.size := by omega
      have hsz : w.heap.size ≤ wr.heap.size := hgr.size
      clear hcs hgr hrow
      generalize l[k]?.getD (0, 0) = x at *
      obtain ⟨x, y⟩ := x
      simp only at x1 x2
      generalize hQ : inL m (l.take k) = q at *
      clear hQ
      have k0 : (0 : Int) ≤ k := by omega
      have k1 : (k : Int) < L := by omega
      by_cases hin : inI m x y
      · have HI2 : Hid (inL m (l.take (k + 1)) = q ++ [(x, y)]) := Lib.hid (by rw [HI.out, if_pos hin])
        obtain ⟨a0, a1, b0, b1⟩ := hin
        clear HI
        go_wp2_with (at_builtin; refine wpList_append_own _ rfl _ _ 22 rfl w.heap.size 48 i0 (.agg #[.int .i64 0, .int .i64 0]) 2 16 Tryd.underlying22 hi0 hz0 hz1 hz2 rfl (by decide) _ _ _ rfl (HROW.out.alloc _) ⟨wr.heap.size, 0, none⟩ 1 1 [.int .i64 x, .int .i64 y] rfl rfl (cell_two_new _ _ _ _) (by simp [Value.oneCell']) (by unfold maxLen; omega) (by omega) (by simp; omega) ?_; intro v' w2 hown' hgrow _; obtain ⟨g', cap', rfl⟩ := ownsRow_succ hown')
        have HE : Hid (OwnQ w2 w.heap.size (.slice (some ⟨g', 0, none⟩) (q.length + 1) cap') (inL m (l.take (k + 1))) ∧ w.grownBy w2 none) := by
          refine Lib.hid ⟨⟨some ⟨g', 0, none⟩, cap', by rw [HI2.out]; simp, ?_⟩, ?_⟩
          · rw [HI2.out, pcells_snoc]
            simpa using hown'
          · have hga := grownBy_trans GR.out (World.grownBy_alloc wr (.cells #[.int .i64 x, .int .i64 y] 48) none)
            have hgrow' : (wr.alloc (.cells #[.int .i64 x, .int .i64 y] 48)).grownBy w2 (Value.slice pq q.length cq).ownBlock := hgrow
            cases hob : (Value.slice pq q.length cq).ownBlock with
            | none => rw [hob] at hgrow'; exact grownBy_trans hga hgrow'
            | some r =>
              rw [hob] at hgrow'
              exact grownBy_new hga hgrow' (HROW.out.lt r hob).1
        clear hown' hgrow
        go_wp2
        exact ⟨⟨k + 1, by omega, by go_num, HE.out.1, HE.out.2⟩, by simp [intOf]; omega⟩
      · have HI2 : Hid (inL m (l.take (k + 1)) = q) := Lib.hid (by rw [HI.out, if_neg hin, List.append_nil])
        have hno : x < 0 ∨ (m : Int) ≤ x ∨ y < 0 ∨ (m : Int) ≤ y := by unfold inI at hin; omega
        have HE : Hid (OwnQ wr w.heap.size (.slice pq q.length cq) (inL m (l.take (k + 1))) ∧ w.grownBy wr none) := Lib.hid ⟨⟨pq, cq, by rw [HI2.out], by rw [HI2.out]; exact HROW.out⟩, GR.out⟩
        clear HI hin
        by_cases h1 : x < 0
        · clear hno
          go_wp2
          exact ⟨⟨k + 1, by omega, by go_num, HE.out.1, HE.out.2⟩, by simp [intOf]; omega⟩
        · have h1' : 0 ≤ x := by omega
          by_cases h2 : (m : Int) ≤ x
          · have h2' : decide (x < (m : Int)) = false := by simp; omega
            clear hno
            go_wp2
            exact ⟨⟨k + 1, by omega, by go_num, HE.out.1, HE.out.2⟩, by simp [intOf]; omega⟩
          · have h2' : x < (m : Int) := by omega
            by_cases h3 : y < 0
            · clear hno
              go_wp2
              exact ⟨⟨k + 1, by omega, by go_num, HE.out.1, HE.out.2⟩, by simp [intOf]; omega⟩
            · have h3' : 0 ≤ y := by omega
              have h4 : decide (y < (m : Int)) = false := by simp; omega
              clear hno
              go_wp2
              exact ⟨⟨k + 1, by omega, by go_num, HE.out.1, HE.out.2⟩, by simp [intOf]; omega⟩
    · obtain rfl : k = L := by omega
      rw [List.take_of_length_le (by rw [HLEN.out]; exact Nat.le_refl _)] at hrow ⊢
      have hql : (inL m l).length ≤ 60 := by
        have := inL_len m l
        rw [HLEN.out] at this
        omega
      have HALL := Lib.hid (inL_all m l)
      generalize inL m l = q at *
      obtain ⟨pp, cc, hpe, hpairs⟩ := pairsAt_own hrow
      simp only [Value.slice.injEq, true_and] at hpe
      obtain ⟨rfl, rfl⟩ := hpe
      have HP := Lib.hid hpairs
      have GR := Lib.hid hgr
      have HOK : Hid (ofErr (m : Int) q = 0) := Lib.hid (by unfold ofErr; rw [if_neg (by omega), Int.toNat_natCast, HALL.out]; rfl)
      have HQL : Hid (q.length = q.length) := Lib.hid rfl
      clear hrow hgr hpairs
      generalize hQL : q.length = Q at *
      have HQLEN := Lib.hid hQL
      clear hQL
      go_wp2_with fail
      refine (relOf_ok m pq Q cq _ _ q _ HP.out (by omega) HOK.out).mono ?_
      rintro e w2 ⟨rq, rfl, h2, hg2⟩
      have R2 := Lib.hid h2
      have G2 := Lib.hid (grownBy_trans GR.out hg2)
      have P2 := Lib.hid (HP.out.calm hg2)
      have HSU := Lib.hid h2.supp
      clear h2 hg2
      have he0 : ((0 : Int) != 0) = false := by decide
      go_wp2_with fail
      refine (closure_c _ _ rq m _ _ R2.out).mono ?_
      rintro e w3 ⟨cp, rfl, h3, hg3⟩
      have C3 := Lib.hid h3
      have G3 := Lib.hid (grownBy_trans G2.out hg3)
      have P3 := Lib.hid (P2.out.calm hg3)
      clear h3 hg3 R2 G2 P2
      have hmk := run_make_row' (P := Tryd.prog) 23 4 (.bool false) 1 Tryd.underlying23 Tryd.info4 rfl .i64 .i64 m (by omega) (by omega)
      have hta : ((t : Int)) % (m : Int) = ((t % m : Nat) : Int) := (Int.natCast_emod t m).symm
      have ham : t % m < m := Nat.mod_lt _ (by omega)
      have HCLO := Lib.hid (seenS_clo HALL.out ham)
      generalize hA : t % m = a at *
      clear hA
      have HNEW := Lib.hid (SeenAt.new w3 m)
      go_wp2_with fail
      go_loopw [15] (fun i wr => ∃ k : Nat, k ≤ m + 1 ∧ i = .int .i64 k ∧ SeenAt wr w3.heap.size m (seenS a q k) ∧ w3.grownBy wr none) (fun i _ => m + 1 - (intOf i).toNat)
      case atStart => exact ⟨0, Nat.zero_le _, rfl, HNEW.out, World.grownBy_alloc _ _ _⟩
      case round =>
        obtain ⟨i, hi, rfl, hsee, hgi⟩ := hrel
        by_cases him : i ≤ m
        · have HPS : Hid (seenS a q (i + 1) = passS a q (seenS a q i)) := Lib.hid rfl
          generalize hS : seenS a q i = S at *
          clear hS
          go_wp2_with fail
          go_loopw [16] (fun jj wr => ∃ j : Nat, j ≤ Q ∧ jj = .int .i64 j ∧ SeenAt wr w3.heap.size m (passS a (q.take j) S) ∧ w3.grownBy wr none) (fun jj _ => Q - (intOf jj).toNat)
          case atStart => exact ⟨0, Nat.zero_le _, rfl, hsee, hgi⟩
          case round =>
            obtain ⟨j, hj, rfl, hseen, hgj⟩ := hrel
            by_cases hjQ : j < Q
            · obtain ⟨bb, off, rfl, q1, q2, q3, hcs⟩ := (P3.out.calm hgj).cell (by omega)
              obtain ⟨x1, x2⟩ := hcs j hjQ
              have HPT := Lib.hid (passS_take (a := a) (q := q) (S := S) (j := j) (by rw [HQLEN.out]; exact hjQ))
              have hxin : inI m (q[j]?.getD (0, 0)).1 (q[j]?.getD (0, 0)).2 := by
                have hjl : j < q.length := by rw [HQLEN.out]; exact hjQ
                rw [List.getElem?_eq_getElem hjl]
                have := List.all_eq_true.1 HALL.out _ (List.getElem_mem hjl)
                simpa using this
              clear hcs
              generalize q[j]?.getD (0, 0) = x at *
              obtain ⟨xa, xb⟩ := x
              simp only at x1 x2 hxin
              obtain ⟨a0, a1, b0, b1⟩ := hxin
              obtain ⟨u, rfl⟩ := Int.eq_ofNat_of_zero_le a0
              obtain ⟨v, rfl⟩ := Int.eq_ofNat_of_zero_le b0
              have hu : u < m := by omega
              have hv : v < m := by omega
              have j0 : (0 : Int) ≤ j := by omega
              have j1 : (j : Int) < Q := by omega
              have hcu := hseen.cell u hu
              have hcv := hseen.cell v hv
              have hfv := hseen.free v hv
              by_cases hua : u = a
              · have HOR : Hid (u = a ∨ passS a (q.take j) S u = true) := Lib.hid (.inl hua)
                have hbe : ((u : Int) == (a : Int)) = true := by simp [hua]
                clear hua
                have HSET : Hid (SeenAt (wr.setCell ⟨w3.heap.size, v, none⟩ (.bool true)) w3.heap.size m (passS a (q.take (j + 1)) S)) := Lib.hid (hseen.set hv true (fun b _ => by rw [HPT.out]; exact seeS_yes HOR.out b))
                have HGS : Hid (w3.grownBy (wr.setCell ⟨w3.heap.size, v, none⟩ (.bool true)) none) := Lib.hid (grownBy_new hgj (grownBy_setCell wr ⟨w3.heap.size, v, none⟩ (.bool true)) (Nat.le_refl _))
                have HHJ := Lib.hid hgj
                clear hseen hgj
                go_wp2
                exact ⟨⟨j + 1, by omega, by go_num, HSET.out, HGS.out⟩, by simp [intOf]; omega⟩
              · have hbe : ((u : Int) == (a : Int)) = false := by simp; omega
                cases hsu : passS a (q.take j) S u
                · have HNO : Hid (passS a (q.take (j + 1)) S = passS a (q.take j) S) := Lib.hid (by rw [HPT.out]; exact seeS_no hua hsu)
                  rw [hsu] at hcu
                  have HSEEN := Lib.hid hseen
                  have HHJ := Lib.hid hgj
                  clear hua hsu hseen hgj
                  go_wp2
                  exact ⟨⟨j + 1, by omega, by go_num, by rw [HNO.out]; exact HSEEN.out, HHJ.out⟩, by simp [intOf]; omega⟩
                · have HOR : Hid (u = a ∨ passS a (q.take j) S u = true) := Lib.hid (.inr hsu)
                  rw [hsu] at hcu
                  clear hua hsu
                  have HSET : Hid (SeenAt (wr.setCell ⟨w3.heap.size, v, none⟩ (.bool true)) w3.heap.size m (passS a (q.take (j + 1)) S)) := Lib.hid (hseen.set hv true (fun b _ => by rw [HPT.out]; exact seeS_yes HOR.out b))
                  have HGS : Hid (w3.grownBy (wr.setCell ⟨w3.heap.size, v, none⟩ (.bool true)) none) := Lib.hid (grownBy_new hgj (grownBy_setCell wr ⟨w3.heap.size, v, none⟩ (.bool true)) (Nat.le_refl _))
                  have HHJ := Lib.hid hgj
                  clear hseen hgj
                  go_wp2
                  exact ⟨⟨j + 1, by omega, by go_num, HSET.out, HGS.out⟩, by simp [intOf]; omega⟩
            · obtain rfl : j = Q := by omega
              rw [List.take_of_length_le (by rw [HQLEN.out]; exact Nat.le_refl _)] at hseen
              go_wp2
              exact ⟨⟨i + 1, by omega, by go_num, by rw [HPS.out]; exact hseen, hgj⟩, by simp [intOf]; omega⟩
        · obtain rfl : i = m + 1 := by omega
          have HSEE := Lib.hid hsee
          have GI := Lib.hid hgi
          have hno : decide (((m + 1 : Nat) : Int) ≤ (m : Int)) = false := by simp; omega
          clear hsee hgi
          go_wp2_with fail
          go_loopw [17] (fun bb wr => ∃ b : Nat, b ≤ m ∧ bb = .int .i64 b ∧ w3.grownBy wr none ∧ SeenAt wr w3.heap.size m (seenS a q (m + 1))) (fun bb _ => m - (intOf bb).toNat)
          case atStart => exact ⟨0, Nat.zero_le _, rfl, GI.out, HSEE.out⟩
          case round =>
            obtain ⟨b, hb, rfl, hgb, hseb⟩ := hrel
            by_cases hbm : b < m
            · have hcb := hseb.cell b hbm
              have HCB := Lib.hid (show hasI m (clo m (ofL m q)) (a : Int) (b : Int) = seenS a q (m + 1) b from by
                rw [HCLO.out b, hasI_in (by unfold inI; omega)]; rfl)
              have CB := Lib.hid (C3.out.calm hgb)
              have GB := Lib.hid hgb
              have SB := Lib.hid hseb
              clear hgb hseb
              generalize seenS a q (m + 1) b = sv at *
              have b0 : (0 : Int) ≤ b := by omega
              have b1 : (b : Int) < m := by omega
              cases sv
              all_goals
                go_wp2
                go_quiet ((go_at_call 21; exact Calls.quiet_of (relHas_q _ _ cp m _ _ _ _ _ (by exact CB.out.calm (grownBy_drewN _ _ none)) HCB.out)))
                go_wp2
                exact ⟨⟨b + 1, by omega, by go_num, grownBy_trans GB.out (grownBy_drewN _ _ none), SB.out.calm (grownBy_drewN _ _ none)⟩, by simp [intOf]; omega⟩
            · obtain rfl : b = m := by omega
              have CB := Lib.hid (C3.out.calm hgb)
              have GB := Lib.hid (grownBy_trans G3.out hgb)
              clear hgb hseb
              have HTR : Hid ((!grewC b (clo b (ofL b q)) b) = true) := Lib.hid (by
                cases e : grewC b (clo b (ofL b q)) b
                · rfl
                · exact absurd (clo_clo HSU.out) ((grewC_iff (clo_supp HSU.out)).1 e))
              have HCC := Lib.hid (clo_clo HSU.out)
              have HPL : Hid ((pairsL b (clo b (ofL b q)) b).length ≤ 1000000) := Lib.hid (by
                have := pairsL_len b (clo b (ofL b q)) b
                have : b * b ≤ 20 * 20 := Nat.mul_le_mul hm1 hm1
                omega)
              go_wp2_with fail
              refine (closure_c _ _ cp b _ _ CB.out).mono ?_
              rintro e w5 ⟨dp, rfl, h5, hg5⟩
              rw [HCC.out] at h5
              have D5 := Lib.hid h5
              have C5 := Lib.hid (CB.out.calm hg5)
              have G5 := Lib.hid (grownBy_trans GB.out hg5)
              clear h5 hg5 CB GB
              go_wp2_with fail
              refine (relPairs_c _ _ dp b _ _ D5.out (HT.out.grown G5.out (by simp))).mono ?_
              rintro e w6 ⟨p6, c6, rfl, hp6, hg6⟩
              have P6 := Lib.hid hp6
              have C6 := Lib.hid (C5.out.calm hg6)
              have G6 := Lib.hid (grownBy_trans G5.out hg6)
              clear hp6 hg6 C5 D5 G5
              go_wp2_with fail
              refine (relPairs_c _ _ cp b _ _ C6.out (HT.out.grown G6.out (by simp))).mono ?_
              rintro e w7 ⟨p7, c7, rfl, hp7, hg7⟩
              have P7 := Lib.hid hp7
              have P6 := Lib.hid (P6.out.calm hg7)
              have C7 := Lib.hid (C6.out.calm hg7)
              have G7 := Lib.hid (grownBy_trans G6.out hg7)
              clear hp7 hg7 C6 G6
              go_wp2_with fail
              refine (samePairs_r _ _ _ _ _ _ _ _ _ _ _ _ true _ P6.out P7.out HPL.out (by simp)).mono ?_
              rintro e w8 ⟨rfl, hg8⟩
              have C8 := Lib.hid (C7.out.calm hg8)
              have G8 := Lib.hid (grownBy_trans G7.out hg8)
              clear hg8 C7 G7 P6 P7
              go_wp2_with fail
              refine (isTrans_b _ _ cp b _ true _ C8.out HTR.out).mono ?_
              rintro e w9 ⟨rfl, hg9⟩
              have G9 := Lib.hid (grownBy_trans G8.out hg9)
              clear hg9 C8 G8
              go_wp2
              go_ret
              exact ⟨rfl, G9.out⟩

end Go.Proofs.YtkcofakhcpajmaaDoor
