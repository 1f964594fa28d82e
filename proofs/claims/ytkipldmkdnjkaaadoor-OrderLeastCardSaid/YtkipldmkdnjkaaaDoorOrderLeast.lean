/- OrderLeast: the walk. -/
import Derived.Test.YtkipldmkdnjkaaaDoorKnow3
import Derived.Test.YtkipldmkdnjkaaaDoorOrdS
namespace Go.Proofs.YtkipldmkdnjkaaaDoor
open Go.RowKit

/-- append, whatever there is to be appended, as one step of a region that draws. -/
theorem step_append_any {P : Program} {ops : Array Oper} {o : Oper} {a : Act} {w : World} {K : Act → World → Prop} {Q : Exit → Act → World → Prop} {E : Prop} (hgd : o.guard = none) (s x : Operand) (t : TypeId)
    (ho : o.op = .call { callee := .builtin .append, args := #[s, x], argTypes := #[t, t] })
    (base : Nat) (e : TypeId) (i : TypeInfo) (z : Value) (size bytes : Nat) (ht : P.underlying t = some (.slice e)) (hi : P.info? e = some i) (hz : i.zero = some z)
    (hsize : i.size = size) (hby : i.bytes = bytes) (hzs : z.cells.size = size) (hsz : 0 < size)
    (v : Value) (n : Nat) (xs : List Value) (hs : a.eval s = v) (hown : w.ownsRow base e size v n xs)
    (ad : Addr) (m c : Nat) (news : List Value) (hx : a.eval x = .slice (some ad) m c) (hl : news.length = m * size) (hnews : ∀ j u, news[j]? = some u → w.cell? (ad.add j) = some u) (h1 : ∀ u ∈ news, u.oneCell' = true)
    (h63 : n + m ≤ maxLen) (hbytes : (n + m) * bytes ≤ 140737488355328) (hbase : base ≤ w.heap.size)
    (h : ∀ p' c' w', w'.ownsRow base e size (.slice p' (n + m) c') (n + m) (xs ++ news) → w.grownBy w' v.ownBlock → K (a.put o.dst (.slice p' (n + m) c')) w') :
    if Region.wanted o (yielded ops a.tmps) = true then Oper.wp P o a w K Q else E := by
  have hw : Region.wanted o (yielded ops a.tmps) = true := by simp [Region.wanted, hgd]
  rw [if_pos hw]
  refine wp_append_own w s x t ho base e i z size bytes ht hi hz hsize hby hzs hsz v n xs hs hown ad m c news hx hl hnews h1 h63 hbytes hbase fun v' w' h2 h3 _ => ?_
  obtain ⟨p', c', rfl⟩ : ∃ p' c', v' = .slice p' (n + m) c' := by
    rcases h2.2 with ⟨e1, e2⟩ | ⟨g, cap, cur, e1, _⟩
    · exact ⟨none, 0, by rw [e1, e2]⟩
    · exact ⟨_, _, e1⟩
  exact h p' c' w' h2 h3

theorem pcells_one (l : List (Int × Int)) : ∀ u ∈ pcells l, u.oneCell' = true := by
  intro u hu
  unfold pcells at hu
  rw [List.mem_flatMap] at hu
  obtain ⟨x, _, hx⟩ := hu
  simp at hx
  rcases hx with rfl | rfl <;> rfl
theorem pcells_app (a b : List (Int × Int)) : pcells (a ++ b) = pcells a ++ pcells b := by simp [pcells]
theorem pcells_cell {l : List (Int × Int)} {t : Nat} {u : Value} (h : (pcells l)[t]? = some u) : t < l.length * 2 ∧ ((t % 2 = 0 ∧ u = .int .i64 (l[t / 2]?.getD (0, 0)).1) ∨ (t % 2 = 1 ∧ u = .int .i64 (l[t / 2]?.getD (0, 0)).2)) := by
  have ht := (List.getElem?_eq_some_iff.1 h).1
  rw [pcells_len] at ht
  have hg := pcells_get l (t / 2) (by omega)
  refine ⟨ht, ?_⟩
  rcases Nat.mod_two_eq_zero_or_one t with e | e
  · left
    rw [show t / 2 * 2 = t by omega] at hg
    rw [h] at hg
    exact ⟨e, Option.some.inj hg.1⟩
  · right
    rw [show t / 2 * 2 + 1 = t by omega] at hg
    rw [h] at hg
    exact ⟨e, Option.some.inj hg.2⟩

/-- Where the pairs from j on lie, m of them. -/
theorem pairs_src {w : World} {pb po N : Nat} {P : List (Int × Int)} (hN : P.length = N) (hcs : ∀ k, k < N → w.cell? ⟨pb, po + k * 2, none⟩ = some (.int .i64 (P[k]?.getD (0, 0)).1) ∧ w.cell? ⟨pb, po + k * 2 + 1, none⟩ = some (.int .i64 (P[k]?.getD (0, 0)).2)) (j m : Nat) (hj : j + m ≤ N) :
    ∀ t u, (pcells ((P.drop j).take m))[t]? = some u → w.cell? ((⟨pb, po + j * 2, none⟩ : Addr).add t) = some u := by
  intro t u h
  obtain ⟨h1, h2⟩ := pcells_cell h
  rw [List.length_take, List.length_drop, hN] at h1
  have hadd : (⟨pb, po + j * 2, none⟩ : Addr).add t = ⟨pb, po + j * 2 + t, none⟩ := by unfold Addr.add; split <;> simp_all
  have hg : ((P.drop j).take m)[t / 2]? = P[j + t / 2]? := by
    rw [List.getElem?_take, if_pos (by omega), List.getElem?_drop]
  rw [hg] at h2
  have hc := hcs (j + t / 2) (by omega)
  rw [hadd]
  rcases h2 with ⟨e1, e2⟩ | ⟨e1, e2⟩
  · rw [show po + j * 2 + t = po + (j + t / 2) * 2 by omega, hc.1, e2]
  · rw [show po + j * 2 + t = po + (j + t / 2) * 2 + 1 by omega, hc.2, e2]

set_option maxHeartbeats 400000 in
set_option maxRecDepth 100000 in
theorem orderLeast_out (n d : Int) (p : Option Addr) (L c : Nat) (w : World) (hL : 60 < L) : Calls Tryd.prog 3 #[.int .u8 n, .slice p L c, .int .u8 d] w fun e w' => e = .returned (.bool true) ∧ w.grownBy w' none := by
  have hLi : (60 : Int) < L := by omega
  go_enter Tryd.func3, Tryd.ntmps3
  go_wp2_with fail
  refine (known3_c _).mono ?_
  rintro e w1 ⟨rfl, hg1⟩
  go_wp2
  go_ret
  exact ⟨rfl, hg1⟩

set_option maxHeartbeats 1000000 in
set_option maxRecDepth 100000 in
theorem orderLeast_in (n dr k : Nat) (p : Option Addr) (L c lo hi : Nat) (l : List (Int × Int)) (w : World) (hn : n < 256) (hdr : dr < 256) (hk : n % 16 + 1 = k) (hl : PairsAt w lo hi p L l) (hL : L ≤ 60) (ht : Tab w) : Calls Tryd.prog 3 #[.int .u8 n, .slice p L c, .int .u8 dr] w fun e w' => e = .returned (.bool true) ∧ w.grownBy w' none := by
  obtain ⟨i0, hi0, hz0, hz1, hz2⟩ := info_parts Tryd.info25
  have hLi : ¬ ((60 : Int) < L) := by omega
  have n0 : (0 : Int) ≤ n := by omega
  have n1 : (n : Int) < 256 := by omega
  have d0 : (0 : Int) ≤ dr := by omega
  have d1 : (dr : Int) < 256 := by omega
  have hk1 : 1 ≤ k := by omega
  have hk16 : k ≤ 16 := by omega
  have HK := Lib.hid (show (n : Int) % 16 + 1 = (k : Int) by omega)
  have HLEN := Lib.hid hl.len
  have HL := Lib.hid hl
  have HT := Lib.hid ht
  clear hl hk ht
  go_enter Tryd.func3, Tryd.ntmps3
  go_wp2_with fail
  refine (known3_c _).mono ?_
  rintro e w1 ⟨rfl, hg1⟩
  have HL1 := Lib.hid (HL.out.calm hg1)
  have HT1 := Lib.hid (HT.out.grown hg1 (by simp))
  have HG1 := Lib.hid hg1
  clear hg1 HL HT
  go_wp2
  rw [HK.out]
  go_loopw [8, 9] (fun v i wr => ∃ a : Nat, a ≤ L ∧ i = .int .i64 a ∧ OwnP wr w1.heap.size v (riseL k (l.take a)) ∧ w1.grownBy wr none) (fun _ i _ => L - (intOf i).toNat)
  case atStart => exact ⟨0, Nat.zero_le _, rfl, ⟨none, 0, rfl, World.ownsRow_nil _ _ _ _⟩, grownBy_refl _ _⟩
  case round =>
    obtain ⟨a, ha, rfl, ⟨pq, cq, rfl, hq⟩, hgr⟩ := hrel
    have HQ := Lib.hid hq
    have HGR := Lib.hid hgr
    have hql : (riseL k (l.take a)).length ≤ 60 := by
      have h1 := List.length_filter_le (riseP k) (l.take a)
      rw [List.length_take] at h1
      show ((l.take a).filter (riseP k)).length ≤ 60
      omega
    clear hq
    by_cases haL : a < L
    · obtain ⟨b, off, rfl, q1, q2, q3, hcs⟩ := (HL1.out.calm hgr).cell (by omega)
      obtain ⟨x1, x2⟩ := hcs a haL
      have hla : l[a]? = some (l[a]?.getD (0, 0)) := by rw [List.getElem?_eq_getElem (by rw [HLEN.out]; exact haL)]; rfl
      have HTK := Lib.hid (riseL_take (k := k) hla)
      have hsz : w1.heap.size ≤ wr.heap.size := hgr.size
      clear hcs hgr hla
      generalize l[a]?.getD (0, 0) = xy at *
      obtain ⟨x, y⟩ := xy
      simp only at x1 x2
      generalize riseL k (l.take a) = q at *
      have a0 : (0 : Int) ≤ a := by omega
      have a1 : (a : Int) < L := by omega
      by_cases h1 : 0 ≤ x
      · by_cases h2 : x < y
        · by_cases h3 : y < (k : Int)
          · have HE : Hid (riseL k (l.take (a + 1)) = q ++ [(x, y)]) := Lib.hid (by rw [HTK.out]; simp [riseP, h1, h2, h3])
            go_wp2
            go_quiet (fail)
            have y1 : (wr.drewN nq).cell? ⟨b, off + a * 2, none⟩ = some (.int .i64 x) := x1
            have y2 : (wr.drewN nq).cell? ⟨b, off + a * 2 + 1, none⟩ = some (.int .i64 y) := x2
            have HQM : Hid ((wr.drewN nq).ownsRow w1.heap.size 25 2 (.slice pq q.length cq) q.length (pcells q)) := Lib.hid HQ.out
            have HGM := Lib.hid (grownBy_trans HGR.out (grownBy_drewN wr nq none))
            have hszm : w1.heap.size ≤ (wr.drewN nq).heap.size := hsz
            clear x1 x2 HQ HGR hsz
            generalize wr.drewN nq = wm at *
            go_wp2_with (at_builtin; refine wpList_append_own _ rfl _ _ 22 rfl w1.heap.size 25 i0 (.agg #[.int .i64 0, .int .i64 0]) 2 16 Tryd.underlying22 hi0 hz0 hz1 hz2 rfl (by decide) _ _ _ rfl (HQM.out.alloc _) ⟨wm.heap.size, 0, none⟩ 1 1 [.int .i64 x, .int .i64 y] rfl rfl (cell_two_new _ _ _ _) (by simp [Value.oneCell']) (by unfold maxLen; omega) (by omega) (by simp; omega) ?_; intro v' w2 hown' hgrow _; obtain ⟨g', cap', rfl⟩ := ownsRow_succ hown')
            have HE2 : Hid (OwnP w2 w1.heap.size (.slice (some ⟨g', 0, none⟩) (q.length + 1) cap') (q ++ [(x, y)]) ∧ w1.grownBy w2 none) := by
              refine Lib.hid ⟨⟨some ⟨g', 0, none⟩, cap', by simp, ?_⟩, ?_⟩
              · rw [pcells_snoc]
                simpa using hown'
              · have hga := grownBy_trans HGM.out (World.grownBy_alloc wm (.cells #[.int .i64 x, .int .i64 y] 25) none)
                have hgrow' : (wm.alloc (.cells #[.int .i64 x, .int .i64 y] 25)).grownBy w2 (Value.slice pq q.length cq).ownBlock := hgrow
                cases hob : (Value.slice pq q.length cq).ownBlock with
                | none => rw [hob] at hgrow'; exact grownBy_trans hga hgrow'
                | some r =>
                  rw [hob] at hgrow'
                  exact grownBy_new hga hgrow' (HQM.out.lt r hob).1
            clear hown' hgrow
            go_wp2
            exact ⟨⟨a + 1, by omega, by go_num, by rw [HE.out]; exact HE2.out.1, HE2.out.2⟩, by simp [intOf]; omega⟩
          · have HE : Hid (riseL k (l.take (a + 1)) = q) := Lib.hid (by rw [HTK.out]; simp [riseP, h3])
            have g3 : decide (y < (k : Int)) = false := by simpa using h3
            go_wp2
            go_quiet (fail)
            go_wp2
            exact ⟨⟨a + 1, by omega, by go_num, ⟨pq, cq, by rw [HE.out], by rw [HE.out]; exact HQ.out⟩, grownBy_trans HGR.out (grownBy_drewN _ _ none)⟩, by simp [intOf]; omega⟩
        · have HE : Hid (riseL k (l.take (a + 1)) = q) := Lib.hid (by rw [HTK.out]; simp [riseP, h2])
          have g2 : decide (x < y) = false := by simpa using h2
          go_wp2
          go_quiet (fail)
          go_wp2
          exact ⟨⟨a + 1, by omega, by go_num, ⟨pq, cq, by rw [HE.out], by rw [HE.out]; exact HQ.out⟩, grownBy_trans HGR.out (grownBy_drewN _ _ none)⟩, by simp [intOf]; omega⟩
      · have HE : Hid (riseL k (l.take (a + 1)) = q) := Lib.hid (by rw [HTK.out]; simp [riseP, h1])
        have g1 : decide (0 ≤ x) = false := by simpa using h1
        go_wp2
        go_quiet (fail)
        go_wp2
        exact ⟨⟨a + 1, by omega, by go_num, ⟨pq, cq, by rw [HE.out], by rw [HE.out]; exact HQ.out⟩, grownBy_trans HGR.out (grownBy_drewN _ _ none)⟩, by simp [intOf]; omega⟩
    · obtain rfl : a = L := by omega
      rw [List.take_of_length_le (by rw [HLEN.out]; exact Nat.le_refl _)] at HQ hql ⊢
      obtain ⟨pp, cc, hpe, hpairs⟩ := pairsAt_own HQ.out
      simp only [Value.slice.injEq, true_and] at hpe
      obtain ⟨rfl, rfl⟩ := hpe
      have HP := Lib.hid hpairs
      have HOK := Lib.hid (riseL_ok (k := k) l (by omega))
      have HRS := Lib.hid (riseL_rises k l)
      have HTT := Lib.hid (HT1.out.grown hgr (by simp))
      have HG2 := Lib.hid (grownBy_trans HG1.out hgr)
      clear HQ hpairs hgr HGR HL1
      generalize riseL k l = q at *
      go_wp2_with fail
      refine (relOf_ok k pq _ cq _ _ q _ HP.out (by omega) HOK.out).mono ?_
      rintro e w2 ⟨r, rfl, hr, hg2⟩
      have HR2 := Lib.hid hr
      have HT2 := Lib.hid (HTT.out.grown hg2 (by simp))
      have HG2' := Lib.hid (grownBy_trans HG2.out hg2)
      have HALL := Lib.hid (least_all (k := k) (ofL_supp k q) HRS.out)
      have HORD := Lib.hid (rise_ord (rises_clo (k := k) HRS.out) k)
      have HSUP := Lib.hid (ofL_supp k q)
      clear hr hg2 HP HTT HG2 HRS HOK
      generalize ofL k q = R at *
      go_wp2_with fail
      refine (reduce_cc _ _ r k R _ HR2.out).mono ?_
      rintro e w3 ⟨pp, pc, rfl, ⟨hpc1, hpc2⟩, hp, hg3⟩
      have HP3 := Lib.hid hp
      have HR3 := Lib.hid (HR2.out.calm hg3)
      have HT3 := Lib.hid (HT2.out.grown hg3 (by simp))
      have HG3 := Lib.hid (grownBy_trans HG2'.out hg3)
      have hrl : (redL (clo k R) k).length ≤ 1000 := by
        have h1 := redK_len (clo k R) (circL (clo k R) k) (circL (clo k R) k)
        have h2 := circ_le (clo k R) k
        have h3 : (circL (clo k R) k).length * (circL (clo k R) k).length ≤ 16 * 16 := Nat.mul_le_mul (by omega) (by omega)
        unfold redL
        omega
      clear hp hg3 HR2 HT2 HG2'
      generalize redL (clo k R) k = P at *
      go_wp2_with fail
      refine (relOf_ok k pp _ pc _ _ P _ HP3.out (by omega) (allIn_ok (by omega) HALL.out.2.1)).mono ?_
      rintro e w4 ⟨s, rfl, hs, hg4⟩
      have HS4 := Lib.hid hs
      have HP4 := Lib.hid (HP3.out.calm hg4)
      have HR4 := Lib.hid (HR3.out.calm hg4)
      have HT4 := Lib.hid (HT3.out.grown hg4 (by simp))
      have HG4 := Lib.hid (grownBy_trans HG3.out hg4)
      clear hs hg4 HP3 HR3 HT3 HG3
      go_wp2_with fail
      refine (closure_c _ _ s k (ofL k P) _ HS4.out).mono ?_
      rintro e w5 ⟨s5, rfl, hs5, hg5⟩
      rw [HALL.out.1] at hs5
      have HS5 := Lib.hid hs5
      have HP5 := Lib.hid (HP4.out.calm hg5)
      have HR5 := Lib.hid (HR4.out.calm hg5)
      have HT5 := Lib.hid (HT4.out.grown hg5 (by simp))
      have HG5 := Lib.hid (grownBy_trans HG4.out hg5)
      clear hs5 hg5 HS4 HP4 HR4 HT4 HG4
      go_wp2_with fail
      refine (relPairs_c _ _ s5 k (clo k R) _ HS5.out HT5.out).mono ?_
      rintro e w6 ⟨l6, c6, rfl, hl6, hg6⟩
      have HL6 := Lib.hid hl6
      have HP6 := Lib.hid (HP5.out.calm hg6)
      have HR6 := Lib.hid (HR5.out.calm hg6)
      have HT6 := Lib.hid (HT5.out.grown hg6 (by simp))
      have HG6 := Lib.hid (grownBy_trans HG5.out hg6)
      clear hl6 hg6 HS5 HP5 HR5 HT5 HG5
      go_wp2_with fail
      refine (closure_c _ _ r k R _ HR6.out).mono ?_
      rintro e w7 ⟨r7, rfl, hr7, hg7⟩
      have HC7 := Lib.hid hr7
      have HL7 := Lib.hid (HL6.out.calm hg7)
      have HP7 := Lib.hid (HP6.out.calm hg7)
      have HR7 := Lib.hid (HR6.out.calm hg7)
      have HT7 := Lib.hid (HT6.out.grown hg7 (by simp))
      have HG7 := Lib.hid (grownBy_trans HG6.out hg7)
      clear hr7 hg7 HL6 HP6 HR6 HT6 HG6
      go_wp2_with fail
      refine (relPairs_c _ _ r7 k (clo k R) _ HC7.out HT7.out).mono ?_
      rintro e w8 ⟨l8, c8, rfl, hl8, hg8⟩
      have HL8 := Lib.hid (HL7.out.calm hg8)
      have HL82 := Lib.hid hl8
      have HP8 := Lib.hid (HP7.out.calm hg8)
      have HR8 := Lib.hid (HR7.out.calm hg8)
      have HT8 := Lib.hid (HT7.out.grown hg8 (by simp))
      have HG8 := Lib.hid (grownBy_trans HG7.out hg8)
      have HPL : Hid ((pairsL k (clo k R) k).length ≤ 1000000) := Lib.hid (by
        have h1 := pairsL_len k (clo k R) k
        have h2 : k * k ≤ 16 * 16 := Nat.mul_le_mul (by omega) (by omega)
        omega)
      clear hl8 hg8 HL7 HP7 HR7 HT7 HG7 HC7
      go_wp2_with fail
      refine (samePairs3_r l6 l8 _ _ c6 c8 _ _ _ _ _ _ true _ HL8.out HL82.out HPL.out (decide_eq_true rfl)).mono ?_
      rintro e w9 ⟨rfl, hg9⟩
      have HP9 := Lib.hid (HP8.out.calm hg9)
      have HR9 := Lib.hid (HR8.out.calm hg9)
      have HT9 := Lib.hid (HT8.out.grown hg9 (by simp))
      have HG9 := Lib.hid (grownBy_trans HG8.out hg9)
      clear hg9 HL8 HL82 HP8 HR8 HT8 HG8
      go_wp2_with fail
      refine (orderIsOrder_c _ _ r k R _ HR9.out).mono ?_
      rintro e w10 ⟨he, hg10⟩
      rw [HORD.out] at he
      subst he
      have HP10 := Lib.hid (HP9.out.calm hg10)
      have HR10 := Lib.hid (HR9.out.calm hg10)
      have HT10 := Lib.hid (HT9.out.grown hg10 (by simp))
      have HG10 := Lib.hid (grownBy_trans HG9.out hg10)
      clear hg10 HP9 HR9 HT9 HG9
      by_cases hP0 : P.length = 0
      · rw [hP0]
        go_wp2
        go_ret
        exact ⟨rfl, HG10.out⟩
      · have hP1 : 0 < P.length := by omega
        obtain ⟨dd, hdd⟩ : ∃ dd : Nat, dr % P.length = dd := ⟨_, rfl⟩
        have hddl : dd < P.length := by rw [← hdd]; exact Nat.mod_lt _ hP1
        have HDD : Hid (((dr : Int) % ((P.length : Nat) : Int)) = (dd : Int)) := Lib.hid (by rw [← hdd]; rfl)
        obtain ⟨pb, po, rfl, pq1, pq2, pq3, hpcs⟩ := HP10.out.cell hP1
        have HLESS := Lib.hid (HALL.out.2.2 dd hddl)
        have HLIN : Hid (ofErr k (lessL P dd) = 0) := Lib.hid (allIn_ok (by omega) fun x hx => HALL.out.2.1 x (less_mem hx))
        have HPCS := Lib.hid hpcs
        have hN1 : ¬ ((P.length : Int) = 0) := by omega
        have hNb : (((P.length : Nat) : Int) == 0) = false := beq_eq_false_iff_ne.2 hN1
        clear hdd hpcs HALL HORD
        go_wp2
        rw [HDD.out]
        obtain ⟨j, hj⟩ : ∃ j : Nat, j = dd + 1 := ⟨_, rfl⟩
        have hwr : IntKind.i64.wrap ((dd : Int) + 1) = (j : Int) := by
          rw [hj]
          unfold IntKind.wrap
          simp [IntKind.bits, IntKind.signed]
          omega
        have HSRC : Hid (∀ (w' : World), w10.grownBy w' none → ∀ k, k < P.length → w'.cell? ⟨pb, po + k * 2, none⟩ = some (.int .i64 (P[k]?.getD (0, 0)).1) ∧ w'.cell? ⟨pb, po + k * 2 + 1, none⟩ = some (.int .i64 (P[k]?.getD (0, 0)).2)) := Lib.hid fun w' hg k hk =>
          ⟨(World.cell?_of_block (a := ⟨pb, po + k * 2, none⟩) (hg.block pb (by omega) (by simp))).trans (HPCS.out k hk).1, (World.cell?_of_block (a := ⟨pb, po + k * 2 + 1, none⟩) (hg.block pb (by omega) (by simp))).trans (HPCS.out k hk).2⟩
        have hjN : j ≤ P.length := by omega
        have HN1 : Hid (∀ (w' : World), w10.grownBy w' none → ∀ t u, (pcells (P.take dd))[t]? = some u → w'.cell? ((⟨pb, po, none⟩ : Addr).add t) = some u) := Lib.hid fun w' hg t u h => by
          have := pairs_src rfl (HSRC.out w' hg) 0 dd (by omega) t u (by simpa using h)
          simpa using this
        obtain ⟨A, hA, hn2⟩ : ∃ A : Addr, (if pc = j then some (⟨pb, po, none⟩ : Addr) else some ⟨pb, po + j * 2, none⟩) = some A ∧ ∀ (w' : World), w10.grownBy w' none → ∀ t u, (pcells (P.drop j))[t]? = some u → w'.cell? (A.add t) = some u := by
          by_cases h : pc = j
          · refine ⟨⟨pb, po, none⟩, by simp [h], fun w' hg t u hu => ?_⟩
            have h0 : (P.drop j).length = 0 := by rw [List.length_drop]; omega
            rw [List.length_eq_zero_iff.1 h0] at hu
            simp [pcells] at hu
          · refine ⟨⟨pb, po + j * 2, none⟩, by simp [h], fun w' hg t u hu => ?_⟩
            refine pairs_src rfl (HSRC.out w' hg) j (P.length - j) (by omega) t u ?_
            rw [List.take_of_length_le (by rw [List.length_drop]; exact Nat.le_refl _)]
            exact hu
        have HN2 := Lib.hid hn2
        have HO1 := Lib.hid (pcells_one (P.take dd))
        have HO2 := Lib.hid (pcells_one (P.drop j))
        have HLN1 : Hid ((pcells (P.take dd)).length = dd * 2) := Lib.hid (by rw [pcells_len, List.length_take]; congr 1; omega)
        have HLN2 : Hid ((pcells (P.drop j)).length = (P.length - j) * 2) := Lib.hid (by rw [pcells_len, List.length_drop])
        have HJ := Lib.hid hj
        have hdc : dd ≤ pc := by omega
        have hjc : j ≤ pc := by omega
        have d2 : (0 : Int) ≤ dd := by omega
        have hPL : P.length ≤ 1000 := hrl
        have HEND : Hid (∀ (p' : Option Addr) (c' : Nat) (w' : World), w'.ownsRow w10.heap.size 25 2 (.slice p' (dd + (P.length - j)) c') (dd + (P.length - j)) (pcells (P.take dd) ++ pcells (P.drop j)) → PairsAt w' w10.heap.size w'.heap.size p' (dd + (P.length - j)) (lessL P dd)) := Lib.hid fun p' c' w' ho => by
          have e1 : (lessL P dd).length = dd + (P.length - j) := by unfold lessL; rw [List.length_append, List.length_take, List.length_drop]; omega
          have e2 : pcells (P.take dd) ++ pcells (P.drop j) = pcells (lessL P dd) := by rw [← pcells_app, hj]; rfl
          rw [e2, ← e1] at ho
          obtain ⟨p2, c2, e3, h4⟩ := pairsAt_own ho
          simp only [Value.slice.injEq, true_and] at e3
          obtain ⟨rfl, rfl⟩ := e3
          rwa [e1] at h4
        have hsz10 : w10.heap.size ≤ w10.drew.heap.size := Nat.le_refl _
        clear hn2 HSRC HPCS hj HP10 pq1 pq2 pq3
        generalize pcells (P.take dd) = N1 at *
        generalize pcells (P.drop j) = N2 at *
        generalize P.length = NL at *
        go_region_law (first
          | (refine step_append_any rfl (.const (.slice none 0 0)) (.tmp 113) 22 rfl w10.heap.size 25 i0 (.agg #[.int .i64 0, .int .i64 0]) 2 16 Tryd.underlying22 hi0 hz0 hz1 hz2 rfl (by decide) (.slice none 0 0) 0 [] (by simp [Act.eval]) (World.ownsRow_nil _ _ _ _) ⟨pb, po, none⟩ dd pc N1 (by simp [Act.eval, Act.put]) HLN1.out (HN1.out _ (by exact grownBy_drewN w10 1 none)) HO1.out (by unfold maxLen; omega) (by omega) (by exact hsz10) ?_; intro pA cA wA hownA hgrowA)
          | (refine step_append_any rfl (.tmp 114) (.tmp 118) 22 rfl w10.heap.size 25 i0 (.agg #[.int .i64 0, .int .i64 0]) 2 16 Tryd.underlying22 hi0 hz0 hz1 hz2 rfl (by decide) _ _ _ (by simp [Act.eval]) hownA A (NL - j) (pc - j) N2 (by simp [Act.eval]) HLN2.out (HN2.out _ (by exact grownBy_trans (grownBy_drewN w10 1 none) hgrowA)) HO2.out (by unfold maxLen; omega) (by omega) (by exact Nat.le_trans hsz10 hgrowA.size) ?_; intro pB cB wB hownB hgrowB)
          | (go_simp; refine (relOf_ok k pB _ cB _ _ (lessL P dd) _ (HEND.out pB cB wB (by simpa using hownB)) (by omega) HLIN.out).mono ?_; rintro e wC ⟨tr, rfl, htC, hgC⟩))
        have hgA : w10.grownBy wA none := grownBy_trans (grownBy_drewN w10 1 none) hgrowA
        have hgB : w10.grownBy wB none := by
          have hgrowB' : wA.grownBy wB (Value.slice pA (0 + dd) cA).ownBlock := hgrowB
          cases hob : (Value.slice pA (0 + dd) cA).ownBlock with
          | none => rw [hob] at hgrowB'; exact grownBy_trans hgA hgrowB'
          | some x => rw [hob] at hgrowB'; exact grownBy_new hgA hgrowB' (hownA.lt x hob).1
        have hgC' := grownBy_trans hgB hgC
        have HTC := Lib.hid htC
        have HR11 := Lib.hid (HR10.out.calm hgC')
        have HT11 := Lib.hid (HT10.out.grown hgC' (by simp))
        have HG11 := Lib.hid (grownBy_trans HG10.out hgC')
        clear htC hgC hgC' hgA hgB hownA hgrowA hownB hgrowB HN1 HN2 HO1 HO2 HLN1 HLN2 HEND HR10 HT10 HG10
        go_wp2_with fail
        refine (closure_c _ _ tr k (ofL k (lessL P dd)) _ HTC.out).mono ?_
        rintro e w12 ⟨t12, rfl, ht12, hg12⟩
        have HT12' := Lib.hid ht12
        have HR12 := Lib.hid (HR11.out.calm hg12)
        have HT12 := Lib.hid (HT11.out.grown hg12 (by simp))
        have HG12 := Lib.hid (grownBy_trans HG11.out hg12)
        clear ht12 hg12 HTC HR11 HT11 HG11
        go_wp2_with fail
        refine (relPairs_c _ _ t12 k _ _ HT12'.out HT12.out).mono ?_
        rintro e w13 ⟨l13, c13, rfl, hl13, hg13⟩
        have HL13 := Lib.hid hl13
        have HR13 := Lib.hid (HR12.out.calm hg13)
        have HT13 := Lib.hid (HT12.out.grown hg13 (by simp))
        have HG13 := Lib.hid (grownBy_trans HG12.out hg13)
        clear hl13 hg13 HT12' HR12 HT12 HG12
        go_wp2_with fail
        refine (closure_c _ _ r k R _ HR13.out).mono ?_
        rintro e w14 ⟨r14, rfl, hr14, hg14⟩
        have HC14 := Lib.hid hr14
        have HL14 := Lib.hid (HL13.out.calm hg14)
        have HT14 := Lib.hid (HT13.out.grown hg14 (by simp))
        have HG14 := Lib.hid (grownBy_trans HG13.out hg14)
        clear hr14 hg14 HL13 HR13 HT13 HG13
        go_wp2_with fail
        refine (relPairs_c _ _ r14 k (clo k R) _ HC14.out HT14.out).mono ?_
        rintro e w15 ⟨l15, c15, rfl, hl15, hg15⟩
        have HL15 := Lib.hid (HL14.out.calm hg15)
        have HL152 := Lib.hid hl15
        have HG15 := Lib.hid (grownBy_trans HG14.out hg15)
        have HDF : Hid (decide (pairsL k (clo k (ofL k (lessL P dd))) k = pairsL k (clo k R) k) = false) := Lib.hid (by
          rw [decide_eq_false_iff_not]
          intro e
          exact HLESS.out (pairsL_inj (clo_supp (ofL_supp k _)) (clo_supp HSUP.out) e))
        have HPL2 : Hid ((pairsL k (clo k (ofL k (lessL P dd))) k).length ≤ 1000000) := Lib.hid (by
          have h1 := pairsL_len k (clo k (ofL k (lessL P dd))) k
          have h2 : k * k ≤ 16 * 16 := Nat.mul_le_mul (by omega) (by omega)
          omega)
        clear hl15 hg15 HL14 HT14 HG14 HC14
        go_wp2_with fail
        refine (samePairs3_r l13 l15 _ _ c13 c15 _ _ _ _ _ _ false _ HL15.out HL152.out HPL2.out HDF.out).mono ?_
        rintro e w16 ⟨rfl, hg16⟩
        have HG16 := Lib.hid (grownBy_trans HG15.out hg16)
        clear hg16 HL15 HL152 HG15
        go_wp2
        go_ret
        exact ⟨rfl, HG16.out⟩

end Go.Proofs.YtkipldmkdnjkaaaDoor
