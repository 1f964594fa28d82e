/- Package colim: split: each node its places; out: the way out. -/
import Derived.Test.YtemnbkenihldgaaDoorColC
namespace Go.Proofs.YtemnbkenihldgaaDoor
open Go.RowKit Go.Shelf

/-- append where nothing may be appended, in a region that draws. -/
theorem step_append_any9 {P : Program} {ops : Array Oper} {o : Oper} {a : Act} {w : World} {K : Act → World → Prop} {Q : Exit → Act → World → Prop} {E : Prop} (hgd : o.guard = none) (s x : Operand) (t : TypeId)
    (ho : o.op = .call { callee := .builtin .append, args := #[s, x], argTypes := #[t, t] })
    (base : Nat) (e : TypeId) (i : TypeInfo) (z : Value) (size bytes : Nat) (ht : P.underlying t = some (.slice e)) (hi : P.info? e = some i) (hz : i.zero = some z)
    (hsize : i.size = size) (hby : i.bytes = bytes) (hzs : z.cells.size = size) (hsz : 0 < size)
    (v : Value) (n : Nat) (xs : List Value) (hs : a.eval s = v) (hown : w.ownsRow base e size v n xs)
    (ad : Addr) (m c : Nat) (news : List Value) (hx : a.eval x = .slice (some ad) m c) (hl : news.length = m * size) (hnews : ∀ j u, news[j]? = some u → w.cell? (ad.add j) = some u) (h1 : ∀ u ∈ news, u.oneCell' = true)
    (h63 : n + m ≤ maxLen) (hbytes : (n + m) * bytes ≤ 140737488355328) (hbase : base ≤ w.heap.size)
    (h : ∀ p' c' w', w'.ownsRow base e size (.slice p' (n + m) c') (n + m) (xs ++ news) → w.grownBy w' v.ownBlock → K (a.put o.dst (.slice p' (n + m) c')) w') :
    if Region.wanted o (yielded ops a.tmps) = true then Oper.wp P o a w K Q else E := by
  have hw : Region.wanted o (yielded ops a.tmps) = true := by simp [Region.wanted, hgd]
  rw [if_pos hw]
  refine wp_append_own w s x t ho base e i z size bytes ht hi hz hsize hby hzs hsz v n xs hs hown ad m c news hx hl hnews h1 h63 hbytes hbase fun v' w' h2 h3 _ => ?_
  obtain ⟨p', c', rfl⟩ := ownsRow_sl h2
  exact h p' c' w' h2 h3

def SplitPost (n : Nat) (xs : List (List Int)) (w : World) (e : Ending) (w' : World) : Prop :=
  ∃ p, e = .returned (.slice p n n) ∧ LegsAt w' w.heap.size w'.heap.size p n xs ∧ w.grownBy w' none

set_option maxRecDepth 20000 in
set_option maxHeartbeats 4000000 in
theorem split_c (gp : Nat) (p : Option Addr) (n c lo hi loz hiz : Nat) (Ns : List Nd) (J : List Nat) (w : World) (h : NodesAt w lo hi p n Ns) (hz : ZsAt w loz hiz (some ⟨gp, 0, none⟩) J.length (atZ J)) (hJ : J.length = stK Ns Ns.length) (hn : n ≤ 10) (hs : stK Ns n ≤ 40) :
    Calls Tryd.prog 28 #[.slice (some ⟨gp, 0, none⟩) J.length J.length, .slice p n c] w (SplitPost n ((List.range Ns.length).map (legD Ns J)) w) := by
  obtain ⟨i0, hi0, hz0, hz1, hz2⟩ := info_parts Tryd.infoI3
  have hmk := run_make_row' (P := Tryd.prog) 38 28 (.slice none 0 0) 24 Tryd.underlying38 Tryd.infoI28 rfl .i64 .i64 n (by omega) (by omega)
  have hNL := h.len
  have H := Lib.hid h
  have HZ := Lib.hid hz
  have HJ := Lib.hid (show J.length = stK Ns n by rw [hJ, hNL])
  have HNL := Lib.hid hNL
  have HZL := Lib.hid hz.len
  have HLG : Hid (∀ k, k < n → legD Ns J k = ((atZ J).drop (stK Ns k)).take (ndA Ns k).1.length) := Lib.hid (fun _ _ => rfl)
  have HSP0 := Lib.hid (SpI.made w n (legD Ns J))
  have HGA := Lib.hid (World.grownBy_alloc w (.cells (madeCells #[.slice none 0 0] n) 28) none)
  clear h hz hJ hNL
  go_enter Tryd.func28, Tryd.ntmps28
  go_wp2
  generalize hgg : w.heap.size = g at *
  have HGG := Lib.hid hgg
  clear hgg
  have hJ40 : J.length ≤ 40 := by rw [HJ.out]; exact hs
  generalize hN : J.length = N at *
  clear hN
  go_loopw [0, 14] (fun s0 i wr => ∃ (k off : Nat), k ≤ n ∧ i = .int .i64 k ∧ s0 = .slice (some ⟨gp, off, none⟩) (N - stK Ns k) (N - stK Ns k) ∧ (stK Ns k < N → off = stK Ns k) ∧ SpI wr g n k (legD Ns J) ∧ w.grownBy wr none) (fun _ i _ => n - (intOf i).toNat)
  case atStart => exact ⟨0, 0, Nat.zero_le _, rfl, rfl, fun _ => rfl, HSP0.out, HGA.out⟩
  case round =>
    obtain ⟨k, off, hk, rfl, rfl, hoff, hsp, hgr⟩ := hrel
    by_cases hkn : k < n
    · have k0 : (0 : Int) ≤ k := by omega
      have k1 : (k : Int) < n := by omega
      obtain ⟨b, ob, rfl, q1, q2, q3, hc⟩ := (H.out.calm hgr).cell (by omega)
      obtain ⟨pl, nl, cl, pq, nq, cq, c0, c1, ho, _, _, _⟩ := hc k hkn
      have hll := ho.ls.len
      have hfit := stK_fit Ns hkn
      have hf9 := stK_mono Ns (show k + 1 ≤ n by omega)
      rw [hll] at hfit
      rw [← HJ.out] at hfit
      have HSK : Hid (stK Ns (k + 1) = stK Ns k + nl) := Lib.hid (by rw [stK, hll])
      have hga := World.grownBy_alloc wr (.cells #[.slice pl nl cl, .slice pq nq cq] 25) none
      have hbx := BoxO.new wr (.slice pl nl cl) (.slice pq nq cq)
      have x0 := hbx.c0
      have HLK : Hid (legD Ns J k = ((atZ J).drop (stK Ns k)).take nl) := Lib.hid (by rw [HLG.out k hkn, hll])
      have hsp1 := hsp.calm hga
      obtain ⟨s0, s1⟩ := hsp1.cell hkn
      have HSP := Lib.hid hsp1
      have HGR := Lib.hid (grownBy_trans hgr hga)
      have HZZ := Lib.hid ((HZ.out.calm hgr).calm hga)
      have HNW : Hid (zcells (((atZ J).drop (stK Ns k)).take nl) = zcells (((atZ J).drop (stK Ns k)).take nl) ∧ (zcells (((atZ J).drop (stK Ns k)).take nl)).length = nl * 1) := Lib.hid ⟨rfl, by rw [zcells_len, List.length_take, List.length_drop, HZL.out]; omega⟩
      have HSRC : Hid (∀ W, (wr.alloc (.cells #[.slice pl nl cl, .slice pq nq cq] 25)).grownBy W none → ∀ j u, (zcells (((atZ J).drop (stK Ns k)).take nl))[j]? = some u → W.cell? ((⟨gp, off, none⟩ : Addr).add j) = some u) := Lib.hid (by
        intro W hW j u hu
        have hjl : j < nl := by
          rcases Nat.lt_or_ge j nl with h | h
          · exact h
          · rw [List.getElem?_eq_none (by rw [HNW.out.2]; omega)] at hu; cases hu
        have ho2 := hoff (by omega)
        subst ho2
        rw [zcells_get (by rw [List.length_take, List.length_drop, HZL.out]; omega), at_take hjl, at_drop] at hu
        cases hu
        obtain ⟨b', off', e', _, _, _, hcc⟩ := (HZZ.out.calm hW).cell (by omega)
        cases e'
        have := hcc (stK Ns k + j) (by omega)
        rw [Nat.zero_add] at this
        rw [add_off]
        exact this)
      have HOFF := Lib.hid hoff
      clear hc ho hsp hsp1 hll hgr hga hbx hoff
      have hsg : g + 1 ≤ (wr.alloc (.cells #[.slice pl nl cl, .slice pq nq cq] 25)).heap.size := by
        obtain ⟨lv, _, h2, _⟩ := HSP.out
        exact h2.lt
      have HSG := Lib.hid hsg
      clear hsg
      go_wp2
      clear c0 c1
      generalize wr.alloc (.cells #[.slice pl nl cl, .slice pq nq cq] 25) = wx at *
      generalize wr.heap.size = gx at *
      have hr1 : nl ≤ N - stK Ns k := by omega
      have HSR : Hid (N - stK Ns (k + 1) = N - stK Ns k - nl) := Lib.hid (by rw [HSK.out]; omega)
      have HOF2 : Hid (¬ N - stK Ns k = nl → off + nl = stK Ns (k + 1)) := Lib.hid (fun h => by rw [HSK.out, HOFF.out (by omega)])
      have HOF3 : Hid (N - stK Ns k = nl → stK Ns (k + 1) < N → False) := Lib.hid (fun h h' => by rw [HSK.out] at h'; omega)
      have hrN : N - stK Ns k ≤ 40 := by omega
      clear hfit hf9
      generalize N - stK Ns k = r at *
      generalize hnews : zcells (((atZ J).drop (stK Ns k)).take nl) = news at *
      have HNS := Lib.hid hnews
      clear hnews
      have hone : ∀ u ∈ news, u.oneCell' = true := by rw [← HNS.out]; exact zcells_one _
      have HONE := Lib.hid hone
      clear hone
      have HEND : Hid (∀ pA cA wA, wA.ownsRow (g + 1) 3 1 (.slice pA (0 + nl) cA) (0 + nl) ([] ++ news) → wx.grownBy wA none → SpI (wA.setCell ⟨g, k, none⟩ (.slice pA nl cA)) g n (k + 1) (legD Ns J) ∧ w.grownBy (wA.setCell ⟨g, k, none⟩ (.slice pA nl cA)) none) := Lib.hid (by
        intro pA cA wA ho hg
        refine ⟨(HSP.out.calm hg).next hkn ?_, grownBy_setCell_new _ (grownBy_trans HGR.out hg) (by show _ ≤ g; rw [HGG.out]; exact Nat.le_refl _)⟩
        rw [List.nil_append, Nat.zero_add, ← HNS.out, ← HLK.out] at ho
        have hll : (legD Ns J k).length = nl := by have := HNW.out.2; rw [← HNS.out, ← HLK.out, zcells_len] at this; omega
        rw [← hll] at ho
        obtain ⟨p9, c9, e9, hz9⟩ := zsAt_own ho
        cases e9
        rw [← hll]
        exact hz9)
      by_cases hr : r = nl
      · subst hr
        have e1 : r - r = 0 := by omega
        go_region_law (refine step_append_any9 rfl (.tmp 27) (.tmp 30) 28 rfl (g + 1) 3 i0 (.int .i64 0) 1 8 Tryd.underlying28 hi0 hz0 hz1 hz2 rfl (by decide) (.slice none 0 0) 0 [] (by simp [Act.eval]) (World.ownsRow_nil _ _ _ _) ⟨gp, off, none⟩ r r news (by simp [Act.eval]) HNW.out.2 (by exact HSRC.out _ (grownBy_drewN wx 1 none)) HONE.out (by unfold maxLen; omega) (by omega) (by exact HSG.out) ?_; intro pA cA wA hownA hgrowA; have hgA : wx.grownBy wA none := grownBy_trans (grownBy_drewN wx 1 none) hgrowA; obtain ⟨t0, t1⟩ := (HSP.out.calm hgA).cell hkn; have HOWN := Lib.hid (HEND.out pA cA wA hownA hgA); clear hownA hgrowA hgA)
        all_goals
          obtain ⟨z1, z2⟩ := HOWN.out
          have Z1 := Lib.hid z1
          have Z2 := Lib.hid z2
          clear z1 z2
          generalize wA.setCell ⟨g, k, none⟩ (.slice pA r cA) = w9 at *
          go_wp2
          exact ⟨⟨k + 1, off, by omega, by go_num, by rw [HSR.out, Nat.sub_self], fun h => (HOF3.out rfl h).elim, Z1.out, Z2.out⟩, by simp [intOf]; omega⟩
      · have e1 : ¬ (r - nl = 0) := by omega
        have e2 : ¬ (r = nl) := hr
        have e3 : nl < r := by omega
        go_region_law (refine step_append_any9 rfl (.tmp 27) (.tmp 30) 28 rfl (g + 1) 3 i0 (.int .i64 0) 1 8 Tryd.underlying28 hi0 hz0 hz1 hz2 rfl (by decide) (.slice none 0 0) 0 [] (by simp [Act.eval]) (World.ownsRow_nil _ _ _ _) ⟨gp, off, none⟩ nl r news (by simp [Act.eval]) HNW.out.2 (by exact HSRC.out _ (grownBy_drewN wx 1 none)) HONE.out (by unfold maxLen; omega) (by omega) (by exact HSG.out) ?_; intro pA cA wA hownA hgrowA; have hgA : wx.grownBy wA none := grownBy_trans (grownBy_drewN wx 1 none) hgrowA; obtain ⟨t0, t1⟩ := (HSP.out.calm hgA).cell hkn; have HOWN := Lib.hid (HEND.out pA cA wA hownA hgA); clear hownA hgrowA hgA)
        all_goals
          obtain ⟨z1, z2⟩ := HOWN.out
          have Z1 := Lib.hid z1
          have Z2 := Lib.hid z2
          clear z1 z2
          generalize wA.setCell ⟨g, k, none⟩ (.slice pA nl cA) = w9 at *
          go_wp2
          exact ⟨⟨k + 1, off + nl, by omega, by go_num, by rw [HSR.out], fun _ => HOF2.out hr, Z1.out, Z2.out⟩, by simp [intOf]; omega⟩
    · obtain rfl : k = n := by omega
      have k1 : ¬ ((k : Int) < k) := by omega
      have HSP := Lib.hid hsp
      have HGR := Lib.hid hgr
      clear hsp hgr
      go_wp2
      go_ret
      exact ⟨_, rfl, HSP.out.end' (by rw [HGG.out]; exact Nat.le_refl _) (by rw [HNL.out]), HGR.out⟩

/-- The row of out, its first k places led. -/
def outK9 (U : List Int) (k : Nat) : List Int := U.take k ++ List.replicate (U.length - k) 0
theorem outK9_len {U : List Int} {k : Nat} (h : k ≤ U.length) : (outK9 U k).length = U.length := by simp [outK9]; omega
theorem outK9_zero (U : List Int) : outK9 U 0 = List.replicate U.length 0 := by simp [outK9]
theorem outK9_end (U : List Int) : outK9 U U.length = U := by simp [outK9]
theorem outK9_succ {U : List Int} {k : Nat} (h : k < U.length) : (outK9 U k).set k (U[k]?.getD 0) = outK9 U (k + 1) := by
  unfold outK9
  rw [List.set_append_right _ _ (by rw [List.length_take]; omega), List.length_take, Nat.min_eq_left (by omega), Nat.sub_self, List.take_add_one, List.getElem?_eq_getElem h, show U.length - k = (U.length - (k + 1)) + 1 by omega, List.replicate_succ, List.set_cons_zero, Option.toList_some, List.append_assoc]
  rfl

set_option maxRecDepth 20000 in
set_option maxHeartbeats 2000000 in
theorem out9_c (pq qq po ph : Option Addr) (N cN m0 d0 n co ch lo hi lo' hi' : Nat) (Ls Hs : List (List Int)) (U : List Int) (w : World) (hl : LegsAt w lo hi po n Ls) (hh : LegsAt w lo' hi' ph n Hs) (hn : n ≤ 100)
    (hz : ∀ k, k < n → thenL (lgA Ls k) U = lgA Hs k) (hs : ∀ k, k < n → (lgA Ls k).length ≤ 1000000) (hU : U.length = N) (hr : ∀ e, e < N → ∃ k, k < n ∧ ∃ x, x < (lgA Ls k).length ∧ (lgA Ls k)[x]?.getD 0 = (e : Int)) (hN : N ≤ 1000000) :
    Calls Tryd.prog 30 #[.agg #[.slice pq N cN, .slice qq m0 d0], .slice po n co, .slice ph n ch] w (RowPost U w) := by
  have hmk := run_make_row' (P := Tryd.prog) 28 3 (.int .i64 0) 8 Tryd.underlying28 Tryd.infoZ3 rfl .i64 .i64 N (by omega) (by omega)
  have HL := Lib.hid hl
  have HH := Lib.hid hh
  have HZ := Lib.hid hz
  have HS := Lib.hid hs
  have HR := Lib.hid hr
  have HU := Lib.hid hU
  clear hl hh hz hs hr hU
  go_enter Tryd.func30, Tryd.ntmps30
  go_wp2
  go_step3
  go_wp2
  go_step3
  go_wp2
  go_loopw [19] (fun i wr => ∃ k : Nat, k ≤ N ∧ i = .int .i64 k ∧ RowZ wr (w.heap.size + 1) (outK9 U k) ∧ w.grownBy wr none) (fun i _ => N - (intOf i).toNat)
  case atStart =>
    refine ⟨0, Nat.zero_le _, rfl, ?_, grownBy_trans (World.grownBy_alloc _ _ none) (World.grownBy_alloc _ _ none)⟩
    have h9 := rowZ_made (w.alloc (.cells #[.slice pq N cN, .slice qq m0 d0] 25)) N
    rw [World.size_alloc] at h9
    rw [outK9_zero, HU.out]
    exact h9
  case round =>
    obtain ⟨k, hk, rfl, hrow, hgr⟩ := hrel
    by_cases hkN : k < N
    · have k0 : (0 : Int) ≤ k := by omega
      have k1 : (k : Int) < N := by omega
      have HROW := Lib.hid hrow
      have HGR := Lib.hid hgr
      have HRK := Lib.hid (HR.out k hkN)
      clear hrow hgr
      generalize wr = wo at *
      go_wp2
      go_loopw [24] (fun i wi => ∃ j : Nat, j ≤ n ∧ i = .int .i64 j ∧ Hid (∀ q, q < j → ∀ x, x < (lgA Ls q).length → (lgA Ls q)[x]?.getD 0 ≠ (k : Int)) ∧ wi = wo) (fun i _ => n - (intOf i).toNat)
      case atStart => exact ⟨0, Nat.zero_le _, rfl, Lib.hid (fun q hq => absurd hq (Nat.not_lt_zero _)), rfl⟩
      case round =>
        obtain ⟨j, hj, rfl, HNO, rfl⟩ := hrel
        by_cases hjm : j < n
        · have j0 : (0 : Int) ≤ j := by omega
          have j1 : (j : Int) < n := by omega
          obtain ⟨bl, ol, rfl, _, _, _, hcl⟩ := (HL.out.calm HGR.out).cell (by omega)
          obtain ⟨pm, nm, cm, c0, z0⟩ := hcl j hjm
          obtain ⟨bh, oh, rfl, _, _, _, hch⟩ := (HH.out.calm HGR.out).cell (by omega)
          obtain ⟨pn, nn, cn, c1, z1⟩ := hch j hjm
          have hzj := HZ.out j hjm
          have hzl := z1.len
          rw [← hzj, thenL_len, z0.len] at hzl
          subst hzl
          have HX : Hid (∀ x, x < nm → (lgA Ls j)[x]?.getD 0 = (k : Int) → (lgA Hs j)[x]?.getD 0 = U[k]?.getD 0) := Lib.hid (fun x hx e => by rw [← hzj, thenL_get (by rw [z0.len]; exact hx), e, Int.toNat_natCast])
          have HX0 := Lib.hid z0
          have HX1 := Lib.hid z1
          have HXL := Lib.hid z0.len
          have hnm : nm ≤ 1000000 := by rw [← z0.len]; exact HS.out j hjm
          clear hcl hch z0 z1 hzj
          generalize hXj : lgA Ls j = Xj at *
          have HXJ := Lib.hid hXj
          clear hXj
          go_wp2
          go_loopw [31] (fun i wx => ∃ x : Nat, x ≤ nm ∧ i = .int .i64 x ∧ Hid (∀ y, y < x → Xj[y]?.getD 0 ≠ (k : Int)) ∧ wx = wr) (fun i _ => nm - (intOf i).toNat)
          case atStart => exact ⟨0, Nat.zero_le _, rfl, Lib.hid (fun y hy => absurd hy (Nat.not_lt_zero _)), rfl⟩
          case round =>
            obtain ⟨x, hx, rfl, HNX, rfl⟩ := hrel
            by_cases hxn : x < nm
            · have x0 : (0 : Int) ≤ x := by omega
              have x1 : (x : Int) < nm := by omega
              obtain ⟨ba, oa, rfl, _, _, _, hca⟩ := HX0.out.cell (by omega)
              obtain ⟨bb, ob, rfl, _, _, _, hcb⟩ := HX1.out.cell (by omega)
              have ca := hca x hxn
              have cb := hcb x hxn
              by_cases hz : Xj[x]?.getD 0 = (k : Int)
              · rw [HX.out x hxn hz] at cb
                rw [hz] at ca
                have hfz := HROW.out.free k
                have hck := HROW.out.cell (k := k) (by rw [outK9_len (by rw [HU.out]; exact hk), HU.out]; exact hkN)
                have HNEW := Lib.hid (HROW.out.set (k := k) (U[k]?.getD 0))
                rw [outK9_succ (by rw [HU.out]; exact hkN)] at HNEW
                have HGN := Lib.hid (grownBy_new HGR.out (grownBy_setCell wr ⟨w.heap.size + 1, k, none⟩ (.int .i64 (U[k]?.getD 0))) (by show w.heap.size ≤ w.heap.size + 1; omega))
                clear hca hcb hz
                generalize U[k]?.getD 0 = y at *
                go_wp2
                exact ⟨⟨k + 1, by omega, by go_num, HNEW.out, HGN.out⟩, by simp [intOf]; omega⟩
              · have HZN := Lib.hid hz
                clear hca hcb hz cb
                have hne : ¬ (Xj[x]?.getD 0 = (k : Int)) := HZN.out
                have HN2 : Hid (∀ y, y < x + 1 → Xj[y]?.getD 0 ≠ (k : Int)) := Lib.hid (fun y hy => by
                  by_cases e : y = x
                  · subst e; exact HZN.out
                  · exact HNX.out y (by omega))
                generalize Xj[x]?.getD 0 = z at *
                go_wp2
                exact ⟨⟨x + 1, by omega, by go_num, HN2, trivial⟩, by simp [intOf]; omega⟩
            · obtain rfl : x = nm := by omega
              have x1 : ¬ ((x : Int) < x) := by omega
              have HN2 : Hid (∀ q, q < j + 1 → ∀ y, y < (lgA Ls q).length → (lgA Ls q)[y]?.getD 0 ≠ (k : Int)) := Lib.hid (fun q hq y hy => by
                by_cases e : q = j
                · subst e
                  rw [HXJ.out] at hy ⊢
                  rw [HXL.out] at hy
                  exact HNX.out y hy
                · exact HNO.out q (by omega) y hy)
              go_wp2
              exact ⟨⟨j + 1, by omega, by go_num, HN2, trivial⟩, by simp [intOf]; omega⟩
        · exfalso
          obtain rfl : j = n := by omega
          obtain ⟨q, hq, x, hx, e⟩ := HRK.out
          exact HNO.out q hq x hx e
    · obtain rfl : k = N := by omega
      have k1 : ¬ ((k : Int) < k) := by omega
      have HROW := Lib.hid hrow
      have HGR := Lib.hid hgr
      clear hrow hgr
      go_wp2
      try rw [Exit.noGoto_ret]
      go_ret
      refine ⟨w.heap.size + 1, by rw [HU.out]; rfl, by omega, ?_, HGR.out⟩
      have := HROW.out
      rw [← HU.out, outK9_end] at this
      exact this

end Go.Proofs.YtemnbkenihldgaaDoor
