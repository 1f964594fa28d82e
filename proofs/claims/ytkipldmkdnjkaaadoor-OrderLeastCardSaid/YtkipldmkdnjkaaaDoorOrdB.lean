/- The contracts of package order: isAhead, classes. -/
import Derived.Test.YtkipldmkdnjkaaaDoorOrdA
namespace Go.Proofs.YtkipldmkdnjkaaaDoor
open Go.RowKit

set_option maxHeartbeats 1000000 in
theorem isAhead_c (lo hi p n ga la ca gb lb cb x y : Nat) (C : Nat → Nat → Bool) (w : World) (h : IsRel w lo hi p n C) (hx : w.cell? ⟨ga, 0, none⟩ = some (.int .i64 x)) (hy : w.cell? ⟨gb, 0, none⟩ = some (.int .i64 y)) (hla : 0 < la) (hlb : 0 < lb) (hxn : x < n) (hyn : y < n) :
    Calls Tryd.prog 21 #[.pointer (some ⟨p, 0, none⟩), .slice (some ⟨ga, 0, none⟩) la ca, .slice (some ⟨gb, 0, none⟩) lb cb] w fun e w' => e = .returned (.bool (decide (x ≠ y) && C x y)) ∧ ∃ m, w' = w.drewN m := by
  have H := Lib.hid h
  have HXN := Lib.hid hxn
  have HYN := Lib.hid hyn
  have a0 : (0 : Int) < la := by omega
  have b0 : (0 : Int) < lb := by omega
  clear h hxn hyn
  by_cases e : x = y
  · subst e
    have : (decide (x ≠ x) && C x x) = false := by simp
    rw [this]
    clear this
    go_enter Tryd.func21, Tryd.ntmps21
    go_wp2
    go_quiet (fail)
    go_wp2
    go_ret
    exact ⟨rfl, _, rfl⟩
  · have : (decide (x ≠ y) && C x y) = C x y := by simp [e]
    rw [this]
    clear this
    have hne : ¬ (x : Int) = y := by omega
    go_enter Tryd.func21, Tryd.ntmps21
    go_wp2
    go_quiet ((go_at_call 32; exact Calls.quiet_of (relHas_n lo hi p n x y C _ (by exact H.out.calm (grownBy_drewN w _ none)) HXN.out HYN.out)))
    go_wp2
    go_ret
    refine ⟨?_, _, rfl⟩
    show Ending.returned (.bool (((x : Int) != (y : Int)) && C x y)) = _
    have : ((x : Int) != (y : Int)) = true := by simp [bne]; omega
    rw [this]
    rfl


/-- The classes so far, in memory of their own. -/
def IsGrid (w : World) (base : Nat) (v : Value) (ls : List (List Nat)) : Prop := ∃ ib ic, Grid w base v ls ib ic
def GridPost (ls : List (List Nat)) (w : World) (e : Ending) (w' : World) : Prop := ∃ v, e = .returned v ∧ IsGrid w' w.heap.size v ls ∧ w.grownBy w' none

/-- What a round knows of the k-th class. -/
theorem Grid.nth {w : World} {base g m cap : Nat} {C : Nat → Nat → Bool} {a : Nat} {ib ic : Nat → Nat} (h : Grid w base (.slice (some ⟨g, 0, none⟩) m cap) (circL C a) ib ic) {k : Nat} (hk : k < (circL C a).length) :
    ∃ x l, (circL C a)[k]? = some l ∧ (leadsC C a)[k]? = some x ∧ x < a ∧ l.headD 0 = x ∧ 0 < l.length ∧ l.length ≤ a ∧ w.cell? ⟨g, k, none⟩ = some (.slice (some ⟨ib k, 0, none⟩) l.length (ic k)) ∧ w.cell? ⟨ib k, 0, none⟩ = some (.int .i64 x) ∧ RowI w base (ib k) (ic k) l := by
  have hl := List.getElem?_eq_getElem hk
  obtain ⟨x, r, e1, h1, h2, h3⟩ := circ_head hl
  obtain ⟨x', h4, h5⟩ := circ_get hl
  refine ⟨x, _, hl, h1, h2, by rw [e1]; rfl, by rw [e1]; simp, ?_, h.head hl, (h.row k _ hl).cell (j := 0) (by rw [e1]; rfl), h.row k _ hl⟩
  rw [h5]
  exact cls_le C a x'

theorem circ_le (C : Nat → Nat → Bool) (a : Nat) : (circL C a).length ≤ a := by rw [circ_length]; exact leads_le C a

set_option maxHeartbeats 4000000 in
theorem classes_c (lo hi p n : Nat) (C : Nat → Nat → Bool) (w : World) (h : IsRel w lo hi p n C) (ht : Trans C) : Calls Tryd.prog 20 #[.pointer (some ⟨p, 0, none⟩)] w (GridPost (circL C n) w) := by
  obtain ⟨i0, hi0, hz0, hz1, hz2⟩ := info_parts Tryd.infoI3
  obtain ⟨j0, hj0, hy0, hy1, hy2⟩ := info_parts Tryd.infoI41
  have H := Lib.hid h
  have HT := Lib.hid ht
  have hn := h.small
  clear h ht
  go_enter Tryd.func20, Tryd.ntmps20
  go_wp2
  go_step3
  go_wp2
  go_step3
  go_wp2_with fail
  refine (relLen_c lo hi p n C _ H.out).mono ?_
  rintro e w1 ⟨rfl, hw1⟩
  subst w1
  go_wp2
  go_loopw [3, 9] (fun v i wr => ∃ a : Nat, a ≤ n ∧ i = .int .i64 a ∧ IsGrid wr w.heap.size v (circL C a) ∧ w.grownBy wr none) (fun _ i _ => n - (intOf i).toNat)
  case atStart => exact ⟨0, Nat.zero_le _, rfl, ⟨fun _ => 0, fun _ => 0, grid_nil _ _ _ _⟩, grownBy_refl _ _⟩
  case round =>
    obtain ⟨a, ha, rfl, ⟨ib, ic, hgrid⟩, hgr⟩ := hrel
    obtain ⟨pg, cap, rfl, hpg⟩ := hgrid.slice
    have HGRID := Lib.hid hgrid
    have HGR := Lib.hid hgr
    have HPG := Lib.hid hpg
    clear hgrid hgr hpg
    have hlen := circ_le C a
    by_cases han : a < n
    · have HAN := Lib.hid han
      have hai : (a : Int) < n := by omega
      generalize hL : (circL C a).length = L at *
      have HL := Lib.hid hL
      clear hL
      go_wp2
      go_loopw [14] (fun i wi => ∃ k : Nat, k ≤ L ∧ i = .int .i64 k ∧ (∀ j x, j < k → (leadsC C a)[j]? = some x → ¬ (C a x = true ∧ C x a = true)) ∧ ∃ m, wi = wr.drewN m) (fun i _ => L - (intOf i).toNat)
      case atStart => exact ⟨0, Nat.zero_le _, rfl, fun j x hj => by omega, 0, rfl⟩
      case round =>
        obtain ⟨k, hk, rfl, hno, m, rfl⟩ := hrel
        have HNO := Lib.hid hno
        clear hno
        by_cases hkl : k < L
        · obtain ⟨g, rfl, hgb, hgl⟩ := HPG.out k hkl
          obtain ⟨x, l, q1, q2, q3, q4, q5, q6, q7, q8, q9⟩ := HGRID.out.nth (k := k) (by rw [HL.out]; exact hkl)
          have HQ1 := Lib.hid q1
          have HQ2 := Lib.hid q2
          have HQ9 := Lib.hid q9
          have k0 : (0 : Int) ≤ k := by omega
          have k1 : (k : Int) < L := by omega
          have l0 : (0 : Int) < l.length := by omega
          have HXN := Lib.hid (show x < n by omega)
          have hsz : w.heap.size ≤ wr.heap.size := HGR.out.size
          clear q1 q2 q4 q9
          go_wp2_with fail
          refine (relHas_n lo hi p n a x C _ (H.out.calm (grownBy_trans HGR.out (grownBy_drewN wr m none))) HAN.out HXN.out).mono ?_
          rintro e w' ⟨he, m', rfl⟩
          cases hax : C a x
          · rw [hax] at he
            subst he
            have HAX := Lib.hid hax
            clear hax
            go_wp2
            refine ⟨⟨k + 1, by omega, by go_num, fun j y hj hy => ?_, _, rfl⟩, by simp [intOf]; omega⟩
            by_cases e : j = k
            · subst e
              rw [HQ2.out] at hy
              cases hy
              rw [HAX.out]
              simp
            · exact HNO.out j y (by omega) hy
          · rw [hax] at he
            subst he
            have HAX := Lib.hid hax
            clear hax
            go_wp2_with fail
            refine (relHas_n lo hi p n x a C _ (H.out.calm (grownBy_trans HGR.out (grownBy_drewN wr _ none))) HXN.out HAN.out).mono ?_
            rintro e w' ⟨he, m'', rfl⟩
            cases hxa : C x a
            · rw [hxa] at he
              subst he
              have HXA := Lib.hid hxa
              clear hxa
              go_wp2
              refine ⟨⟨k + 1, by omega, by go_num, fun j y hj hy => ?_, _, rfl⟩, by simp [intOf]; omega⟩
              by_cases e : j = k
              · subst e
                rw [HQ2.out] at hy
                cases hy
                rw [HXA.out]
                simp
              · exact HNO.out j y (by omega) hy
            · rw [hxa] at he
              subst he
              have HHIT := Lib.hid (circ_hit HT.out HQ1.out HQ2.out ⟨HAX.out, hxa⟩)
              have HGM : Hid (Grid ((wr.drewN (m + m')).drewN m'') w.heap.size (.slice (some ⟨g, 0, none⟩) L cap) (circL C a) ib ic) := Lib.hid (HGRID.out.calm (grownBy_trans (grownBy_drewN wr (m + m') none) (grownBy_drewN _ m'' none)))
              have HGRM : Hid (w.grownBy ((wr.drewN (m + m')).drewN m'') none) := Lib.hid (grownBy_trans HGR.out (grownBy_trans (grownBy_drewN wr (m + m') none) (grownBy_drewN _ m'' none)))
              have hszm : w.heap.size ≤ ((wr.drewN (m + m')).drewN m'').heap.size := hsz
              have hglm : g < ((wr.drewN (m + m')).drewN m'').heap.size := hgl
              have HQM : Hid (RowI ((wr.drewN (m + m')).drewN m'') w.heap.size (ib k) (ic k) l) := Lib.hid (HQ9.out.calm (grownBy_trans (grownBy_drewN wr (m + m') none) (grownBy_drewN _ m'' none)))
              have q7m : ((wr.drewN (m + m')).drewN m'').cell? ⟨g, k, none⟩ = some (.slice (some ⟨ib k, 0, none⟩) l.length (ic k)) := q7
              have HGN : Hid (some g ≠ (Value.slice (some ⟨ib k, 0, none⟩) l.length (ic k)).ownBlock) := Lib.hid (by
                have := HGRID.out.out_ne (k := k) (by rw [HL.out]; exact hkl)
                simpa [Value.ownBlock] using this)
              clear hxa HAX HNO HGRID HGR HQ9 HPG q7 q8 hsz hgl
              generalize (wr.drewN (m + m')).drewN m'' = wm at *
              have HCA : Hid (∀ o, (wm.alloc o).cell? ⟨g, k, none⟩ = some (.slice (some ⟨ib k, 0, none⟩) l.length (ic k))) := Lib.hid fun o => (World.cell?_of_block (a := ⟨g, k, none⟩) ((World.grownBy_alloc wm o none).block g hglm (by simp))).trans q7m
              have HFA : Hid (∀ o, (wm.alloc o).frozen? ⟨g, k, none⟩ = false) := Lib.hid fun o => (World.frozen?_of_block (a := ⟨g, k, none⟩) ((World.grownBy_alloc wm o none).block g hglm (by simp))).trans (HGM.out.free k)
              go_wp2_with (at_builtin; refine wpList_append_lies _ rfl _ _ 41 rfl w.heap.size 3 i0 (.int .i64 0) 1 8 Tryd.underlying41 hi0 hz0 hz1 hz2 rfl (by decide) _ _ _ rfl (HQM.out.alloc _) ⟨wm.heap.size, 0, none⟩ 1 1 [.int .i64 a] rfl rfl (World.news_of_block (heap_alloc_new wm _)) (by simp [Value.oneCell']) (by decide) (by unfold maxLen; omega) (by omega) (by simp; omega) _ rfl ?_; intro g' cap' w2 hown' hgrow hor hlt'; have c2 := World.grownBy.cell hgrow (a := ⟨g, k, none⟩) (HCA.out _) HGN.out; have f2 := (World.grownBy.frozen_far hgrow ⟨g, k, none⟩ (by simp; omega) HGN.out).trans (HFA.out _); have HOWN := Lib.hid hown'; have HGROW := Lib.hid hgrow; have HOR := Lib.hid hor; clear hown' hgrow hor)
              refine ⟨⟨a + 1, HAN.out, by go_num, ?_⟩, by simp [intOf]; omega⟩
              have hgk : wm.grownBy w2 (some (ib k)) := grownBy_trans (World.grownBy_alloc wm _ _) HGROW.out
              have hrow : RowI w2 w.heap.size g' cap' (l ++ [a]) := by
                have := HOWN.out
                unfold RowI
                simpa [iv] using this
              have hne : g' = ib k ∨ wm.heap.size ≤ g' := by
                rcases HOR.out with e | e
                · left; exact (Option.some.inj (show some (ib k) = some g' from e)).symm
                · right; rw [e]; simp
              obtain ⟨r1, r2⟩ := HGM.out.grow HQ1.out hgk hrow hne
              rw [List.length_append, List.length_singleton] at r1 r2
              refine ⟨⟨_, _, by rw [HHIT.out]; exact r1⟩, ?_⟩
              have hbk := HQM.out.lt.1
              exact grownBy_new (grownBy_new HGRM.out hgk hbk) r2 hgb
        · obtain rfl : k = L := by omega
          have HMISS := Lib.hid (circ_miss HT.out (a := a) fun j x hj => HNO.out j x (by rw [← HL.out, circ_length]; exact (List.getElem?_eq_some_iff.1 hj).1) hj)
          have HGM : Hid (Grid (wr.drewN m) w.heap.size (.slice pg k cap) (circL C a) ib ic) := Lib.hid (HGRID.out.calm (grownBy_drewN wr m none))
          have HGRM : Hid (w.grownBy (wr.drewN m) none) := Lib.hid (grownBy_trans HGR.out (grownBy_drewN wr m none))
          have HO : Hid ((wr.drewN m).ownsRow w.heap.size 41 1 (.slice pg k cap) k (hdr ib ic (circL C a))) := Lib.hid (by have := HGM.out.out; rwa [HL.out] at this)
          have hszm : w.heap.size ≤ (wr.drewN m).heap.size := HGRM.out.size
          clear HNO HGRID HGR HPG
          generalize wr.drewN m = wm at *
          have HNEWS : Hid (∀ j u, [Value.slice (some ⟨wm.heap.size, 0, none⟩) 1 1][j]? = some u → ((wm.alloc (.cells #[.int .i64 a] 3)).alloc (.cells #[.slice (some ⟨wm.heap.size, 0, none⟩) 1 1] 41)).cell? ((⟨wm.heap.size + 1, 0, none⟩ : Addr).add j) = some u) := Lib.hid (by
            have h9 := heap_alloc_new (wm.alloc (.cells #[.int .i64 a] 3)) (.cells #[.slice (some ⟨wm.heap.size, 0, none⟩) 1 1] 41)
            have e9 : (wm.alloc (.cells #[.int .i64 a] 3)).heap.size = wm.heap.size + 1 := by simp
            rw [e9] at h9
            exact World.news_of_block h9)
          go_wp2_with (at_builtin; refine wpList_append_lies _ rfl _ _ 39 rfl w.heap.size 41 j0 (.slice none 0 0) 1 24 Tryd.underlying39 hj0 hy0 hy1 hy2 rfl (by decide) _ _ _ rfl ((HO.out.alloc _).alloc _) ⟨wm.heap.size + 1, 0, none⟩ 1 1 [.slice (some ⟨wm.heap.size, 0, none⟩) 1 1] rfl rfl HNEWS.out (by simp [Value.oneCell']) (by decide) (by unfold maxLen; omega) (by omega) (by simp; omega) _ rfl ?_; intro g' cap' w2 hown' hgrow hor hlt'; have HOWN := Lib.hid hown'; have HGROW := Lib.hid hgrow; have HOR := Lib.hid hor; clear hown' hgrow hor)
          refine ⟨⟨a + 1, HAN.out, by go_num, ?_⟩, by simp [intOf]; omega⟩
          have hga : wm.grownBy ((wm.alloc (.cells #[.int .i64 a] 3)).alloc (.cells #[.slice (some ⟨wm.heap.size, 0, none⟩) 1 1] 41)) none := grownBy_trans (World.grownBy_alloc wm _ none) (World.grownBy_alloc _ _ none)
          have hrow : RowI w2 w.heap.size wm.heap.size 1 [a] := by
            refine ⟨rfl, .inr ⟨wm.heap.size, 1, #[.int .i64 a], rfl, hszm, ?_, Nat.le_refl _, by decide, rfl, rfl⟩⟩
            rw [HGROW.out.block wm.heap.size (by simp; omega) (fun e => by have := HO.out.lt _ e.symm; omega), heap_alloc_old _ _ (by simp)]
            exact heap_alloc_new wm _
          have hs := Grid.snoc (HGM.out.calm hga) HGROW.out hrow (fun j hj => by have := (HGM.out.row j _ (List.getElem?_eq_getElem hj)).lt; omega) (by rw [HL.out]; exact HOWN.out)
          refine ⟨⟨_, _, by rw [HMISS.out]; exact hs⟩, ?_⟩
          have h1 := grownBy_trans HGRM.out hga
          have hgrow' : ((wm.alloc (.cells #[.int .i64 a] 3)).alloc (.cells #[.slice (some ⟨wm.heap.size, 0, none⟩) 1 1] 41)).grownBy w2 (Value.slice pg k cap).ownBlock := HGROW.out
          cases hob : (Value.slice pg k cap).ownBlock with
          | none => rw [hob] at hgrow'; exact grownBy_trans h1 hgrow'
          | some r => rw [hob] at hgrow'; exact grownBy_new h1 hgrow' (HO.out.lt r hob).1
    · obtain rfl : a = n := by omega
      go_wp2
      try rw [Exit.noGoto_ret]
      go_ret
      exact ⟨_, rfl, ⟨ib, ic, HGRID.out⟩, HGR.out⟩

end Go.Proofs.YtkipldmkdnjkaaaDoor
