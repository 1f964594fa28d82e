/- The contracts of Circles, Classes of package centoref2. -/
import Derived.Test.YtkipldmkdnjkaaaRefA
namespace Go.Proofs.Ytkipldmkdnjkaaa
open Go.RowKit

/-- Whole classes, of the least elements below a. -/
def circM (C : Nat → Nat → Bool) (n a : Nat) : List (List Nat) := (leadsC C a).map (clsC C n)
theorem circM_yes {C : Nat → Nat → Bool} {n a : Nat} (h : leadC C a = true) : circM C n (a + 1) = circM C n a ++ [clsC C n a] := by
  unfold circM
  rw [leads_succ, h, if_pos rfl, List.map_append]
  rfl
theorem circM_no {C : Nat → Nat → Bool} {n a : Nat} (h : leadC C a = false) : circM C n (a + 1) = circM C n a := by
  unfold circM
  rw [leads_succ, h]
  simp
theorem circM_len (C : Nat → Nat → Bool) (n a : Nat) : (circM C n a).length ≤ a := by
  unfold circM
  rw [List.length_map]
  exact leads_le C a
theorem cls_none {C : Nat → Nat → Bool} {a : Nat} (h : leadC C a = true) : clsC C a a = [] := by
  unfold clsC
  rw [List.filter_eq_nil_iff]
  intro b hb
  rw [leadC_iff] at h
  simp [h b (by simpa using hb)]

/-- A row of ints of its own, empty or not. -/
def OwnI (w : World) (base : Nat) (v : Value) (l : List Nat) : Prop := ∃ p c, v = .slice p l.length c ∧ w.ownsRow base 3 1 (.slice p l.length c) l.length (l.map iv)

set_option maxHeartbeats 4000000 in
theorem matCircles_c (lo hi p n : Nat) (C : Nat → Nat → Bool) (w : World) (h : IsMat w lo hi p n C) : Calls Try.prog 10 #[.pointer (some ⟨p, 0, none⟩)] w (GridPost (circL C n) w) := by
  obtain ⟨i0, hi0, hz0, hz1, hz2⟩ := info_parts Try.infoI3
  obtain ⟨j0, hj0, hy0, hy1, hy2⟩ := info_parts Try.infoI32
  have hn := h.small
  have H := Lib.hid h
  clear h
  go_enter Try.func10, Try.ntmps10
  go_wp2
  go_loopw [3, 4] (fun v i wr => ∃ a : Nat, a ≤ n ∧ i = .int .i64 a ∧ IsGrid wr w.heap.size v (circM C n a) ∧ w.grownBy wr none) (fun _ i _ => n - (intOf i).toNat)
  case atStart => exact ⟨0, Nat.zero_le _, rfl, ⟨fun _ => 0, fun _ => 0, grid_nil _ _ _ _⟩, grownBy_refl _ _⟩
  case round =>
    obtain ⟨a, ha, rfl, ⟨ib, ic, hgrid⟩, hgr⟩ := hrel
    have hc0 := (H.out.calm hgr).c0
    obtain ⟨pg, cap, rfl, hpg⟩ := hgrid.slice
    have HGRID := Lib.hid hgrid
    have HMAT := Lib.hid (H.out.calm hgr)
    have HGR := Lib.hid hgr
    have hlen := circM_len C n a
    clear hgrid hgr hpg
    by_cases han : a < n
    · have HAN := Lib.hid han
      have a0 : (0 : Int) ≤ a := by omega
      have a1 : (a : Int) < n := by omega
      generalize hL : (circM C n a).length = L at *
      have HL := Lib.hid hL
      clear hL
      go_wp2
      go_loopw [5, 6] (fun f i wi => ∃ b : Nat, b ≤ a ∧ i = .int .i64 b ∧ f = .bool ((List.range b).all fun b => !oneC C a b) ∧ wr = wi) (fun _ i _ => a - (intOf i).toNat)
      case atStart => exact ⟨0, Nat.zero_le _, rfl, rfl, rfl⟩
      case round =>
        obtain ⟨b, hb, rfl, rfl, rfl⟩ := hrel
        by_cases hba : b < a
        · have hbn : b < n := by omega
          have HBN := Lib.hid hbn
          have b1 : (b : Int) < a := by omega
          have HSUC := Lib.hid (all_succ (fun b => !oneC C a b) b)
          generalize hF : (List.range b).all (fun b => !oneC C a b) = F at *
          clear hF
          cases F
          · go_wp2
            exact ⟨⟨b + 1, by omega, by go_num, by rw [HSUC.out]; rfl, trivial⟩, by simp [intOf]; omega⟩
          · go_wp2_with fail
            refine (matOne_c lo hi p n a b C _ HMAT.out HAN.out HBN.out).mono ?_
            rintro e w' ⟨rfl, hw'⟩
            subst w'
            generalize oneC C a b = o at *
            go_wp2
            exact ⟨⟨b + 1, by omega, by go_num, by rw [HSUC.out]; cases o <;> rfl, trivial⟩, by simp [intOf]; omega⟩
        · obtain rfl : b = a := by omega
          cases hF : (List.range b).all (fun c => !oneC C b c)
          · have HNO := Lib.hid (circM_no (n := n) (show leadC C b = false from hF))
            have HG2 := Lib.hid HGRID.out
            rw [← HNO.out] at HG2
            clear hF
            go_wp2
            exact ⟨⟨b + 1, by omega, by go_num, ⟨ib, ic, HG2.out⟩, HGR.out⟩, by simp [intOf]; omega⟩
          · have HLEAD := Lib.hid (show leadC C b = true from hF)
            clear hF
            go_wp2
            generalize wr = wo at *
            go_loopw [7, 8] (fun v i wi => ∃ d : Nat, b ≤ d ∧ d ≤ n ∧ i = .int .i64 d ∧ OwnI wi wo.heap.size v (clsC C d b) ∧ wo.grownBy wi none) (fun _ i _ => n - (intOf i).toNat)
            case atStart => exact ⟨b, Nat.le_refl _, by omega, rfl, ⟨none, 0, by rw [cls_none HLEAD.out]; rfl, by rw [cls_none HLEAD.out]; exact World.ownsRow_nil _ _ _ _⟩, grownBy_refl _ _⟩
            case round =>
              obtain ⟨d, hbd, hdn, rfl, ⟨pc, cc, rfl, hown⟩, hgi⟩ := hrel
              have hc0' := (H.out.calm (grownBy_trans HGR.out hgi)).c0
              have HMI := Lib.hid (H.out.calm (grownBy_trans HGR.out hgi))
              have HOWN := Lib.hid hown
              have HGI := Lib.hid hgi
              have hcl := cls_le C d b
              clear hown hgi
              by_cases hd : d < n
              · have HDN := Lib.hid hd
                have d1 : (d : Int) < n := by omega
                have HCS := Lib.hid (cls_succ C d b)
                generalize clsC C d b = cl at *
                have hso : wo.heap.size ≤ wr.heap.size := HGI.out.size
                go_wp2_with fail
                refine (matOne_c lo hi p n b d C _ HMI.out HAN.out HDN.out).mono ?_
                rintro e w' ⟨he, hw'⟩
                subst w'
                cases ho : oneC C b d
                · rw [ho] at he
                  subst he
                  have HE : Hid (clsC C (d + 1) b = cl) := Lib.hid (by rw [HCS.out, ho]; simp)
                  clear ho
                  go_wp2
                  exact ⟨⟨d + 1, by omega, by omega, by go_num, ⟨pc, cc, by rw [HE.out], by rw [HE.out]; exact HOWN.out⟩, HGI.out⟩, by simp [intOf]; omega⟩
                · rw [ho] at he
                  subst he
                  have HE : Hid (clsC C (d + 1) b = cl ++ [d]) := Lib.hid (by rw [HCS.out, ho]; rfl)
                  clear ho
                  go_wp2_with (at_builtin; refine wpList_append_lies _ rfl _ _ 32 rfl wo.heap.size 3 i0 (.int .i64 0) 1 8 Try.underlying32 hi0 hz0 hz1 hz2 rfl (by decide) _ _ _ rfl (HOWN.out.alloc _) ⟨wr.heap.size, 0, none⟩ 1 1 [.int .i64 d] rfl rfl (World.news_of_block (heap_alloc_new wr _)) (by simp [Value.oneCell']) (by decide) (by unfold maxLen; omega) (by omega) (by simp; omega) _ rfl ?_; intro g' cap' w2 hown' hgrow hor hlt'; have HOWN2 := Lib.hid hown'; have HGROW := Lib.hid hgrow; clear hown' hgrow hor)
                  refine ⟨⟨d + 1, by omega, by omega, by go_num, ⟨some ⟨g', 0, none⟩, cap', by rw [HE.out]; simp, by rw [HE.out]; simpa [iv] using HOWN2.out⟩, ?_⟩, by simp [intOf]; omega⟩
                  have hga := grownBy_trans HGI.out (World.grownBy_alloc wr (.cells #[.int .i64 d] 3) none)
                  have hgrow' : (wr.alloc (.cells #[.int .i64 d] 3)).grownBy w2 (Value.slice pc cl.length cc).ownBlock := HGROW.out
                  cases hob : (Value.slice pc cl.length cc).ownBlock with
                  | none => rw [hob] at hgrow'; exact grownBy_trans hga hgrow'
                  | some r =>
                    rw [hob] at hgrow'
                    exact grownBy_new hga hgrow' (HOWN.out.lt r hob).1
              · obtain rfl : d = n := by omega
                have hc0l : 0 < (clsC C d b).length := by
                  obtain ⟨r, hr⟩ := cls_head HAN.out HLEAD.out
                  rw [hr]; simp
                obtain ⟨gc, cc', hv, hgc1, hgc2⟩ := HOWN.out.form hc0l
                cases hv
                have HROW : Hid (RowI wr wo.heap.size gc cc (clsC C d b)) := Lib.hid HOWN.out
                have HYES := Lib.hid (circM_yes (n := d) HLEAD.out)
                have HG2 := Lib.hid (HGRID.out.calm HGI.out)
                have HO : Hid (wr.ownsRow w.heap.size 32 1 (.slice pg L cap) L (hdr ib ic (circM C d b))) := Lib.hid (by have := HG2.out.out; rwa [HL.out] at this)
                have hlt : ∀ j, j < (circM C d b).length → ib j < wo.heap.size := fun j hj => ((HGRID.out.row j _ (List.getElem?_eq_getElem hj)).lt).2
                have HLT := Lib.hid hlt
                have HGR2 := Lib.hid (grownBy_trans HGR.out HGI.out)
                have hsw := HGR.out.size
                have hsi := HGI.out.size
                clear HOWN hlt hc0l
                generalize clsC C d b = cl at *
                generalize circM C d b = cm at *
                have HNEWS : Hid (∀ j u, [Value.slice (some ⟨gc, 0, none⟩) cl.length cc][j]? = some u → (wr.alloc (.cells #[.slice (some ⟨gc, 0, none⟩) cl.length cc] 32)).cell? ((⟨wr.heap.size, 0, none⟩ : Addr).add j) = some u) := Lib.hid (World.news_of_block (heap_alloc_new wr _))
                go_wp2_with (at_builtin; refine wpList_append_lies _ rfl _ _ 28 rfl w.heap.size 32 j0 (.slice none 0 0) 1 24 Try.underlying28 hj0 hy0 hy1 hy2 rfl (by decide) _ _ _ rfl (HO.out.alloc _) ⟨wr.heap.size, 0, none⟩ 1 1 [.slice (some ⟨gc, 0, none⟩) cl.length cc] rfl rfl HNEWS.out (by simp [Value.oneCell']) (by decide) (by unfold maxLen; omega) (by omega) (by simp; omega) _ rfl ?_; intro g' cap' w2 hown' hgrow hor hlt'; have HOWN2 := Lib.hid hown'; have HGROW := Lib.hid hgrow; clear hown' hgrow hor)
                refine ⟨⟨b + 1, by omega, by go_num, ?_⟩, by simp [intOf]; omega⟩
                have hga : wr.grownBy (wr.alloc (.cells #[.slice (some ⟨gc, 0, none⟩) cl.length cc] 32)) none := World.grownBy_alloc wr _ none
                have hgrow' : (wr.alloc (.cells #[.slice (some ⟨gc, 0, none⟩) cl.length cc] 32)).grownBy w2 (Value.slice pg L cap).ownBlock := HGROW.out
                have hgn : (Value.slice pg L cap).ownBlock ≠ some gc := by
                  intro e
                  obtain ⟨c1, f1, e1⟩ := Lib.ownsRow_kind HO.out _ e
                  obtain ⟨c2, f2, e2⟩ := HROW.out.kind
                  rw [e1] at e2
                  simp at e2
                have hs := Grid.snoc (HG2.out.calm hga) hgrow' (((HROW.out.calm hga).kept hgrow' hgn).mono hsw) (fun j hj => by have := HLT.out j hj; omega) (by rw [HL.out]; exact HOWN2.out)
                refine ⟨⟨_, _, by rw [HYES.out]; exact hs⟩, ?_⟩
                have h1 := grownBy_trans HGR2.out hga
                cases hob : (Value.slice pg L cap).ownBlock with
                | none => rw [hob] at hgrow'; exact grownBy_trans h1 hgrow'
                | some r => rw [hob] at hgrow'; exact grownBy_new h1 hgrow' (HO.out.lt r hob).1
    · obtain rfl : a = n := by omega
      have HE : Hid (Grid wr w.heap.size (.slice pg (circM C a a).length cap) (circL C a) ib ic) := Lib.hid HGRID.out
      clear HGRID
      generalize (circM C a a).length = L at *
      go_wp2
      go_ret
      exact ⟨_, rfl, ⟨ib, ic, HE.out⟩, HGR.out⟩

end Go.Proofs.Ytkipldmkdnjkaaa
