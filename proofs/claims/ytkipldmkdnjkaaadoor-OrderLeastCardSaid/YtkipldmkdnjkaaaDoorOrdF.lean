/- The contract of Sort of package order. -/
import Derived.Test.YtkipldmkdnjkaaaDoorOrdE
namespace Go.Proofs.YtkipldmkdnjkaaaDoor
open Go.RowKit

/-- Rows that begin with an element below n, and hold n at most. -/
def RowsOk (n : Nat) (ls : List (List Nat)) : Prop := ∀ l ∈ ls, (∃ x r, l = x :: r ∧ x < n) ∧ l.length ≤ n
theorem RowsOk.erase {n : Nat} {ls : List (List Nat)} (h : RowsOk n ls) (k : Nat) : RowsOk n (ls.eraseIdx k) := fun l hl => h l (List.mem_of_mem_eraseIdx hl)
theorem rowsOk_circ (C : Nat → Nat → Bool) (n : Nat) : RowsOk n (circL C n) := fun l hl => by
  obtain ⟨i, hi⟩ := List.getElem?_of_mem hl
  obtain ⟨x, r, h1, _, h2, _⟩ := circ_head hi
  obtain ⟨y, _, h3⟩ := circ_get hi
  exact ⟨⟨x, r, h1, h2⟩, by rw [h3]; exact cls_le _ _ _⟩

theorem isAhead_l (lo hi p n i j base g m cap : Nat) (C : Nat → Nat → Bool) (w : World) (ib ic : Nat → Nat) (ls : List (List Nat)) (h : IsRel w lo hi p n C) (hg : Grid w base (.slice (some ⟨g, 0, none⟩) m cap) ls ib ic) (hok : RowsOk n ls) (f t : List Nat) (hf : ls[i]? = some f) (ht : ls[j]? = some t) :
    Calls Tryd.prog 21 #[.pointer (some ⟨p, 0, none⟩), .slice (some ⟨ib i, 0, none⟩) f.length (ic i), .slice (some ⟨ib j, 0, none⟩) t.length (ic j)] w fun e w' => e = .returned (.bool (aheadL C f t)) ∧ ∃ m, w' = w.drewN m := by
  obtain ⟨⟨x, r, rfl, hx⟩, _⟩ := hok f (List.mem_of_getElem? hf)
  obtain ⟨⟨y, r', rfl, hy⟩, _⟩ := hok t (List.mem_of_getElem? ht)
  exact isAhead_c lo hi p n (ib i) _ (ic i) (ib j) _ (ic j) x y C w h ((hg.row i _ hf).cell (j := 0) rfl) ((hg.row j _ ht).cell (j := 0) rfl) (by simp) (by simp) hx hy

def skip (k : Nat) (f : Nat → Nat) (i : Nat) : Nat := if i < k then f i else f (i + 1)
theorem hdr_erase (ib ic : Nat → Nat) (ls : List (List Nat)) (k : Nat) : hdr (skip k ib) (skip k ic) (ls.eraseIdx k) = (hdr ib ic ls).eraseIdx k := by
  apply List.ext_getElem?
  intro i
  unfold hdr
  rw [List.getElem?_mapIdx, List.getElem?_eraseIdx, List.getElem?_eraseIdx]
  unfold skip
  split <;> rw [List.getElem?_mapIdx]
theorem Grid.erase {w w' : World} {base g L cap k : Nat} {ls : List (List Nat)} {ib ic : Nat → Nat} (h : Grid w base (.slice (some ⟨g, 0, none⟩) L cap) ls ib ic) (hk : k < ls.length)
    (ho : w'.ownsRow base 41 1 (.slice (some ⟨g, 0, none⟩) (ls.length - 1) cap) (ls.length - 1) ((hdr ib ic ls).eraseIdx k)) (hg : w.grownBy w' (some g)) :
    Grid w' base (.slice (some ⟨g, 0, none⟩) (ls.length - 1) cap) (ls.eraseIdx k) (skip k ib) (skip k ic) := by
  have hl : (ls.eraseIdx k).length = ls.length - 1 := by rw [List.length_eraseIdx, if_pos hk]
  have keep : ∀ i l, ls[i]? = some l → RowI w' base (ib i) (ic i) l := fun i l hi =>
    (h.row i l hi).kept hg (h.out_ne (List.getElem?_eq_some_iff.1 hi).1)
  refine ⟨by rw [hdr_erase, hl]; exact ho, fun i l hi => ?_, fun i j hi hj e => ?_⟩
  · rw [List.getElem?_eraseIdx] at hi
    unfold skip
    split
    · rename_i c
      rw [if_pos c] at hi
      exact keep i l hi
    · rename_i c
      rw [if_neg c] at hi
      exact keep (i + 1) l hi
  · rw [hl] at hi hj
    unfold skip at e
    split at e <;> split at e <;> have := h.ap _ _ (by omega) (by omega) e <;> omega

theorem sortK_len {C : Nat → Nat → Bool} {n : Nat} {ls : List (List Nat)} (h : RowsOk n ls) (r : Nat) : RowsOk n (sortK C ls r).1 ∧ (sortK C ls r).2.length ≤ r * n ∧ (sortK C ls r).1.length ≤ ls.length := by
  induction r with
  | zero => exact ⟨h, by simp [sortK], Nat.le_refl _⟩
  | succ r ih =>
    rw [sortK]
    unfold stepL
    obtain ⟨h1, h2, h3⟩ := ih
    rw [Nat.succ_mul]
    split
    · rename_i k hk
      refine ⟨h1.erase k, ?_, Nat.le_trans (List.length_eraseIdx_le _ _) h3⟩
      rw [List.length_append]
      have : ((sortK C ls r).1.getD k []).length ≤ n := by
        rw [List.getD_eq_getElem?_getD]
        cases e : (sortK C ls r).1[k]? with
        | none => simp
        | some l => exact (h1 l (List.mem_of_getElem? e)).2
      omega
    · exact ⟨h1, by omega, h3⟩

theorem step_some {C : Nat → Nat → Bool} {left : List (List Nat)} {out : List Nat} {k : Nat} {l : List Nat} (hl : left[k]? = some l) (hf : freeL C left l = true) (hb : ∀ j l', j < k → left[j]? = some l' → freeL C left l' = false) : stepL C (left, out) = (left.eraseIdx k, out ++ l) := by
  have : left.findIdx? (freeL C left) = some k := by
    rw [List.findIdx?_eq_some_iff_getElem]
    obtain ⟨h1, h2⟩ := List.getElem?_eq_some_iff.1 hl
    refine ⟨h1, by rw [h2]; exact hf, fun j hj => ?_⟩
    rw [hb j _ hj (List.getElem?_eq_getElem (Nat.lt_trans hj h1))]
    simp
  unfold stepL
  simp only [this]
  rw [List.getD_eq_getElem?_getD, hl]
  rfl
theorem step_none {C : Nat → Nat → Bool} {left : List (List Nat)} {out : List Nat} (hb : ∀ (j : Nat) l', left[j]? = some l' → freeL C left l' = false) : stepL C (left, out) = (left, out) := by
  have : left.findIdx? (freeL C left) = none := by
    rw [List.findIdx?_eq_none_iff]
    intro x hx
    obtain ⟨j, hj⟩ := List.getElem?_of_mem hx
    exact hb j x hj
  unfold stepL
  simp only [this]

/-- The row so far, and those left. -/
structure SortIn (w : World) (base : Nat) (v u : Value) (left : List (List Nat)) (out : List Nat) : Prop where
  ex : ∃ sg sc ib ic, Grid w base v left ib ic ∧ u = .slice (some ⟨sg, 0, none⟩) out.length sc ∧ RowI w base sg sc out ∧ ∀ k, k < left.length → ib k ≠ sg

theorem all_take_succ (f : List Nat → Bool) {ls : List (List Nat)} {j : Nat} {l : List Nat} (h : ls[j]? = some l) : (ls.take (j + 1)).all f = ((ls.take j).all f && f l) := by
  rw [List.take_add_one, h, List.all_append]
  simp
theorem all_false {f : List Nat → Bool} {ls : List (List Nat)} {j : Nat} {l : List Nat} (h : ls[j]? = some l) (hf : f l = false) : ls.all f = false := by
  cases e : ls.all f with
  | false => rfl
  | true =>
    rw [List.all_eq_true] at e
    rw [e l (List.mem_of_getElem? h)] at hf
    cases hf

set_option maxHeartbeats 4000000 in
theorem sort_c (lo hi p n : Nat) (R : Nat → Nat → Bool) (w : World) (h : IsRel w lo hi p n R) : Calls Tryd.prog 13 #[.pointer (some ⟨p, 0, none⟩)] w (IntsPost (sortL (clo n R) n) w) := by
  obtain ⟨i0, hi0, hz0, hz1, hz2⟩ := info_parts Tryd.infoI3
  have H := Lib.hid h
  have hn := h.small
  have HS := Lib.hid h.supp
  clear h
  go_enter Tryd.func13, Tryd.ntmps13
  go_wp2
  go_step3
  go_wp2_with fail
  refine (ordClosure_c lo hi p n R _ H.out).mono ?_
  rintro e w1 ⟨q, rfl, h1, hg1⟩
  have H1 := Lib.hid h1
  have HG := Lib.hid hg1
  clear h1 hg1
  go_wp2_with fail
  refine (classes_c _ _ q n (clo n R) _ H1.out (clo_trans HS.out)).mono ?_
  rintro e w3 ⟨v, rfl, ⟨ib, ic, hgrid⟩, hg3⟩
  have HREL := Lib.hid (H1.out.calm hg3)
  have HG3 := Lib.hid (grownBy_trans HG.out hg3)
  have HG13 := hg3.size
  have hb1 := HG.out.size
  have HGRID := Lib.hid hgrid
  clear hgrid hg3 HG H1 HS H
  go_wp2_with fail
  refine (relLen_c _ _ q n (clo n R) _ HREL.out).mono ?_
  rintro e w4 ⟨rfl, hw4⟩
  subst w4
  obtain ⟨w4, hmk, hown0, hg0⟩ := run_make_own (P := Tryd.prog) w3 w1.heap.size 41 3 i0 (.int .i64 0) 1 Tryd.underlying41 hi0 hz0 hz1 .i64 .i64 n (by rw [hz2]; omega) (by unfold maxLen; omega) HG13
  have HIN : Hid (SortIn w4 w1.heap.size v (.slice (some ⟨w3.heap.size, 0, none⟩) 0 n) (circL (clo n R) n) []) := Lib.hid ⟨w3.heap.size, n, ib, ic, HGRID.out.calm hg0, rfl, hown0, fun k hk => by have := (HGRID.out.row k _ (List.getElem?_eq_getElem hk)).lt; omega⟩
  have HREL4 := Lib.hid (HREL.out.calm hg0)
  have HG4 := Lib.hid (grownBy_trans HG3.out hg0)
  obtain ⟨pg, cap, rfl, hpg⟩ := HGRID.out.slice
  clear hown0 hg0 HREL HG3 HGRID hpg
  have HSL : Hid (sortL (clo n R) n = (sortK (clo n R) (circL (clo n R) n) (circL (clo n R) n).length).2) := Lib.hid rfl
  have hll := circ_le (clo n R) n
  have HOK := Lib.hid (rowsOk_circ (clo n R) n)
  generalize clo n R = C at *
  generalize circL C n = ls at *
  generalize hL : ls.length = L at *
  have HL := Lib.hid hL
  clear hL
  generalize w1.heap.size = b1 at *
  generalize w3.heap.size = sg0 at *
  go_wp2
  go_step3
  go_wp2
  clear hmk
  go_loopw [4, 5, 19] (fun v u i wr => ∃ r : Nat, r ≤ L ∧ i = .int .i64 r ∧ SortIn wr b1 v u (sortK C ls r).1 (sortK C ls r).2 ∧ IsRel wr w.heap.size b1 q n C ∧ w.grownBy wr none) (fun _ _ i _ => L - (intOf i).toNat)
  case atStart => exact ⟨0, Nat.zero_le _, rfl, HIN.out, HREL4.out, HG4.out⟩
  case round =>
    obtain ⟨r, hr, rfl, hin, hrelr, hgr⟩ := hrel
    obtain ⟨sg, sc, ib, ic, hgrid, rfl, hrow, hne⟩ := hin.ex
    have HGR := Lib.hid hgr
    have HRELR := Lib.hid hrelr
    have HGRID := Lib.hid hgrid
    have HROW := Lib.hid hrow
    have HNE := Lib.hid hne
    clear hgr hgrid hrow hne hin hrelr
    by_cases hrL : r < L
    · have hri : (r : Int) < L := by omega
      obtain ⟨hok, hol, hle⟩ := sortK_len (C := C) HOK.out r
      have HOKR := Lib.hid hok
      have hol2 : (sortK C ls r).2.length ≤ 40000 := by
        have : r * n ≤ 200 * 200 := Nat.mul_le_mul (by omega) (by omega)
        omega
      have HST : Hid (sortK C ls (r + 1) = stepL C ((sortK C ls r).1, (sortK C ls r).2)) := Lib.hid rfl
      have hle2 : (sortK C ls r).1.length ≤ 200 := by rw [HL.out] at hle; omega
      clear hok hol hle
      generalize (sortK C ls r).2 = out at *
      generalize (sortK C ls r).1 = left at *
      obtain ⟨pg, cap, rfl, hpg⟩ := HGRID.out.slice
      have HPG := Lib.hid hpg
      clear hpg
      generalize hM : left.length = M at *
      have HM := Lib.hid hM
      clear hM
      go_wp2
      go_step3
      go_wp2
      go_step3
      go_wp2
      go_loopw [4, 5, 23] (fun v u i wi => v = .slice pg M cap ∧ u = .slice (some ⟨sg, 0, none⟩) out.length sc ∧ ∃ k : Nat, k ≤ M ∧ i = .int .i64 k ∧ (∀ j l', j < k → left[j]? = some l' → freeL C left l' = false) ∧ ∃ m, wi = wr.drewN m) (fun _ _ i _ => M - (intOf i).toNat)
      case atStart => exact ⟨rfl, rfl, 0, Nat.zero_le _, rfl, fun j l' hj => by omega, 0, rfl⟩
      case round =>
        obtain ⟨rfl, rfl, k, hk, rfl, hno, m, rfl⟩ := hrel
        have HNO := Lib.hid hno
        clear hno
        by_cases hkM : k < M
        · obtain ⟨g, rfl, hgb, hgl⟩ := HPG.out k hkM
          obtain ⟨l, hl⟩ : ∃ l, left[k]? = some l := ⟨_, List.getElem?_eq_getElem (by rw [HM.out]; exact hkM)⟩
          have HLK := Lib.hid hl
          have hcl := HGRID.out.head hl
          have k0 : (0 : Int) ≤ k := by omega
          have k1 : (k : Int) < M := by omega
          clear hl
          go_wp2
          go_loopw [30] (fun i wi => ∃ j : Nat, j ≤ M ∧ i = .int .i64 j ∧ (left.take j).all (fun o => !aheadL C o l) = true ∧ ∃ m, wi = wr.drewN m) (fun i _ => M - (intOf i).toNat)
          case atStart => exact ⟨0, Nat.zero_le _, rfl, by simp, m, rfl⟩
          case round =>
            obtain ⟨j, hj, rfl, hall, m2, rfl⟩ := hrel
            have HALL := Lib.hid hall
            clear hall
            by_cases hjM : j < M
            · obtain ⟨o, ho⟩ : ∃ o, left[j]? = some o := ⟨_, List.getElem?_eq_getElem (by rw [HM.out]; exact hjM)⟩
              have HOJ := Lib.hid ho
              have hco := HGRID.out.head ho
              have j0 : (0 : Int) ≤ j := by omega
              have j1 : (j : Int) < M := by omega
              clear ho
              go_wp2_with fail
              refine (isAhead_l _ _ q n j k b1 g M cap C _ ib ic left (HRELR.out.calm (grownBy_drewN _ m2 none)) (HGRID.out.calm (grownBy_drewN _ m2 none)) HOKR.out o l HOJ.out HLK.out).mono ?_
              rintro e w' ⟨he, m3, rfl⟩
              cases hol' : aheadL C o l
              · rw [hol'] at he
                subst he
                have HE := Lib.hid (show (left.take (j + 1)).all (fun o => !aheadL C o l) = true by rw [all_take_succ _ HOJ.out, HALL.out, hol']; rfl)
                clear hol'
                go_wp2
                exact ⟨⟨j + 1, by omega, by go_num, HE.out, _, rfl⟩, by simp [intOf]; omega⟩
              · rw [hol'] at he
                subst he
                have HE := Lib.hid (show freeL C left l = false from all_false HOJ.out (by rw [hol']; rfl))
                clear hol'
                go_wp2
                refine ⟨⟨rfl, rfl, k + 1, by omega, by go_num, fun j' l' hj' hl' => ?_, _, rfl⟩, by simp [intOf]; omega⟩
                by_cases e : j' = k
                · subst e
                  rw [HLK.out] at hl'
                  cases hl'
                  exact HE.out
                · exact HNO.out j' l' (by omega) hl'
            · obtain rfl : j = M := by omega
              have HFREE := Lib.hid (show freeL C left l = true by have := HALL.out; rwa [List.take_of_length_le (by rw [HM.out]; exact Nat.le_refl _)] at this)
              have HSTEP := Lib.hid (HST.out.trans (step_some HLK.out HFREE.out HNO.out))
              have hlk := (HOKR.out l (List.mem_of_getElem? HLK.out)).2
              have hl0 : 0 < l.length := by
                obtain ⟨⟨x, r', e, _⟩, _⟩ := HOKR.out l (List.mem_of_getElem? HLK.out)
                rw [e]; simp
              have HGM : Hid (Grid (wr.drewN m2) b1 (.slice (some ⟨g, 0, none⟩) j cap) left ib ic) := Lib.hid (HGRID.out.calm (grownBy_drewN _ m2 none))
              have HRM : Hid (RowI (wr.drewN m2) b1 sg sc out) := Lib.hid (HROW.out.calm (grownBy_drewN _ m2 none))
              have HGRM := Lib.hid (grownBy_trans HGR.out (grownBy_drewN wr m2 none))
              have HRELM := Lib.hid (HRELR.out.calm (grownBy_drewN wr m2 none))
              have HNEWS : Hid (∀ t u, (l.map iv)[t]? = some u → (wr.drewN m2).cell? ((⟨ib k, 0, none⟩ : Addr).add t) = some u) := Lib.hid (World.ownsRow.cells (HGM.out.row k l HLK.out) rfl)
              have hbm : b1 ≤ (wr.drewN m2).heap.size := HRELM.out.top
              clear HNO HALL HFREE HGRID HROW HGR HRELR HPG hcl
              generalize wr.drewN m2 = wm at *
              go_wp2_with (first | (at_builtin; refine wpList_append_lies _ rfl _ _ 41 rfl b1 3 i0 (.int .i64 0) 1 8 Tryd.underlying41 hi0 hz0 hz1 hz2 rfl (by decide) _ _ _ rfl HRM.out ⟨ib k, 0, none⟩ l.length (ic k) (l.map iv) rfl (by simp) HNEWS.out (by intro u hu; obtain ⟨x, _, rfl⟩ := List.mem_map.1 hu; rfl) hl0 (by unfold maxLen; omega) (by omega) hbm _ rfl ?_; intro g' cap' w2 hown' hgrow hor hlt'; have HOWN := Lib.hid hown'; have HGROW := Lib.hid hgrow; have HOR := Lib.hid hor; clear hown' hgrow hor))
              have hgk : wm.grownBy w2 (some sg) := HGROW.out
              have hsb := HRM.out.lt
              have hgs : (Value.slice (some ⟨g, 0, none⟩) j cap).ownBlock ≠ some sg := by
                intro e
                obtain ⟨c1, f1, e1⟩ := Lib.ownsRow_kind HGM.out.out _ e
                obtain ⟨c2, f2, e2⟩ := HRM.out.kind
                rw [e1] at e2
                simp at e2
              have hg2 := HGM.out.apart hgk hgs (fun i hi => HNE.out i (by rw [← HM.out]; exact hi))
              have HROW2 : Hid (RowI w2 b1 g' cap' (out ++ l)) := Lib.hid (by
                have := HOWN.out
                unfold RowI
                simpa using this)
              have HNE2 : Hid (∀ i, i < left.length → ib i ≠ g') := Lib.hid fun i hi => by
                rcases HOR.out with e | e
                · have : sg = g' := Option.some.inj e
                  rw [← this]
                  exact HNE.out i (by rw [← HM.out]; exact hi)
                · have := (HGM.out.row i _ (List.getElem?_eq_getElem hi)).lt
                  omega
              have hb2 : sg = g' ∨ g' = wm.heap.size := by
                rcases HOR.out with e | e
                · exact .inl (Option.some.inj e)
                · exact .inr e
              have HREL2 := Lib.hid (HRELM.out.kept hgk.size fun i _ h2 => hgk.block i (by omega) (fun e => by have := Option.some.inj e; omega))
              have HGR2 := Lib.hid (grownBy_new HGRM.out hgk (Nat.le_trans hb1 hsb.1))
              have HG2 := Lib.hid hg2
              have hgg := hgs
              have HDEL := Lib.hid (delete_c g j cap k (k + 1) b1 (hdr ib ic left) w2 (by have := hg2.out; rwa [HM.out] at this) rfl hkM (by omega) (by intro u hu; obtain ⟨i, h1, h2⟩ := List.mem_mapIdx.1 hu; rw [← h2]; rfl))
              have HGS : Hid (g ≠ g') := Lib.hid fun e => by
                subst e
                obtain ⟨c1, f1, e1⟩ := Lib.ownsRow_kind hg2.out g rfl
                obtain ⟨c2, f2, e2⟩ := HROW2.out.kind
                rw [e1] at e2
                simp at e2
              have hgb2 := (hg2.out.lt g rfl)
              clear hg2 hgk hgs hgg HOWN HGROW HOR HGM HRM HRELM HGRM
              go_wp2_with fail
              refine HDEL.out.mono ?_
              rintro e w5 ⟨rfl, hown5, hg5⟩
              have HO5 := Lib.hid hown5
              have HG5 := Lib.hid hg5
              clear hown5 hg5 HDEL
              go_wp2
              try rw [Exit.noGoto_exit]
              try go_wp2
              have hrt := HREL2.out.top
              refine ⟨⟨r + 1, by omega, by go_num, ?_, HREL2.out.kept HG5.out.size fun i _ h2 => HG5.out.block i (by omega) (fun e => by have := Option.some.inj e; omega), grownBy_new HGR2.out HG5.out (by omega)⟩, by simp [intOf]; omega⟩
              rw [HSTEP.out]
              have he := HG2.out.erase (k := k) (by rw [HM.out]; exact hkM) (by rw [HM.out]; exact HO5.out) HG5.out
              rw [HM.out] at he
              refine ⟨g', cap', _, _, he, by simp, HROW2.out.kept HG5.out (fun e => HGS.out (Option.some.inj e)), fun i hi => ?_⟩
              rw [List.length_eraseIdx, HM.out, if_pos hkM] at hi
              unfold skip
              split
              · exact HNE2.out i (by rw [HM.out]; omega)
              · exact HNE2.out (i + 1) (by rw [HM.out]; omega)
        · obtain rfl : k = M := by omega
          have HSTEP := Lib.hid (HST.out.trans (step_none fun j l' hj => HNO.out j l' (by rw [← HM.out]; exact (List.getElem?_eq_some_iff.1 hj).1) hj))
          go_wp2
          try rw [Exit.noGoto_normal]
          go_wp2
          refine ⟨⟨r + 1, by omega, by go_num, ?_, HRELR.out.calm (grownBy_drewN _ m none), grownBy_trans HGR.out (grownBy_drewN _ m none)⟩, by simp [intOf]; omega⟩
          rw [HSTEP.out]
          exact ⟨sg, sc, ib, ic, HGRID.out.calm (grownBy_drewN _ m none), rfl, HROW.out.calm (grownBy_drewN _ m none), fun j hj => HNE.out j (by rw [← HM.out]; exact hj)⟩
    · obtain rfl : r = L := by omega
      go_wp2
      try rw [Exit.noGoto_ret]
      go_ret
      exact ⟨sg, sc, by rw [HSL.out]; rfl, by rw [HSL.out]; exact HROW.out.mono hb1, HGR.out⟩

end Go.Proofs.YtkipldmkdnjkaaaDoor
