/- The contract of Sort of package centoref2. -/
import Derived.Test.YtkipldmkdnjkaaaRefD
namespace Go.Proofs.Ytkipldmkdnjkaaa
open Go.RowKit

def zsD (L : Nat) (D : Nat → Bool) : List Nat := (List.range L).filter fun i => !D i
def leftD (ls : List (List Nat)) (D : Nat → Bool) : List (List Nat) := (zsD ls.length D).map fun i => ls.getD i []
def doneD (D : Nat → Bool) (i : Nat) : Nat → Bool := fun j => if j = i then true else D j

theorem mem_zs {L : Nat} {D : Nat → Bool} {i : Nat} : i ∈ zsD L D ↔ i < L ∧ D i = false := by simp [zsD]
theorem hd_inj {C : Nat → Nat → Bool} {n i k : Nat} (hi : i < (circL C n).length) (hk : k < (circL C n).length) (h : hdK (circL C n) k = hdK (circL C n) i) : k = i := by
  have e : ∀ j, j < (circL C n).length → (leadsC C n)[j]? = some (hdK (circL C n) j) := by
    intro j hj
    obtain ⟨x, r, h1, h2, _, _⟩ := circ_head (List.getElem?_eq_getElem hj)
    rw [h2]
    unfold hdK
    rw [List.getD_eq_getElem?_getD, List.getElem?_eq_getElem hj, Option.getD_some, h1]
    rfl
  have h1 := e k hk
  rw [h] at h1
  exact nodup_inj (leads_nodup C n) h1 (e i hi)
theorem getD_mem_hd (ls : List (List Nat)) (i : Nat) : (ls.getD i []).headD 0 = hdK ls i := rfl
theorem ahead_hd {C : Nat → Nat → Bool} {n i k : Nat} (hi : i < (circL C n).length) (hk : k < (circL C n).length) : aheadL C ((circL C n).getD k []) ((circL C n).getD i []) = (decide (k ≠ i) && C (hdK (circL C n) k) (hdK (circL C n) i)) := by
  unfold aheadL
  rw [getD_mem_hd, getD_mem_hd]
  by_cases e : k = i
  · subst e; simp
  · have : hdK (circL C n) k ≠ hdK (circL C n) i := fun h => e (hd_inj hi hk h)
    simp [e, this]
theorem free_same {C : Nat → Nat → Bool} {n i : Nat} {D : Nat → Bool} (hi : i < (circL C n).length) : freeL C (leftD (circL C n) D) ((circL C n).getD i []) = freeI C (circL C n) D i := by
  rw [Bool.eq_iff_iff]
  unfold freeL freeI leftD
  simp only [List.all_eq_true, List.mem_map, List.mem_range, Bool.not_eq_true', forall_exists_index, and_imp]
  constructor
  · intro h k hk
    unfold aheadI
    by_cases hd : D k = true
    · simp [hd]
    · have hd' : D k = false := by simpa using hd
      have := h _ k (mem_zs.2 ⟨hk, hd'⟩) rfl
      rw [ahead_hd hi hk] at this
      rw [hd']
      simpa using this
  · rintro h o k hk rfl
    obtain ⟨h1, h2⟩ := mem_zs.1 hk
    rw [ahead_hd hi h1]
    have := h k h1
    unfold aheadI at this
    rw [h2] at this
    simpa using this

theorem zs_split {L i : Nat} {D : Nat → Bool} (hi : i < L) (hd : D i = false) : ∃ A B, zsD L D = A ++ i :: B ∧ zsD L (doneD D i) = A ++ B ∧ ∀ a ∈ A, a < i := by
  obtain ⟨A, B, hAB⟩ := List.append_of_mem (mem_zs.2 ⟨hi, hd⟩)
  have hp : (zsD L D).Pairwise (· < ·) := List.pairwise_lt_range.filter _
  rw [hAB, List.pairwise_append] at hp
  obtain ⟨_, p2, p3⟩ := hp
  rw [List.pairwise_cons] at p2
  have hA : ∀ a ∈ A, a < i := fun a ha => p3 a ha i List.mem_cons_self
  refine ⟨A, B, hAB, ?_, hA⟩
  have e : zsD L (doneD D i) = (zsD L D).filter fun j => decide (j ≠ i) := by
    unfold zsD
    rw [List.filter_filter]
    apply List.filter_congr
    intro j _
    unfold doneD
    by_cases h : j = i <;> simp [h]
  rw [e, hAB, List.filter_append, List.filter_cons]
  have f1 : A.filter (fun j => decide (j ≠ i)) = A := by
    rw [List.filter_eq_self]
    intro a ha
    have := hA a ha
    simp; omega
  have f2 : B.filter (fun j => decide (j ≠ i)) = B := by
    rw [List.filter_eq_self]
    intro b hb
    have := p2.1 b hb
    simp; omega
  rw [f1, f2]
  simp

/-- The first that is free. -/
theorem refStep_yes {C : Nat → Nat → Bool} {n i : Nat} {D : Nat → Bool} {out : List Nat} (hi : i < (circL C n).length) (hd : D i = false) (hf : freeI C (circL C n) D i = true) (hb : ∀ j, j < i → D j = true ∨ freeI C (circL C n) D j = false) :
    stepL C (leftD (circL C n) D, out) = (leftD (circL C n) (doneD D i), out ++ (circL C n).getD i []) := by
  obtain ⟨A, B, h1, h2, h3⟩ := zs_split hi hd
  have e1 : leftD (circL C n) D = (A.map fun i => (circL C n).getD i []) ++ (circL C n).getD i [] :: (B.map fun i => (circL C n).getD i []) := by
    unfold leftD
    rw [h1, List.map_append, List.map_cons]
  have e2 : leftD (circL C n) (doneD D i) = (A.map fun i => (circL C n).getD i []) ++ (B.map fun i => (circL C n).getD i []) := by
    unfold leftD
    rw [h2, List.map_append]
  have hl : (leftD (circL C n) D)[A.length]? = some ((circL C n).getD i []) := by
    rw [e1, List.getElem?_append_right (by simp)]
    simp
  have := step_some (out := out) hl (by rw [free_same hi]; exact hf) (fun j l' hj hl' => by
    rw [e1, List.getElem?_append_left (by simpa using hj), List.getElem?_map, Option.map_eq_some_iff] at hl'
    obtain ⟨a, ha, rfl⟩ := hl'
    have ham := List.mem_of_getElem? ha
    have hai := h3 a ham
    have haz : a ∈ zsD (circL C n).length D := by rw [h1]; exact List.mem_append_left _ ham
    obtain ⟨q1, q2⟩ := mem_zs.1 haz
    rw [free_same q1]
    rcases hb a hai with h | h
    · rw [q2] at h; cases h
    · exact h)
  rw [this, e2]
  congr 1
  rw [e1, List.eraseIdx_append_of_length_le (by simp)]
  simp
theorem refStep_no {C : Nat → Nat → Bool} {n : Nat} {D : Nat → Bool} {out : List Nat} (hb : ∀ j, j < (circL C n).length → D j = true ∨ freeI C (circL C n) D j = false) : stepL C (leftD (circL C n) D, out) = (leftD (circL C n) D, out) := by
  apply step_none
  intro j l' hl'
  unfold leftD at hl'
  rw [List.getElem?_map, Option.map_eq_some_iff] at hl'
  obtain ⟨a, ha, rfl⟩ := hl'
  obtain ⟨q1, q2⟩ := mem_zs.1 (List.mem_of_getElem? ha)
  rw [free_same q1]
  rcases hb a q1 with h | h
  · rw [q2] at h; cases h
  · exact h
theorem leftD_none (ls : List (List Nat)) : leftD ls (fun _ => false) = ls := by
  unfold leftD zsD
  apply List.ext_getElem?
  intro i
  have : (List.range ls.length).filter (fun i => !(fun _ => false) i) = List.range ls.length := by
    rw [List.filter_eq_self]; intro a _; rfl
  rw [this, List.getElem?_map]
  by_cases h : i < ls.length
  · rw [List.getElem?_range h, List.getElem?_eq_getElem h]
    simp [h]
  · rw [List.getElem?_eq_none (by simpa using h), List.getElem?_eq_none (by omega)]
    rfl

theorem OwnI.keptN {w w' : World} {base : Nat} {v : Value} {l : List Nat} (h : OwnI w base v l) {r : Nat} (hg : w.grownBy w' (some r)) (hr : r < base) : OwnI w' base v l := by
  obtain ⟨p, c, rfl, ho⟩ := h
  refine ⟨p, c, rfl, ho.kept hg ?_⟩
  cases hob : (Value.slice p l.length c).ownBlock with
  | none => exact .inl rfl
  | some x =>
    right
    have := (ho.lt x hob).1
    intro e
    have := Option.some.inj e
    omega
theorem OwnI.calm {w w' : World} {base : Nat} {v : Value} {l : List Nat} (h : OwnI w base v l) (hg : w.grownBy w' none) : OwnI w' base v l := by
  obtain ⟨p, c, rfl, ho⟩ := h
  exact ⟨p, c, rfl, ho.kept hg (by cases (Value.slice p l.length c).ownBlock <;> simp)⟩
/-- Where the ints of a slice lie. -/
def IntsAtN (w : World) (p : Option Addr) (l : List Nat) : Prop := 0 < l.length → ∃ g, p = some ⟨g, 0, none⟩ ∧ g < w.heap.size ∧ ∀ (j x : Nat), l[j]? = some x → w.cell? ⟨g, j, none⟩ = some (.int .i64 x)
/-- What a slice of ints answers: the slice, where it lies. -/
def IntsPostN (l : List Nat) (w : World) (e : Ending) (w' : World) : Prop := ∃ p c, e = .returned (.slice p l.length c) ∧ IntsAtN w' p l ∧ w.grownBy w' none
theorem OwnI.at {w : World} {base : Nat} {p : Option Addr} {c : Nat} {l : List Nat} (ho : w.ownsRow base 3 1 (.slice p l.length c) l.length (l.map iv)) : IntsAtN w p l := by
  intro h0
  obtain ⟨g, cap, hv, _, hlt⟩ := ho.form h0
  cases hv
  exact ⟨g, rfl, hlt, fun j x hx => RowI.cell (base := base) (g := g) (c := c) (l := l) ho hx⟩

set_option maxHeartbeats 4000000 in
theorem matSort_c (lo hi p n : Nat) (C : Nat → Nat → Bool) (w : World) (h : IsMat w lo hi p n C) : Calls Try.prog 15 #[.pointer (some ⟨p, 0, none⟩)] w (IntsPostN (sortL C n) w) := by
  obtain ⟨i0, hi0, hz0, hz1, hz2⟩ := info_parts Try.infoI3
  have H := Lib.hid h
  have hn := h.small
  clear h
  go_enter Try.func15, Try.ntmps15
  go_wp2_with fail
  refine (matCircles_c lo hi p n C _ H.out).mono ?_
  rintro e w1 ⟨v, rfl, ⟨ib, ic, hgrid⟩, hg1⟩
  obtain ⟨pg, cap, rfl, hpg⟩ := hgrid.slice
  have HMAT := Lib.hid (H.out.calm hg1)
  have HGRID := Lib.hid hgrid
  have HPG := Lib.hid hpg
  have HG1 := Lib.hid hg1
  have hll := circ_le C n
  have HOK := Lib.hid (rowsOk_circ C n)
  have HSL : Hid (sortL C n = (sortK C (circL C n) (circL C n).length).2) := Lib.hid rfl
  generalize hL : (circL C n).length = L at *
  have HL := Lib.hid hL
  clear hL hgrid hpg hg1 H
  have hmk := run_make_row' (P := Try.prog) 59 4 (.bool false) 1 Try.underlying59 Try.infoB4 rfl .i64 .i64 L (by omega) (by omega)
  have HB := Lib.hid (boolRow_new w1 L)
  have HGA := Lib.hid (World.grownBy_alloc w1 (.cells (madeCells #[.bool false] L) 4) none)
  go_wp2
  clear hmk
  generalize hdb : w1.heap.size = db at *
  have HDB := Lib.hid hdb
  clear hdb
  go_loopw [5, 6] (fun u i wr => ∃ r : Nat, ∃ D : Nat → Bool, r ≤ L ∧ i = .int .i64 r ∧ BoolRow wr db L D ∧ OwnI wr (db + 1) u (sortK C (circL C n) r).2 ∧ (sortK C (circL C n) r).1 = leftD (circL C n) D ∧ w1.grownBy wr none) (fun _ i _ => L - (intOf i).toNat)
  case atStart => exact ⟨0, fun _ => false, Nat.zero_le _, rfl, HB.out, ⟨none, 0, rfl, World.ownsRow_nil _ _ _ _⟩, (leftD_none _).symm, HGA.out⟩
  case round =>
    obtain ⟨r, D, hr, rfl, hD, ⟨pu, cu, rfl, hu⟩, hleft, hgr⟩ := hrel
    have HD := Lib.hid hD
    have HU := Lib.hid hu
    have HLEFT := Lib.hid hleft
    have HGR := Lib.hid hgr
    clear hD hu hleft hgr
    by_cases hrL : r < L
    · have hri : (r : Int) < L := by omega
      have hol : (sortK C (circL C n) r).2.length ≤ 40000 := by
        have h1 := (sortK_len (C := C) HOK.out r).2.1
        have : r * n ≤ 200 * 200 := Nat.mul_le_mul (by omega) (by omega)
        omega
      have HST : Hid (sortK C (circL C n) (r + 1) = stepL C (leftD (circL C n) D, (sortK C (circL C n) r).2)) := Lib.hid (by rw [← HLEFT.out]; rfl)
      clear HLEFT
      generalize (sortK C (circL C n) r).2 = out at *
      go_wp2
      generalize wr = wo at *
      go_loopw [5, 7] (fun u i wi => ∃ j : Nat, u = .slice pu out.length cu ∧ j ≤ L ∧ i = .int .i64 j ∧ (∀ j', j' < j → D j' = true ∨ freeI C (circL C n) D j' = false) ∧ wo.grownBy wi none) (fun _ i _ => L - (intOf i).toNat)
      case atStart => exact ⟨0, rfl, Nat.zero_le _, rfl, fun j' h => by omega, grownBy_refl _ _⟩
      case round =>
        obtain ⟨j, rfl, hj, rfl, hno, hgj⟩ := hrel
        have HNO := Lib.hid hno
        have HGJ := Lib.hid hgj
        clear hno
        by_cases hjL : j < L
        · obtain ⟨g, rfl, hgb, hgl⟩ := HPG.out j hjL
          have hbk := HD.out.kept (hgj.block db HD.out.lt (by simp))
          have cd := hbk.cell hjL
          have HBK := Lib.hid hbk
          have HGRJ := Lib.hid (HGRID.out.calm (grownBy_trans HGR.out hgj))
          have HMJ := Lib.hid (HMAT.out.calm (grownBy_trans HGR.out hgj))
          have HUJ : Hid (wr.ownsRow (db + 1) 3 1 (.slice pu out.length cu) out.length (out.map iv)) := Lib.hid (HU.out.kept hgj (by cases (Value.slice pu out.length cu).ownBlock <;> simp))
          have HJL := Lib.hid hjL
          have j0 : (0 : Int) ≤ j := by omega
          have j1 : (j : Int) < L := by omega
          clear hgj hbk
          cases hdj : D j
          · rw [hdj] at cd
            have HDJ := Lib.hid hdj
            clear hdj
            go_wp2_with fail
            refine (matFree_c lo hi p n j w.heap.size g L cap db C D _ ib ic HMJ.out HGRJ.out HL.out HBK.out HJL.out).mono ?_
            rintro e w' ⟨he, hg'⟩
            cases hfr : freeI C (circL C n) D j
            · rw [hfr] at he
              subst he
              have HFR := Lib.hid hfr
              clear hfr
              go_wp2
              refine ⟨⟨j + 1, by trivial, by omega, by go_num, fun j' h => ?_, grownBy_trans HGJ.out hg'⟩, by simp [intOf]; omega⟩
              by_cases e : j' = j
              · subst e; exact .inr HFR.out
              · exact HNO.out j' (by omega)
            · rw [hfr] at he
              subst he
              have HSTEP := Lib.hid (HST.out.trans (refStep_yes (out := out) (by rw [HL.out]; exact HJL.out) HDJ.out hfr HNO.out))
              clear hfr
              have hb2 := HBK.out.kept (hg'.block db HBK.out.lt (by simp))
              have cd2 := hb2.cell hjL
              rw [HDJ.out] at cd2
              have fd2 := hb2.free j
              have HB3 := Lib.hid (hb2.set hjL true)
              obtain ⟨l, hl⟩ : ∃ l, (circL C n)[j]? = some l := ⟨_, List.getElem?_eq_getElem (by rw [HL.out]; exact hjL)⟩
              have hls := HOK.out l (List.mem_of_getElem? hl)
              have hl0 : 0 < l.length := by
                obtain ⟨⟨x, r', e, _⟩, _⟩ := hls
                rw [e]; simp
              have hln := hls.2
              have HGL : Hid ((circL C n).getD j [] = l) := Lib.hid (by rw [List.getD_eq_getElem?_getD, hl]; rfl)
              have hgs := grownBy_setCell w' ⟨db, j, none⟩ (.bool true)
              have hwd := HDB.out
              have hgx := grownBy_trans (grownBy_trans HGR.out HGJ.out) hg'
              have HGX := Lib.hid (grownBy_new hgx hgs (by simp; omega))
              have HG4 := Lib.hid (HGRID.out.calm HGX.out)
              have cl := HG4.out.head hl
              have hrow := HG4.out.row j l hl
              have HNEWS : Hid (∀ t u, (l.map iv)[t]? = some u → (w'.setCell ⟨db, j, none⟩ (.bool true)).cell? ((⟨ib j, 0, none⟩ : Addr).add t) = some u) := Lib.hid (World.ownsRow.cells hrow rfl)
              have HU4 : Hid ((w'.setCell ⟨db, j, none⟩ (.bool true)).ownsRow (db + 1) 3 1 (.slice pu out.length cu) out.length (out.map iv)) := Lib.hid (by
                have h1 : OwnI w' (db + 1) (.slice pu out.length cu) out := ⟨pu, cu, rfl, HUJ.out.kept hg' (by cases (Value.slice pu out.length cu).ownBlock <;> simp)⟩
                obtain ⟨p2, c2, e2, h2⟩ := h1.keptN hgs (by simp)
                cases e2
                exact h2)
              have hsz : db + 1 ≤ (w'.setCell ⟨db, j, none⟩ (.bool true)).heap.size := by
                have := hb2.lt
                simp [World.setCell]
                omega
              clear hg' hb2 hgs hgx hl hls hrow HUJ HBK HGRJ HMJ
              go_wp2_with (at_builtin; refine wpList_append_lies _ rfl _ _ 32 rfl (db + 1) 3 i0 (.int .i64 0) 1 8 Try.underlying32 hi0 hz0 hz1 hz2 rfl (by decide) _ _ _ rfl HU4.out ⟨ib j, 0, none⟩ l.length (ic j) (l.map iv) rfl (by simp) HNEWS.out (by intro u hu; obtain ⟨x, _, rfl⟩ := List.mem_map.1 hu; rfl) hl0 (by unfold maxLen; omega) (by omega) hsz _ rfl ?_; intro g' cap' w2 hown' hgrow hor hlt'; have HOWN := Lib.hid hown'; have HGROW := Lib.hid hgrow; clear hown' hgrow hor)
              have hgrow' : (w'.setCell ⟨db, j, none⟩ (.bool true)).grownBy w2 (Value.slice pu out.length cu).ownBlock := HGROW.out
              have hne : some db ≠ (Value.slice pu out.length cu).ownBlock := by
                intro e
                have := (HU4.out.lt db e.symm).1
                omega
              refine ⟨⟨r + 1, doneD D j, by omega, by go_num, HB3.out.kept (hgrow'.block db HB3.out.lt hne), ⟨some ⟨g', 0, none⟩, cap', by rw [HSTEP.out, HGL.out]; simp, ?_⟩, by rw [HSTEP.out], ?_⟩, by simp [intOf]; omega⟩
              · rw [HSTEP.out, HGL.out]
                simpa using HOWN.out
              · cases hob : (Value.slice pu out.length cu).ownBlock with
                | none => rw [hob] at hgrow'; exact grownBy_trans HGX.out hgrow'
                | some x =>
                  rw [hob] at hgrow'
                  have := (HU4.out.lt x hob).1
                  exact grownBy_new HGX.out hgrow' (by have := HDB.out; omega)
          · rw [hdj] at cd
            have HDJ := Lib.hid hdj
            clear hdj
            go_wp2
            refine ⟨⟨j + 1, by trivial, by omega, by go_num, fun j' h => ?_, HGJ.out⟩, by simp [intOf]; omega⟩
            by_cases e : j' = j
            · subst e; exact .inl HDJ.out
            · exact HNO.out j' (by omega)
        · obtain rfl : j = L := by omega
          have HSTEP := Lib.hid (HST.out.trans (refStep_no (out := out) fun j' hj' => HNO.out j' (by rw [← HL.out]; exact hj')))
          have HBK := Lib.hid (HD.out.kept (hgj.block db HD.out.lt (by simp)))
          have HUJ : Hid (wr.ownsRow (db + 1) 3 1 (.slice pu out.length cu) out.length (out.map iv)) := Lib.hid (HU.out.kept hgj (by cases (Value.slice pu out.length cu).ownBlock <;> simp))
          clear hgj
          go_wp2
          exact ⟨⟨r + 1, D, by omega, by go_num, HBK.out, ⟨pu, cu, by rw [HSTEP.out], by rw [HSTEP.out]; exact HUJ.out⟩, by rw [HSTEP.out], grownBy_trans HGR.out HGJ.out⟩, by simp [intOf]; omega⟩
    · obtain rfl : r = L := by omega
      go_wp2
      go_ret
      exact ⟨pu, cu, by rw [HSL.out]; rfl, by rw [HSL.out]; exact OwnI.at HU.out, grownBy_trans HG1.out HGR.out⟩

end Go.Proofs.Ytkipldmkdnjkaaa
