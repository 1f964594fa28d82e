/- The reference's Alike, Identity, Then, Arrow. -/
import Derived.Test.YtemnbkenihldgaaDoorArra
import Derived.Test.YtemnbkenihldgaaDoorRefo
/-! The reference's Then, Alike, Identity (package centoref4). -/
namespace Go.Proofs.YtemnbkenihldgaaDoor
open Go.RowKit

/-- A slice of ints of its own, nil perhaps. -/
def ZsPost (l : List Int) (w : World) (e : Ending) (w' : World) : Prop := ∃ p c, e = .returned (.slice p l.length c) ∧ ZsAt w' w.heap.size w'.heap.size p l.length l ∧ w.grownBy w' none

theorem zgrow {w wr w2 : World} {o : Obj} {v : Value} {n : Nat} {xs : List Value} (h : w.grownBy wr none) (ho : wr.ownsRow w.heap.size 3 1 v n xs) (hg : (wr.alloc o).grownBy w2 v.ownBlock) : w.grownBy w2 none := by
  have h1 := grownBy_trans h (World.grownBy_alloc wr o none)
  cases hob : v.ownBlock with
  | none => rw [hob] at hg; exact grownBy_trans h1 hg
  | some r => rw [hob] at hg; exact grownBy_new h1 hg (ho.lt r hob).1

def RefThenPost (f g : List Int) (w : World) (e : Ending) (w' : World) : Prop :=
  w.grownBy w' none ∧ ((thenB f g.length = true ∧ ∃ p c, e = .returned (.tuple #[.slice p f.length c, .bool true]) ∧ ZsAt w' w.heap.size w'.heap.size p f.length (thenL f g)) ∨
    (thenB f g.length = false ∧ e = .returned (.tuple #[.slice none 0 0, .bool false])))

theorem thenL_take {f g : List Int} {k : Nat} (hk : k < f.length) : thenL (f.take (k + 1)) g = thenL (f.take k) g ++ [g[(f[k]?.getD 0).toNat]?.getD 0] := by
  rw [List.take_succ_eq_append_getElem hk, List.getElem?_eq_getElem hk]
  simp only [thenL, List.map_append, List.map_cons, List.map_nil, Option.getD_some]

set_option maxRecDepth 20000 in
set_option maxHeartbeats 1000000 in
theorem refThen_c (p q : Option Addr) (n c m d lo hi lo' hi' : Nat) (f g : List Int) (w : World) (hf : ZsAt w lo hi p n f) (hg : ZsAt w lo' hi' q m g) (hn : n ≤ 1000000) :
    Calls Tryd.prog 21 #[.slice p n c, .slice q m d] w (RefThenPost f g w) := by
  obtain ⟨i0, hi0, hz0, hz1, hz2⟩ := info_parts Tryd.infoZ3
  have H1 := Lib.hid hf
  have H2 := Lib.hid hg
  have HM := Lib.hid hg.len
  have HN := Lib.hid hf.len
  clear hf hg
  go_enter Tryd.func21, Tryd.ntmps21
  go_wp2
  go_loopw [6, 7] (fun out i wr => ∃ (k : Nat) (pm : Option Addr) (cap : Nat), k ≤ n ∧ i = .int .i64 k ∧ out = .slice pm k cap ∧ wr.ownsRow w.heap.size 3 1 (.slice pm k cap) k (zcells (thenL (f.take k) g)) ∧ Hid ((f.take k).all (hasZ m) = true) ∧ w.grownBy wr none) (fun _ i _ => n - (intOf i).toNat)
  case atStart => exact ⟨0, none, 0, Nat.zero_le _, rfl, rfl, World.ownsRow_nil _ _ _ _, Lib.hid rfl, grownBy_refl _ _⟩
  case round =>
    obtain ⟨k, pm, cap, hk, rfl, rfl, hown, HA, hgr⟩ := hrel
    have HOWN := Lib.hid hown
    have HGR := Lib.hid hgr
    have hsz := hgr.size
    clear hown
    by_cases hkn : k < n
    · have k0 : (0 : Int) ≤ k := by omega
      have k1 : (k : Int) < n := by omega
      obtain ⟨bf, of', rfl, q1, q2, q3, hcf⟩ := (H1.out.calm hgr).cell (by omega)
      have xf := hcf k hkn
      have HG2 := Lib.hid (H2.out.calm hgr)
      have HS := Lib.hid (all_takeZ (hasZ m) (l := f) (k := k) (by rw [HN.out]; exact hkn))
      have HO := Lib.hid (fun h => all_outZ (hasZ m) (l := f) (k := k) (by rw [HN.out]; exact hkn) h)
      have HST := Lib.hid (thenL_take (f := f) (g := g) (k := k) (by rw [HN.out]; exact hkn))
      clear hcf hgr
      generalize f[k]?.getD 0 = z at *
      by_cases h0 : z < 0
      · have HZ := Lib.hid (HO.out (hasZ_not.2 (.inl h0)))
        go_wp2
        go_ret2
        exact ⟨HGR.out, .inr ⟨by unfold thenB; rw [HM.out]; exact HZ.out, rfl⟩⟩
      · have h00 : 0 ≤ z := by omega
        obtain ⟨y, rfl⟩ := Int.eq_ofNat_of_zero_le h00
        by_cases h1 : y < m
        · obtain ⟨b2, o2, rfl, r1, r2, r3, hc2⟩ := HG2.out.cell (by omega)
          have y1 := hc2 y h1
          have HZ : Hid (hasZ m (y : Int) = true) := Lib.hid (hasZ_iff.2 ⟨h00, by omega⟩)
          have HST2 : Hid (thenL (f.take (k + 1)) g = thenL (f.take k) g ++ [g[y]?.getD 0]) := Lib.hid (by rw [HST.out, Int.toNat_natCast])
          have h2 : (y : Int) < m := by omega
          clear hc2 HST
          generalize g[y]?.getD 0 = v at *
          go_wp2_with (at_builtin; refine wpList_append_own _ rfl _ _ 28 rfl w.heap.size 3 i0 (.int .i64 0) 1 8 Tryd.underlying28 hi0 hz0 hz1 hz2 rfl (by decide) (.slice pm k cap) k (zcells (thenL (f.take k) g)) rfl (HOWN.out.alloc _) ⟨wr.heap.size, 0, none⟩ 1 1 [.int .i64 v] rfl rfl (World.news_of_block (heap_new wr _)) (by simp [Value.oneCell']) (by unfold maxLen; omega) (by omega) (by simp; omega) ?_; intro v' w2 hown' hgrow _; obtain ⟨g', cap', rfl⟩ := ownsRow_succ hown'; have HO2 := Lib.hid hown'; have HGW := Lib.hid hgrow; clear hown' hgrow)
          go_wp2
          exact ⟨⟨k + 1, _, _, by omega, by go_num, rfl, by rw [HST2.out, zcells_snoc]; exact HO2.out, Lib.hid (by rw [HS.out, HA.out, HZ.out]; rfl), zgrow HGR.out HOWN.out HGW.out⟩, by simp [intOf]; omega⟩
        · have HZ := Lib.hid (HO.out (hasZ_not.2 (.inr (by omega))))
          have h2 : (m : Int) ≤ y := by omega
          go_wp2
          go_ret2
          exact ⟨HGR.out, .inr ⟨by unfold thenB; rw [HM.out]; exact HZ.out, rfl⟩⟩
    · obtain rfl : k = n := by omega
      have k1 : ¬ ((k : Int) < k) := by omega
      clear hgr
      go_wp2
      go_ret2
      have h1 := HOWN.out
      have h2 := HA.out
      rw [List.take_of_length_le (by rw [HN.out]; exact Nat.le_refl _)] at h1 h2
      obtain ⟨p', c', e, hz⟩ := zsAt_own (l := thenL f g) (by rw [thenL_len, HN.out]; exact h1)
      rw [thenL_len, HN.out] at e hz
      injection e with e1 e2 e3
      subst e1 e3
      exact ⟨HGR.out, .inl ⟨by unfold thenB; rw [HM.out]; exact h2, pm, cap, by rw [HN.out]; rfl, by rw [HN.out]; exact hz⟩⟩

end Go.Proofs.YtemnbkenihldgaaDoor
/-! The reference's Arrow and Inverse (package centoref4). -/
namespace Go.Proofs.YtemnbkenihldgaaDoor
open Go.RowKit

theorem matHas_z (lo hi p n : Nat) (a b : Int) (R : Nat → Nat → Bool) (r : Bool) (w : World) (h : IsMat w lo hi p n R) (hr : hasI n R a b = r) : Calls Tryd.prog 39 #[.pointer (some ⟨p, 0, none⟩), .int .i64 a, .int .i64 b] w fun e w' => e = .returned (.bool r) ∧ w' = w := by
  rw [← hr]
  exact matHas_r lo hi p n a b R w h

/-- An object, another one, a map: all that lies there. -/
structure Env3 (W : World) (B lo hi lo' hi' lof hif : Nat) (p q p' q' pf : Option Addr) (n c m d n' c' m' d' nf : Nat) (L L' : List ByteArray) (P P' : List (Int × Int)) (f : List Int) : Prop where
  a : ObjAt W lo hi p n q m L P
  b : ObjAt W lo' hi' p' n' q' m' L' P'
  f : ZsAt W lof hif pf nf f
  b0 : W.cell? ⟨B, 0, none⟩ = some (.slice p n c)
  b1 : W.cell? ⟨B, 1, none⟩ = some (.slice q m d)
  b2 : W.cell? ⟨B + 1, 0, none⟩ = some (.slice p' n' c')
  b3 : W.cell? ⟨B + 1, 1, none⟩ = some (.slice q' m' d')
  top : B + 1 < W.heap.size
theorem Env3.calm {W W' : World} {B lo hi lo' hi' lof hif : Nat} {p q p' q' pf : Option Addr} {n c m d n' c' m' d' nf : Nat} {L L' : List ByteArray} {P P' : List (Int × Int)} {f : List Int} (h : Env3 W B lo hi lo' hi' lof hif p q p' q' pf n c m d n' c' m' d' nf L L' P P' f) (hg : W.grownBy W' none) : Env3 W' B lo hi lo' hi' lof hif p q p' q' pf n c m d n' c' m' d' nf L L' P P' f := by
  have ht := h.top
  have k0 := hg.block B (by omega) (by simp)
  have k1 := hg.block (B + 1) (by omega) (by simp)
  exact ⟨h.a.calm hg, h.b.calm hg, h.f.calm hg, (World.cell?_of_block (a := ⟨B, 0, none⟩) k0).trans h.b0, (World.cell?_of_block (a := ⟨B, 1, none⟩) k0).trans h.b1, (World.cell?_of_block (a := ⟨B + 1, 0, none⟩) k1).trans h.b2, (World.cell?_of_block (a := ⟨B + 1, 1, none⟩) k1).trans h.b3, Nat.lt_of_lt_of_le ht hg.size⟩

set_option maxRecDepth 20000 in
set_option maxHeartbeats 2000000 in
theorem refArrow_r (p q p' q' pf : Option Addr) (n c m d n' c' m' d' nf cf lo hi lo' hi' lof hif : Nat) (L L' : List ByteArray) (P P' : List (Int × Int)) (f : List Int) (r : Bool) (w : World) (h : ObjAt w lo hi p n q m L P) (h' : ObjAt w lo' hi' p' n' q' m' L' P') (hf : ZsAt w lof hif pf nf f) (hn : nf ≤ 1000000) (hm : m ≤ 1000000) (hm' : m' ≤ 1000000)
    (hr : arB L P L' P' f = r) :
    Calls Tryd.prog 16 #[.agg #[.slice p n c, .slice q m d], .agg #[.slice p' n' c', .slice q' m' d'], .slice pf nf cf] w fun e w' => e = .returned (.bool r) ∧ w.grownBy w' none := by
  have hg0 := grownBy_trans (World.grownBy_alloc w (.cells #[.slice p n c, .slice q m d] 25) none) (World.grownBy_alloc _ (.cells #[.slice p' n' c', .slice q' m' d'] 25) none)
  have hbx := box22 (grownBy_refl ((w.alloc (.cells #[.slice p n c, .slice q m d] 25)).alloc (.cells #[.slice p' n' c', .slice q' m' d'] 25)) none)
  have HE0 : Hid (Env3 ((w.alloc (.cells #[.slice p n c, .slice q m d] 25)).alloc (.cells #[.slice p' n' c', .slice q' m' d'] 25)) w.heap.size lo hi lo' hi' lof hif p q p' q' pf n c m d n' c' m' d' nf L L' P P' f) :=
    Lib.hid ⟨h.calm hg0, h'.calm hg0, hf.calm hg0, hbx.1.1, hbx.1.2, hbx.2.1.1, hbx.2.1.2, by simp⟩
  have HG0 := Lib.hid hg0
  have HLF := Lib.hid hf.len
  have HLL := Lib.hid h.ls.len
  have HLL' := Lib.hid h'.ls.len
  have HPL := Lib.hid h.ps.len
  have HR := Lib.hid hr
  clear h h' hf hr hg0 hbx
  cases ha : chk L P == 0
  · have HA := Lib.hid ha
    obtain rfl : r = false := by rw [← HR.out]; unfold arB; rw [ha]; rfl
    clear ha
    go_enter Tryd.func16, Tryd.ntmps16
    go_wp2_with fail
    refine (refIs_c _ _ _ _ _ _ _ _ L P false _ (by exact HE0.out.a) hm HA.out).mono ?_
    rintro e w1 ⟨rfl, hg⟩
    have HG := Lib.hid (grownBy_trans HG0.out hg)
    clear hg
    go_wp2
    go_ret
    exact ⟨rfl, HG.out⟩
  · have HA := Lib.hid ha
    clear ha
    go_enter Tryd.func16, Tryd.ntmps16
    go_wp2_with fail
    refine (refIs_c _ _ _ _ _ _ _ _ L P true _ (by exact HE0.out.a) hm HA.out).mono ?_
    rintro e w1 ⟨rfl, hg⟩
    have HE1 := Lib.hid (HE0.out.calm hg)
    have HG1 := Lib.hid (grownBy_trans HG0.out hg)
    have b2 := HE1.out.b2
    have b3 := HE1.out.b3
    clear hg HE0 HG0
    cases hb : chk L' P' == 0
    · have HB := Lib.hid hb
      obtain rfl : r = false := by rw [← HR.out]; unfold arB; rw [hb, HA.out]; rfl
      clear hb
      go_wp2_with fail
      refine (refIs_c _ _ _ _ _ _ _ _ L' P' false _ (by exact HE1.out.b) hm' HB.out).mono ?_
      rintro e w2 ⟨rfl, hg2⟩
      have HG := Lib.hid (grownBy_trans HG1.out hg2)
      clear hg2
      go_wp2
      go_ret
      exact ⟨rfl, HG.out⟩
    · have HB := Lib.hid hb
      clear hb
      go_wp2_with fail
      refine (refIs_c _ _ _ _ _ _ _ _ L' P' true _ (by exact HE1.out.b) hm' HB.out).mono ?_
      rintro e w2 ⟨rfl, hg2⟩
      have HE2 := Lib.hid (HE1.out.calm hg2)
      have HG2 := Lib.hid (grownBy_trans HG1.out hg2)
      clear b2 b3 hg2
      have b0 := HE2.out.b0
      clear HE1 HG1
      by_cases hl : nf = n
      · subst hl
        have hbb : ((nf : Int) != (nf : Int)) = false := by simp
        have HR2 : Hid ((labK L L' f nf && prB (objN L' P') (objR L' P') P f) = r) := Lib.hid (by rw [← HR.out]; unfold arB labB; rw [HB.out, HA.out, HLF.out, HLL.out]; simp)
        have HIN : Hid (allIn nf P = true) := Lib.hid (by
          have e1 := (chk_in (by simpa using HA.out)).2.2.1
          rw [HLL.out] at e1
          exact e1)
        go_wp2
        clear b0
        go_loopw [7] (fun i wr => ∃ k : Nat, k ≤ nf ∧ i = .int .i64 k ∧ Hid (labK L L' f k = true) ∧ w2.grownBy wr none) (fun i _ => nf - (intOf i).toNat)
        case atStart => exact ⟨0, Nat.zero_le _, rfl, Lib.hid rfl, grownBy_refl _ _⟩
        case round =>
          obtain ⟨k, hk, rfl, HT, hgr⟩ := hrel
          have HE3 := Lib.hid (HE2.out.calm hgr)
          have HGR := Lib.hid (grownBy_trans HG2.out hgr)
          have HGR1 := Lib.hid hgr
          clear hgr
          have b0 := HE3.out.b0
          have b2 := HE3.out.b2
          by_cases hkn : k < nf
          · obtain ⟨bf, of', rfl, q1, q2, q3, hcf⟩ := HE3.out.f.cell (by omega)
            have xf := hcf k hkn
            have HSC := Lib.hid (labK_succ L L' f k)
            have HNT := Lib.hid (fun h => labK_not (L := L) (L' := L') (f := f) hkn h)
            obtain ⟨b1', o1, rfl, s1, s2, s3, hc1⟩ := HE3.out.a.ls.cell (by omega)
            have x1 := hc1 k hkn
            clear hcf hc1
            have k0 : (0 : Int) ≤ k := by omega
            have k1 : (k : Int) < nf := by omega
            have HL1 : Hid (lab1 L L' f k = (hasZ n' (f[k]?.getD 0) && decide (L[k]?.getD .empty = L'[(f[k]?.getD 0).toNat]?.getD .empty))) := Lib.hid (by unfold lab1; rw [HLL'.out])
            generalize f[k]?.getD 0 = z at *
            generalize L[k]?.getD .empty = u at *
            by_cases h0 : z < 0
            · have hz0 : decide (z < 0) = true := by simpa using h0
              obtain rfl : r = false := by rw [← HR2.out, HNT.out (by rw [HL1.out, hasZ_not.2 (.inl h0)]; rfl)]; rfl
              go_wp2
              go_quiet (fail)
              go_wp2
              go_ret
              exact ⟨rfl, grownBy_trans HGR.out (grownBy_drewN _ _ none)⟩
            · have h00 : 0 ≤ z := by omega
              obtain ⟨y, rfl⟩ := Int.eq_ofNat_of_zero_le h00
              have hz0 : decide ((y : Int) < 0) = false := decide_eq_false (by omega)
              by_cases h1 : y < n'
              · have hz1 : ((n' : Int) ≤ (y : Int)) = False := eq_false (by omega)
                obtain ⟨b2', o2, rfl, r1, r2, r3, hc2⟩ := HE3.out.b.ls.cell (by omega)
                have y1 := hc2 y h1
                have HL2 : Hid (lab1 L L' f k = decide (u = L'[y]?.getD .empty)) := Lib.hid (by rw [HL1.out, hasZ_iff.2 ⟨h00, by omega⟩, Int.toNat_natCast]; rfl)
                have h1i : (y : Int) < n' := by omega
                clear hc2 HL1
                generalize L'[y]?.getD .empty = v at *
                by_cases he : u = v
                · have hN : (u.toList == v.toList) = true := by rw [str_eq]; simpa using he
                  have HNX : Hid (labK L L' f (k + 1) = true) := Lib.hid (by rw [HSC.out, HT.out, HL2.out]; simpa using he)
                  clear he
                  go_wp2
                  go_quiet (fail)
                  go_wp2
                  exact ⟨⟨k + 1, by omega, by go_num, HNX, grownBy_trans HGR1.out (grownBy_drewN _ _ none)⟩, by simp [intOf]; omega⟩
                · have hN : (u.toList == v.toList) = false := by rw [str_eq]; simpa using he
                  obtain rfl : r = false := by rw [← HR2.out, HNT.out (by rw [HL2.out]; simpa using he)]; rfl
                  clear he
                  go_wp2
                  go_quiet (fail)
                  go_wp2
                  go_ret
                  exact ⟨rfl, grownBy_trans HGR.out (grownBy_drewN _ _ none)⟩
              · have hz1 : ((n' : Int) ≤ (y : Int)) := by omega
                obtain rfl : r = false := by rw [← HR2.out, HNT.out (by rw [HL1.out, hasZ_not.2 (.inr (by omega))]; rfl)]; rfl
                go_wp2
                go_quiet (fail)
                go_wp2
                go_ret
                exact ⟨rfl, grownBy_trans HGR.out (grownBy_drewN _ _ none)⟩
          · obtain rfl : k = nf := by omega
            have k1 : ¬ ((k : Int) < k) := by omega
            have b3 := HE3.out.b3
            have HPB : Hid (prB (objN L' P') (objR L' P') P f = r) := Lib.hid (by rw [← HR2.out, HT.out]; rfl)
            generalize hN : objN L' P' = N at *
            generalize hRR : objR L' P' = R at *
            have HNN := Lib.hid hN
            have HRR := Lib.hid hRR
            clear hN hRR
            go_wp2_with fail
            refine (refRel_c _ _ _ _ _ _ _ _ L' P' _ (by exact HE3.out.b) hm').mono ?_
            rw [HNN.out, HRR.out]
            rintro e w4 ⟨t, rfl, hrel, hg4⟩
            have HREL := Lib.hid hrel
            have HE4 := Lib.hid (HE3.out.calm hg4)
            have HG4 := Lib.hid (grownBy_trans HGR.out hg4)
            clear hrel hg4 b0 b2 b3
            go_wp2
            go_loopw [9] (fun i wr => ∃ k : Nat, k ≤ m ∧ i = .int .i64 k ∧ Hid (prB N R (P.take k) f = true) ∧ w4.grownBy wr none) (fun i _ => m - (intOf i).toNat)
            case atStart => exact ⟨0, Nat.zero_le _, rfl, Lib.hid rfl, grownBy_refl _ _⟩
            case round =>
              obtain ⟨j, hj, rfl, HTJ, hgj⟩ := hrel
              have HE5 := Lib.hid (HE4.out.calm hgj)
              have HG5 := Lib.hid (grownBy_trans HG4.out hgj)
              have HG51 := Lib.hid hgj
              have HREL5 := Lib.hid (HREL.out.calm hgj)
              clear hgj
              have b1 := HE5.out.b1
              by_cases hjm : j < m
              · have j0 : (0 : Int) ≤ j := by omega
                have j1 : (j : Int) < m := by omega
                obtain ⟨bp, op, rfl, q1, q2, q3, hcp⟩ := HE5.out.a.ps.cell (by omega)
                obtain ⟨c0, c1⟩ := hcp j hjm
                have HI := Lib.hid (inI_of_all (k := j) HIN.out (by rw [HPL.out]; exact hjm))
                have HSC := Lib.hid (prB_succ (N := N) (R := R) (f := f) (P := P) (k := j) (by rw [HPL.out]; exact hjm))
                have HNT := Lib.hid (fun h => prB_not (N := N) (R := R) (f := f) (P := P) (k := j) (by rw [HPL.out]; exact hjm) h)
                clear hcp
                obtain ⟨x, hx⟩ : ∃ x, x = P[j]?.getD (0, 0) := ⟨_, rfl⟩
                rw [← hx] at c0 c1 HI HSC HNT
                clear hx
                obtain ⟨xa, xb⟩ := x
                obtain ⟨a0, a1, a2, a3⟩ : 0 ≤ xa ∧ xa < k ∧ 0 ≤ xb ∧ xb < k := by have := HI.out; unfold inI at this; simp only at this; omega
                obtain ⟨ya, rfl⟩ := Int.eq_ofNat_of_zero_le a0
                obtain ⟨yb, rfl⟩ := Int.eq_ofNat_of_zero_le a2
                obtain ⟨bf, of', rfl, s1, s2, s3, hcf⟩ := HE5.out.f.cell (by omega)
                have fa := hcf ya (by omega)
                have fb := hcf yb (by omega)
                have HP1 : Hid (pr1 N R f ((ya : Int), (yb : Int)) = hasI N R (f[ya]?.getD 0) (f[yb]?.getD 0)) := Lib.hid (by simp [pr1])
                clear hcf
                simp only at c0 c1
                generalize f[ya]?.getD 0 = u at *
                generalize f[yb]?.getD 0 = v at *
                cases hh : hasI N R u v
                · have HH := Lib.hid hh
                  obtain rfl : r = false := by rw [← HPB.out]; exact HNT.out (by rw [HP1.out, hh])
                  clear hh
                  go_wp2
                  go_quiet ((go_at_call 39; exact Calls.quiet_of_same (matHas_z _ _ t N u v R false _ (by exact HREL5.out.calm (grownBy_drewN _ _ none)) HH.out)))
                  go_wp2
                  go_ret
                  exact ⟨rfl, grownBy_trans HG5.out (grownBy_drewN _ _ none)⟩
                · have HH := Lib.hid hh
                  have HNX : Hid (prB N R (P.take (j + 1)) f = true) := Lib.hid (by rw [HSC.out, HTJ.out, HP1.out, hh]; rfl)
                  clear hh
                  go_wp2
                  go_quiet ((go_at_call 39; exact Calls.quiet_of_same (matHas_z _ _ t N u v R true _ (by exact HREL5.out.calm (grownBy_drewN _ _ none)) HH.out)))
                  go_wp2
                  exact ⟨⟨j + 1, by omega, by go_num, HNX, grownBy_trans HG51.out (grownBy_drewN _ _ none)⟩, by simp [intOf]; omega⟩
              · obtain rfl : j = m := by omega
                have j1 : ¬ ((j : Int) < j) := by omega
                obtain rfl : r = true := by
                  have := HTJ.out
                  rw [List.take_of_length_le (by rw [HPL.out]; exact Nat.le_refl _)] at this
                  rw [← HPB.out, this]
                go_wp2
                go_ret
                exact ⟨rfl, HG5.out⟩
      · have hbb : ((nf : Int) != (n : Int)) = true := by simp; omega
        obtain rfl : r = false := by rw [← HR.out]; unfold arB labB; rw [HB.out, HA.out, HLF.out, HLL.out, decide_eq_false hl]; rfl
        clear hl
        go_wp2
        go_ret
        exact ⟨rfl, HG2.out⟩

end Go.Proofs.YtemnbkenihldgaaDoor
