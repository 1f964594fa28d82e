/- Package arrow: the contract of Injective, over Go's own slices.Clone and slices.Sort. -/
import Derived.Test.YtihkjgiaajgkpaaDoorArrb
import Derived.Test.YtihkjgiaajgkpaaDoorShelf
import Derived.Lib.OwnBridge
import Derived.Lib.SortBridge
namespace Go.Proofs.YtihkjgiaajgkpaaDoor
open Go.RowKit

/-- The same places, rising. -/
def srt (f : List Int) : List Int := f.mergeSort fun x y => decide (x ≤ y)
theorem srt_len (f : List Int) : (srt f).length = f.length := List.length_mergeSort f
theorem srt_perm (f : List Int) : (srt f).Perm f := List.mergeSort_perm f _
theorem srt_rise (f : List Int) : (srt f).Pairwise (fun x y => x ≤ y) := by
  have h := List.pairwise_mergeSort (le := fun x y : Int => decide (x ≤ y)) (by intro a b c; simp; omega) (by intro a b; simp; omega) f
  exact h.imp fun h => of_decide_eq_true h

/-- No two of the first k + 1 that stand beside one another are alike. -/
def nextK (l : List Int) (k : Nat) : Bool := (List.range k).all fun i => decide (l[i]?.getD 0 ≠ l[i + 1]?.getD 0)
theorem nextK_succ (l : List Int) (k : Nat) : nextK l (k + 1) = (nextK l k && decide (l[k]?.getD 0 ≠ l[k + 1]?.getD 0)) := by simp [nextK, List.range_succ]
/-- Whether no place is there twice. -/
def injB (f : List Int) : Bool := decide f.Nodup
theorem injB_not {f : List Int} {k : Nat} (hk : k + 1 < f.length) (h : (srt f)[k]?.getD 0 = (srt f)[k + 1]?.getD 0) : injB f = false := by
  unfold injB
  rw [decide_eq_false_iff_not, ← (srt_perm f).nodup_iff]
  intro hn
  have hl := srt_len f
  rw [List.getElem?_eq_getElem (by omega), List.getElem?_eq_getElem (by omega)] at h
  exact List.pairwise_iff_getElem.1 hn k (k + 1) (by omega) (by omega) (by omega) h
theorem injB_yes {f : List Int} {k : Nat} (hk : f.length ≤ k + 1) (h : nextK (srt f) k = true) : injB f = true := by
  unfold injB
  rw [decide_eq_true_iff, ← (srt_perm f).nodup_iff]
  have hl := srt_len f
  have hr := List.pairwise_iff_getElem.1 (srt_rise f)
  apply List.pairwise_iff_getElem.2
  intro i j hi hj hij e
  have h1 := List.all_eq_true.1 h i (List.mem_range.2 (by omega))
  rw [List.getElem?_eq_getElem hi, List.getElem?_eq_getElem (by omega)] at h1
  have h2 : (srt f)[i] ≠ (srt f)[i + 1] := of_decide_eq_true h1
  have h3 := hr i (i + 1) hi (by omega) (by omega)
  have h4 : (srt f)[i + 1] ≤ (srt f)[j] := by
    rcases Nat.lt_or_ge (i + 1) j with h | h
    · exact hr (i + 1) j (by omega) hj h
    · have : i + 1 = j := by omega
      subst this
      exact Int.le_refl _
  omega

/-- A slice of ints in a row of its own, or of none. -/
def OwnZ (w : World) (base : Nat) (p : Option Addr) (n c : Nat) (l : List Int) : Prop := l.length = n ∧ (n = 0 ∨ ∃ g, p = some ⟨g, 0, none⟩ ∧ base ≤ g ∧ w.ownsRow base 3 1 (.slice (some ⟨g, 0, none⟩) n c) n (l.map (Value.int .i64)))
theorem OwnZ.at {w : World} {base n c : Nat} {p : Option Addr} {l : List Int} (h : OwnZ w base p n c l) : ZsAt w base w.heap.size p n l := by
  obtain ⟨h1, rfl | ⟨g, rfl, h2, h3⟩⟩ := h
  · exact ⟨h1, fun h => absurd h (by omega)⟩
  · subst h1
    obtain ⟨p', c', e, hz⟩ := zsAt_own h3
    cases e
    exact hz

theorem cloneZ5_c (p : Option Addr) (n c lo hi : Nat) (f : List Int) (w : World) (h : ZsAt w lo hi p n f) (hn : n ≤ 1000000) (hp : p = none → n = 0) :
    Calls Tryd.prog 34 #[.slice p n c] w fun e w' => ∃ p' c', e = .returned (.slice p' n c') ∧ OwnZ w' w.heap.size p' n c' f ∧ w.grownBy w' none := by
  have hl := h.len
  match p, h, hp with
  | none, h, hp =>
    have hn0 := hp rfl
    subst hn0
    refine (Tryd.slices_Clone_int_nil 0 c w).mono ?_
    rintro e w' ⟨rfl, rfl⟩
    exact ⟨none, 0, rfl, ⟨hl, .inl rfl⟩, grownBy_refl _ _⟩
  | some ad, h, _ =>
    by_cases h0 : n = 0
    · subst h0
      refine (Tryd.slices_Clone_int_zero ad c w).mono ?_
      rintro e w' ⟨v', rfl, ho, _, hb⟩
      rcases ho.2 with ⟨rfl, _⟩ | ⟨g, cap, cur, rfl, _⟩
      · exact ⟨none, 0, rfl, ⟨hl, .inl rfl⟩, grown_of_below hb⟩
      · exact ⟨_, cap, rfl, ⟨hl, .inl rfl⟩, grown_of_below hb⟩
    · obtain ⟨b, off, e, _, _, _, hc⟩ := h.cell (by omega)
      cases e
      refine (Tryd.slices_Clone_int b off n c f w (by omega) (by omega) (fun j hj => by rw [List.getD_eq_getElem?_getD]; exact hc j (by omega))).mono ?_
      rintro e w' ⟨v', rfl, ho, hv, hb⟩
      rw [List.take_of_length_le (by omega)] at ho
      obtain ⟨g, cap, rfl, h1, _⟩ := Lib.holds_of_ownsRow ho hv
      exact ⟨_, cap, rfl, ⟨hl, .inr ⟨g, rfl, h1, ho⟩⟩, grown_of_below hb⟩

theorem grownBy_grow (w : World) (os : Array Obj) : w.grownBy (Sort.grow w os) none := ⟨rfl, rfl, rfl, by rw [Sort.size_grow]; omega, fun i hi _ => Sort.heap_grow_old w os hi⟩

theorem sortZ_c (p : Option Addr) (n c base : Nat) (f : List Int) (w : World) (h : OwnZ w base p n c f) (hn : n ≤ 1000000) :
    Calls Tryd.prog 49 #[.slice p n c] w fun e w' => e = .returned (.tuple #[]) ∧ OwnZ w' base p n c (srt f) ∧ Below base w w' := by
  obtain ⟨hl, h0 | ⟨g, rfl, h1, ho⟩⟩ := h
  · subst h0
    refine (Tryd.slices_Sort_int_none p c w).mono ?_
    rintro e w' ⟨rfl, rfl⟩
    exact ⟨rfl, ⟨by rw [srt_len]; exact hl, .inl rfl⟩, Below.refl _ _⟩
  · obtain ⟨g', cap, e, k1, k2, _, _, _, hH⟩ := Lib.holds_of_ownsRow ho (by intro e; cases e)
    cases e
    have hs := Tryd.slices_Sort_int g 0 c f w hH k2 (by omega)
    rw [hl] at hs
    refine hs.mono ?_
    rintro e w' ⟨rfl, q, os, rfl⟩
    have ho2 := Lib.ownsRow_putRow (q := q) (ys := srt f) ho (by rw [srt_len]; exact hl) (Nat.le_refl n)
    rw [List.take_of_length_le (by rw [srt_len]; omega)] at ho2
    have hgr := grownBy_grow (Sort.putRow (Value.int .i64) (Sort.ahead w q) g 0 (srt f).toArray) os
    refine ⟨rfl, ⟨by rw [srt_len]; exact hl, .inr ⟨g, rfl, h1, ownsRow_calm ho2 hgr⟩⟩, ?_⟩
    have hb := Lib.below_putRow (enc := Value.int .i64) (q := q) (d := (srt f).toArray) (Below.refl base w) h1
    have hb2 := hb.size
    exact hb.trans ⟨hgr.os, hgr.tape, hgr.output, hgr.size, fun k hk => by
      rcases Nat.lt_or_ge k (Sort.putRow (Value.int .i64) (Sort.ahead w q) g 0 (srt f).toArray).heap.size with h | h
      · exact hgr.block k h (by simp)
      · omega⟩

theorem wrapZ (n : Int) (h0 : 0 ≤ n) (h1 : n < 9223372036854775808) : IntKind.i64.wrap n = n := by
  unfold IntKind.wrap
  simp [IntKind.bits, IntKind.signed]
  omega

set_option maxRecDepth 20000 in
set_option maxHeartbeats 1000000 in
theorem inj_r (p : Option Addr) (n c lo hi : Nat) (f : List Int) (r : Bool) (w : World) (h : ZsAt w lo hi p n f) (hn : n ≤ 1000000) (hp : p = none → n = 0) (hr : injB f = r) :
    Calls Tryd.prog 29 #[.slice p n c] w fun e w' => e = .returned (.bool r) ∧ w.grownBy w' none := by
  have H := Lib.hid h
  have HR := Lib.hid hr
  have HP := Lib.hid hp
  have HL := Lib.hid h.len
  clear h hr hp
  go_enter Tryd.func29, Tryd.ntmps29
  go_wp2_with fail
  refine (cloneZ5_c p n c lo hi f _ H.out hn HP.out).mono ?_
  rintro e w1 ⟨p1, c1, rfl, ho1, hg1⟩
  have HO1 := Lib.hid ho1
  have HG1 := Lib.hid hg1
  clear ho1 hg1
  go_wp2_with fail
  refine (sortZ_c p1 n c1 _ f _ HO1.out hn).mono ?_
  rintro e w2 ⟨rfl, ho2, hb2⟩
  have HZ2 := Lib.hid ho2.at
  have HG2 := Lib.hid (grown_of_below ((grownBy_below HG1.out).trans hb2))
  clear ho2 hb2 HO1 HG1
  have HS := Lib.hid (srt_len f)
  go_wp2
  go_loopw [4] (fun i wr => ∃ k : Nat, (k = 0 ∨ k + 1 ≤ n) ∧ i = .int .i64 ((k + 1 : Nat) : Int) ∧ Hid (nextK (srt f) k = true) ∧ w2.grownBy wr none) (fun i _ => n + 1 - (intOf i).toNat)
  case atStart => exact ⟨0, .inl rfl, rfl, Lib.hid rfl, grownBy_refl _ _⟩
  case round =>
    obtain ⟨k, hk, rfl, HT, hgr⟩ := hrel
    have HGR := Lib.hid hgr
    obtain ⟨j, hj⟩ : ∃ j : Nat, j = k + 1 := ⟨_, rfl⟩
    rw [← hj]
    by_cases hjn : j < n
    · obtain ⟨b, off, rfl, q1, q2, q3, hc⟩ := (HZ2.out.calm hgr).cell (by omega)
      have x1 := hc k (by omega)
      have y1 := hc j hjn
      have HSC := Lib.hid (nextK_succ (srt f) k)
      have HNO := Lib.hid (fun h => injB_not (f := f) (k := k) (by rw [HL.out]; omega) h)
      rw [← hj] at HSC HNO
      have hwr : IntKind.i64.wrap ((j : Int) - 1) = (k : Int) := by
        rw [show (j : Int) - 1 = (k : Int) by omega]
        exact wrapZ _ (by omega) (by omega)
      have k0 : (0 : Int) ≤ k := by omega
      have k1 : (k : Int) < n := by omega
      have j0 : (0 : Int) ≤ j := by omega
      have j1 : (j : Int) < n := by omega
      have HJ := Lib.hid hj
      clear hc hgr hj hk
      by_cases he : (srt f)[k]?.getD 0 = (srt f)[j]?.getD 0
      · obtain rfl : r = false := by rw [← HR.out]; exact HNO.out he
        have hN : ((srt f)[k]?.getD 0 == (srt f)[j]?.getD 0) = true := by simpa using he
        clear he
        generalize (srt f)[k]?.getD 0 = u at *
        generalize (srt f)[j]?.getD 0 = v at *
        go_wp2
        go_quiet (fail)
        go_wp2
        go_ret
        exact ⟨rfl, grownBy_trans HG2.out (grownBy_trans HGR.out (grownBy_drewN _ _ none))⟩
      · have hN : ((srt f)[k]?.getD 0 == (srt f)[j]?.getD 0) = false := by simpa using he
        have HNX : Hid (nextK (srt f) j = true) := Lib.hid (by rw [HSC.out, HT.out, decide_eq_true he]; rfl)
        clear he
        generalize (srt f)[k]?.getD 0 = u at *
        generalize (srt f)[j]?.getD 0 = v at *
        go_wp2
        go_quiet (fail)
        go_wp2
        exact ⟨⟨j, .inr (by omega), by go_num, HNX, grownBy_trans HGR.out (grownBy_drewN _ _ none)⟩, by simp [intOf]; omega⟩
    · have j1 : ¬ ((j : Int) < n) := by omega
      obtain rfl : r = true := by
        rw [← HR.out]
        exact injB_yes (by rw [HL.out]; omega) HT.out
      clear hgr
      go_wp2
      go_ret
      exact ⟨rfl, grownBy_trans HG2.out HGR.out⟩

end Go.Proofs.YtihkjgiaajgkpaaDoor
