/- The contracts of Of and Only of package rel. -/
import Derived.Test.YtdolcdededmlhaaDoorRelQ
namespace Go.Proofs.YtdolcdededmlhaaDoor
open Go.RowKit

/-- Whether all pairs are of elements. -/
def allIn (n : Nat) (l : List (Int × Int)) : Bool := l.all fun x => decide (inI n x.1 x.2)
/-- What Of tells. -/
def ofErr (n : Int) (l : List (Int × Int)) : Int := if n < 0 ∨ 200 < n then 11 else if allIn n.toNat l then 0 else 10

theorem allIn_snoc {n : Nat} {l : List (Int × Int)} {k : Nat} (hk : k < l.length) : allIn n (l.take (k + 1)) = (allIn n (l.take k) && decide (inI n (l[k]?.getD (0, 0)).1 (l[k]?.getD (0, 0)).2)) := by
  unfold allIn
  rw [List.take_succ_eq_append_getElem hk, List.all_append, List.getElem?_eq_getElem hk]
  simp
theorem ofL_take {n : Nat} {l : List (Int × Int)} {k : Nat} (hk : k < l.length) : ofL n (l.take (k + 1)) = addI n (ofL n (l.take k)) (l[k]?.getD (0, 0)) := by
  rw [List.take_succ_eq_append_getElem hk, ofL_snoc, List.getElem?_eq_getElem hk]
  rfl
theorem allIn_take {n : Nat} {l : List (Int × Int)} {k : Nat} (h : allIn n (l.take k) = false) : allIn n l = false := by
  unfold allIn at *
  rw [List.all_eq_false] at *
  obtain ⟨x, hx, hn⟩ := h
  exact ⟨x, List.mem_of_mem_take hx, hn⟩

/-- What Of leaves. -/
def RelOfPost (n : Int) (l : List (Int × Int)) (w : World) (e : Ending) (w' : World) : Prop :=
  (ofErr n l = 0 ∧ ∃ p, e = .returned (.tuple #[.pointer (some ⟨p, 0, none⟩), .int .i64 0]) ∧ IsRel w' w.heap.size w'.heap.size p n.toNat (ofL n.toNat l) ∧ w.grownBy w' none) ∨
  (ofErr n l ≠ 0 ∧ e = .returned (.tuple #[.pointer none, .int .i64 (ofErr n l)]) ∧ w.grownBy w' none)

theorem relOf_large (n : Int) (p : Option Addr) (L c : Nat) (l : List (Int × Int)) (w : World) (h : n < 0 ∨ 200 < n) : Calls Tryd.prog 22 #[.int .i64 n, .slice p L c] w (RelOfPost n l w) := by
  have he : ofErr n l = 11 := by unfold ofErr; rw [if_pos h]
  have HE : Hid (RelOfPost n l w (.returned (.tuple #[.pointer none, .int .i64 11])) w) := Lib.hid (.inr ⟨by rw [he]; decide, by rw [he], grownBy_refl _ _⟩)
  clear he
  rcases h with h | h
  · go_enter Tryd.func22, Tryd.ntmps22
    go_wp2
    go_ret2
    exact HE.out
  · have h' : ¬ n < 0 := by omega
    go_enter Tryd.func22, Tryd.ntmps22
    go_wp2
    go_ret2
    exact HE.out

set_option maxHeartbeats 2000000 in
theorem relOf_mid (n : Nat) (p : Option Addr) (L c lo hi : Nat) (l : List (Int × Int)) (w : World) (hn : n ≤ 200) (hl : PairsAt w lo hi p L l) (hL : L ≤ 1000000) : Calls Tryd.prog 22 #[.int .i64 n, .slice p L c] w (RelOfPost n l w) := by
  have n0 : ¬ ((n : Int) < 0) := by omega
  have n1 : ¬ (200 < (n : Int)) := by omega
  have HOK : Hid (∀ q w', allIn n l = true → IsRel w' w.heap.size w'.heap.size q n (ofL n l) → w.grownBy w' none → RelOfPost n l w (.returned (.tuple #[.pointer (some ⟨q, 0, none⟩), .int .i64 0])) w') := Lib.hid (fun q w' h1 h2 h3 => by
    have he : ofErr n l = 0 := by unfold ofErr; rw [if_neg (by omega), Int.toNat_natCast, h1]; rfl
    exact .inl ⟨he, q, rfl, by rw [Int.toNat_natCast]; exact h2, h3⟩)
  have HNO : Hid (∀ w', allIn n l = false → w.grownBy w' none → RelOfPost n l w (.returned (.tuple #[.pointer none, .int .i64 10])) w') := Lib.hid (fun w' h1 h3 => by
    have he : ofErr n l = 10 := by unfold ofErr; rw [if_neg (by omega), Int.toNat_natCast, h1]; rfl
    exact .inr ⟨by rw [he]; decide, by rw [he], h3⟩)
  have HL := Lib.hid hl
  have HLEN := Lib.hid hl.len
  clear hl
  go_enter Tryd.func22, Tryd.ntmps22
  go_wp2_with fail
  refine (relNew_mid n _ hn).mono ?_
  rintro e w1 ⟨q, rfl, hr1, hg1⟩
  have HR1 := Lib.hid hr1
  have HG1 := Lib.hid hg1
  clear hr1 hg1
  go_wp2_with fail
  go_loopw [19] (fun i wr => ∃ k : Nat, k ≤ L ∧ i = .int .i64 k ∧ Hid (allIn n (l.take k) = true) ∧ IsRel wr w.heap.size w1.heap.size q n (ofL n (l.take k)) ∧ w.grownBy wr none) (fun i _ => L - (intOf i).toNat)
  case atStart => exact ⟨0, Nat.zero_le _, rfl, Lib.hid rfl, HR1.out, HG1.out⟩
  case round =>
    obtain ⟨k, hk, rfl, HA, hrel, hgr⟩ := hrel
    by_cases hkL : k < L
    · obtain ⟨b, off, rfl, q1, q2, q3, hcs⟩ := (HL.out.calm hgr).cell (by omega)
      obtain ⟨x1, x2⟩ := hcs k hkL
      have HTA := Lib.hid (allIn_snoc (n := n) (l := l) (k := k) (by rw [HLEN.out]; exact hkL))
      have HTO := Lib.hid (ofL_take (n := n) (l := l) (k := k) (by rw [HLEN.out]; exact hkL))
      have HREL := Lib.hid hrel
      have HGR := Lib.hid hgr
      obtain ⟨_, _, pb, bs, ws, h3⟩ := hrel
      obtain ⟨cap, hc⟩ := h3.c0
      have hp2 : q < wr.heap.size := by have := h3.p2; have := h3.top; omega
      clear hcs hgr h3
      have HX : Hid (l[k]?.getD (0, 0) = ((l[k]?.getD (0, 0)).1, (l[k]?.getD (0, 0)).2)) := Lib.hid rfl
      generalize hx : l[k]?.getD (0, 0) = x at *
      clear hx
      obtain ⟨x, y⟩ := x
      simp only at x1 x2 HTA HX
      have hga := World.grownBy_alloc wr (.cells #[.int .i64 x, .int .i64 y] 38) none
      have hcA : (wr.alloc (.cells #[.int .i64 x, .int .i64 y] 38)).cell? ⟨q, 0, none⟩ = some (.slice (some ⟨pb, 0, none⟩) n cap) := (World.cell?_of_block (a := ⟨q, 0, none⟩) (hga.block q hp2 (by simp))).trans hc
      have HGA := Lib.hid (grownBy_trans HGR.out hga)
      have HRA := Lib.hid (HREL.out.calm hga)
      clear hga
      by_cases hx : 0 ≤ x ∧ x < n
      · by_cases hy : 0 ≤ y ∧ y < n
        · obtain ⟨a0, a1⟩ := hx
          obtain ⟨b0, b1⟩ := hy
          have hA2 : allIn n (l.take (k + 1)) = true := by rw [HTA.out, HA.out]; simp [inI, a0, a1, b0, b1]
          have HA2 := Lib.hid hA2
          clear hA2
          go_wp2_with fail
          refine (isEl_yes q pb n cap _ _ hcA a0 a1).mono ?_
          rintro e w' ⟨rfl, h9⟩
          subst w'
          go_wp2_with fail
          refine (isEl_yes q pb n cap _ _ hcA b0 b1).mono ?_
          rintro e w' ⟨rfl, h9⟩
          subst w'
          go_wp2_with fail
          refine (add_c w.heap.size w1.heap.size q n x y _ _ HRA.out).mono ?_
          rintro e w2 ⟨rfl, h2, hk2⟩
          have HE := Lib.hid (show IsRel w2 w.heap.size w1.heap.size q n (ofL n (l.take (k + 1))) ∧ w.grownBy w2 none from ⟨by rw [HTO.out]; exact h2, Kept.new HGA.out hk2 (Nat.le_refl _)⟩)
          clear h2 hk2
          go_wp2
          exact ⟨⟨k + 1, by omega, by go_num, HA2, HE.out.1, HE.out.2⟩, by simp [intOf]; omega⟩
        · obtain ⟨a0, a1⟩ := hx
          have hb' := Lib.hid (show y < 0 ∨ (n : Int) ≤ y by omega)
          have hA2 : allIn n l = false := allIn_take (k := k + 1) (by rw [HTA.out]; have : ¬ inI n x y := by unfold inI; omega
                                                                      simp [this])
          have HFIN := Lib.hid (HNO.out _ hA2 HGA.out)
          clear hA2 hy
          go_wp2_with fail
          refine (isEl_yes q pb n cap _ _ hcA a0 a1).mono ?_
          rintro e w' ⟨rfl, h9⟩
          subst w'
          go_wp2_with fail
          refine (isEl_no q pb n cap _ _ hcA hb'.out).mono ?_
          rintro e w' ⟨rfl, h9⟩
          subst w'
          go_wp2
          go_ret2
          exact HFIN.out
      · have ha' := Lib.hid (show x < 0 ∨ (n : Int) ≤ x by omega)
        have hA2 : allIn n l = false := allIn_take (k := k + 1) (by rw [HTA.out]; have : ¬ inI n x y := by unfold inI; omega
                                                                    simp [this])
        have HFIN := Lib.hid (HNO.out _ hA2 HGA.out)
        clear hA2 hx
        go_wp2_with fail
        refine (isEl_no q pb n cap _ _ hcA ha'.out).mono ?_
        rintro e w' ⟨rfl, h9⟩
        subst w'
        go_wp2
        go_ret2
        exact HFIN.out
    · obtain rfl : k = L := by omega
      have hta : l.take k = l := List.take_of_length_le (by rw [HLEN.out]; exact Nat.le_refl _)
      rw [hta] at HA hrel
      have HFIN := Lib.hid (HOK.out q wr HA.out (hrel.wider hrel.top) hgr)
      clear hrel hgr hta
      go_wp2
      go_ret2
      exact HFIN.out

theorem relOf_c (n : Int) (p : Option Addr) (L c lo hi : Nat) (l : List (Int × Int)) (w : World) (hl : PairsAt w lo hi p L l) (hL : L ≤ 1000000) : Calls Tryd.prog 22 #[.int .i64 n, .slice p L c] w (RelOfPost n l w) := by
  by_cases h : n < 0 ∨ 200 < n
  · exact relOf_large n p L c l w h
  · obtain ⟨m, rfl⟩ := Int.eq_ofNat_of_zero_le (show 0 ≤ n by omega)
    exact relOf_mid m p L c lo hi l w (by omega) hl hL

end Go.Proofs.YtdolcdededmlhaaDoor
