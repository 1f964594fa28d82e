/- The contracts of Has, Of, Copy, Closure of package centoref2. -/
import Derived.Test.YtdolcdededmlhaaDoorMat
namespace Go.Proofs.YtdolcdededmlhaaDoor
open Go.RowKit

/-- A mark put in a table. -/
theorem IsMat.put {w : World} {lo hi p n : Nat} {R T : Nat → Nat → Bool} (h : IsMat w lo hi p n R) {a b : Nat} (ha : a < n) (hb : b < n) (v : Bool) (hT : ∀ x y, T x y = if x = a ∧ y = b then v else R x y) (hsT : Supp n T) :
    ∃ pm mb rb cap, pm = some ⟨mb, 0, none⟩ ∧ w.cell? ⟨p, 1, none⟩ = some (.slice pm n cap) ∧ w.cell? ⟨mb, a, none⟩ = some (.slice (some ⟨rb, 0, none⟩) n n) ∧ w.cell? ⟨rb, b, none⟩ = some (.bool (R a b)) ∧ w.frozen? ⟨rb, b, none⟩ = false ∧
      ∀ w' : World, w'.heap = w.heap → w'.os = w.os → w'.tape = w.tape → w'.output = w.output → IsMat (w'.setCell ⟨rb, b, none⟩ (.bool v)) lo hi p n T ∧ Kept lo hi w (w'.setCell ⟨rb, b, none⟩ (.bool v)) := by
  obtain ⟨h1, h2, pm, cap, mb, rb, h3⟩ := h
  obtain ⟨e1, e2⟩ := h3.cm ha
  refine ⟨pm, mb, rb a, cap, e1, h3.c1, e2, (h3.row a ha).cell hb, (h3.row a ha).free b, fun w' hw ho ht hu => ?_⟩
  have h3' : Tabl w' lo hi p n n pm cap mb rb R := h3.kept (by rw [hw]; exact Nat.le_refl _) fun i _ _ => by rw [hw]
  refine ⟨⟨h1, hsT, pm, cap, mb, rb, h3'.put ha hb v fun x y _ => hT x y⟩, ?_⟩
  have hk := Kept.row (lo := lo) (hi := hi) (grownBy_setCell w' ⟨rb a, b, none⟩ (.bool v)) (h3.inb a ha).1 (h3.inb a ha).2
  exact ⟨hk.os.trans ho, hk.tape.trans ht, hk.output.trans hu, by have := hk.size; rw [hw] at this; exact this, fun i hi hn => (hk.block i (by rw [hw]; exact hi) hn).trans (by rw [hw])⟩

/-- A mark of a table. -/
theorem IsMat.get {w : World} {lo hi p n : Nat} {R : Nat → Nat → Bool} (h : IsMat w lo hi p n R) {a b : Nat} (ha : a < n) (hb : b < n) :
    ∃ mb rb cap, w.cell? ⟨p, 1, none⟩ = some (.slice (some ⟨mb, 0, none⟩) n cap) ∧ w.cell? ⟨mb, a, none⟩ = some (.slice (some ⟨rb, 0, none⟩) n n) ∧ w.cell? ⟨rb, b, none⟩ = some (.bool (R a b)) := by
  obtain ⟨h1, h2, pm, cap, mb, rb, h3⟩ := h
  obtain ⟨rfl, e2⟩ := h3.cm ha
  exact ⟨mb, rb a, cap, h3.c1, e2, (h3.row a ha).cell hb⟩
theorem IsMat.c0 {w : World} {lo hi p n : Nat} {R : Nat → Nat → Bool} (h : IsMat w lo hi p n R) : w.cell? ⟨p, 0, none⟩ = some (.int .i64 n) := by
  obtain ⟨h1, h2, pm, cap, mb, rb, h3⟩ := h
  exact h3.c0

theorem addR_put (R : Nat → Nat → Bool) (a b x y : Nat) : addR R a b x y = if x = a ∧ y = b then true else R x y := by
  unfold addR
  by_cases h : x = a ∧ y = b
  · rw [if_pos h]; simp [h.1, h.2]
  · rw [if_neg h]
    have : (decide (x = a) && decide (y = b)) = false := by
      rw [Bool.and_eq_false_iff, decide_eq_false_iff_not, decide_eq_false_iff_not]
      by_cases e : x = a
      · exact .inr fun e2 => h ⟨e, e2⟩
      · exact .inl e
    rw [this, Bool.or_false]

/-- What Of of centoref2 leaves. -/
def MatOfPost (n : Int) (l : List (Int × Int)) (w : World) (e : Ending) (w' : World) : Prop :=
  (ofErr n l = 0 ∧ ∃ p, e = .returned (.tuple #[.pointer (some ⟨p, 0, none⟩), .int .i64 0]) ∧ IsMat w' w.heap.size w'.heap.size p n.toNat (ofL n.toNat l) ∧ w.grownBy w' none) ∨
  (ofErr n l ≠ 0 ∧ e = .returned (.tuple #[.pointer none, .int .i64 (ofErr n l)]) ∧ w.grownBy w' none)

theorem matOf_large (n : Int) (p : Option Addr) (L c : Nat) (l : List (Int × Int)) (w : World) (h : n < 0 ∨ 200 < n) : Calls Tryd.prog 33 #[.int .i64 n, .slice p L c] w (MatOfPost n l w) := by
  have he : ofErr n l = 11 := by unfold ofErr; rw [if_pos h]
  have HE : Hid (MatOfPost n l w (.returned (.tuple #[.pointer none, .int .i64 11])) w) := Lib.hid (.inr ⟨by rw [he]; decide, by rw [he], grownBy_refl _ _⟩)
  clear he
  rcases h with h | h
  · go_enter Tryd.func33, Tryd.ntmps33
    go_wp2
    go_ret2
    exact HE.out
  · have h' : ¬ n < 0 := by omega
    go_enter Tryd.func33, Tryd.ntmps33
    go_wp2
    go_ret2
    exact HE.out

set_option maxHeartbeats 2000000 in
set_option maxRecDepth 20000 in
theorem matOf_mid (n : Nat) (p : Option Addr) (L c lo hi : Nat) (l : List (Int × Int)) (w : World) (hn : n ≤ 200) (hl : PairsAt w lo hi p L l) (hL : L ≤ 1000000) : Calls Tryd.prog 33 #[.int .i64 n, .slice p L c] w (MatOfPost n l w) := by
  have n0 : ¬ ((n : Int) < 0) := by omega
  have n1 : ¬ (200 < (n : Int)) := by omega
  have HOK : Hid (∀ q w', allIn n l = true → IsMat w' w.heap.size w'.heap.size q n (ofL n l) → w.grownBy w' none → MatOfPost n l w (.returned (.tuple #[.pointer (some ⟨q, 0, none⟩), .int .i64 0])) w') := Lib.hid (fun q w' h1 h2 h3 => by
    have he : ofErr n l = 0 := by unfold ofErr; rw [if_neg (by omega), Int.toNat_natCast, h1]; rfl
    exact .inl ⟨he, q, rfl, by rw [Int.toNat_natCast]; exact h2, h3⟩)
  have HNO : Hid (∀ w', allIn n l = false → w.grownBy w' none → MatOfPost n l w (.returned (.tuple #[.pointer none, .int .i64 10])) w') := Lib.hid (fun w' h1 h3 => by
    have he : ofErr n l = 10 := by unfold ofErr; rw [if_neg (by omega), Int.toNat_natCast, h1]; rfl
    exact .inr ⟨by rw [he]; decide, by rw [he], h3⟩)
  have HL := Lib.hid hl
  have HLEN := Lib.hid hl.len
  clear hl
  go_enter Tryd.func33, Tryd.ntmps33
  go_wp2_with fail
  refine (matNew_c n _ hn).mono ?_
  rintro e w1 ⟨q, rfl, hr1, hg1⟩
  have HR1 := Lib.hid hr1
  have HG1 := Lib.hid hg1
  clear hr1 hg1
  go_wp2_with fail
  go_loopw [7] (fun i wr => ∃ k : Nat, k ≤ L ∧ i = .int .i64 k ∧ Hid (allIn n (l.take k) = true) ∧ IsMat wr w.heap.size w1.heap.size q n (ofL n (l.take k)) ∧ w.grownBy wr none) (fun i _ => L - (intOf i).toNat)
  case atStart => exact ⟨0, Nat.zero_le _, rfl, Lib.hid rfl, HR1.out, HG1.out⟩
  case round =>
    obtain ⟨k, hk, rfl, HA, hmat, hgr⟩ := hrel
    by_cases hkL : k < L
    · obtain ⟨b, off, rfl, q1, q2, q3, hcs⟩ := (HL.out.calm hgr).cell (by omega)
      obtain ⟨x1, x2⟩ := hcs k hkL
      have HTA := Lib.hid (allIn_snoc (n := n) (l := l) (k := k) (by rw [HLEN.out]; exact hkL))
      have HTO := Lib.hid (ofL_take (n := n) (l := l) (k := k) (by rw [HLEN.out]; exact hkL))
      have hc0 := hmat.c0
      have HMAT := Lib.hid hmat
      have HGR := Lib.hid hgr
      clear hcs hgr hmat
      generalize l[k]?.getD (0, 0) = x at *
      obtain ⟨x, y⟩ := x
      simp only at x1 x2 HTA
      have k0 : (0 : Int) ≤ k := by omega
      have k1 : (k : Int) < L := by omega
      by_cases hx : 0 ≤ x ∧ x < n
      · obtain ⟨a0, a1⟩ := hx
        obtain ⟨u, rfl⟩ := Int.eq_ofNat_of_zero_le a0
        have hu : u < n := by omega
        by_cases hy : 0 ≤ y ∧ y < n
        · obtain ⟨b0, b1⟩ := hy
          obtain ⟨v, rfl⟩ := Int.eq_ofNat_of_zero_le b0
          have hv : v < n := by omega
          have hin : inI n (u : Int) (v : Int) := ⟨a0, a1, b0, b1⟩
          have hA2 : allIn n (l.take (k + 1)) = true := by rw [HTA.out, HA.out]; simp [hin]
          have HA2 := Lib.hid hA2
          rw [addI_yes hin] at HTO
          simp only [Int.toNat_natCast] at HTO
          obtain ⟨pm, mb, rb, cap, rfl, hc1, hcm, hcr, hfr, hput⟩ := HMAT.out.put (T := addR (ofL n (l.take k)) u v) hu hv true (addR_put _ _ _) (addR_supp HMAT.out.supp hu hv)
          have HPUT := Lib.hid (hput (wr.drewN 1) rfl rfl rfl rfl)
          clear hA2 hin hput
          go_wp2_with fail
          refine (matIs_yes q n u _ hc0 hu).mono ?_
          rintro e w' ⟨rfl, h9⟩
          subst w'
          go_wp2_with fail
          refine (matIs_yes q n v _ hc0 hv).mono ?_
          rintro e w' ⟨rfl, h9⟩
          subst w'
          go_wp2
          refine wp_region_still_tail 17 (by kernel_rfl) (by kernel_rfl) ?_
          simp only [List.take_succ_cons, List.take_zero, List.drop_succ_cons, List.drop_zero]
          repeat still_step
          refine wpStill_nil ?_
          change wpList _ _ _ _ _ wr.drew
          go_wp2
          exact ⟨⟨k + 1, by omega, by go_num, HA2, by rw [HTO.out]; exact HPUT.out.1, Kept.new HGR.out HPUT.out.2 (Nat.le_refl _)⟩, by simp [intOf]; omega⟩
        · have hb' := Lib.hid (show y < 0 ∨ (n : Int) ≤ y by omega)
          have hA2 : allIn n l = false := allIn_take (k := k + 1) (by rw [HTA.out]; have : ¬ inI n (u : Int) y := by unfold inI; omega
                                                                      simp [this])
          have HFIN := Lib.hid (HNO.out _ hA2 HGR.out)
          clear hA2 hy
          go_wp2_with fail
          refine (matIs_yes q n u _ hc0 hu).mono ?_
          rintro e w' ⟨rfl, h9⟩
          subst w'
          go_wp2_with fail
          refine (matIs_no q n _ _ hc0 hb'.out).mono ?_
          rintro e w' ⟨rfl, h9⟩
          subst w'
          go_wp2
          go_ret2
          exact HFIN.out
      · have ha' := Lib.hid (show x < 0 ∨ (n : Int) ≤ x by omega)
        have hA2 : allIn n l = false := allIn_take (k := k + 1) (by rw [HTA.out]; have : ¬ inI n x y := by unfold inI; omega
                                                                    simp [this])
        have HFIN := Lib.hid (HNO.out _ hA2 HGR.out)
        clear hA2 hx
        go_wp2_with fail
        refine (matIs_no q n _ _ hc0 ha'.out).mono ?_
        rintro e w' ⟨rfl, h9⟩
        subst w'
        go_wp2
        go_ret2
        exact HFIN.out
    · obtain rfl : k = L := by omega
      have hta : l.take k = l := List.take_of_length_le (by rw [HLEN.out]; exact Nat.le_refl _)
      rw [hta] at HA hmat
      have HFIN := Lib.hid (HOK.out q wr HA.out (hmat.outer (Nat.le_refl _) hmat.top) hgr)
      clear hmat hgr hta
      go_wp2
      go_ret2
      exact HFIN.out

theorem matOf_c (n : Int) (p : Option Addr) (L c lo hi : Nat) (l : List (Int × Int)) (w : World) (hl : PairsAt w lo hi p L l) (hL : L ≤ 1000000) : Calls Tryd.prog 33 #[.int .i64 n, .slice p L c] w (MatOfPost n l w) := by
  by_cases h : n < 0 ∨ 200 < n
  · exact matOf_large n p L c l w h
  · obtain ⟨m, rfl⟩ := Int.eq_ofNat_of_zero_le (show 0 ≤ n by omega)
    exact matOf_mid m p L c lo hi l w (by omega) hl hL

/-- The first a rows, and the first b marks of the next one. -/
def partR (R : Nat → Nat → Bool) (a b x y : Nat) : Bool := if x < a ∨ (x = a ∧ y < b) then R x y else false
theorem partR_start (R : Nat → Nat → Bool) (a : Nat) : partR R a 0 = firstR R a := by
  funext x y
  unfold partR firstR
  by_cases h : x < a
  · rw [if_pos (.inl h), if_pos h]
  · rw [if_neg (by omega), if_neg h]
theorem partR_end {n : Nat} {R : Nat → Nat → Bool} (h : Supp n R) (a : Nat) : partR R a n = firstR R (a + 1) := by
  funext x y
  unfold partR firstR
  by_cases hx : x < a + 1
  · rw [if_pos hx]
    by_cases hc : x < a ∨ (x = a ∧ y < n)
    · rw [if_pos hc]
    · rw [if_neg hc]
      cases hr : R x y
      · rfl
      · have := (h x y hr).2
        omega
  · rw [if_neg (by omega), if_neg hx]
theorem partR_put (R : Nat → Nat → Bool) (a b x y : Nat) : partR R a (b + 1) x y = if x = a ∧ y = b then R a b else partR R a b x y := by
  unfold partR
  by_cases h : x = a ∧ y = b
  · rw [if_pos h, if_pos (by omega), h.1, h.2]
  · rw [if_neg h]
    by_cases h2 : x < a ∨ (x = a ∧ y < b)
    · rw [if_pos (by omega), if_pos h2]
    · rw [if_neg (by omega), if_neg h2]
theorem partR_supp {n : Nat} {R : Nat → Nat → Bool} (h : Supp n R) (a b : Nat) : Supp n (partR R a b) := fun x y e => by
  unfold partR at e
  split at e
  · exact h x y e
  · cases e

set_option maxHeartbeats 2000000 in
set_option maxRecDepth 20000 in
theorem matCopy_c (lo hi p n : Nat) (R : Nat → Nat → Bool) (w : World) (h : IsMat w lo hi p n R) : Calls Tryd.prog 58 #[.pointer (some ⟨p, 0, none⟩)] w (MatPost n R w) := by
  have hn := h.small
  have hc0 := h.c0
  have H := Lib.hid h
  have HSU := Lib.hid h.supp
  clear h
  go_enter Tryd.func58, Tryd.ntmps58
  go_wp2_with fail
  refine (matNew_c n _ hn).mono ?_
  rintro e w1 ⟨q, rfl, hr1, hg1⟩
  have HR1 := Lib.hid hr1
  have HG1 := Lib.hid hg1
  clear hr1 hg1
  go_wp2_with fail
  go_loopw [4] (fun i wr => ∃ a : Nat, a ≤ n ∧ i = .int .i64 a ∧ IsMat wr w.heap.size w1.heap.size q n (firstR R a) ∧ w.grownBy wr none) (fun i _ => n - (intOf i).toNat)
  case atStart => exact ⟨0, Nat.zero_le _, rfl, by rw [firstR_zero]; exact HR1.out, HG1.out⟩
  case round =>
    obtain ⟨a, ha, rfl, hma, hga⟩ := hrel
    have hc0a := (H.out.calm hga).c0
    by_cases han : a < n
    · have HMA := Lib.hid hma
      have HGA := Lib.hid hga
      clear hma hga
      go_wp2_with fail
      go_loopw [5] (fun i wr => ∃ b : Nat, b ≤ n ∧ i = .int .i64 b ∧ IsMat wr w.heap.size w1.heap.size q n (partR R a b) ∧ w.grownBy wr none) (fun i _ => n - (intOf i).toNat)
      case atStart => exact ⟨0, Nat.zero_le _, rfl, by rw [partR_start]; exact HMA.out, HGA.out⟩
      case round =>
        obtain ⟨b, hb, rfl, hmb, hgb⟩ := hrel
        have hc0b := (H.out.calm hgb).c0
        by_cases hbn : b < n
        · obtain ⟨mb0, rb0, cap0, g1, g2, g3⟩ := (H.out.calm hgb).get han hbn
          obtain ⟨pm, mb, rb, cap, rfl, hc1, hcm, hcr, hfr, hput⟩ := hmb.put (T := partR R a (b + 1)) han hbn (R a b) (partR_put R a b) (partR_supp HSU.out a (b + 1))
          have HPUT := Lib.hid (hput (wr.drewN 1) rfl rfl rfl rfl)
          have HGB := Lib.hid hgb
          have a0 : (0 : Int) ≤ a := by omega
          have b0 : (0 : Int) ≤ b := by omega
          have a1 : (a : Int) < n := by omega
          have b1 : (b : Int) < n := by omega
          clear hput hmb hgb
          generalize R a b = v at *
          go_wp2
          refine wp_region_still_tail 19 (by kernel_rfl) (by kernel_rfl) ?_
          simp only [List.take_succ_cons, List.take_zero, List.drop_succ_cons, List.drop_zero]
          repeat still_step
          refine wpStill_nil ?_
          change wpList _ _ _ _ _ wr.drew
          go_wp2
          exact ⟨⟨b + 1, by omega, by go_num, HPUT.out.1, Kept.new HGB.out HPUT.out.2 (Nat.le_refl _)⟩, by simp [intOf]; omega⟩
        · obtain rfl : b = n := by omega
          rw [partR_end HSU.out] at hmb
          go_wp2
          exact ⟨⟨a + 1, by omega, by go_num, hmb, hgb⟩, by simp [intOf]; omega⟩
    · obtain rfl : a = n := by omega
      rw [firstR_all HSU.out] at hma
      have HE := Lib.hid (show MatPost a R w (.returned (.pointer (some ⟨q, 0, none⟩))) wr from ⟨q, rfl, hma.outer (Nat.le_refl _) hma.top, hga⟩)
      clear hma hga
      go_wp2
      go_ret
      exact HE.out

end Go.Proofs.YtdolcdededmlhaaDoor
