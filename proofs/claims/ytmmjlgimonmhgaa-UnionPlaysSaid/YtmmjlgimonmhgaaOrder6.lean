/- The walk of the statement UnionOrder: at every input it answers true and leaves all that lay as it lay. -/
import Derived.Test.YtmmjlgimonmhgaaKnow6
namespace Go.Proofs.Ytmmjlgimonmhgaa
open Go.RowKit

/-- The row turned by t. -/
def turnL (l : List (Int × Int)) (t : Nat) : List (Int × Int) := (List.range l.length).map fun i => l[(i + t) % l.length]?.getD (0, 0)
theorem turnL_len (l : List (Int × Int)) (t : Nat) : (turnL l t).length = l.length := by simp [turnL]
theorem turnL_get (l : List (Int × Int)) (t k : Nat) (hk : k < l.length) : (turnL l t)[k]?.getD (0, 0) = l[(k + t) % l.length]?.getD (0, 0) := by
  unfold turnL
  rw [List.getElem?_map, List.getElem?_range hk]
  rfl
theorem turnL_mem (l : List (Int × Int)) (t : Nat) (x : Int × Int) : x ∈ turnL l t ↔ x ∈ l := by
  unfold turnL
  rw [List.mem_map]
  constructor
  · rintro ⟨i, hi, rfl⟩
    have hi' : i < l.length := by simpa using hi
    have hm : (i + t) % l.length < l.length := Nat.mod_lt _ (by omega)
    rw [List.getElem?_eq_getElem hm]
    exact List.getElem_mem hm
  · intro hx
    obtain ⟨j, hj, rfl⟩ := List.mem_iff_getElem.1 hx
    refine ⟨(j + (l.length - t % l.length)) % l.length, by simpa using Nat.mod_lt _ (by omega), ?_⟩
    have e : ((j + (l.length - t % l.length)) % l.length + t) % l.length = j := by
      have ht : t % l.length < l.length := Nat.mod_lt _ (by omega)
      have h1 : ((j + (l.length - t % l.length)) % l.length + t) % l.length = (j + (l.length - t % l.length) + t) % l.length := by
        rw [Nat.add_mod, Nat.mod_mod, ← Nat.add_mod]
      rw [h1]
      have h2 : t = l.length * (t / l.length) + t % l.length := (Nat.div_add_mod t l.length).symm
      have h3 : j + (l.length - t % l.length) + t = j + l.length * (t / l.length + 1) := by
        rw [Nat.mul_add, Nat.mul_one]
        omega
      rw [h3, Nat.add_mul_mod_self_left, Nat.mod_eq_of_lt hj]
    rw [e, List.getElem?_eq_getElem hj]
    rfl

/-- Pairs joined one by one. -/
def foldJ (n : Nat) (l : List (Int × Int)) : List Nat := l.foldl (fun L p => joinZ L p.1 p.2) (List.range n)
theorem foldJ_take {n : Nat} {l : List (Int × Int)} {k : Nat} (hk : k < l.length) : foldJ n (l.take (k + 1)) = joinZ (foldJ n (l.take k)) (l[k]?.getD (0, 0)).1 (l[k]?.getD (0, 0)).2 := by
  rw [List.take_succ_eq_append_getElem hk, List.getElem?_eq_getElem hk]
  unfold foldJ
  rw [List.foldl_append]
  rfl
/-- Whatever is one in J is so in K. -/
def subJ (J K : List Nat) : Prop := ∀ x y, x < J.length → y < J.length → nx J x = nx J y → nx K x = nx K y
theorem joinZ_is {L : List Nat} (h : isL L) (x y : Int) : isL (joinZ L x y) := by
  unfold joinZ
  split
  · rename_i hz
    simp only [Bool.and_eq_true] at hz
    have h1 := hasZ_iff.1 hz.1
    have h2 := hasZ_iff.1 hz.2
    exact joinL_is h (by omega) (by omega)
  · exact h
/-- The ends of a pair are one in K, or it isn't one of elements. -/
def heldJ (K : List Nat) (p : Int × Int) : Prop := hasZ K.length p.1 = true → hasZ K.length p.2 = true → nx K p.1.toNat = nx K p.2.toNat
theorem sub_joinZ {L K : List Nat} (hl : L.length = K.length) (h : subJ L K) {p : Int × Int} (hp : heldJ K p) : subJ (joinZ L p.1 p.2) K := by
  unfold joinZ
  split
  · rename_i hz
    simp only [Bool.and_eq_true] at hz
    have h1 := hasZ_iff.1 hz.1
    have h2 := hasZ_iff.1 hz.2
    rw [hl] at hz
    have hk := hp hz.1 hz.2
    intro x y hx hy e
    rw [joinL_len] at hx hy
    rw [nx_joinL hx, nx_joinL hy] at e
    have ka := h x p.1.toNat hx (by omega)
    have kb := h x p.2.toNat hx (by omega)
    have la := h y p.1.toNat hy (by omega)
    have lb := h y p.2.toNat hy (by omega)
    have lc := h x y hx hy
    split at e <;> split at e
    · rename_i a1 a2
      rcases a1 with a1 | a1 <;> rcases a2 with a2 | a2
      · rw [ka a1, la a2]
      · rw [ka a1, lb a2, hk]
      · rw [kb a1, la a2, hk]
      · rw [kb a1, lb a2]
    · omega
    · omega
    · exact lc e
  · exact h
theorem joinZ_sub (L : List Nat) (p : Int × Int) : subJ L (joinZ L p.1 p.2) ∧ heldJ (joinZ L p.1 p.2) p := by
  unfold joinZ
  split
  · rename_i hz
    simp only [Bool.and_eq_true] at hz
    have h1 := hasZ_iff.1 hz.1
    have h2 := hasZ_iff.1 hz.2
    refine ⟨fun x y hx hy e => by rw [nx_joinL hx, nx_joinL hy, e], fun _ _ => ?_⟩
    rw [nx_joinL (by omega), nx_joinL (by omega), if_pos (.inl rfl), if_pos (.inr rfl)]
  · rename_i hz
    refine ⟨fun x y _ _ e => e, fun h1 h2 => absurd (by rw [h1, h2]; rfl) hz⟩
theorem foldl_facts (l : List (Int × Int)) : ∀ L : List Nat, isL L → isL (l.foldl (fun L p => joinZ L p.1 p.2) L) ∧ (l.foldl (fun L p => joinZ L p.1 p.2) L).length = L.length ∧ subJ L (l.foldl (fun L p => joinZ L p.1 p.2) L) ∧ ∀ p ∈ l, heldJ (l.foldl (fun L p => joinZ L p.1 p.2) L) p := by
  induction l with
  | nil => intro L h; exact ⟨h, rfl, fun _ _ _ _ e => e, by simp⟩
  | cons q l ih =>
    intro L h
    obtain ⟨h1, h2, h3, h4⟩ := ih (joinZ L q.1 q.2) (joinZ_is h _ _)
    obtain ⟨g1, g2⟩ := joinZ_sub L q
    rw [joinZ_len] at h2
    refine ⟨h1, h2, fun x y hx hy e => h3 x y (by rw [joinZ_len]; exact hx) (by rw [joinZ_len]; exact hy) (g1 x y hx hy e), ?_⟩
    intro p hp
    rcases List.mem_cons.1 hp with rfl | hp
    · intro k1 k2
      rw [List.foldl_cons, h2] at k1 k2
      have a1 := hasZ_iff.1 k1
      have a2 := hasZ_iff.1 k2
      exact h3 _ _ (by rw [joinZ_len]; omega) (by rw [joinZ_len]; omega) (g2 (by rw [joinZ_len]; exact k1) (by rw [joinZ_len]; exact k2))
    · exact h4 p hp
theorem foldl_sub {K : List Nat} (l : List (Int × Int)) : ∀ L : List Nat, L.length = K.length → subJ L K → (∀ p ∈ l, heldJ K p) → subJ (l.foldl (fun L p => joinZ L p.1 p.2) L) K := by
  induction l with
  | nil => intro L _ h _; exact h
  | cons q l ih =>
    intro L hl h hh
    exact ih _ (by rw [joinZ_len]; exact hl) (sub_joinZ hl h (hh q (by simp))) (fun p hp => hh p (by simp [hp]))
theorem same_J {J K : List Nat} (hj : isL J) (hk : isL K) (hl : J.length = K.length) (h1 : subJ J K) (h2 : subJ K J) : J = K := by
  apply list_nx hl
  intro e he
  have a1 := hj.le e he
  have a2 := hj.fix e he
  have b1 := hk.le e (by omega)
  have b2 := hk.fix e (by omega)
  have c1 := h1 (nx J e) e (by omega) he a2
  have c2 := h2 (nx K e) e (by omega) (by omega) b2
  have d1 := hk.le (nx J e) (by omega)
  have d2 := hj.le (nx K e) (by omega)
  omega
theorem range_is (n : Nat) : isL (List.range n) := by
  have := rootL_is (range_down n)
  rwa [rootL_range] at this
theorem range_sub (n : Nat) (K : List Nat) : subJ (List.range n) K := by
  intro x y hx hy e
  rw [List.length_range] at hx hy
  rw [nx_range hx, nx_range hy] at e
  rw [e]
theorem foldJ_len (n : Nat) (l : List (Int × Int)) : (foldJ n l).length = n := by
  have := (foldl_facts l (List.range n) (range_is n)).2.1
  rw [List.length_range] at this
  exact this
theorem foldJ_is (n : Nat) (l : List (Int × Int)) : isL (foldJ n l) := (foldl_facts l (List.range n) (range_is n)).1
def swapP (p : Int × Int) : Int × Int := (p.2, p.1)
theorem held_swap {K : List Nat} {p : Int × Int} (h : heldJ K (swapP p)) : heldJ K p := fun h1 h2 => (h h2 h1).symm
/-- Turned and with ends swapped: the same classes. -/
theorem foldJ_turn (n t : Nat) (l : List (Int × Int)) : foldJ n ((turnL l t).map swapP) = foldJ n l := by
  obtain ⟨_, _, _, hh1⟩ := foldl_facts l (List.range n) (range_is n)
  obtain ⟨_, _, _, hh2⟩ := foldl_facts ((turnL l t).map swapP) (List.range n) (range_is n)
  refine same_J (foldJ_is _ _) (foldJ_is _ _) (by rw [foldJ_len, foldJ_len]) ?_ ?_
  · refine foldl_sub _ _ (by rw [foldJ_len]; simp) (range_sub n _) ?_
    intro p hp
    obtain ⟨q, hq, rfl⟩ := List.mem_map.1 hp
    exact held_swap (hh1 q ((turnL_mem l t q).1 hq))
  · refine foldl_sub _ _ (by rw [foldJ_len]; simp) (range_sub n _) ?_
    intro p hp
    exact held_swap (hh2 (swapP p) (List.mem_map.2 ⟨p, (turnL_mem l t p).2 hp, rfl⟩))

set_option maxRecDepth 100000 in
set_option maxHeartbeats 4000000 in
theorem unionOrder_out (n L c t : Nat) (p : Option Addr) (w : World) (h : 60 < L) :
    Calls Try.prog 4 #[.int .u8 n, .slice p L c, .int .u8 t] w fun e w' => e = .returned (.bool true) ∧ w.grownBy w' none := by
  go_enter Try.func4, Try.ntmps4
  go_wp2_with fail
  refine (known6_c w).mono ?_
  rintro e w1 ⟨rfl, hg⟩
  have HG := Lib.hid hg
  clear hg
  go_wp2
  go_ret
  exact ⟨rfl, HG.out⟩

theorem leastL_nat {L : List Nat} {a : Nat} (ha : a < L.length) : leastL L (a : Int) = (nx L a : Nat) := leastL_yes (hasZ_iff.2 ⟨by omega, by omega⟩)

set_option maxRecDepth 100000 in
set_option maxHeartbeats 4000000 in
theorem unionOrder_in (n m L c t lo hi : Nat) (p : Option Addr) (l : List (Int × Int)) (w : World) (hn : n < 256) (ht' : t < 256) (hm : n % 40 = m) (hL : L ≤ 60) (hl : PairsAt w lo hi p L l) :
    Calls Try.prog 4 #[.int .u8 n, .slice p L c, .int .u8 t] w fun e w' => e = .returned (.bool true) ∧ w.grownBy w' none := by
  have HL := Lib.hid hl
  have HLEN := Lib.hid hl.len
  have hm1 : m < 40 := by omega
  have hmi : (n : Int) % 40 = (m : Int) := by omega
  have HM := Lib.hid hmi
  clear hl hmi hm
  go_enter Try.func4, Try.ntmps4
  go_wp2_with fail
  refine (known6_c w).mono ?_
  rintro e w1 ⟨rfl, hg1⟩
  have G1 := Lib.hid hg1
  have hb1 := G1.out.size
  clear hg1
  go_wp2_with fail
  rw [HM.out]
  refine (newU_c m _ (by omega)).mono ?_
  rintro e w2 ⟨qa, rfl, h2, hg2⟩
  have A2 := Lib.hid h2
  have G2 := Lib.hid (grownBy_trans G1.out hg2)
  clear h2 hg2 HM G1
  go_wp2_with fail
  refine (newU_c m _ (by omega)).mono ?_
  rintro e w3 ⟨qb, rfl, h3, hg3⟩
  have A3 := Lib.hid (A2.out.calm hg3)
  have B3 := Lib.hid h3
  have G3 := Lib.hid (grownBy_trans G2.out hg3)
  clear h3 hg3 A2 G2
  have hab := A3.out.top.1
  have hbc := B3.out.top.1
  generalize hs1 : w1.heap.size = s1 at *
  generalize hs2 : w2.heap.size = s2 at *
  generalize hs3 : w3.heap.size = s3 at *
  clear hs1 hs2 hs3
  go_wp2_with fail
  go_loopw [10] (fun i wr => ∃ k : Nat, k ≤ L ∧ i = .int .i64 k ∧ IsUn wr s1 s2 qa (foldJ m (l.take k)) ∧ IsUn wr s2 s3 qb (foldJ m (((turnL l t).map swapP).take k)) ∧ w.grownBy wr none) (fun i _ => L - (intOf i).toNat)
  case atStart => exact ⟨0, Nat.zero_le _, rfl, A3.out, B3.out, G3.out⟩
  case round =>
    obtain ⟨k, hk, rfl, ra, rb, hgr⟩ := hrel
    by_cases hkL : k < L
    · obtain ⟨b, off, rfl, q1, q2, q3, hcs⟩ := (HL.out.calm hgr).cell (by omega)
      obtain ⟨x1, x2⟩ := hcs k hkL
      have hj : (k + t) % L < L := Nat.mod_lt _ (by omega)
      have HJL := Lib.hid hj
      have HA := Lib.hid (foldJ_take (n := m) (l := l) (k := k) (by rw [HLEN.out]; exact hkL))
      have HB := foldJ_take (n := m) (l := (turnL l t).map swapP) (k := k) (by rw [List.length_map, turnL_len, HLEN.out]; exact hkL)
      have hsw : (((turnL l t).map swapP)[k]?.getD (0, 0)) = swapP (l[(k + t) % L]?.getD (0, 0)) := by
        have := turnL_get l t k (by rw [HLEN.out]; exact hkL)
        rw [HLEN.out] at this
        rw [← this, List.getElem?_map, List.getElem?_eq_getElem (by rw [turnL_len, HLEN.out]; exact hkL)]
        rfl
      rw [hsw] at HB
      have HB := Lib.hid HB
      have hji : ((k : Int) + (t : Int)) % (L : Int) = (((k + t) % L : Nat) : Int) := by rw [Int.natCast_emod, Int.natCast_add]
      have RA := Lib.hid ra
      have RB := Lib.hid rb
      have GR := Lib.hid hgr
      clear hcs hgr ra rb hsw
      generalize (k + t) % L = j at *
      generalize l[k]?.getD (0, 0) = x at *
      obtain ⟨xa, xb⟩ := x
      simp only at x1 x2
      have k0 : (0 : Int) ≤ k := by omega
      have k1 : (k : Int) < L := by omega
      have j0 : (0 : Int) ≤ j := by omega
      have j1 : (j : Int) < L := by omega
      go_wp2_with fail
      refine wp_region_still_tail 11 (by kernel_rfl) (by kernel_rfl) ?_
      simp only [List.take_succ_cons, List.take_zero, List.drop_succ_cons, List.drop_zero]
      repeat still_step
      refine wpStill_nil ?_
      change wpList _ _ _ _ _ wr.drew
      go_wp2_with fail
      refine (joinU_c s1 s2 qa _ xa xb _ (RA.out.calm (grownBy_drewN wr 1 none))).mono ?_
      rintro e w5 ⟨rfl, h5, hk5⟩
      have hk5' := (Kept.calm (lo := s1) (hi := s2) (grownBy_drewN wr 1 none)).trans hk5
      have A5 := Lib.hid (show IsUn w5 s1 s2 qa (foldJ m (l.take (k + 1))) by rw [HA.out]; exact h5)
      have B5 := Lib.hid (RB.out.apart hk5' (.inr (Nat.le_refl _)))
      have G5 := Lib.hid (Kept.new GR.out hk5' hb1)
      clear h5 hk5 hk5' RA RB GR x1 x2
      obtain ⟨b', off', hb', u1, u2, u3, hcs⟩ := (HL.out.calm G5.out).cell (by omega)
      simp only [Option.some.injEq, Addr.mk.injEq, and_true] at hb'
      obtain ⟨rfl, rfl⟩ := hb'
      obtain ⟨y1, y2⟩ := hcs j HJL.out
      generalize l[j]?.getD (0, 0) = y at *
      obtain ⟨ya, yb⟩ := y
      simp only at y1 y2
      have hga := World.grownBy_alloc w5 (.cells #[.int .i64 ya, .int .i64 yb] 31) none
      have z1 : (w5.alloc (.cells #[.int .i64 ya, .int .i64 yb] 31)).cell? ⟨w5.heap.size, 0, none⟩ = some (.int .i64 ya) := by simp
      have z2 : (w5.alloc (.cells #[.int .i64 ya, .int .i64 yb] 31)).cell? ⟨w5.heap.size, 1, none⟩ = some (.int .i64 yb) := by simp
      have A6 := Lib.hid (A5.out.calm hga)
      have B6 := Lib.hid (B5.out.calm hga)
      have G6 := Lib.hid (grownBy_trans G5.out hga)
      clear hcs hga A5 B5 G5
      go_wp2_with fail
      refine (joinU_c s2 s3 qb _ yb ya _ B6.out).mono ?_
      rintro e w7 ⟨rfl, h7, hk7⟩
      have HE := Lib.hid (show IsUn w7 s1 s2 qa (foldJ m (l.take (k + 1))) ∧ IsUn w7 s2 s3 qb (foldJ m (((turnL l t).map swapP).take (k + 1))) ∧ w.grownBy w7 none from
        ⟨A6.out.apart hk7 (.inl (Nat.le_refl _)), by rw [HB.out]; exact h7, Kept.new G6.out hk7 (by omega)⟩)
      clear h7 hk7 A6 B6 G6
      go_wp2
      exact ⟨⟨k + 1, by omega, by go_num, HE.out.1, HE.out.2.1, HE.out.2.2⟩, by simp [intOf]; omega⟩
    · obtain rfl : k = L := by omega
      rw [List.take_of_length_le (by rw [HLEN.out]; exact Nat.le_refl _)] at ra
      rw [List.take_of_length_le (by rw [List.length_map, turnL_len, HLEN.out]; exact Nat.le_refl _), foldJ_turn] at rb
      have HIS := Lib.hid (foldJ_is m l)
      have HJL := Lib.hid (foldJ_len m l)
      have RA := Lib.hid ra
      have RB := Lib.hid rb
      have GR := Lib.hid hgr
      clear ra rb hgr
      generalize foldJ m l = J at *
      go_wp2
      generalize wr = wo at *
      go_loopw [12] (fun i wr => ∃ a : Nat, a ≤ m ∧ i = .int .i64 a ∧ wo.grownBy wr none) (fun i _ => m - (intOf i).toNat)
      case atStart => exact ⟨0, Nat.zero_le _, rfl, grownBy_refl _ _⟩
      case round =>
        obtain ⟨a, ha, rfl, hgr⟩ := hrel
        have GW := Lib.hid hgr
        clear hgr
        by_cases ham : a < m
        · have a1 : (a : Int) < m := by omega
          have haJ : a < J.length := by rw [HJL.out]; exact ham
          have hle := HIS.out.le a haJ
          have hfx := HIS.out.fix a haJ
          have HE := Lib.hid (leastL_nat haJ)
          have HS : Hid (sameL J (a : Int) ((nx J a : Nat) : Int) = true) := Lib.hid (by
            unfold sameL
            rw [hasZ_iff.2 ⟨by omega, by omega⟩, hasZ_iff.2 ⟨by omega, by omega⟩]
            show (true && (true && decide (nx J a = nx J (nx J a)))) = true
            rw [hfx]
            simp)
          have hne : ((nx J a : Int) != (nx J a : Int)) = false := by simp
          have hng : ¬ ((a : Int) < (nx J a : Int)) := by omega
          clear haJ hfx hle
          generalize nx J a = u at *
          go_wp2_with fail
          refine (leastU_c s1 s2 qa J a u _ (RA.out.calm GW.out) HE.out).mono ?_
          rintro e w5 ⟨rfl, hg⟩
          have G5 := Lib.hid (grownBy_trans GW.out hg)
          clear hg
          go_wp2_with fail
          refine (leastU_c s2 s3 qb J a u _ (RB.out.calm G5.out) HE.out).mono ?_
          rintro e w6 ⟨rfl, hg⟩
          have G6 := Lib.hid (grownBy_trans G5.out hg)
          clear hg
          go_wp2_with fail
          refine (leastU_c s1 s2 qa J a u _ (RA.out.calm G6.out) HE.out).mono ?_
          rintro e w7 ⟨rfl, hg⟩
          have G7 := Lib.hid (grownBy_trans G6.out hg)
          clear hg
          go_wp2_with fail
          refine (sameU_c s1 s2 qa J a u true _ (RA.out.calm G7.out) HS.out).mono ?_
          rintro e w8 ⟨rfl, hg⟩
          have G8 := Lib.hid (grownBy_trans G7.out hg)
          clear hg
          go_wp2_with fail
          refine (leastU_c s1 s2 qa J a u _ (RA.out.calm G8.out) HE.out).mono ?_
          rintro e w9 ⟨rfl, hg⟩
          have G9 := Lib.hid (grownBy_trans G8.out hg)
          clear hg
          go_wp2
          exact ⟨⟨a + 1, by omega, by go_num, G9.out⟩, by simp [intOf]; omega⟩
        · obtain rfl : a = m := by omega
          have G0 := Lib.hid (grownBy_trans GR.out GW.out)
          go_wp2_with fail
          refine (classesU_c s1 s2 qa J _ (RA.out.calm GW.out)).mono ?_
          rintro e w5 ⟨v, rfl, ⟨ib, ic, hgrid⟩, hg⟩
          obtain ⟨pg, cap, rfl, _⟩ := hgrid.slice
          have G5 := Lib.hid (grownBy_trans GW.out hg)
          clear hgrid hg
          go_wp2_with fail
          refine (classesU_c s2 s3 qb J _ (RB.out.calm G5.out)).mono ?_
          rintro e w6 ⟨v, rfl, ⟨ib', ic', hgrid⟩, hg⟩
          obtain ⟨pg', cap', rfl, _⟩ := hgrid.slice
          have G6 := Lib.hid (grownBy_trans GR.out (grownBy_trans G5.out hg))
          clear hgrid hg
          generalize (circL (eqC J) J.length).length = q at *
          have hqq : ((q : Int) == (q : Int)) = true := by simp
          go_wp2
          go_ret
          refine ⟨?_, G6.out⟩
          first | rfl | simp

end Go.Proofs.Ytmmjlgimonmhgaa
