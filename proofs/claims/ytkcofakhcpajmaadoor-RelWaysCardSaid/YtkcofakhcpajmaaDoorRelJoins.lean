/- The walk of the statement RelJoins: at every input it answers true and leaves all that lay as it lay. Condition: the table of the lowest places is in memory. -/
import Derived.Test.YtkcofakhcpajmaaDoorKnow2
namespace Go.Proofs.YtkcofakhcpajmaaDoor
open Go.RowKit

/-- Pairs joined one by one. -/
def joinL (n : Nat) (l : List (Int × Int)) : Nat → Nat → Bool := l.foldl (joinI n) (fun _ _ => false)
theorem joinL_snoc (n : Nat) (l : List (Int × Int)) (p : Int × Int) : joinL n (l ++ [p]) = joinI n (joinL n l) p := by simp [joinL]
theorem joinL_take {n : Nat} {l : List (Int × Int)} {k : Nat} (hk : k < l.length) : joinL n (l.take (k + 1)) = joinI n (joinL n (l.take k)) (l[k]?.getD (0, 0)) := by
  rw [List.take_succ_eq_append_getElem hk, joinL_snoc, List.getElem?_eq_getElem hk]
  rfl

theorem addI_mono {n : Nat} {R T : Nat → Nat → Bool} (h : Sub R T) (p : Int × Int) : Sub (addI n R p) (addI n T p) := by
  unfold addI
  split
  · intro x y e
    rcases (addR_iff _ _ _ _ _).1 e with e | e
    · exact (addR_iff _ _ _ _ _).2 (.inl (h x y e))
    · exact (addR_iff _ _ _ _ _).2 (.inr e)
  · exact h

theorem addI_clo {n : Nat} {R : Nat → Nat → Bool} (h : Supp n R) (p : Int × Int) : clo n (addI n (clo n R) p) = clo n (addI n R p) := by
  apply Sub.antisymm
  · apply clo_least _ (clo_trans (addI_supp h p))
    intro x y e
    unfold addI at e
    split at e
    · rename_i hin
      rcases (addR_iff _ _ _ _ _).1 e with e | ⟨e1, e2⟩
      · exact clo_mono (addI_sub n R p) (addI_supp h p) x y e
      · apply clo_sub
        unfold addI
        rw [if_pos hin]
        exact (addR_iff _ _ _ _ _).2 (.inr ⟨e1, e2⟩)
    · exact clo_mono (addI_sub n R p) (addI_supp h p) x y e
  · exact clo_mono (addI_mono (clo_sub n R) p) (addI_supp (clo_supp h) p)

/-- Pairs joined one by one come to the closure of them all. -/
theorem joinL_clo (n : Nat) (l : List (Int × Int)) : joinL n l = clo n (ofL n l) := by
  have key : ∀ (l : List (Int × Int)) (R T : Nat → Nat → Bool), Supp n R → T = clo n R → l.foldl (joinI n) T = clo n (l.foldl (addI n) R) := by
    intro l
    induction l with
    | nil => intro R T _ h; exact h
    | cons p l ih =>
      intro R T hs h
      refine ih (addI n R p) (joinI n T p) (addI_supp hs p) ?_
      unfold joinI
      split
      · rw [h, addI_clo hs]
      · rename_i hno
        rw [h]
        have : addI n R p = R := addI_no (a := p.1) (b := p.2) hno
        rw [this]
  exact key l _ _ (supp_none n) (clo_of_trans (fun _ _ _ h => by cases h)).symm

theorem ofL_iff (n : Nat) (l : List (Int × Int)) (x y : Nat) : ofL n l x y = true ↔ x < n ∧ y < n ∧ ((x : Int), (y : Int)) ∈ l := by
  have key : ∀ (l : List (Int × Int)) (R : Nat → Nat → Bool), l.foldl (addI n) R x y = true ↔ R x y = true ∨ (x < n ∧ y < n ∧ ((x : Int), (y : Int)) ∈ l) := by
    intro l
    induction l with
    | nil => intro R; simp
    | cons p l ih =>
      intro R
      rw [List.foldl_cons, ih]
      have : addI n R p x y = true ↔ R x y = true ∨ (x < n ∧ y < n ∧ ((x : Int), (y : Int)) = p) := by
        unfold addI
        split
        · rename_i h
          rw [addR_iff]
          constructor
          · rintro (h1 | ⟨h1, h2⟩)
            · exact .inl h1
            · exact .inr ⟨by omega, by omega, Prod.ext (by simp only; omega) (by simp only; omega)⟩
          · rintro (h1 | ⟨h1, h2, h3⟩)
            · exact .inl h1
            · right
              rw [← h3]
              simp
        · rename_i h
          constructor
          · exact .inl
          · rintro (h1 | ⟨h1, h2, h3⟩)
            · exact h1
            · exfalso
              apply h
              rw [← h3]
              simp only
              omega
      rw [this, List.mem_cons]
      constructor
      · rintro ((h | ⟨h1, h2, h3⟩) | ⟨h1, h2, h3⟩)
        · exact .inl h
        · exact .inr ⟨h1, h2, .inl h3⟩
        · exact .inr ⟨h1, h2, .inr h3⟩
      · rintro (h | ⟨h1, h2, h3 | h3⟩)
        · exact .inl (.inl h)
        · exact .inl (.inr ⟨h1, h2, h3⟩)
        · exact .inr ⟨h1, h2, h3⟩
  have := key l (fun _ _ => false)
  simpa [ofL] using this

/-- Lists of the same pairs. -/
theorem ofL_congr {n : Nat} {l r : List (Int × Int)} (h : ∀ x, x ∈ l ↔ x ∈ r) : ofL n l = ofL n r := by
  funext x y
  rw [Bool.eq_iff_iff, ofL_iff, ofL_iff, h]

/-- The row turned by t. -/
def turnL (l : List (Int × Int)) (t : Nat) : List (Int × Int) := (List.range l.length).map fun i => l[(i + t) % l.length]?.getD (0, 0)
theorem turnL_len (l : List (Int × Int)) (t : Nat) : (turnL l t).length = l.length := by simp [turnL]
theorem turnL_get (l : List (Int × Int)) (t k : Nat) (hk : k < l.length) : (turnL l t)[k]?.getD (0, 0) = l[(k + t) % l.length]?.getD (0, 0) := by
  unfold turnL
  rw [List.getElem?_map, List.getElem?_range hk]
  rfl
theorem turnL_mem (l : List (Int × Int)) (t : Nat) (x : Int × Int) : x ∈ turnL l t ↔ x ∈ l := by
  unfold turnL
  rw [List.mem_map]
  constructor
  · rintro ⟨i, hi, rfl⟩
    have hi' : i < l.length := by simpa using hi
    have hm : (i + t) % l.length < l.length := Nat.mod_lt _ (by omega)
    rw [List.getElem?_eq_getElem hm]
    exact List.getElem_mem hm
  · intro hx
    obtain ⟨j, hj, rfl⟩ := List.mem_iff_getElem.1 hx
    refine ⟨(j + (l.length - t % l.length)) % l.length, by simpa using Nat.mod_lt _ (by omega), ?_⟩
    have e : ((j + (l.length - t % l.length)) % l.length + t) % l.length = j := by
      have ht : t % l.length < l.length := Nat.mod_lt _ (by omega)
      have h1 : ((j + (l.length - t % l.length)) % l.length + t) % l.length = (j + (l.length - t % l.length) + t) % l.length := by
        rw [Nat.add_mod, Nat.mod_mod, ← Nat.add_mod]
      rw [h1]
      have h2 : t = l.length * (t / l.length) + t % l.length := (Nat.div_add_mod t l.length).symm
      have h3 : j + (l.length - t % l.length) + t = j + l.length * (t / l.length + 1) := by
        rw [Nat.mul_add, Nat.mul_one]
        omega
      rw [h3, Nat.add_mul_mod_self_left, Nat.mod_eq_of_lt hj]
    rw [e, List.getElem?_eq_getElem hj]
    rfl

set_option maxRecDepth 100000 in
set_option maxHeartbeats 4000000 in
theorem relJoins_out (n L c t : Nat) (p : Option Addr) (w : World) (hn : n < 256) (ht : Tab w) (h : 30 < L) :
    Calls Tryd.prog 6 #[.int .u8 n, .slice p L c, .int .u8 t] w fun e w' => e = .returned (.bool true) ∧ w.grownBy w' none := by
  go_enter Tryd.func6, Tryd.ntmps6
  go_wp2_with fail
  refine (known2_c w ht).mono ?_
  rintro e w1 ⟨rfl, hg⟩
  have HG := Lib.hid hg
  clear hg
  go_wp2
  go_ret
  exact ⟨rfl, HG.out⟩

set_option maxRecDepth 100000 in
set_option maxHeartbeats 4000000 in
theorem relJoins_in (n m L c t lo hi : Nat) (p : Option Addr) (l : List (Int × Int)) (w : World) (hn : n < 256) (ht' : t < 256) (hm : n % 16 + 1 = m) (hL : L ≤ 30) (hl : PairsAt w lo hi p L l) (ht : Tab w) :
    Calls Tryd.prog 6 #[.int .u8 n, .slice p L c, .int .u8 t] w fun e w' => e = .returned (.bool true) ∧ w.grownBy w' none := by
  have HL := Lib.hid hl
  have HLEN := Lib.hid hl.len
  have HT := Lib.hid ht
  have hm1 : m ≤ 16 := by omega
  have hm0 : 1 ≤ m := by omega
  have hmi : (n : Int) % 16 + 1 = (m : Int) := by omega
  have HM := Lib.hid hmi
  clear hl ht hmi hm
  go_enter Tryd.func6, Tryd.ntmps6
  go_wp2_with fail
  refine (known2_c w HT.out).mono ?_
  rintro e w1 ⟨rfl, hg1⟩
  have G1 := Lib.hid hg1
  have hb1 := G1.out.size
  clear hg1
  go_wp2_with fail
  rw [HM.out]
  refine (relNew_mid m _ (by omega)).mono ?_
  rintro e w2 ⟨qa, rfl, h2, hg2⟩
  have A2 := Lib.hid h2
  have G2 := Lib.hid (grownBy_trans G1.out hg2)
  clear h2 hg2 HM G1
  go_wp2_with fail
  refine (relNew_mid m _ (by omega)).mono ?_
  rintro e w3 ⟨qb, rfl, h3, hg3⟩
  have A3 := Lib.hid (A2.out.calm hg3)
  have B3 := Lib.hid h3
  have G3 := Lib.hid (grownBy_trans G2.out hg3)
  clear h3 hg3 A2 G2
  go_wp2_with fail
  refine (relNew_mid m _ (by omega)).mono ?_
  rintro e w4 ⟨qc, rfl, h4, hg4⟩
  have A4 := Lib.hid (A3.out.calm hg4)
  have B4 := Lib.hid (B3.out.calm hg4)
  have C4 := Lib.hid h4
  have G4 := Lib.hid (grownBy_trans G3.out hg4)
  clear h4 hg4 A3 B3 G3
  have hab : w1.heap.size ≤ w2.heap.size := Nat.le_of_lt A4.out.lt
  have hbc : w2.heap.size ≤ w3.heap.size := Nat.le_of_lt B4.out.lt
  have hcd : w3.heap.size ≤ w4.heap.size := Nat.le_of_lt C4.out.lt
  generalize hs1 : w1.heap.size = s1 at *
  generalize hs2 : w2.heap.size = s2 at *
  generalize hs3 : w3.heap.size = s3 at *
  generalize hs4 : w4.heap.size = s4 at *
  clear hs1 hs2 hs3 hs4
  go_wp2_with fail
  go_loopw [11] (fun i wr => ∃ k : Nat, k ≤ L ∧ i = .int .i64 k ∧ IsRel wr s1 s2 qa m (joinL m (l.take k)) ∧ IsRel wr s2 s3 qb m (joinL m ((turnL l t).take k)) ∧ IsRel wr s3 s4 qc m (ofL m (l.take k)) ∧ w.grownBy wr none) (fun i _ => L - (intOf i).toNat)
  case atStart => exact ⟨0, Nat.zero_le _, rfl, A4.out, B4.out, C4.out, G4.out⟩
  case round =>
    obtain ⟨k, hk, rfl, ra, rb, rc, hgr⟩ := hrel
    by_cases hkL : k < L
    · obtain ⟨b, off, rfl, q1, q2, q3, hcs⟩ := (HL.out.calm hgr).cell (by omega)
      obtain ⟨x1, x2⟩ := hcs k hkL
      have hj : (k + t) % L < L := Nat.mod_lt _ (by omega)
      obtain ⟨y1, y2⟩ := hcs _ hj
      have HA := Lib.hid (joinL_take (n := m) (l := l) (k := k) (by rw [HLEN.out]; exact hkL))
      have HB := joinL_take (n := m) (l := turnL l t) (k := k) (by rw [turnL_len, HLEN.out]; exact hkL)
      rw [turnL_get l t k (by rw [HLEN.out]; exact hkL), HLEN.out] at HB
      have HB := Lib.hid HB
      have HC := Lib.hid (ofL_take (n := m) (l := l) (k := k) (by rw [HLEN.out]; exact hkL))
      have hji : ((k : Int) + (t : Int)) % (L : Int) = (((k + t) % L : Nat) : Int) := by rw [Int.natCast_emod, Int.natCast_add]
      have RA := Lib.hid ra
      have RB := Lib.hid rb
      have RC := Lib.hid rc
      have RC4 : Hid (s4 ≤ wr.heap.size) := Lib.hid rc.top
      have GR := Lib.hid hgr
      clear hcs hgr ra rb rc
      generalize (k + t) % L = j at *
      generalize hX : l[k]?.getD (0, 0) = x at *
      have HXE := Lib.hid hX
      clear hX
      generalize l[j]?.getD (0, 0) = y at *
      obtain ⟨xa, xb⟩ := x
      obtain ⟨ya, yb⟩ := y
      simp only at x1 x2 y1 y2
      have k0 : (0 : Int) ≤ k := by omega
      have k1 : (k : Int) < L := by omega
      have j0 : (0 : Int) ≤ j := by omega
      have j1 : (j : Int) < L := by omega
      have hga := World.grownBy_alloc wr (.cells #[.int .i64 ya, .int .i64 yb] 48) none
      have hbl : b < wr.heap.size := by omega
      have x1' := (World.cell?_of_block (a := ⟨b, off + k * 2, none⟩) (hga.block b hbl (by simp))).trans x1
      have x2' := (World.cell?_of_block (a := ⟨b, off + k * 2 + 1, none⟩) (hga.block b hbl (by simp))).trans x2
      have z1 : (wr.alloc (.cells #[.int .i64 ya, .int .i64 yb] 48)).cell? ⟨wr.heap.size, 0, none⟩ = some (.int .i64 ya) := by simp
      have z2 : (wr.alloc (.cells #[.int .i64 ya, .int .i64 yb] 48)).cell? ⟨wr.heap.size, 1, none⟩ = some (.int .i64 yb) := by simp
      have RA := Lib.hid (RA.out.calm hga)
      have RB := Lib.hid (RB.out.calm hga)
      have RC := Lib.hid (RC.out.calm hga)
      have GR := Lib.hid (grownBy_trans GR.out hga)
      have hzl : wr.heap.size < (wr.alloc (.cells #[.int .i64 ya, .int .i64 yb] 48)).heap.size := by simp
      have hs4' : s4 ≤ wr.heap.size := RC4.out
      clear hga
      go_wp2_with fail
      generalize hW : wr.alloc (.cells #[.int .i64 ya, .int .i64 yb] 48) = W at *
      clear hW
      refine wp_region_still_tail 11 (by kernel_rfl) (by kernel_rfl) ?_
      simp only [List.take_succ_cons, List.take_zero, List.drop_succ_cons, List.drop_zero]
      repeat still_step
      refine wpStill_nil ?_
      change wpList _ _ _ _ _ W.drew
      go_wp2_with fail
      refine (join_c s1 s2 qa m xa xb _ _ (RA.out.calm (grownBy_drewN W 1 none))).mono ?_
      rintro e w5 ⟨rfl, h5, hk5⟩
      have hk5' := (Kept.calm (lo := s1) (hi := s2) (grownBy_drewN W 1 none)).trans hk5
      have A5 := Lib.hid h5
      have B5 := Lib.hid (RB.out.apart hk5' (.inr (Nat.le_refl _)))
      have C5 := Lib.hid (RC.out.apart hk5' (.inr hbc))
      have G5 := Lib.hid (Kept.new GR.out hk5' hb1)
      have z1' := hk5'.cell z1 hzl (by omega)
      have z2' := hk5'.cell z2 hzl (by omega)
      have hsz := hk5'.size
      have GP := Lib.hid (show PairsAt w5 lo hi (some ⟨b, off, none⟩) L l from HL.out.calm G5.out)
      clear h5 hk5 hk5' RA RB RC GR z1 z2
      go_wp2_with fail
      refine (join_c s2 s3 qb m ya yb _ _ B5.out).mono ?_
      rintro e w6 ⟨rfl, h6, hk6⟩
      have A6 := Lib.hid (A5.out.apart hk6 (.inl (Nat.le_refl _)))
      have B6 := Lib.hid h6
      have C6 := Lib.hid (C5.out.apart hk6 (.inr (Nat.le_refl _)))
      have G6 := Lib.hid (Kept.new G5.out hk6 (by omega))
      obtain ⟨b', off', hb', u1, u2, u3, hcs⟩ := (HL.out.calm G6.out).cell (by omega)
      simp only [Option.some.injEq, Addr.mk.injEq, and_true] at hb'
      obtain ⟨rfl, rfl⟩ := hb'
      obtain ⟨x1, x2⟩ := hcs k hkL
      rw [HXE.out] at x1 x2
      simp only at x1 x2
      clear h6 hk6 A5 B5 C5 G5 hcs
      go_wp2_with fail
      refine wp_region_still_tail 11 (by kernel_rfl) (by kernel_rfl) ?_
      simp only [List.take_succ_cons, List.take_zero, List.drop_succ_cons, List.drop_zero]
      repeat still_step
      refine wpStill_nil ?_
      change wpList _ _ _ _ _ w6.drew
      go_wp2_with fail
      refine (add_c s3 s4 qc m xa xb _ _ (C6.out.calm (grownBy_drewN w6 1 none))).mono ?_
      rintro e w7 ⟨rfl, h7, hk7⟩
      have hk7' := (Kept.calm (lo := s3) (hi := s4) (grownBy_drewN w6 1 none)).trans hk7
      have HE := Lib.hid (show IsRel w7 s1 s2 qa m (joinL m (l.take (k + 1))) ∧ IsRel w7 s2 s3 qb m (joinL m ((turnL l t).take (k + 1))) ∧ IsRel w7 s3 s4 qc m (ofL m (l.take (k + 1))) ∧ w.grownBy w7 none from
        ⟨by rw [HA.out]; exact A6.out.apart hk7' (.inl hbc), by rw [HB.out]; exact B6.out.apart hk7' (.inl (Nat.le_refl _)), by rw [HC.out]; exact h7, Kept.new G6.out hk7' (by omega)⟩)
      clear h7 hk7 hk7' A6 B6 C6 G6
      go_wp2
      exact ⟨⟨k + 1, by omega, by go_num, HE.out.1, HE.out.2.1, HE.out.2.2.1, HE.out.2.2.2⟩, by simp [intOf]; omega⟩
    · obtain rfl : k = L := by omega
      rw [List.take_of_length_le (by rw [HLEN.out]; exact Nat.le_refl _), joinL_clo] at ra
      rw [List.take_of_length_le (by rw [turnL_len, HLEN.out]; exact Nat.le_refl _), joinL_clo, ofL_congr (turnL_mem l t)] at rb
      rw [List.take_of_length_le (by rw [HLEN.out]; exact Nat.le_refl _)] at rc
      have HSU := Lib.hid rc.supp
      have RA := Lib.hid ra
      have RB := Lib.hid rb
      have RC := Lib.hid rc
      have GR := Lib.hid hgr
      clear ra rb rc hgr
      generalize ofL m l = R at *
      have HTR : Hid ((!grewC m (clo m R) m) = true) := Lib.hid (by
        cases e : grewC m (clo m R) m
        · rfl
        · exact absurd (clo_clo HSU.out) ((grewC_iff (clo_supp HSU.out)).1 e))
      have HPL : Hid ((pairsL m (clo m R) m).length ≤ 1000000) := Lib.hid (by
        have := pairsL_len m (clo m R) m
        have : m * m ≤ 16 * 16 := Nat.mul_le_mul hm1 hm1
        omega)
      go_wp2_with fail
      refine (relPairs_c _ _ qa m _ _ RA.out (HT.out.grown GR.out (by simp))).mono ?_
      rintro e w5 ⟨p5, c5, rfl, hp5, hg5⟩
      have A5 := Lib.hid (RA.out.calm hg5)
      have B5 := Lib.hid (RB.out.calm hg5)
      have C5 := Lib.hid (RC.out.calm hg5)
      have G5 := Lib.hid (grownBy_trans GR.out hg5)
      have P5 := Lib.hid hp5
      clear hg5 hp5 RA RB RC GR
      go_wp2_with fail
      refine (relPairs_c _ _ qb m _ _ B5.out (HT.out.grown G5.out (by simp))).mono ?_
      rintro e w6 ⟨p6, c6, rfl, hp6, hg6⟩
      have A6 := Lib.hid (A5.out.calm hg6)
      have C6 := Lib.hid (C5.out.calm hg6)
      have G6 := Lib.hid (grownBy_trans G5.out hg6)
      have P5 := Lib.hid (P5.out.calm hg6)
      have P6 := Lib.hid hp6
      clear hg6 hp6 A5 B5 C5 G5
      go_wp2_with fail
      refine (samePairs_r _ _ _ _ _ _ _ _ _ _ _ _ true _ P5.out P6.out HPL.out (by simp)).mono ?_
      rintro e w7 ⟨rfl, hg7⟩
      have A7 := Lib.hid (A6.out.calm hg7)
      have C7 := Lib.hid (C6.out.calm hg7)
      have G7 := Lib.hid (grownBy_trans G6.out hg7)
      clear hg7 A6 C6 G6 P5 P6
      go_wp2_with fail
      refine (relPairs_c _ _ qa m _ _ A7.out (HT.out.grown G7.out (by simp))).mono ?_
      rintro e w8 ⟨p8, c8, rfl, hp8, hg8⟩
      have A8 := Lib.hid (A7.out.calm hg8)
      have C8 := Lib.hid (C7.out.calm hg8)
      have G8 := Lib.hid (grownBy_trans G7.out hg8)
      have P8 := Lib.hid hp8
      clear hg8 hp8 A7 C7 G7
      go_wp2_with fail
      refine (closure_c _ _ qc m R _ C8.out).mono ?_
      rintro e w9 ⟨qd, rfl, h9, hg9⟩
      have A9 := Lib.hid (A8.out.calm hg9)
      have D9 := Lib.hid h9
      have G9 := Lib.hid (grownBy_trans G8.out hg9)
      have P9 := Lib.hid (P8.out.calm hg9)
      clear hg9 h9 A8 C8 G8 P8
      go_wp2_with fail
      refine (relPairs_c _ _ qd m _ _ D9.out (HT.out.grown G9.out (by simp))).mono ?_
      rintro e w10 ⟨p10, c10, rfl, hp10, hg10⟩
      have A10 := Lib.hid (A9.out.calm hg10)
      have G10 := Lib.hid (grownBy_trans G9.out hg10)
      have P9 := Lib.hid (P9.out.calm hg10)
      have P10 := Lib.hid hp10
      clear hg10 hp10 A9 D9 G9
      go_wp2_with fail
      refine (samePairs_r _ _ _ _ _ _ _ _ _ _ _ _ true _ P9.out P10.out HPL.out (by simp)).mono ?_
      rintro e w11 ⟨rfl, hg11⟩
      have A11 := Lib.hid (A10.out.calm hg11)
      have G11 := Lib.hid (grownBy_trans G10.out hg11)
      clear hg11 A10 G10 P9 P10
      go_wp2_with fail
      refine (isTrans_b _ _ qa m _ true _ A11.out HTR.out).mono ?_
      rintro e w12 ⟨rfl, hg12⟩
      have G12 := Lib.hid (grownBy_trans G11.out hg12)
      clear hg12 A11 G11
      go_wp2
      go_ret
      exact ⟨rfl, G12.out⟩

end Go.Proofs.YtkcofakhcpajmaaDoor
