/- The contract of slices.Delete at rows of ints, one taken out. -/
import Derived.Lib.SliceRun
import Derived.Deep.RegionLaw
import Derived.Test.YtkipldmkdnjkaaaDoorOrdC
namespace Go.Proofs.YtkipldmkdnjkaaaDoor
open Go.RowKit

/-- Cells laid into a block that is known whole. -/
theorem setCells_block (g : Nat) (e : TypeId) : ∀ (vs : List Value) (o : Nat) (w : World) (cur : Array Value), w.heap[g]? = some (.cells cur e (0, 0)) →
    ∃ cur' : Array Value, (w.setCells g o vs).heap[g]? = some (.cells cur' e (0, 0)) ∧ cur'.size = cur.size ∧ (∀ i, cur'[i]? = if o ≤ i ∧ i < o + vs.length ∧ i < cur.size then vs[i - o]? else cur[i]?) ∧ w.grownBy (w.setCells g o vs) (some g)
  | [], o, w, cur, hb => ⟨cur, hb, rfl, fun i => by rw [if_neg (by simp; omega)], grownBy_refl _ _⟩
  | v :: r, o, w, cur, hb => by
    obtain ⟨cur', h1, h2, h3, h4⟩ := setCells_block g e r (o + 1) (w.setCell ⟨g, o, none⟩ v) _ (heap_setCell_same w g o cur e v hb)
    refine ⟨cur', h1, by simpa using h2, fun i => ?_, grownBy_trans (grownBy_setCell w ⟨g, o, none⟩ v) h4⟩
    rw [h3 i]
    simp only [Array.size_setIfInBounds, List.length_cons]
    by_cases c1 : i = o
    · subst c1
      rw [if_neg (by omega)]
      by_cases c2 : i < cur.size
      · rw [if_pos (by omega), Nat.sub_self]
        simp [c2]
      · rw [if_neg (by omega)]
        simp [c2]
    · by_cases c2 : o + 1 ≤ i ∧ i < o + 1 + r.length ∧ i < cur.size
      · rw [if_pos c2, if_pos (by omega), show i - o = (i - (o + 1)) + 1 by omega, List.getElem?_cons_succ]
      · rw [if_neg c2, if_neg (by omega), Array.getElem?_setIfInBounds_ne (fun e => c1 e.symm)]

theorem frozen_block {w : World} {g : Nat} {cur : Array Value} {e : TypeId} (h : w.heap[g]? = some (.cells cur e (0, 0))) (j : Nat) : w.frozen? ⟨g, j, none⟩ = false := by simp [World.frozen?, h]
theorem cell_block {w : World} {g : Nat} {cur : Array Value} {e : TypeId} (h : w.heap[g]? = some (.cells cur e (0, 0))) (j : Nat) : w.cell? ⟨g, j, none⟩ = cur[j]? := cell_of_row w g j cur e (0, 0) h

set_option maxHeartbeats 4000000 in
theorem delete_c (g L cap k j base : Nat) (xs : List Value) (w : World) (h : w.ownsRow base 41 1 (.slice (some ⟨g, 0, none⟩) L cap) L xs) (hj : j = k + 1) (hk : k < L) (hL : L ≤ 1000) (hone : ∀ u ∈ xs, u.oneCell' = true) :
    Calls Tryd.prog 31 #[.slice (some ⟨g, 0, none⟩) L cap, .int .i64 k, .int .i64 j] w fun e w' => e = .returned (.slice (some ⟨g, 0, none⟩) (L - 1) cap) ∧ w'.ownsRow base 41 1 (.slice (some ⟨g, 0, none⟩) (L - 1) cap) (L - 1) (xs.eraseIdx k) ∧ w.grownBy w' (some g) := by
  obtain ⟨i0, hi0, hz0, hz1, hz2⟩ := info_parts Tryd.infoI41
  obtain ⟨hxl, hrest⟩ := h
  rcases hrest with ⟨hv, _⟩ | ⟨g', cap', cur, hv, hbase, hb, hn, hcm, hcs, htake⟩
  · cases hv
  cases hv
  simp only [Nat.mul_one] at hxl hcs htake
  have hxg : ∀ i, i < L → cur[i]? = xs[i]? := by
    intro i hi
    rw [← htake, List.getElem?_take, if_pos hi, Array.getElem?_toList]
  obtain ⟨news, hnews⟩ : ∃ news, news = xs.drop j := ⟨_, rfl⟩
  have hlen : news.length = L - j := by rw [hnews]; simp [hxl]
  obtain ⟨A, hA, hsrc⟩ : ∃ A : Addr, (if cap = j then some (⟨g, 0, none⟩ : Addr) else some ⟨g, j, none⟩) = some A ∧ Hid (∀ t u, news[t]? = some u → w.drew.cell? (A.add t) = some u) := by
    by_cases h : cap = j
    · refine ⟨⟨g, 0, none⟩, by simp [h], Lib.hid fun t u hu => ?_⟩
      have h0 : news.length = 0 := by rw [hlen]; omega
      rw [List.length_eq_zero_iff.1 h0] at hu
      simp at hu
    · refine ⟨⟨g, j, none⟩, by simp [h], Lib.hid fun t u hu => ?_⟩
      have ht : t < L - j := by
        have := (List.getElem?_eq_some_iff.1 hu).1
        rwa [hlen] at this
      rw [hnews, List.getElem?_drop] at hu
      rw [Addr.add_lit]
      show w.cell? ⟨g, j + t, none⟩ = some u
      rw [cell_block hb, hxg _ (by omega)]
      exact hu
  have s1 : Hid (news.length = (L - j) * 1) := Lib.hid (by rw [Nat.mul_one]; exact hlen)
  have s2 : Hid (∀ u ∈ news, u.oneCell' = true) := Lib.hid fun u hu => hone u (by rw [hnews] at hu; exact List.mem_of_mem_drop hu)
  have s3 : Hid (∀ t, t < news.length → (w.drew.cell? ⟨g, 0 + k * 1 + t, none⟩).isSome = true ∧ w.drew.frozen? ⟨g, 0 + k * 1 + t, none⟩ = false) := Lib.hid fun t ht => by
    rw [hlen] at ht
    refine ⟨?_, frozen_block hb _⟩
    show (w.cell? _).isSome = true
    rw [cell_block hb, Array.getElem?_eq_getElem (by omega)]
    rfl
  obtain ⟨c1, d1, d2, d3, d4⟩ := setCells_block g 41 news (0 + k * 1) w.drew cur hb
  obtain ⟨W1, hW1⟩ : ∃ W1, W1 = w.drew.setCells g (0 + k * 1) news := ⟨_, rfl⟩
  rw [← hW1] at d1 d4
  have hcl : ∀ ty, (Builtin.clear_ #[39] ty #[.slice (some ⟨g, k + (L - j), none⟩) (L - (k + (L - j))) (cap - (k + (L - j)))]).run Tryd.prog W1 = .ok (.tuple #[]) (W1.setCells g (k + (L - j)) (List.replicate (L - (k + (L - j))) (.slice none 0 0))) :=
    fun ty => Lib.run_clear_slice W1 _ _ ty _ Tryd.underlying39 (fun w => by simp [zeroValue, typeInfo, hi0, hz0]) rfl rfl g _ _ _ (by omega) (fun t ht => by rw [cell_block d1, Array.getElem?_eq_getElem (by omega)]; rfl) (fun t ht => frozen_block d1 _)
  obtain ⟨c2, e1, e2, e3, e4⟩ := setCells_block g 41 (List.replicate (L - (k + (L - j))) (.slice none 0 0)) (k + (L - j)) W1 c1 d1
  have HE : Hid ((W1.setCells g (k + (L - j)) (List.replicate (L - (k + (L - j))) (.slice none 0 0))).ownsRow base 41 1 (.slice (some ⟨g, 0, none⟩) (L - 1) cap) (L - 1) (xs.eraseIdx k) ∧ w.grownBy (W1.setCells g (k + (L - j)) (List.replicate (L - (k + (L - j))) (.slice none 0 0))) (some g)) := by
    refine Lib.hid ⟨⟨by rw [List.length_eraseIdx, hxl, if_pos hk, Nat.mul_one], .inr ⟨g, cap, c2, rfl, hbase, e1, by omega, hcm, by rw [e2, d2, hcs, Nat.mul_one], ?_⟩⟩, grownBy_trans (grownBy_drewN w 1 _) (grownBy_trans d4 e4)⟩
    apply List.ext_getElem?
    intro i
    rw [Nat.mul_one, List.getElem?_take, List.getElem?_eraseIdx]
    by_cases c : i < L - 1
    · rw [if_pos c, Array.getElem?_toList, e3 i, if_neg (by omega), d3 i]
      by_cases c' : i < k
      · rw [if_neg (by omega), if_pos c', hxg i (by omega)]
      · rw [if_pos (by rw [hlen]; omega), if_neg c', hnews, List.getElem?_drop]
        congr 1
        omega
    · rw [if_neg c]
      symm
      split
      · omega
      · rw [List.getElem?_eq_none (by omega)]
  have hW : Hid (W1 = w.drew.setCells g (0 + k * 1) news) := Lib.hid hW1
  have hic : k ≤ cap := by omega
  have hjc : j ≤ cap := by omega
  have hm : cap ≤ 9223372036854775807 := by unfold maxLen at hcm; omega
  have k0 : (0 : Int) ≤ k := by omega
  have hkj : k < j := by omega
  have hjL : j ≤ L := by omega
  have hne : ¬ (k : Int) = j := by omega
  have HJ := Lib.hid hj
  clear hW1 hb d1 d2 d3 d4 e1 e2 e3 e4 hxg hnews hlen htake hcs hone hcm hj
  go_enter Tryd.func31, Tryd.ntmps31
  go_wp2_with fail
  go_region_law (refine step_append_room rfl (.tmp 22) (.tmp 25) 39 rfl 41 i0 1 Tryd.underlying39 hi0 hz1 g 0 k cap (by simp [Act.eval, Act.put]) A (L - j) (cap - j) news (by simp [Act.eval, Act.put]) s1.out hsrc.out s2.out (by omega) s3.out ?_; rw [← hW.out])
  all_goals go_wp2
  all_goals go_ret
  all_goals
    have e1 : k + (L - j) = L - 1 := by have := HJ.out; omega
    exact ⟨by rw [← e1]; rfl, HE.out.1, HE.out.2⟩

end Go.Proofs.YtkipldmkdnjkaaaDoor
