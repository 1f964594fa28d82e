/- Patches in another order; a row of patches that the call owns. -/
import Derived.Test.YtnknejokneddbaaGreatDoorStaJ
import Derived.Test.YtnknejokneddbaaGreatDoorStaE
import Derived.Test.YtnknejokneddbaaGreatDoorLaw13
import Derived.Test.YtnknejokneddbaaGreatDoorArgS
import Derived.Test.YtnknejokneddbaaGreatDoorArgs
namespace Go.Proofs.YtnknejokneddbaaGreatDoor
open Go.RowKit

section
variable {w : World} {lo hi n : Nat} {p : Option Addr}
theorem NsAt.wide13 {k : IntKind} {l : List Nat} (h : NsAt k w lo hi p n l) : NsAt k w 0 w.heap.size p n l := ⟨h.len, fun hn => by
 obtain ⟨b, off, e, h1, h2, h3, hc⟩ := h.cell hn
 exact ⟨b, off, e, Nat.zero_le _, by omega, Nat.le_refl _, hc⟩⟩
theorem StrsAt.wide13 {l : List ByteArray} (h : StrsAt w lo hi p n l) : StrsAt w 0 w.heap.size p n l := ⟨h.len, fun hn => by
 obtain ⟨b, off, e, h1, h2, h3, hc⟩ := h.cell hn
 exact ⟨b, off, e, Nat.zero_le _, by omega, Nat.le_refl _, hc⟩⟩
theorem LnsAt.wide13 {l : List Ln} (h : LnsAt w lo hi p n l) : LnsAt w 0 w.heap.size p n l := ⟨h.len, fun hn => by
 obtain ⟨b, off, e, h1, h2, h3, hc⟩ := h.cell hn
 exact ⟨b, off, e, Nat.zero_le _, by omega, Nat.le_refl _, hc⟩⟩
theorem EdsAt.wide13 {l : List Ed} (h : EdsAt w lo hi p n l) : EdsAt w 0 w.heap.size p n l := ⟨h.len, fun hn => by
 obtain ⟨b, off, e, h1, h2, h3, hc⟩ := h.cell hn
 exact ⟨b, off, e, Nat.zero_le _, by omega, Nat.le_refl _, hc⟩⟩
theorem HksAt.wide13 {l : List Hk} (h : HksAt w lo hi p n l) : HksAt w 0 w.heap.size p n l := ⟨h.len, fun hn => by
 obtain ⟨b, off, e, h1, h2, h3, hc⟩ := h.cell hn
 refine ⟨b, off, e, Nat.zero_le _, by omega, Nat.le_refl _, fun i hi => ?_⟩
 obtain ⟨pa, na, ca, pe, ne, ce, pk, nk, ck, c0, c1, c2, c3, hh⟩ := hc i hi
 exact ⟨pa, na, ca, pe, ne, ce, pk, nk, ck, c0, c1, c2, c3, ⟨hh.adds.wide13, hh.edges.wide13, hh.kills.wide13, hh.la, hh.le, hh.lk, hh.za, hh.ze, hh.zk⟩⟩⟩
end
theorem HpAt.wide13 {w : World} {lo hi : Nat} {x : HP} (h : HpAt w lo hi x) : HpAt w 0 w.heap.size x :=
 ⟨rfl, h.deps.wide13, h.makes.wide13, h.drops.wide13, h.hunks.wide13, h.ld, h.lm, h.lx, h.lh, h.zd, h.zm, h.zx, h.zh⟩
theorem HpAt.calm13 {w w' : World} {lo hi : Nat} {x : HP} (h : HpAt w lo hi x) (hg : w.grownBy w' none) : HpAt w' lo hi x := PtAt.calm h hg
theorem infoPt13 : (Tryz.prog.info? 56).map (fun i => (i.zero, i.size, i.bytes)) = some (some (.agg #[.int .u32 0, .slice none 0 0, .slice none 0 0, .slice none 0 0, .slice none 0 0]), 5, 104) := by kernel_rfl
/-- A row of patches that the call owns. -/
theorem pts_own {w : World} {base : Nat} {v : Value} {ys : List HP} (h : w.ownsRow base 56 5 v ys.length (hpcells ys)) (hy : ∀ y ∈ ys, HpAt w 0 w.heap.size y) : ∃ p c, v = .slice p ys.length c ∧ PtsAt w 0 w.heap.size p ys.length (ys.map Prod.fst) := by
 rcases h.2 with ⟨rfl, h0⟩ | ⟨g, cap, cur, rfl, hb, hg, hle, _⟩
 ·exact ⟨none, 0, by rw [h0], ⟨by simp, fun h => absurd h (by omega)⟩⟩
 ·refine ⟨_, cap, rfl, ⟨by simp, fun hn => ⟨g, 0, rfl, Nat.zero_le _, (Array.getElem?_eq_some_iff.1 hg).1, Nat.le_refl _, fun i hi => ?_⟩⟩⟩
  have key : ∀ r, r < 5 → ∀ u, (encP (ys[i]?.getD hp0))[r]? = some u → w.cell? ⟨g, 0 + i * 5 + r, none⟩ = some u := fun r hr u hu => by
   have := World.ownsRow.cells h (g := g) rfl (i * 5 + r) u (by rw [hpcells_get hi hr]; exact hu)
   rw [add_off] at this
   rw [Nat.add_assoc]
   exact this
  have e : (ys.map Prod.fst)[i]?.getD pt0 = (ys[i]?.getD hp0).1 := by
   rw [List.getElem?_map, List.getElem?_eq_getElem hi]
   rfl
  rw [e]
  exact ⟨_, _, _, _, _, _, _, _, _, _, _, _, key 0 (by omega) _ rfl, key 1 (by omega) _ rfl, key 2 (by omega) _ rfl, key 3 (by omega) _ rfl, key 4 (by omega) _ rfl, hy _ (get_mem (d := hp0) hi)⟩
/-- The first k of them, from the t-th on, round and round. -/
def rotK {α : Type} (d : α) (l : List α) (t k : Nat) : List α := (List.range k).map fun i => l[(i + t) % l.length]?.getD d
theorem rotK_succ {α : Type} (d : α) (l : List α) (t k : Nat) : rotK d l t (k + 1) = rotK d l t k ++ [l[(k + t) % l.length]?.getD d] := by
 unfold rotK
 rw [List.range_succ, List.map_append]
 rfl
theorem rotK_len {α : Type} (d : α) (l : List α) (t k : Nat) : (rotK d l t k).length = k := by simp [rotK]
theorem rotK_at {α : Type} (d : α) (l : List α) (t : Nat) {k j : Nat} (h : j < k) : (rotK d l t k)[j]? = some (l[(j + t) % l.length]?.getD d) := by
 unfold rotK
 rw [List.getElem?_map, List.getElem?_range h]
 rfl
theorem rotK_perm {α : Type} (d : α) (l : List α) (t : Nat) : (rotK d l t l.length).Perm l := by
 rcases Nat.eq_zero_or_pos l.length with e | e
 ·rw [List.eq_nil_of_length_eq_zero e]
  exact List.Perm.refl _
 ·have hk : t % l.length < l.length := Nat.mod_lt _ e
  have : rotK d l t l.length = l.drop (t % l.length) ++ l.take (t % l.length) := by
   apply List.ext_getElem
   ·rw [rotK_len, List.length_append, List.length_drop, List.length_take]
    omega
   ·intro j h1 h2
    have hj : j < l.length := by rw [rotK_len] at h1; exact h1
    have hm : (j + t) % l.length = (j + t % l.length) % l.length := by rw [Nat.add_mod, Nat.add_mod j (t % l.length), Nat.mod_mod]
    have hlt : (j + t) % l.length < l.length := Nat.mod_lt _ e
    have e1 : (rotK d l t l.length)[j] = l[(j + t) % l.length] := by
     have h5 := rotK_at d l t hj
     rw [List.getElem?_eq_getElem h1, List.getElem?_eq_getElem hlt] at h5
     exact Option.some.inj h5
    rw [e1, List.getElem_append]
    have hc : (j + t) % l.length = if j + t % l.length < l.length then j + t % l.length else j + t % l.length - l.length := by
     rw [hm]
     by_cases h : j + t % l.length < l.length
     ·rw [if_pos h, Nat.mod_eq_of_lt h]
     ·rw [if_neg h, Nat.mod_eq_sub_mod (by omega), Nat.mod_eq_of_lt (by omega)]
    by_cases h : j + t % l.length < l.length
    ·rw [dif_pos (by rw [List.length_drop]; omega), List.getElem_drop]
     congr 1
     rw [hc, if_pos h]
     omega
    ·rw [dif_neg (by rw [List.length_drop]; omega), List.getElem_take]
     congr 1
     rw [hc, if_neg h, List.length_drop]
     omega
  rw [this]
  exact List.perm_append_comm.trans (by rw [List.take_append_drop])
theorem rotK_mem {α : Type} {d : α} {l : List α} {t k : Nat} (h : 0 < l.length) : ∀ x ∈ rotK d l t k, x ∈ l := by
 intro x hx
 unfold rotK at hx
 obtain ⟨i, _, rfl⟩ := List.mem_map.1 hx
 exact get_mem (Nat.mod_lt _ h)
theorem pairsL_few (n : Nat) (R : Nat → Nat → Bool) (k : Nat) : (pairsL n R k).length ≤ k * n := by
 induction k with
 | zero => simp [pairsL]
 | succ k ih =>
  rw [pairsL_succ, List.length_append, List.length_map, Nat.succ_mul]
  have : (onL (R k) n).length ≤ n := by
   unfold onL
   exact Nat.le_trans (List.length_filter_le _ _) (by simp)
  omega
theorem filesL_few {l : List Pt} : (filesL l).length ≤ 6 ∧ ∀ f ∈ filesL l, (fLines f).length ≤ 1000000 ∧ (fPairs f).length ≤ 1000000 := by
 by_cases e : errL l = 0
 ·obtain ⟨_, _, _, h6, h40⟩ := errL_zero e
  rw [filesL_ok e]
  refine ⟨by rw [List.length_map]; exact h6, fun f hf => ?_⟩
  have hc := mem_cnt hf
  rw [cntS_map] at hc
  obtain ⟨s, _, rfl⟩ := List.mem_map.1 hf
  refine ⟨by omega, ?_⟩
  have hl : (fLines (fileL l s)).length = (linesOfL l s).length := fileOf_len _ _ _
  have hp : (fPairs (fileL l s)).length ≤ (linesOfL l s).length * (linesOfL l s).length := pairsL_few _ _ _
  have hm : (linesOfL l s).length * (linesOfL l s).length ≤ 40 * 40 := Nat.mul_le_mul (by omega) (by omega)
  omega
 ·rw [filesL_err e]
  exact ⟨Nat.zero_le _, fun f hf => by cases hf⟩

end Go.Proofs.YtnknejokneddbaaGreatDoor
