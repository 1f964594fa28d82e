/- The contract of centolaw9's own function known. -/
import Derived.Test.YtemnbkenihldgaaDoorColG
import Derived.Test.YtemnbkenihldgaaDoorFew9
namespace Go.Proofs.YtemnbkenihldgaaDoor
open Go.RowKit

def lx : ByteArray := ⟨#[120]⟩
def kN : List Nd := [([lx], []), ([lx], []), ([lx], [])]
def kA : List Ar := [(0, 1, [0])]
theorem k9_col : ColV kN kA [lx, lx] [] [[0], [0], [1]] 0 := ⟨by decide +kernel, by decide +kernel, by decide +kernel, by decide +kernel⟩
theorem k9_med : MedD kN kA [lx] [] [[0], [0], [0]] [0, 0] 0 := ⟨by decide +kernel, by decide +kernel⟩
theorem k9_med2 : MedD kN kA [lx] [] [[0], [0]] [] 12 := ⟨by decide +kernel, by decide +kernel⟩
theorem k9_diag : diagB kN kA = true := by decide +kernel
theorem k9_legs : legsB kN kA [lx, lx] [] [[0], [0], [1]] = true := by decide +kernel
theorem k9_few : DFew kN kA := ⟨by decide, by decide, by decide, by decide⟩

/-- What known lays first. -/
def kobjs9 (s : Nat) : List Obj := [.cells #[.string lx] 9, .cells #[.slice (some ⟨s, 0, none⟩) 1 1, .slice none 0 0] 25,
  .cells #[.slice (some ⟨s, 0, none⟩) 1 1, .slice none 0 0, .slice (some ⟨s, 0, none⟩) 1 1, .slice none 0 0, .slice (some ⟨s, 0, none⟩) 1 1, .slice none 0 0] 25,
  .cells #[.int .i64 0] 3, .cells #[.int .i64 0, .int .i64 1, .slice (some ⟨s + 1 + 1 + 1, 0, none⟩) 1 1] 45,
  .cells #[.slice (some ⟨s + 1 + 1, 0, none⟩) 3 3, .slice (some ⟨s + 1 + 1 + 1 + 1, 0, none⟩) 1 1] 37]
def KEnv9 (w W : World) : Prop := w.grownBy W none ∧ ∀ i, i < 6 → W.heap[w.heap.size + i]? = (kobjs9 w.heap.size)[i]?
theorem KEnv9.calm {w W W' : World} (h : KEnv9 w W) (hg : W.grownBy W' none) : KEnv9 w W' := by
  refine ⟨grownBy_trans h.1 hg, fun i hi => ?_⟩
  have h2 := h.2 i hi
  have : ∃ o, (kobjs9 w.heap.size)[i]? = some o := ⟨_, List.getElem?_eq_getElem (by simpa [kobjs9] using hi)⟩
  obtain ⟨o, ho⟩ := this
  rw [ho] at h2 ⊢
  exact (hg.block _ (Array.getElem?_eq_some_iff.1 h2).1 (by simp)).trans h2
theorem KEnv9.lt {w W : World} (h : KEnv9 w W) : w.heap.size + 5 < W.heap.size := (Array.getElem?_eq_some_iff.1 (h.2 5 (by decide) : W.heap[w.heap.size + 5]? = some _)).1
theorem KEnv9.x {w W : World} (h : KEnv9 w W) : ObjAt W 0 W.heap.size (some ⟨w.heap.size, 0, none⟩) 1 none 0 [lx] [] := ⟨(strs_of (l := [lx]) (h.2 0 (by decide))).wide, pairsAt_nil _ _ _⟩
theorem KEnv9.nod {w W : World} (h : KEnv9 w W) : NodesAt W 0 W.heap.size (some ⟨w.heap.size + 1 + 1, 0, none⟩) 3 kN := by
  have hl := h.lt
  refine nodes_of (g := w.heap.size + 2) (xs := kN) (vs := [.slice (some ⟨w.heap.size, 0, none⟩) 1 1, .slice none 0 0, .slice (some ⟨w.heap.size, 0, none⟩) 1 1, .slice none 0 0, .slice (some ⟨w.heap.size, 0, none⟩) 1 1, .slice none 0 0]) (h.2 2 (by decide)) (Nat.zero_le _) (by omega) (Nat.le_refl _) (fun k hk => ?_)
  match k, hk with
  | 0, _ => exact ⟨_, _, _, _, _, _, rfl, rfl, h.x, by decide, (fun e => by cases e), fun _ => rfl⟩
  | 1, _ => exact ⟨_, _, _, _, _, _, rfl, rfl, h.x, by decide, (fun e => by cases e), fun _ => rfl⟩
  | 2, _ => exact ⟨_, _, _, _, _, _, rfl, rfl, h.x, by decide, (fun e => by cases e), fun _ => rfl⟩
theorem KEnv9.arr {w W : World} (h : KEnv9 w W) : ArrsAt W 0 W.heap.size (some ⟨w.heap.size + 1 + 1 + 1 + 1, 0, none⟩) 1 kA := by
  have hl := h.lt
  refine arrs_of (g := w.heap.size + 4) (xs := kA) (vs := [.int .i64 0, .int .i64 1, .slice (some ⟨w.heap.size + 3, 0, none⟩) 1 1]) (h.2 4 (by decide)) (Nat.zero_le _) (by omega) (Nat.le_refl _) (fun k hk => ?_)
  match k, hk with
  | 0, _ => exact ⟨_, _, _, rfl, rfl, rfl, zs_of (l := [0]) (h.2 3 (by decide))⟩
theorem KEnv9.cells {w W : World} (h : KEnv9 w W) :
    W.cell? ⟨w.heap.size + 1, 0, none⟩ = some (.slice (some ⟨w.heap.size, 0, none⟩) 1 1) ∧ W.cell? ⟨w.heap.size + 1, 1, none⟩ = some (.slice none 0 0) ∧
    W.cell? ⟨w.heap.size + 1 + 1 + 1 + 1 + 1, 0, none⟩ = some (.slice (some ⟨w.heap.size + 1 + 1, 0, none⟩) 3 3) ∧ W.cell? ⟨w.heap.size + 1 + 1 + 1 + 1 + 1, 1, none⟩ = some (.slice (some ⟨w.heap.size + 1 + 1 + 1 + 1, 0, none⟩) 1 1) := by
  have b0 : BoxO W (w.heap.size + 1) _ _ := h.2 1 (by decide)
  have b2 : BoxD W (w.heap.size + 1 + 1 + 1 + 1 + 1) _ _ := h.2 5 (by decide)
  exact ⟨b0.c0, b0.c1, b2.c0, b2.c1⟩

/-- Legs that known lays: each [0]. -/
def lobjs9 (s n : Nat) : List Obj := (List.replicate n (.cells #[.int .i64 0] 3)) ++ [.cells ((List.range n).map fun i => (.slice (some ⟨s + i, 0, none⟩) 1 1 : Value)).toArray 28]
theorem legs_laid {w W : World} {n : Nat} (h : w.grownBy W none ∧ ∀ i, i < (lobjs9 w.heap.size n).length → W.heap[w.heap.size + i]? = (lobjs9 w.heap.size n)[i]?) : LegsAt W 0 W.heap.size (some ⟨w.heap.size + n, 0, none⟩) n (List.replicate n [0]) := by
  have hn : (lobjs9 w.heap.size n).length = n + 1 := by simp [lobjs9]
  have hb : W.heap[w.heap.size + n]? = some (.cells ((List.range n).map fun i => (.slice (some ⟨w.heap.size + i, 0, none⟩) 1 1 : Value)).toArray 28 (0, 0)) := by
    rw [h.2 n (by omega)]
    unfold lobjs9
    rw [List.getElem?_append_right (by simp), List.length_replicate, Nat.sub_self]
    rfl
  have hl := (Array.getElem?_eq_some_iff.1 hb).1
  have key := legs_of (g := w.heap.size + n) (lo := 0) (hi := W.heap.size) (xs := List.replicate n [0]) hb (Nat.zero_le _) hl (Nat.le_refl _) (fun k hk => by
    rw [List.length_replicate] at hk
    refine ⟨some ⟨w.heap.size + k, 0, none⟩, 1, 1, by rw [List.getElem?_map, List.getElem?_range hk]; rfl, ?_⟩
    have hk2 : W.heap[w.heap.size + k]? = some (.cells #[.int .i64 0] 3 (0, 0)) := by
      rw [h.2 k (by omega)]
      unfold lobjs9
      rw [List.getElem?_append_left (by simpa using hk), List.getElem?_replicate, if_pos hk]
    have e : lgA (List.replicate n [0]) k = [0] := by unfold lgA; rw [List.getElem?_replicate, if_pos hk]; rfl
    rw [e]
    exact zs_of (l := [0]) hk2)
  rwa [List.length_replicate] at key

set_option maxRecDepth 20000 in
set_option maxHeartbeats 4000000 in
theorem known9_c (w : World) (ht : Tab w) : Calls Tryd.prog 4 #[] w fun e w' => e = .returned (.bool true) ∧ w.grownBy w' none := by
  have HT := Lib.hid ht
  clear ht
  have he0 : KEnv9 w (allocL w (kobjs9 w.heap.size)) := allocL_facts (kobjs9 w.heap.size) w
  have HE0 := Lib.hid he0
  clear he0
  go_enter Tryd.func4, Tryd.ntmps4
  go_wp2_with fail
  change Calls _ _ _ (allocL w (kobjs9 w.heap.size)) _
  generalize allocL w (kobjs9 w.heap.size) = W0 at *
  have he := HE0.out
  refine (of9_v _ _ 3 3 1 1 _ _ _ _ kN kA [lx, lx] [] [[0], [0], [1]] 0 W0 k9_col he.nod he.arr k9_few (HT.out.grown he.1 (by simp))).mono ?_
  rintro e w1 ⟨u, v, pl, cl, rfl, hob, hlg, hg1⟩
  obtain ⟨pu, cu, pv, cv, rfl, rfl, hoat, hpu, hpv⟩ := hob.form
  rw [show ([[0], [0], [1]] : List (List Int)).length = 3 from rfl] at *
  rw [show ([lx, lx] : List ByteArray).length = 2 from rfl] at *
  rw [show ([] : List (Int × Int)).length = 0 from rfl] at *
  have hga := World.grownBy_alloc w1 (.cells #[.slice pu 2 cu, .slice pv 0 cv] 25) none
  have hbx := BoxO.new w1 (.slice pu 2 cu) (.slice pv 0 cv)
  have he1 := (he.calm hg1).calm hga
  have HE1 := Lib.hid he1
  have HQ := Lib.hid (hoat.calm hga)
  have HL := Lib.hid (hlg.calm hga)
  have HBX := Lib.hid hbx
  obtain ⟨a0, a1, b0, b1⟩ := he1.cells
  have q0 := hbx.c0
  have q1 := hbx.c1
  clear hob hoat hlg hga hbx he1 hg1 he hpu hpv
  go_upto_region 4 with fail
  generalize w1.alloc (.cells #[.slice pu 2 cu, .slice pv 0 cv] 25) = W1 at *
  generalize w1.heap.size = g1 at *
  go_wp2_with fail
  change Calls _ _ _ (allocL W1 (lobjs9 W1.heap.size 3)) _
  have hll := allocL_facts (lobjs9 W1.heap.size 3) W1
  have hlegs := legs_laid hll
  have he2 := HE1.out.calm hll.1
  have HE2 := Lib.hid he2
  have HQ2 := Lib.hid (HQ.out.calm hll.1)
  have HL2 := Lib.hid (HL.out.calm hll.1)
  have HBX2 := Lib.hid (HBX.out.calm hll.1)
  clear a0 a1 b0 b1 q0 q1 hll HE1 HQ HL HBX
  generalize allocL W1 (lobjs9 W1.heap.size 3) = W2 at *
  refine (med9_v _ _ _ _ _ 3 3 1 1 1 1 0 0 3 3 _ _ _ _ _ _ _ _ kN kA [lx] [] [[0], [0], [0]] [0, 0] 0 W2 k9_med he2.nod he2.arr k9_few he2.x (by decide) hlegs (by decide) (HT.out.grown he2.1 (by simp))).mono ?_
  rintro e w2 ⟨p2, c2, rfl, hu, hg2⟩
  rw [show ([0, 0] : List Int).length = 2 from rfl] at *
  have he3 := he2.calm hg2
  have HE3 := Lib.hid he3
  have HQ3 := Lib.hid (HQ2.out.calm hg2)
  have HL3 := Lib.hid (HL2.out.calm hg2)
  have HBX3 := Lib.hid (HBX2.out.calm hg2)
  obtain ⟨a0, a1, b0, b1⟩ := he3.cells
  clear hu hg2 he2 he3 hlegs HE2 HQ2 HL2 HBX2
  go_wp2_with fail
  change Calls _ _ _ (allocL w2 (lobjs9 w2.heap.size 2)) _
  have hll := allocL_facts (lobjs9 w2.heap.size 2) w2
  have hlegs := legs_laid hll
  have he4 := HE3.out.calm hll.1
  have HE4 := Lib.hid he4
  have HQ4 := Lib.hid (HQ3.out.calm hll.1)
  have HL4 := Lib.hid (HL3.out.calm hll.1)
  have HBX4 := Lib.hid (HBX3.out.calm hll.1)
  clear a0 a1 b0 b1 hll HE3 HQ3 HL3 HBX3
  generalize allocL w2 (lobjs9 w2.heap.size 2) = W4 at *
  refine (med9_v _ _ _ _ _ 3 3 1 1 1 1 0 0 2 2 _ _ _ _ _ _ _ _ kN kA [lx] [] [[0], [0]] [] 12 W4 k9_med2 he4.nod he4.arr k9_few he4.x (by decide) hlegs (by decide) (HT.out.grown he4.1 (by simp))).mono ?_
  rintro e w5 ⟨p5, c5, rfl, hu, hg5⟩
  rw [show ([] : List Int).length = 0 from rfl] at *
  have he5 := he4.calm hg5
  have HE5 := Lib.hid he5
  have HQ5 := Lib.hid (HQ4.out.calm hg5)
  have hl5 := HL4.out.calm hg5
  have HL5 := Lib.hid hl5
  have hbx5 := HBX4.out.calm hg5
  have HBX5 := Lib.hid hbx5
  obtain ⟨a0, a1, b0, b1⟩ := he5.cells
  have q0 := hbx5.c0
  have q1 := hbx5.c1
  obtain ⟨bl, ol, rfl, _, _, _, hcl⟩ := hl5.cell (by decide)
  obtain ⟨pm1, nm1, cm1, l1, z1⟩ := hcl 1 (by decide)
  obtain ⟨pm2, nm2, cm2, l2, z2⟩ := hcl 2 (by decide)
  obtain rfl : 1 = nm1 := z1.len
  obtain rfl : 1 = nm2 := z2.len
  obtain ⟨bm1, om1, rfl, _, _, _, hc1⟩ := z1.cell (by decide)
  obtain ⟨bm2, om2, rfl, _, _, _, hc2⟩ := z2.cell (by decide)
  have y1 : w5.cell? ⟨bm1, om1, none⟩ = some (.int .i64 0) := hc1 0 (by decide)
  have y2 : w5.cell? ⟨bm2, om2, none⟩ = some (.int .i64 1) := hc2 0 (by decide)
  clear hcl z1 z2 hc1 hc2 hu hg5 he4 he5 hl5 hbx5 hlegs HE4 HQ4 HL4 HBX4
  go_wp2_with fail
  have he5 := HE5.out
  refine (dIs_r _ _ 3 3 1 1 _ _ _ _ kN kA true _ he5.nod he5.arr k9_few k9_diag).mono ?_
  rintro e w6 ⟨rfl, hg6⟩
  have he6 := he5.calm hg6
  have HE6 := Lib.hid he6
  have hbx6 := HBX5.out.calm hg6
  have HQ6 := Lib.hid (HQ5.out.calm hg6)
  have HL6 := Lib.hid (HL5.out.calm hg6)
  clear a0 a1 b0 b1 q0 q1 l1 l2 y1 y2
  obtain ⟨a0, a1, b0, b1⟩ := he6.cells
  have q0 := hbx6.c0
  have q1 := hbx6.c1
  clear hg6 he5 he6 hbx6
  go_wp2_with fail
  have he6 := HE6.out
  refine (dLegs_r _ _ _ _ _ 3 3 1 1 2 _ 0 _ 3 _ _ _ _ _ _ _ _ _ kN kA [lx, lx] [] [[0], [0], [1]] true _ he6.nod he6.arr k9_few HQ6.out (by decide) HL6.out (by decide) k9_legs).mono ?_
  rintro e w7 ⟨rfl, hg7⟩
  have HG := Lib.hid (he6.calm hg7).1
  clear hg7 he6
  go_wp2
  go_ret
  exact ⟨rfl, HG.out⟩

end Go.Proofs.YtemnbkenihldgaaDoor
