/- The contract of centolaw8's own function known. -/
import Derived.Test.YtgpcakcjiaoimaaDoorConC
import Derived.Test.YtgpcakcjiaoimaaDoorFew
namespace Go.Proofs.YtgpcakcjiaoimaaDoor
open Go.RowKit

def lx : ByteArray := ⟨#[120]⟩
theorem k8_med : MedV [] [] [lx] [] [lx] [] [] [] [lx] [] [0] [0] [0, 0] 0 := ⟨by decide +kernel, by decide +kernel⟩
theorem k8_med2 : MedV [] [] [lx] [] [lx] [] [] [] [lx] [] [0] [1] [] 12 := ⟨by decide +kernel, by decide +kernel⟩
theorem k8_cone : coneB [] [] [lx] [] [lx] [] [] [] [lx] [] [0] [0] = true := by decide +kernel
theorem k8_i : (if pushR [] [] [lx] [] [lx] [] [] [] = 0 then (atZ (joinsL (1 + 1) [] (shL 1 []))).take 1 else []) = [0] := by decide +kernel
theorem k8_j : (if pushR [] [] [lx] [] [lx] [] [] [] = 0 then (atZ (joinsL (1 + 1) [] (shL 1 []))).drop 1 else []) = [1] := by decide +kernel
theorem k8_a : (if pushR [] [] [lx] [] [lx] [] [] [] = 0 then labG ([lx] ++ [lx]) (joinsL (1 + 1) [] (shL 1 [])) else []).length = 2 := by decide +kernel
theorem k8_r : pushR [] [] [lx] [] [lx] [] [] [] = 0 := by decide +kernel
theorem k8_swap {A : List ByteArray} {B : List (Int × Int)} {I J : List Int} {r : Int} (h : PushV [] [] [lx] [] [lx] [] [] [] A B I J r) :
    r = 0 ∧ ([1, 0] : List Int).length = A.length ∧ thenL I [1, 0] = J ∧ thenL J [1, 0] = I := by
  have h1 : A.length = 2 := by rw [h.a]; exact k8_a
  have h2 : I = [0] := h.i.trans k8_i
  have h3 : J = [1] := h.j.trans k8_j
  refine ⟨h.r.trans k8_r, by rw [h1]; rfl, ?_, ?_⟩
  · rw [h2, h3]; decide +kernel
  · rw [h2, h3]; decide +kernel

/-- What known lays first. -/
def kobjs8 (s : Nat) : List Obj := [.cells #[.slice none 0 0, .slice none 0 0] 25, .cells #[.string lx] 9, .cells #[.slice (some ⟨s + 1, 0, none⟩) 1 1, .slice none 0 0] 25]
def KEnv8 (w W : World) : Prop := w.grownBy W none ∧ ∀ i, i < 3 → W.heap[w.heap.size + i]? = (kobjs8 w.heap.size)[i]?
theorem KEnv8.calm {w W W' : World} (h : KEnv8 w W) (hg : W.grownBy W' none) : KEnv8 w W' := by
  refine ⟨grownBy_trans h.1 hg, fun i hi => ?_⟩
  have h2 := h.2 i hi
  have : ∃ o, (kobjs8 w.heap.size)[i]? = some o := ⟨_, List.getElem?_eq_getElem (by simpa [kobjs8] using hi)⟩
  obtain ⟨o, ho⟩ := this
  rw [ho] at h2 ⊢
  exact (hg.block _ (Array.getElem?_eq_some_iff.1 h2).1 (by simp)).trans h2
theorem KEnv8.a {w W : World} (_ : KEnv8 w W) : ObjAt W 0 W.heap.size none 0 none 0 [] [] := ⟨strsAt_nil _ _ _, pairsAt_nil _ _ _⟩
theorem KEnv8.b {w W : World} (h : KEnv8 w W) : ObjAt W 0 W.heap.size (some ⟨w.heap.size + 1, 0, none⟩) 1 none 0 [lx] [] := ⟨(strs_of (l := [lx]) (h.2 1 (by decide))).wide, pairsAt_nil _ _ _⟩
theorem KEnv8.cells {w W : World} (h : KEnv8 w W) :
    W.cell? ⟨w.heap.size, 0, none⟩ = some (.slice none 0 0) ∧ W.cell? ⟨w.heap.size, 1, none⟩ = some (.slice none 0 0) ∧
    W.cell? ⟨w.heap.size + 1 + 1, 0, none⟩ = some (.slice (some ⟨w.heap.size + 1, 0, none⟩) 1 1) ∧ W.cell? ⟨w.heap.size + 1 + 1, 1, none⟩ = some (.slice none 0 0) := by
  have b0 : BoxO W w.heap.size _ _ := h.2 0 (by decide)
  have b2 : BoxO W (w.heap.size + 1 + 1) _ _ := h.2 2 (by decide)
  exact ⟨b0.c0, b0.c1, b2.c0, b2.c1⟩

set_option maxRecDepth 20000 in
set_option maxHeartbeats 4000000 in
theorem known8_c (w : World) (ht : Tab w) : Calls Tryd.prog 7 #[] w fun e w' => e = .returned (.bool true) ∧ w.grownBy w' none := by
  have HT := Lib.hid ht
  clear ht
  have he0 : KEnv8 w (((w.alloc (.cells #[.slice none 0 0, .slice none 0 0] 25)).alloc (.cells #[.string ⟨#[120]⟩] 9)).alloc (.cells #[.slice (some ⟨w.heap.size + 1, 0, none⟩) 1 1, .slice none 0 0] 25)) := by
    obtain ⟨h1, h2⟩ := allocL_facts (kobjs8 w.heap.size) w
    exact ⟨h1, h2⟩
  have HE0 := Lib.hid he0
  clear he0
  go_enter Tryd.func7, Tryd.ntmps7
  go_wp2_with fail
  have hsz : (((w.alloc (.cells #[.slice none 0 0, .slice none 0 0] 25)).alloc (.cells #[.string ⟨#[120]⟩] 9)).alloc (.cells #[.slice (some ⟨w.heap.size + 1, 0, none⟩) 1 1, .slice none 0 0] 25)).heap.size = w.heap.size + 1 + 1 + 1 := by simp
  generalize ((w.alloc (.cells #[.slice none 0 0, .slice none 0 0] 25)).alloc (.cells #[.string ⟨#[120]⟩] 9)).alloc (.cells #[.slice (some ⟨w.heap.size + 1, 0, none⟩) 1 1, .slice none 0 0] 25) = W0 at *
  have hz1 := (zs1 W0 0).calm (World.grownBy_alloc _ (.cells #[.int .i64 0] 3) none)
  have hz2 := zs1' W0 (.cells #[.int .i64 0] 3) 0
  rw [hsz] at hz1 hz2
  have hgA := grownBy_trans (World.grownBy_alloc W0 (.cells #[.int .i64 0] 3) none) (World.grownBy_alloc _ (.cells #[.int .i64 0] 3) none)
  have he1 := HE0.out.calm hgA
  clear hsz
  have ha := he1.a
  have hb := he1.b
  refine (med_v _ _ _ _ _ _ _ _ _ _ _ _ 0 0 0 0 1 1 0 0 1 1 0 0 1 1 0 0 0 0 0 0 1 1 1 1 _ _ _ _ _ _ _ _ 0 0 0 0 _ _ _ _ [] [lx] [lx] [lx] [] [] [] [] [] [] [0] [0] _ _ _ k8_med ha hb hb hb (zsAt_nil _ _ _) (zsAt_nil _ _ _) hz1 hz2 (by decide) (by decide) (by decide) (by decide) (by decide) (by decide) (by decide) (by decide) (fun h => by cases h) (fun h => by cases h) (fun _ => rfl) (HT.out.grown he1.1 (by simp))).mono ?_
  rintro e w1 ⟨p1, c1, rfl, hu, hg1⟩
  rw [show ([0, 0] : List Int).length = 2 from rfl] at *
  have HE1 := Lib.hid (he1.calm hg1)
  have HU1 := Lib.hid hu
  clear hz1 hz2 hgA he1 ha hb hu hg1 HE0
  have he1 := HE1.out
  obtain ⟨a0, a1, b0, b1⟩ := he1.cells
  clear he1
  go_wp2_with fail
  have hz1 := (zs1 w1 0).calm (World.grownBy_alloc _ (.cells #[.int .i64 1] 3) none)
  have hz2 := zs1' w1 (.cells #[.int .i64 0] 3) 1
  have hgA := grownBy_trans (World.grownBy_alloc w1 (.cells #[.int .i64 0] 3) none) (World.grownBy_alloc _ (.cells #[.int .i64 1] 3) none)
  have he1 := HE1.out.calm hgA
  have ha := he1.a
  have hb := he1.b
  refine (med_v _ _ _ _ _ _ _ _ _ _ _ _ 0 0 0 0 1 1 0 0 1 1 0 0 1 1 0 0 0 0 0 0 1 1 1 1 _ _ _ _ _ _ _ _ 0 0 0 0 _ _ _ _ [] [lx] [lx] [lx] [] [] [] [] [] [] [0] [1] _ _ _ k8_med2 ha hb hb hb (zsAt_nil _ _ _) (zsAt_nil _ _ _) hz1 hz2 (by decide) (by decide) (by decide) (by decide) (by decide) (by decide) (by decide) (by decide) (fun h => by cases h) (fun h => by cases h) (fun _ => rfl) (HT.out.grown he1.1 (by simp))).mono ?_
  rintro e w2 ⟨p2, c2, rfl, hu, hg1⟩
  rw [show ([] : List Int).length = 0 from rfl] at *
  have he2 := he1.calm hg1
  have HE2 := Lib.hid he2
  have HU2 := Lib.hid ((HU1.out.calm hgA).calm hg1)
  obtain ⟨a0, a1, b0, b1⟩ := he2.cells
  have ha := he2.a
  have hb := he2.b
  have ht2 := HT.out.grown he2.1 (by simp)
  clear hz1 hz2 hgA he1 he2 hu hg1 HE1 HU1
  go_wp2_with fail
  obtain ⟨A, B, I, J, r, hp⟩ := pushV_ex [] [] [lx] [] [lx] [] [] []
  obtain ⟨rfl, hxl, hx1, hx2⟩ := k8_swap hp
  refine (swap_v _ _ _ _ _ _ _ _ 0 0 0 0 1 1 0 0 1 1 0 0 0 0 0 0 _ _ _ _ _ _ 0 0 0 0 [] [lx] [lx] [] [] [] [] [] A A B B I J I J [1, 0] [1, 0] 0 _ hp hp (.inr ⟨rfl, hxl, hx1, hx2, hxl, hx1, hx2⟩) ha hb hb (zsAt_nil _ _ _) (zsAt_nil _ _ _) (by decide) (by decide) (by decide) (by decide) (by decide) (fun h => by cases h) (fun h => by cases h) (fun _ => rfl) (fun _ => rfl) ht2).mono ?_
  rintro e w3 ⟨p3, c3, q3, d3, rfl, hx, hy, hg3⟩
  rw [show ([1, 0] : List Int).length = 2 from rfl] at *
  have he3 := HE2.out.calm hg3
  have HE3 := Lib.hid he3
  have hu3 := HU2.out.calm hg3
  obtain ⟨bu, ou, rfl, _, _, _, hcu⟩ := hu3.cell (by decide)
  obtain ⟨bx, ox, rfl, _, _, _, hcx⟩ := hx.cell (by decide)
  obtain ⟨by', oy, rfl, _, _, _, hcy⟩ := hy.cell (by decide)
  have xu0 : w3.cell? ⟨bu, ou, none⟩ = some (.int .i64 0) := by simpa using hcu 0 (by decide)
  have xu1 : w3.cell? ⟨bu, ou + 1, none⟩ = some (.int .i64 0) := by simpa using hcu 1 (by decide)
  have xx0 : w3.cell? ⟨bx, ox, none⟩ = some (.int .i64 1) := by simpa using hcx 0 (by decide)
  have xy1 : w3.cell? ⟨by', oy + 1, none⟩ = some (.int .i64 0) := by simpa using hcy 1 (by decide)
  obtain ⟨a0, a1, b0, b1⟩ := he3.cells
  clear hcu hcx hcy hu3 hx hy he3 hg3 ha hb ht2 hp hxl hx1 hx2 HE2 HU2
  go_wp2_with fail
  have hz1 := (zs1 w3 0).calm (World.grownBy_alloc _ (.cells #[.int .i64 0] 3) none)
  have hz2 := zs1' w3 (.cells #[.int .i64 0] 3) 0
  have hgA := grownBy_trans (World.grownBy_alloc w3 (.cells #[.int .i64 0] 3) none) (World.grownBy_alloc _ (.cells #[.int .i64 0] 3) none)
  have he1 := HE3.out.calm hgA
  have ha := he1.a
  have hb := he1.b
  refine (cocone_r _ _ _ _ _ _ _ _ _ _ _ _ 0 0 0 0 1 1 0 0 1 1 0 0 1 1 0 0 0 0 0 0 1 1 1 1 _ _ _ _ _ _ _ _ 0 0 0 0 _ _ _ _ [] [lx] [lx] [lx] [] [] [] [] [] [] [0] [0] true _ ha hb hb hb (zsAt_nil _ _ _) (zsAt_nil _ _ _) hz1 hz2 (by decide) (by decide) (by decide) (by decide) (by decide) (by decide) (by decide) (by decide) k8_cone).mono ?_
  rintro e w4 ⟨rfl, hg4⟩
  have HG := Lib.hid (he1.calm hg4).1
  clear hz1 hz2 hgA he1 ha hb hg4 HE3
  go_wp2
  go_ret
  exact ⟨rfl, HG.out⟩

end Go.Proofs.YtgpcakcjiaoimaaDoor
