/- The walk of the statement ObjLarge: at every input it answers true and leaves all that lay as it lay. Condition: the table of the lowest places is in memory. -/
import Derived.Test.YtdolcdededmlhaaDoorKnow4
namespace Go.Proofs.YtdolcdededmlhaaDoor
open Go.RowKit

def blanks (k : Nat) : List ByteArray := List.replicate k .empty
theorem blanks_len (k : Nat) : (blanks k).length = k := by simp [blanks]
theorem blanks_all (k : Nat) : (blanks k).all okS = true := by
  unfold blanks
  rw [List.all_eq_true]
  intro x hx
  rw [List.mem_replicate] at hx
  rw [hx.2]
  decide
theorem grew_none (n : Nat) : grewC n (ofL n []) n = false := by
  have hs : Supp n (ofL n []) := ofL_supp n []
  cases h : grewC n (ofL n []) n
  · rfl
  · exact absurd (clo_of_trans (n := n) (R := ofL n []) (fun _ _ _ h => by cases h)) ((grewC_iff hs).1 h)
theorem blanks_ok {k : Nat} (h : k ≤ 40) : labErr (blanks k) = 0 := lab_of_all (by rw [blanks_len]; exact h) (blanks_all k)
theorem blanks_no {k : Nat} (h : 40 < k) : labErr (blanks k) = 11 := by unfold labErr; rw [blanks_len, if_pos h]
theorem blanks_chk {k : Nat} (h : k ≤ 40) : chk (blanks k) [] = 0 := chk_ok (blanks_ok h) (by rw [grew_none]; rfl)

theorem strsAt_made (w : World) (k : Nat) : StrsAt (w.alloc (.cells (madeCells #[.string .empty] k) 9)) w.heap.size (w.heap.size + 1) (some ⟨w.heap.size, 0, none⟩) k (blanks k) := by
  refine ⟨blanks_len k, fun _ => ⟨w.heap.size, 0, rfl, Nat.le_refl _, Nat.lt_succ_self _, by simp, fun j hj => ?_⟩⟩
  have e : (blanks k)[j]?.getD .empty = ByteArray.empty := by
    unfold blanks
    rw [List.getElem?_replicate_of_lt hj]
    rfl
  rw [e]
  have h := made_get (.string .empty) k j hj
  simpa using h

structure LEnv (w W : World) (k B : Nat) : Prop where
  g : w.grownBy W none
  t0 : Tab w
  o : StrsAt W B (B + 1) (some ⟨B, 0, none⟩) k (blanks k)
  c0 : W.cell? ⟨B + 1, 0, none⟩ = some (.slice (some ⟨B, 0, none⟩) k k)
  c1 : W.cell? ⟨B + 1, 1, none⟩ = some (.slice none 0 0)
  z : B + 1 < W.heap.size
theorem LEnv.t {w W : World} {k B : Nat} (h : LEnv w W k B) : Tab W := h.t0.grown h.g (by simp)
theorem LEnv.calm {w W W' : World} {k B : Nat} (h : LEnv w W k B) (hg : W.grownBy W' none) : LEnv w W' k B :=
  ⟨grownBy_trans h.g hg, h.t0, h.o.calm hg,
    (World.cell?_of_block (a := ⟨B + 1, 0, none⟩) (hg.block _ h.z (by simp))).trans h.c0, (World.cell?_of_block (a := ⟨B + 1, 1, none⟩) (hg.block _ h.z (by simp))).trans h.c1, Nat.lt_of_lt_of_le h.z hg.size⟩
theorem lenv_new (w W : World) (k : Nat) (hg : w.grownBy W none) (ht : Tab w) : LEnv w ((W.alloc (.cells (madeCells #[.string .empty] k) 9)).alloc (.cells #[.slice (some ⟨W.heap.size, 0, none⟩) k k, .slice none 0 0] 25)) k W.heap.size := by
  have g1 := World.grownBy_alloc W (.cells (madeCells #[.string .empty] k) 9) none
  have g2 := World.grownBy_alloc (W.alloc (.cells (madeCells #[.string .empty] k) 9)) (.cells #[.slice (some ⟨W.heap.size, 0, none⟩) k k, .slice none 0 0] 25) none
  have hb := box2 (grownBy_refl ((W.alloc (.cells (madeCells #[.string .empty] k) 9)).alloc (.cells #[.slice (some ⟨W.heap.size, 0, none⟩) k k, .slice none 0 0] 25)) none)
  rw [World.size_alloc] at hb
  have hg' := grownBy_trans g1 g2
  exact ⟨grownBy_trans hg hg', ht, (strsAt_made W k).calm g2, hb.1, hb.2.1, by simp⟩

theorem LEnv.sets {w W : World} {k B B5 : Nat} (h : LEnv w W k B) (x y : Value) (h1 : B + 1 < B5) (h2 : w.heap.size ≤ B5) : LEnv w ((W.setCell ⟨B5, 0, none⟩ x).setCell ⟨B5, 1, none⟩ y) k B := by
  have e : ∀ j, j < B5 → ((W.setCell ⟨B5, 0, none⟩ x).setCell ⟨B5, 1, none⟩ y).heap[j]? = W.heap[j]? := fun j hj => (Below.heap_setCell _ _ _ _ (by show j ≠ B5; omega)).trans (Below.heap_setCell _ _ _ _ (by show j ≠ B5; omega))
  have hk : Kept B5 (B5 + 1) W ((W.setCell ⟨B5, 0, none⟩ x).setCell ⟨B5, 1, none⟩ y) := (Kept.row (grownBy_setCell W ⟨B5, 0, none⟩ x) (Nat.le_refl _) (Nat.lt_succ_self _)).trans (Kept.row (grownBy_setCell _ ⟨B5, 1, none⟩ y) (Nat.le_refl _) (Nat.lt_succ_self _))
  have hz := h.z
  refine ⟨grownBy_setCell_new _ (grownBy_setCell_new _ h.g h2) h2, h.t0, h.o.apart hk (.inl (by omega)), (World.cell?_of_block (a := ⟨B + 1, 0, none⟩) (e _ h1)).trans h.c0, (World.cell?_of_block (a := ⟨B + 1, 1, none⟩) (e _ h1)).trans h.c1, Nat.lt_of_lt_of_le hz hk.size⟩

theorem grownBy_drew (w : World) : w.grownBy w.drew none := grownBy_drewN w 1 none

/-- A box, all that is known of it. -/
theorem boxAll {w w1 : World} {x y : Value} {t : TypeId} (hg : (w.alloc (.cells #[x, y] t)).grownBy w1 none) : w1.cell? ⟨w.heap.size, 0, none⟩ = some x ∧ w1.cell? ⟨w.heap.size, 1, none⟩ = some y ∧ w1.frozen? ⟨w.heap.size, 0, none⟩ = false ∧ w1.frozen? ⟨w.heap.size, 1, none⟩ = false ∧ w.heap.size < w1.heap.size :=
  ⟨(box2 hg).1, (box2 hg).2.1, (box2f hg).1, (box2f hg).2, by have := hg.size; simp at this; omega⟩
theorem boxMore {W W' : World} {B : Nat} {x y : Value} (h : W.cell? ⟨B, 0, none⟩ = some x ∧ W.cell? ⟨B, 1, none⟩ = some y ∧ W.frozen? ⟨B, 0, none⟩ = false ∧ W.frozen? ⟨B, 1, none⟩ = false ∧ B < W.heap.size) (hg : W.grownBy W' none) :
    W'.cell? ⟨B, 0, none⟩ = some x ∧ W'.cell? ⟨B, 1, none⟩ = some y ∧ W'.frozen? ⟨B, 0, none⟩ = false ∧ W'.frozen? ⟨B, 1, none⟩ = false ∧ B < W'.heap.size := by
  obtain ⟨h0, h1, h2, h3, h4⟩ := h
  have hb := hg.block B h4 (by simp)
  exact ⟨(World.cell?_of_block (a := ⟨B, 0, none⟩) hb).trans h0, (World.cell?_of_block (a := ⟨B, 1, none⟩) hb).trans h1, (World.frozen?_of_block (a := ⟨B, 0, none⟩) hb).trans h2, (World.frozen?_of_block (a := ⟨B, 1, none⟩) hb).trans h3, Nat.lt_of_lt_of_le h4 hg.size⟩

set_option maxRecDepth 100000 in
set_option maxHeartbeats 2000000 in
theorem objLarge_in (n k : Nat) (w : World) (hn : n < 256) (hk : n % 3 + 39 = k) (ht : Tab w) : Calls Tryd.prog 6 #[.int .u8 n] w fun e w' => e = .returned (.bool true) ∧ w.grownBy w' none := by
  have hmk := fun (w : World) => run_make_row' (P := Tryd.prog) 22 9 (.string .empty) 16 Tryd.underlying22 Tryd.info9 rfl .i64 .i64 k (by omega) (by omega) w
  have HT := Lib.hid ht
  have e2 : (n : Int) % 3 + 40 - 1 = (k : Int) := by omega
  have HE := Lib.hid e2
  have n0 : (0 : Int) ≤ n := by omega
  have n1 : (n : Int) < 256 := by omega
  have hk3 : 39 ≤ k := by omega
  have hk4 : k ≤ 41 := by omega
  clear ht e2 hk
  go_enter Tryd.func6, Tryd.ntmps6
  go_wp2_with fail
  refine (known4_c _ (by exact HT.out)).mono ?_
  rintro e w1 ⟨rfl, hg1⟩
  have HT1 := Lib.hid (HT.out.grown hg1 (by simp))
  have HG1 := Lib.hid hg1
  clear hg1
  go_wp2_with fail
  rw [HE.out, hmk]
  have henv := lenv_new w w1 k HG1.out HT.out
  have hk200 : k ≤ 200 := by omega
  have hsz1 := HG1.out.size
  go_wp2_with fail
  by_cases h41 : k ≤ 40
  · have d1 : ¬ ((40 : Int) < k) := by omega
    have HCK := Lib.hid (blanks_chk h41)
    go_region_held3 (fun w' => w'.cell? ⟨w1.heap.size + 1, 0, none⟩ = some (.slice (some ⟨w1.heap.size, 0, none⟩) k k)) (first | exact henv.c0 | exact (henv.calm (World.grownBy_alloc _ _ none)).c0 | exact (henv.sets _ _ (by omega) (by omega)).c0 | go_keep)
      (first
        | (go_at_call 25; refine (relNew_mid k _ hk200).mono ?_; rintro e w2 ⟨r, rfl, hr, hg⟩
           (first
            | ((with_reducible have henv := (henv.calm (grownBy_drew _)).calm hg); have hz := henv.z)
            | ((with_reducible have henv := ((henv.calm (World.grownBy_alloc _ _ none)).calm (grownBy_drew _)).calm hg); have hz := henv.z; have h5 := boxAll (grownBy_trans (grownBy_drew _) hg); simp only [World.size_alloc] at h5; obtain ⟨hx0, hx1, hf0, hf1, hz5⟩ := h5)))
        | (go_at_call 23
           (first
            | (with_reducible refine (make_ok _ k _ _ _ _ _ _ (blanks k) (fun _ _ => false) _ henv.o (fun h => by cases h) (blanks_ok h41) hr henv.t).mono ?_
               rintro e w3 ⟨u, v, rfl, hown, hg⟩; obtain ⟨pu, cu, pv, cv, rfl, rfl, _⟩ := hown.at; have henv := henv.calm hg; have hz := henv.z; try (have h5 := boxMore ⟨hx0, hx1, hf0, hf1, hz5⟩ hg; obtain ⟨hx0, hx1, hf0, hf1, hz5⟩ := h5))
            | (with_reducible refine (make_ok _ k _ _ _ _ _ _ (blanks k) (fun _ _ => false) _ (henv.calm (World.grownBy_alloc _ _ none)).o (fun h => by cases h) (blanks_ok h41) (hr.calm (World.grownBy_alloc _ _ none)) (henv.calm (World.grownBy_alloc _ _ none)).t).mono ?_
               rintro e w3 ⟨u, v, rfl, hown, hg⟩; obtain ⟨pu, cu, pv, cv, rfl, rfl, _⟩ := hown.at; have henv := (henv.calm (World.grownBy_alloc _ _ none)).calm hg; have hz := henv.z; obtain ⟨hx0, hx1, hf0, hf1, hz5⟩ := boxAll hg))))
    have henv := henv.calm (World.grownBy_alloc w3 (.cells #[.slice pu (blanks k).length cu, .slice pv (pairsL k (clo k fun _ _ => false) k).length cv] 25) none); generalize w3.alloc (.cells #[.slice pu (blanks k).length cu, .slice pv (pairsL k (clo k fun _ _ => false) k).length cv] 25) = w4 at henv ⊢
    rotate_left
    have henv := henv.sets (B5 := w2.heap.size) (.slice pu (blanks k).length cu) (.slice pv (pairsL k (clo k fun _ _ => false) k).length cv) (by omega) (by omega); generalize (w3.setCell ⟨w2.heap.size, 0, none⟩ (.slice pu (blanks k).length cu)).setCell ⟨w2.heap.size, 1, none⟩ (.slice pv (pairsL k (clo k fun _ _ => false) k).length cv) = w4 at henv ⊢
    rotate_left
    have henv := henv.sets (B5 := w1.heap.size + 1 + 1) (.slice pu (blanks k).length cu) (.slice pv (pairsL k (clo k fun _ _ => false) k).length cv) (by omega) (by omega); generalize (w3.setCell ⟨w1.heap.size + 1 + 1, 0, none⟩ (.slice pu (blanks k).length cu)).setCell ⟨w1.heap.size + 1 + 1, 1, none⟩ (.slice pv (pairsL k (clo k fun _ _ => false) k).length cv) = w4 at henv ⊢
    rotate_left
    all_goals
      clear hmk
      have HEN := Lib.hid henv
      have c0 := henv.c0
      have c1 := henv.c1
      clear henv
      go_wp2_with fail
      refine (check_c _ none k k 0 0 _ _ (blanks k) [] 0 _ (by exact ⟨HEN.out.o, pairsAt_nil _ _ _⟩) (by decide) HCK.out).mono ?_
      rintro e w5 ⟨rfl, hg5⟩
      have HEN5 := Lib.hid (HEN.out.calm hg5)
      clear c0 c1
      have c0 := HEN5.out.c0
      have c1 := HEN5.out.c1
      clear hg5
      go_wp2_with fail
      refine (is_c _ none k k 0 0 _ _ (blanks k) [] true _ (by exact ⟨HEN5.out.o, pairsAt_nil _ _ _⟩) (by decide) (by rw [HCK.out]; rfl)).mono ?_
      rintro e w6 ⟨rfl, hg6⟩
      have HG6 := Lib.hid (HEN5.out.calm hg6).g
      clear hg6
      go_wp2
      go_ret
      exact ⟨rfl, HG6.out⟩
  · have d1 : (40 : Int) < k := by omega
    have h41' : 40 < k := by omega
    have HCK : Hid (chk (blanks k) [] = 11) := Lib.hid (chk_lab (blanks_no h41') (by decide))
    go_region_held3 (fun w' => w'.cell? ⟨w1.heap.size + 1, 0, none⟩ = some (.slice (some ⟨w1.heap.size, 0, none⟩) k k)) (first | exact henv.c0 | exact (henv.calm (World.grownBy_alloc _ _ none)).c0 | exact (henv.sets _ _ (by omega) (by omega)).c0 | go_keep)
      (first
        | (go_at_call 25; refine (relNew_mid k _ hk200).mono ?_; rintro e w2 ⟨r, rfl, hr, hg⟩
           (first
            | ((with_reducible have henv := (henv.calm (grownBy_drew _)).calm hg); have hz := henv.z)
            | ((with_reducible have henv := ((henv.calm (World.grownBy_alloc _ _ none)).calm (grownBy_drew _)).calm hg); have hz := henv.z; have h5 := boxAll (grownBy_trans (grownBy_drew _) hg); simp only [World.size_alloc] at h5; obtain ⟨hx0, hx1, hf0, hf1, hz5⟩ := h5)))
        | (go_at_call 23
           (first
            | (with_reducible refine (make_lab _ k _ _ _ (blanks k) 11 _ _ henv.o (blanks_no h41') (by decide)).mono ?_
               rintro e w3 ⟨rfl, hg⟩; have henv := henv.calm hg; have hz := henv.z; try (have h5 := boxMore ⟨hx0, hx1, hf0, hf1, hz5⟩ hg; obtain ⟨hx0, hx1, hf0, hf1, hz5⟩ := h5))
            | (with_reducible refine (make_lab _ k _ _ _ (blanks k) 11 _ _ (henv.calm (World.grownBy_alloc _ _ none)).o (blanks_no h41') (by decide)).mono ?_
               rintro e w3 ⟨rfl, hg⟩; have henv := (henv.calm (World.grownBy_alloc _ _ none)).calm hg; have hz := henv.z; obtain ⟨hx0, hx1, hf0, hf1, hz5⟩ := boxAll hg))))
    have henv := henv.calm (World.grownBy_alloc w3 (.cells #[.slice none 0 0, .slice none 0 0] 25) none); generalize w3.alloc (.cells #[.slice none 0 0, .slice none 0 0] 25) = w4 at henv ⊢
    rotate_left
    have henv := henv.sets (B5 := w2.heap.size) (.slice none 0 0) (.slice none 0 0) (by omega) (by omega); generalize (w3.setCell ⟨w2.heap.size, 0, none⟩ (.slice none 0 0)).setCell ⟨w2.heap.size, 1, none⟩ (.slice none 0 0) = w4 at henv ⊢
    rotate_left
    have henv := henv.sets (B5 := w1.heap.size + 1 + 1) (.slice none 0 0) (.slice none 0 0) (by omega) (by omega); generalize (w3.setCell ⟨w1.heap.size + 1 + 1, 0, none⟩ (.slice none 0 0)).setCell ⟨w1.heap.size + 1 + 1, 1, none⟩ (.slice none 0 0) = w4 at henv ⊢
    rotate_left
    all_goals
      clear hmk
      have HEN := Lib.hid henv
      have c0 := henv.c0
      have c1 := henv.c1
      clear henv
      go_wp2_with fail
      refine (check_c _ none k k 0 0 _ _ (blanks k) [] 11 _ (by exact ⟨HEN.out.o, pairsAt_nil _ _ _⟩) (by decide) HCK.out).mono ?_
      rintro e w5 ⟨rfl, hg5⟩
      have HEN5 := Lib.hid (HEN.out.calm hg5)
      clear c0 c1
      have c0 := HEN5.out.c0
      have c1 := HEN5.out.c1
      clear hg5
      go_wp2_with fail
      refine (is_c _ none k k 0 0 _ _ (blanks k) [] false _ (by exact ⟨HEN5.out.o, pairsAt_nil _ _ _⟩) (by decide) (by rw [HCK.out]; rfl)).mono ?_
      rintro e w6 ⟨rfl, hg6⟩
      have HG6 := Lib.hid (HEN5.out.calm hg6).g
      clear hg6
      go_wp2
      go_ret
      exact ⟨rfl, HG6.out⟩

end Go.Proofs.YtdolcdededmlhaaDoor
