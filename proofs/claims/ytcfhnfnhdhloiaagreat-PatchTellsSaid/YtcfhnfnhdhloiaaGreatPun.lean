/- Package patch: Clone of Go's slices, at five types. -/
import Derived.Test.YtcfhnfnhdhloiaaGreatPum
namespace Go.Proofs.YtcfhnfnhdhloiaaGreat
open Go.RowKit

theorem infoEd : (Tryz.prog.info? 46).map (fun i => (i.zero, i.size, i.bytes)) = some (some (.agg #[.int .u32 0, .int .i64 0, .int .u32 0, .int .i64 0]), 4, 32) := by kernel_rfl
theorem infoHk : (Tryz.prog.info? 50).map (fun i => (i.zero, i.size, i.bytes)) = some (some (.agg #[.string .empty, .slice none 0 0, .slice none 0 0, .slice none 0 0]), 4, 88) := by kernel_rfl
/-- A list cloned: nil, or a row in a new block. -/
def ClnPost (t : TypeId) (size n : Nat) (cs : List Value) (w : World) (e : Ending) (w' : World) : Prop := ∃ v, e = .returned v ∧ w'.ownsRow w.heap.size t size v n cs ∧ w.grownBy w' none

set_option maxHeartbeats 2000000 in
theorem cloneU_c (p : Option Addr) (n c : Nat) (cs : List Value) (w : World) (hl : cs.length = n * 1) (h1 : ∀ u ∈ cs, u.oneCell' = true)
    (hs : (p = none ∧ n = 0 ∧ c = 0) ∨ ∃ ad, p = some ad ∧ ∀ j u, cs[j]? = some u → w.cell? (ad.add j) = some u) (hn : n ≤ 100000) :
    Calls Tryz.prog 48 #[.slice p n c] w (ClnPost 22 1 n cs w) := by
  obtain ⟨i0, hi, hz0, hz1, hz2⟩ := info_parts infoU32
  rcases hs with ⟨rfl, rfl, rfl⟩ | ⟨ad, rfl, hsrc⟩
  · have hnil := fun w => Lib.run_eql_slice_nil (P := Tryz.prog) w 23 22 none 0 0 0 0 Tryz.underlying23
    have hc0 : cs = [] := List.eq_nil_of_length_eq_zero (by omega)
    subst hc0
    go_enter Tryz.func48, Tryz.ntmps48
    go_wp2
    go_ret
    exact ⟨_, rfl, World.ownsRow_nil _ _ _ _, grownBy_refl _ _⟩
  · have hnil := fun w => Lib.run_eql_slice_nil (P := Tryz.prog) w 23 22 (some ad) n c 0 0 Tryz.underlying23
    have hown : (w.alloc (.cells #[] 22)).ownsRow w.heap.size 22 1 (.slice (some ⟨w.heap.size, 0, none⟩) 0 0) 0 [] :=
      ⟨rfl, .inr ⟨w.heap.size, 0, #[], rfl, Nat.le_refl _, heap_new w _, Nat.le_refl _, Nat.zero_le _, rfl, rfl⟩⟩
    have HO := Lib.hid hown
    have HW : Hid (∀ j u, cs[j]? = some u → (w.alloc (.cells #[] 22)).cell? (ad.add j) = some u) := Lib.hid fun j u hj => World.grownBy.cell (World.grownBy_alloc w _ none) (hsrc j u hj) (by simp)
    have HL := Lib.hid hl
    have H1 := Lib.hid h1
    clear hown hsrc hl h1
    go_enter Tryz.func48, Tryz.ntmps48
    go_wp2_with (at_builtin; refine wpList_append_own _ rfl _ _ 23 rfl w.heap.size 22 i0 (.int .u32 0) 1 4 Tryz.underlying23 hi hz0 hz1 hz2 rfl (by decide) _ 0 [] rfl HO.out ad n c cs rfl HL.out HW.out H1.out (by unfold maxLen; omega) (by omega) (by simp) ?_; intro v' w1 hown' hgrow hnn; have HR := Lib.hid hown'; have HG := Lib.hid hgrow; clear hown' hgrow hnn)
    go_ret
    have hgr : w.grownBy w1 none := grownBy_new (World.grownBy_alloc w _ none) HG.out (Nat.le_refl _)
    have hr := HR.out
    rw [Nat.zero_add, List.nil_append] at hr
    exact ⟨_, rfl, hr, hgr⟩

set_option maxHeartbeats 2000000 in
theorem cloneS_c (p : Option Addr) (n c : Nat) (cs : List Value) (w : World) (hl : cs.length = n * 1) (h1 : ∀ u ∈ cs, u.oneCell' = true)
    (hs : (p = none ∧ n = 0 ∧ c = 0) ∨ ∃ ad, p = some ad ∧ ∀ j u, cs[j]? = some u → w.cell? (ad.add j) = some u) (hn : n ≤ 100000) :
    Calls Tryz.prog 49 #[.slice p n c] w (ClnPost 9 1 n cs w) := by
  obtain ⟨i0, hi, hz0, hz1, hz2⟩ := info_parts infoTx
  rcases hs with ⟨rfl, rfl, rfl⟩ | ⟨ad, rfl, hsrc⟩
  · have hnil := fun w => Lib.run_eql_slice_nil (P := Tryz.prog) w 24 9 none 0 0 0 0 Tryz.underlying24
    have hc0 : cs = [] := List.eq_nil_of_length_eq_zero (by omega)
    subst hc0
    go_enter Tryz.func49, Tryz.ntmps49
    go_wp2
    go_ret
    exact ⟨_, rfl, World.ownsRow_nil _ _ _ _, grownBy_refl _ _⟩
  · have hnil := fun w => Lib.run_eql_slice_nil (P := Tryz.prog) w 24 9 (some ad) n c 0 0 Tryz.underlying24
    have hown : (w.alloc (.cells #[] 9)).ownsRow w.heap.size 9 1 (.slice (some ⟨w.heap.size, 0, none⟩) 0 0) 0 [] :=
      ⟨rfl, .inr ⟨w.heap.size, 0, #[], rfl, Nat.le_refl _, heap_new w _, Nat.le_refl _, Nat.zero_le _, rfl, rfl⟩⟩
    have HO := Lib.hid hown
    have HW : Hid (∀ j u, cs[j]? = some u → (w.alloc (.cells #[] 9)).cell? (ad.add j) = some u) := Lib.hid fun j u hj => World.grownBy.cell (World.grownBy_alloc w _ none) (hsrc j u hj) (by simp)
    have HL := Lib.hid hl
    have H1 := Lib.hid h1
    clear hown hsrc hl h1
    go_enter Tryz.func49, Tryz.ntmps49
    go_wp2_with (at_builtin; refine wpList_append_own _ rfl _ _ 24 rfl w.heap.size 9 i0 (.string .empty) 1 16 Tryz.underlying24 hi hz0 hz1 hz2 rfl (by decide) _ 0 [] rfl HO.out ad n c cs rfl HL.out HW.out H1.out (by unfold maxLen; omega) (by omega) (by simp) ?_; intro v' w1 hown' hgrow hnn; have HR := Lib.hid hown'; have HG := Lib.hid hgrow; clear hown' hgrow hnn)
    go_ret
    have hgr : w.grownBy w1 none := grownBy_new (World.grownBy_alloc w _ none) HG.out (Nat.le_refl _)
    have hr := HR.out
    rw [Nat.zero_add, List.nil_append] at hr
    exact ⟨_, rfl, hr, hgr⟩

set_option maxHeartbeats 2000000 in
theorem cloneL_c (p : Option Addr) (n c : Nat) (cs : List Value) (w : World) (hl : cs.length = n * 2) (h1 : ∀ u ∈ cs, u.oneCell' = true)
    (hs : (p = none ∧ n = 0 ∧ c = 0) ∨ ∃ ad, p = some ad ∧ ∀ j u, cs[j]? = some u → w.cell? (ad.add j) = some u) (hn : n ≤ 100000) :
    Calls Tryz.prog 52 #[.slice p n c] w (ClnPost 44 2 n cs w) := by
  obtain ⟨i0, hi, hz0, hz1, hz2⟩ := info_parts infoLn
  rcases hs with ⟨rfl, rfl, rfl⟩ | ⟨ad, rfl, hsrc⟩
  · have hnil := fun w => Lib.run_eql_slice_nil (P := Tryz.prog) w 48 44 none 0 0 0 0 Tryz.underlying48
    have hc0 : cs = [] := List.eq_nil_of_length_eq_zero (by omega)
    subst hc0
    go_enter Tryz.func52, Tryz.ntmps52
    go_wp2
    go_ret
    exact ⟨_, rfl, World.ownsRow_nil _ _ _ _, grownBy_refl _ _⟩
  · have hnil := fun w => Lib.run_eql_slice_nil (P := Tryz.prog) w 48 44 (some ad) n c 0 0 Tryz.underlying48
    have hown : (w.alloc (.cells #[] 44)).ownsRow w.heap.size 44 2 (.slice (some ⟨w.heap.size, 0, none⟩) 0 0) 0 [] :=
      ⟨rfl, .inr ⟨w.heap.size, 0, #[], rfl, Nat.le_refl _, heap_new w _, Nat.le_refl _, Nat.zero_le _, rfl, rfl⟩⟩
    have HO := Lib.hid hown
    have HW : Hid (∀ j u, cs[j]? = some u → (w.alloc (.cells #[] 44)).cell? (ad.add j) = some u) := Lib.hid fun j u hj => World.grownBy.cell (World.grownBy_alloc w _ none) (hsrc j u hj) (by simp)
    have HL := Lib.hid hl
    have H1 := Lib.hid h1
    clear hown hsrc hl h1
    go_enter Tryz.func52, Tryz.ntmps52
    go_wp2_with (at_builtin; refine wpList_append_own _ rfl _ _ 48 rfl w.heap.size 44 i0 (.agg #[.int .u32 0, .int .i64 0]) 2 16 Tryz.underlying48 hi hz0 hz1 hz2 rfl (by decide) _ 0 [] rfl HO.out ad n c cs rfl HL.out HW.out H1.out (by unfold maxLen; omega) (by omega) (by simp) ?_; intro v' w1 hown' hgrow hnn; have HR := Lib.hid hown'; have HG := Lib.hid hgrow; clear hown' hgrow hnn)
    go_ret
    have hgr : w.grownBy w1 none := grownBy_new (World.grownBy_alloc w _ none) HG.out (Nat.le_refl _)
    have hr := HR.out
    rw [Nat.zero_add, List.nil_append] at hr
    exact ⟨_, rfl, hr, hgr⟩

set_option maxHeartbeats 2000000 in
theorem cloneE_c (p : Option Addr) (n c : Nat) (cs : List Value) (w : World) (hl : cs.length = n * 4) (h1 : ∀ u ∈ cs, u.oneCell' = true)
    (hs : (p = none ∧ n = 0 ∧ c = 0) ∨ ∃ ad, p = some ad ∧ ∀ j u, cs[j]? = some u → w.cell? (ad.add j) = some u) (hn : n ≤ 100000) :
    Calls Tryz.prog 51 #[.slice p n c] w (ClnPost 46 4 n cs w) := by
  obtain ⟨i0, hi, hz0, hz1, hz2⟩ := info_parts infoEd
  rcases hs with ⟨rfl, rfl, rfl⟩ | ⟨ad, rfl, hsrc⟩
  · have hnil := fun w => Lib.run_eql_slice_nil (P := Tryz.prog) w 47 46 none 0 0 0 0 Tryz.underlying47
    have hc0 : cs = [] := List.eq_nil_of_length_eq_zero (by omega)
    subst hc0
    go_enter Tryz.func51, Tryz.ntmps51
    go_wp2
    go_ret
    exact ⟨_, rfl, World.ownsRow_nil _ _ _ _, grownBy_refl _ _⟩
  · have hnil := fun w => Lib.run_eql_slice_nil (P := Tryz.prog) w 47 46 (some ad) n c 0 0 Tryz.underlying47
    have hown : (w.alloc (.cells #[] 46)).ownsRow w.heap.size 46 4 (.slice (some ⟨w.heap.size, 0, none⟩) 0 0) 0 [] :=
      ⟨rfl, .inr ⟨w.heap.size, 0, #[], rfl, Nat.le_refl _, heap_new w _, Nat.le_refl _, Nat.zero_le _, rfl, rfl⟩⟩
    have HO := Lib.hid hown
    have HW : Hid (∀ j u, cs[j]? = some u → (w.alloc (.cells #[] 46)).cell? (ad.add j) = some u) := Lib.hid fun j u hj => World.grownBy.cell (World.grownBy_alloc w _ none) (hsrc j u hj) (by simp)
    have HL := Lib.hid hl
    have H1 := Lib.hid h1
    clear hown hsrc hl h1
    go_enter Tryz.func51, Tryz.ntmps51
    go_wp2_with (at_builtin; refine wpList_append_own _ rfl _ _ 47 rfl w.heap.size 46 i0 (.agg #[.int .u32 0, .int .i64 0, .int .u32 0, .int .i64 0]) 4 32 Tryz.underlying47 hi hz0 hz1 hz2 rfl (by decide) _ 0 [] rfl HO.out ad n c cs rfl HL.out HW.out H1.out (by unfold maxLen; omega) (by omega) (by simp) ?_; intro v' w1 hown' hgrow hnn; have HR := Lib.hid hown'; have HG := Lib.hid hgrow; clear hown' hgrow hnn)
    go_ret
    have hgr : w.grownBy w1 none := grownBy_new (World.grownBy_alloc w _ none) HG.out (Nat.le_refl _)
    have hr := HR.out
    rw [Nat.zero_add, List.nil_append] at hr
    exact ⟨_, rfl, hr, hgr⟩

set_option maxHeartbeats 2000000 in
theorem cloneH_c (p : Option Addr) (n c : Nat) (cs : List Value) (w : World) (hl : cs.length = n * 4) (h1 : ∀ u ∈ cs, u.oneCell' = true)
    (hs : (p = none ∧ n = 0 ∧ c = 0) ∨ ∃ ad, p = some ad ∧ ∀ j u, cs[j]? = some u → w.cell? (ad.add j) = some u) (hn : n ≤ 100000) :
    Calls Tryz.prog 50 #[.slice p n c] w (ClnPost 50 4 n cs w) := by
  obtain ⟨i0, hi, hz0, hz1, hz2⟩ := info_parts infoHk
  rcases hs with ⟨rfl, rfl, rfl⟩ | ⟨ad, rfl, hsrc⟩
  · have hnil := fun w => Lib.run_eql_slice_nil (P := Tryz.prog) w 25 50 none 0 0 0 0 Tryz.underlying25
    have hc0 : cs = [] := List.eq_nil_of_length_eq_zero (by omega)
    subst hc0
    go_enter Tryz.func50, Tryz.ntmps50
    go_wp2
    go_ret
    exact ⟨_, rfl, World.ownsRow_nil _ _ _ _, grownBy_refl _ _⟩
  · have hnil := fun w => Lib.run_eql_slice_nil (P := Tryz.prog) w 25 50 (some ad) n c 0 0 Tryz.underlying25
    have hown : (w.alloc (.cells #[] 50)).ownsRow w.heap.size 50 4 (.slice (some ⟨w.heap.size, 0, none⟩) 0 0) 0 [] :=
      ⟨rfl, .inr ⟨w.heap.size, 0, #[], rfl, Nat.le_refl _, heap_new w _, Nat.le_refl _, Nat.zero_le _, rfl, rfl⟩⟩
    have HO := Lib.hid hown
    have HW : Hid (∀ j u, cs[j]? = some u → (w.alloc (.cells #[] 50)).cell? (ad.add j) = some u) := Lib.hid fun j u hj => World.grownBy.cell (World.grownBy_alloc w _ none) (hsrc j u hj) (by simp)
    have HL := Lib.hid hl
    have H1 := Lib.hid h1
    clear hown hsrc hl h1
    go_enter Tryz.func50, Tryz.ntmps50
    go_wp2_with (at_builtin; refine wpList_append_own _ rfl _ _ 25 rfl w.heap.size 50 i0 (.agg #[.string .empty, .slice none 0 0, .slice none 0 0, .slice none 0 0]) 4 88 Tryz.underlying25 hi hz0 hz1 hz2 rfl (by decide) _ 0 [] rfl HO.out ad n c cs rfl HL.out HW.out H1.out (by unfold maxLen; omega) (by omega) (by simp) ?_; intro v' w1 hown' hgrow hnn; have HR := Lib.hid hown'; have HG := Lib.hid hgrow; clear hown' hgrow hnn)
    go_ret
    have hgr : w.grownBy w1 none := grownBy_new (World.grownBy_alloc w _ none) HG.out (Nat.le_refl _)
    have hr := HR.out
    rw [Nat.zero_add, List.nil_append] at hr
    exact ⟨_, rfl, hr, hgr⟩

end Go.Proofs.YtcfhnfnhdhloiaaGreat
