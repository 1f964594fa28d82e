/- The contract of Pairs of package rel: a new slice of the pairs, rising. -/
import Derived.Test.YtkipldmkdnjkaaaRelP
namespace Go.Proofs.Ytkipldmkdnjkaaa
open Go.RowKit Go.Shelf
attribute [local go_sem] Oper.semAt_some

theorem Try.info47 : (Try.prog.info? 47).map (fun i => (i.zero, i.size, i.bytes)) = some (some (.agg #[.int .i64 0, .int .i64 0]), 2, 16) := by kernel_rfl

theorem keepP_t {n₀ : Nat} {A B C : World} (h : KeepP n₀ A B) (k : KeepP n₀ B C) : KeepP n₀ A C := ⟨h.1.trans k.1, h.2.trans k.2⟩
theorem keepP_b {w : World} {n₀ : Nat} (hn : n₀ ≤ w.heap.size) (W : World) (l : Nat) (o o' : Obj) (hl : w.heap.size ≤ l) (hw : W.heap[l]? = some o) (hc : o.isCells = false) (hk : o.isWalk = false) : KeepP n₀ W (W.putObj l o') := by
  refine ⟨belowK_b hn W l o o' hl hw hc hk, fun g cur hg => ?_⟩
  have hne : g ≠ l := fun e => by subst e; rw [hg] at hw; cases hw; cases hc
  exact (World.putObj_heap_other hne).trans hg

/-- Behind an append to a row of pairs that a box holds rows of ints lie as they lay. -/
theorem keepI_appended {W w1 : World} {n₀ B k : Nat} {v u v' : Value} {xs : List Value} {tmp : Obj} (hv : Boxed W B 22 u) (hrow : W.ownsRow n₀ 47 2 v k xs) (hgrow : (W.alloc tmp).grownBy w1 v.ownBlock) : KeepI W (w1.setCell ⟨B, 0, none⟩ v') := by
  intro g cur hg
  have hlt : g < W.heap.size := (Array.getElem?_eq_some_iff.1 hg).1
  have h1 : (W.alloc tmp).heap[g]? = some (.cells cur 3 (0, 0)) := ((World.grownBy_alloc W tmp none).block g hlt (by simp)).trans hg
  have hne : some g ≠ v.ownBlock := by
    rcases hrow.2 with ⟨rfl, _⟩ | ⟨g', cap, cur', rfl, _, hgb, _⟩
    · simp [Value.ownBlock]
    · intro e
      obtain rfl : g = g' := by simpa [Value.ownBlock] using e
      rw [hg] at hgb
      simp at hgb
  have h2 : w1.heap[g]? = some (.cells cur 3 (0, 0)) := (hgrow.block g (by simp; omega) hne).trans h1
  have hneB : g ≠ B := fun e => by
    subst e
    rw [show W.heap[g]? = _ from hv] at hg
    simp at hg
  exact (Below.heap_setCell _ _ _ _ hneB).trans h2

theorem cell_two_new (w : World) (x y : Value) (t : TypeId) : ∀ j u, [x, y][j]? = some u → (w.alloc (.cells #[x, y] t)).cell? ((⟨w.heap.size, 0, none⟩ : Addr).add j) = some u := by
  intro j u hu
  have hadd : (⟨w.heap.size, 0, none⟩ : Addr).add j = ⟨w.heap.size, j, none⟩ := by unfold Addr.add; split <;> simp_all
  rw [hadd]
  match j, hu with
  | 0, hu => simpa using hu
  | 1, hu => simpa using hu
  | j + 2, hu => simp at hu

/-- The loop's variable, in a block of its own. -/
def PairBox (x : Int × Int) (B : Nat) (W : World) : Prop := W.heap[B]? = some (.cells #[.int .i64 x.1, .int .i64 x.2] 47 (0, 0))

end Go.Proofs.Ytkipldmkdnjkaaa
