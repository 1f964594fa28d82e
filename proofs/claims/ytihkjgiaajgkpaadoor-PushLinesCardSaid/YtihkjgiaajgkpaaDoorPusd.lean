/- Package push: fold: an element for each class, where all go. -/
import Derived.Test.YtihkjgiaajgkpaaDoorPusc
namespace Go.Proofs.YtihkjgiaajgkpaaDoor
open Go.RowKit Go.Shelf
attribute [local go_sem] Oper.semAt_some

theorem labG_ok {Lb : List ByteArray} {L : List Nat} (h : labErr Lb = 0) (hl : L.length = Lb.length) : labErr (labG Lb L) = 0 := by
  have h40 := lab_small h
  have hall : Lb.all okS = true := by
    unfold labErr at h
    rw [if_neg (by omega)] at h
    cases hb : Lb.all okS
    · rw [hb] at h; cases h
    · rfl
  unfold labErr
  have h1 : (labG Lb L).length ≤ 40 := by rw [labG_len]; have := cntR_le L L.length; omega
  rw [if_neg (by omega)]
  have h2 : (labG Lb L).all okS = true := by
    rw [List.all_eq_true]
    intro x hx
    unfold labG at hx
    obtain ⟨e, he, rfl⟩ := List.mem_map.1 hx
    have he : e < L.length := by have := (List.mem_filter.1 he).1; simpa using this
    rw [List.getElem?_eq_getElem (by omega)]
    exact (List.all_eq_true.1 hall) _ (List.getElem_mem _)
  rw [h2]
  rfl

/-- What lies in memory while the classes come: the first k labels, where all go. -/
structure FoldI (w0 W : World) (bs g gw lo hi u N : Nat) (L : List Nat) (Lb : List ByteArray) (k : Nat) (Z : List Int) : Prop where
  lab : ∃ pl cl, Boxed W (g + 1) 22 (.slice pl k cl) ∧ W.ownsRow bs 9 1 (.slice pl k cl) k (scells ((labG Lb L).take k))
  row : RowZ W gw Z
  whb : Boxed W g 26 (.slice (some ⟨gw, 0, none⟩) N N)
  uni : IsUn W lo hi u L
  gr : w0.grownBy W none
theorem FoldI.calm {w0 W W' : World} {bs g gw lo hi u N k : Nat} {L : List Nat} {Lb : List ByteArray} {Z : List Int} (h : FoldI w0 W bs g gw lo hi u N L Lb k Z) (hg : W.grownBy W' none) : FoldI w0 W' bs g gw lo hi u N L Lb k Z := by
  obtain ⟨pl, cl, h1, h2⟩ := h.lab
  exact ⟨⟨pl, cl, h1.kept hg (by simp), ownsRow_calm h2 hg⟩, h.row.calm hg, h.whb.kept hg (by simp), h.uni.calm hg, grownBy_trans h.gr hg⟩
theorem FoldI.setZ {w0 W : World} {bs g gw lo hi u N k : Nat} {L : List Nat} {Lb : List ByteArray} {Z : List Int} (h : FoldI w0 W bs g gw lo hi u N L Lb k Z) (h0 : w0.heap.size ≤ gw) (h1 : gw < g) (h2 : hi ≤ gw) (e : Nat) (z : Int) : FoldI w0 (W.setCell ⟨gw, e, none⟩ (.int .i64 z)) bs g gw lo hi u N L Lb k (Z.set e z) := by
  obtain ⟨pl, cl, h3, h4⟩ := h.lab
  have hg := grownBy_setCell W ⟨gw, e, none⟩ (.int .i64 z)
  have hne : some gw ≠ (Value.slice pl k cl).ownBlock := by
    rcases h4.2 with ⟨h5, _⟩ | ⟨g', cap, cur', h5, _, hgb, _⟩
    · rw [h5]; simp [Value.ownBlock]
    · rw [h5]
      intro e
      obtain rfl : gw = g' := by simpa [Value.ownBlock] using e
      rw [show W.heap[gw]? = _ from h.row] at hgb
      simp at hgb
  exact ⟨⟨pl, cl, h3.kept hg (by simp; omega), h4.kept hg (.inr hne.symm)⟩, h.row.set z, h.whb.kept hg (by simp; omega), h.uni.apart (Kept.row hg (Nat.le_refl gw) (Nat.lt_succ_self gw)) (.inl h2), grownBy_new h.gr hg h0⟩
theorem foldI_own {β : Type} {w0 : World} {bs g gw lo hi u N B : Nat} {L : List Nat} {Lb : List ByteArray} {k : β → Nat} {Z : β → List Int} (hB : hi ≤ B) (hB0 : w0.heap.size ≤ B) : OwnFrom B (fun s W => FoldI w0 W bs g gw lo hi u N L Lb (k s) (Z s)) := by
  rintro s W W' row ⟨⟨pl, cl, h1, h2⟩, h3, h4, h5, h6⟩ hg hr
  have hcell : ∀ {b : Nat} {cur : Array Value} {t : TypeId} {fz : Nat × Nat}, W.heap[b]? = some (.cells cur t fz) → some b ≠ row := by
    intro b cur t fz hb e
    obtain ⟨_, o, ho, hc⟩ := hr b e.symm
    rw [hb] at ho
    cases ho
    cases hc
  refine ⟨⟨pl, cl, h1.kept hg (hcell h1), ?_⟩, (hg.block gw h3.lt (hcell h3)).trans h3, h4.kept hg (hcell h4), ?_, ?_⟩
  · refine ⟨h2.1, ?_⟩
    rcases h2.2 with h7 | ⟨g', cap, cur, e1, h7, h8, h9⟩
    · exact .inl h7
    · exact .inr ⟨g', cap, cur, e1, h7, (hg.block g' (Array.getElem?_eq_some_iff.1 h8).1 (hcell h8)).trans h8, h9⟩
  · obtain ⟨p, c, F, h7, h8, h9⟩ := h5
    exact ⟨p, c, F, ownFrom_ug (β := Unit) (fun _ => F) hB () W W' row h7 hg hr, h8, h9⟩
  · refine ⟨hg.os.trans h6.os, hg.tape.trans h6.tape, hg.output.trans h6.output, Nat.le_trans h6.size hg.size, fun i hi hn => (hg.block i (Nat.lt_of_lt_of_le hi h6.size) ?_).trans (h6.block i hi hn)⟩
    intro e
    have := (hr i e.symm).1
    omega
theorem FoldI.lbl {w0 W w1 W2 : World} {bs g gw lo hi u N k : Nat} {L : List Nat} {Lb : List ByteArray} {Z : List Int} {x : Nat} {v v' : Value} (h : FoldI w0 W bs g gw lo hi u N L Lb k Z) (hbs : bs = w0.heap.size) (h1 : gw < g) (h2 : hi ≤ gw) (h0 : bs ≤ gw) (hx : (leadL L)[k]? = some x)
    (hv : Boxed W (g + 1) 22 v) (hr : W.ownsRow bs 9 1 v k (scells ((labG Lb L).take k)))
    (hc : W.grownBy w1 none) (hown' : W2.ownsRow bs 9 1 v' (k + 1) (scells ((labG Lb L).take k) ++ [.string (Lb[x]?.getD .empty)])) (hgrow : w1.grownBy W2 v.ownBlock) :
    Boxed W2 (g + 1) 22 v ∧ FoldI w0 (W2.setCell ⟨g + 1, 0, none⟩ v') bs g gw lo hi u N L Lb (k + 1) Z ∧ KeepsOthers W (W2.setCell ⟨g + 1, 0, none⟩ v') ∧ (∀ n₀, g + 1 < n₀ → KeepG n₀ W (W2.setCell ⟨g + 1, 0, none⟩ v')) := by
  have hr1 := ownsRow_calm hr hc
  have hv1 := hv.kept hc (by simp)
  have hvn := hv1.not_row (by decide) hr1
  have hv2 : Boxed W2 (g + 1) 22 v := hv1.kept hgrow hvn
  have hs := grownBy_setCell W2 ⟨g + 1, 0, none⟩ v'
  have hs' := grownBy_setCell' W2 (g + 1) v'
  have hk1 := h.calm hc
  have hne : ∀ {b : Nat} {cur : Array Value} {t : TypeId} {fz : Nat × Nat}, t ≠ 9 → w1.heap[b]? = some (.cells cur t fz) → some b ≠ v.ownBlock := by
    intro b cur t fz ht hb
    rcases hr1.2 with ⟨h5, _⟩ | ⟨g', cap, cur', h5, _, hgb, _⟩
    · rw [h5]; simp [Value.ownBlock]
    · rw [h5]
      intro e
      obtain rfl : b = g' := by simpa [Value.ownBlock] using e
      rw [hb] at hgb
      simp at hgb
      exact ht hgb.2.1
  have hgr2 : w0.grownBy W2 none := ownsRow_new hk1.gr (by rw [← hbs]; exact hr1) hgrow
  have hrow2 : RowZ W2 gw Z := (hgrow.block gw hk1.row.lt (hne (by decide) hk1.row)).trans hk1.row
  have hwb2 : Boxed W2 g 26 (.slice (some ⟨gw, 0, none⟩) N N) := hk1.whb.kept hgrow (hne (by decide) hk1.whb)
  refine ⟨hv2, ⟨?_, ?_, ?_, ?_, ?_⟩, ?_, ?_⟩
  · obtain ⟨p2, c2, rfl⟩ := ownsRow_sl hown'
    refine ⟨p2, c2, hv2.set _, ?_⟩
    have : scells ((labG Lb L).take (k + 1)) = scells ((labG Lb L).take k) ++ [.string (Lb[x]?.getD .empty)] := by rw [labG_take hx, scells_app]; first | done | rfl
    rw [this]
    exact hown'.kept hs' (.inr (hv2.not_row (by decide) hown').symm)
  · exact (hs.block gw hrow2.lt (by simp; omega)).trans hrow2
  · exact hwb2.kept hs (by simp)
  · obtain ⟨p, c, F, h7, h8, h9⟩ := hk1.uni
    refine ⟨p, c, F, ⟨h7.h1, h7.h2, Nat.le_trans h7.h3 (Nat.le_trans hgrow.size hs.size), h7.small, h7.nil, ?_, fun hn => ?_⟩, h8, h9⟩
    · refine (hs.block u (by have := (Array.getElem?_eq_some_iff.1 ((hgrow.block u (Array.getElem?_eq_some_iff.1 h7.box).1 (hne (by decide) h7.box)).trans h7.box)).1; exact this) (by simp; have := h7.h2; omega)).trans ?_
      exact (hgrow.block u (Array.getElem?_eq_some_iff.1 h7.box).1 (hne (by decide) h7.box)).trans h7.box
    · obtain ⟨g', e, k1, k2⟩ := h7.row hn
      obtain ⟨c', fz, hk⟩ := k2.kind
      have hb1 := hgrow.block g' k2.lt.2 (hne (by decide) hk)
      have hb2 := hs.block g' (Nat.lt_of_lt_of_le k2.lt.2 hgrow.size) (by simp; omega)
      exact ⟨g', e, k1, k2.block (hb2.trans hb1)⟩
  · exact grownBy_new hgr2 hs (by show _ ≤ g + 1; omega)
  · refine ((KeepsOthers.of_grownBy hc fun j o ej _ => by cases ej).trans (KeepsOthers.of_grownBy hgrow fun j o ej hj => ?_)).trans (KeepsOthers.setCell _ _ _)
    rcases hr1.2 with ⟨h5, _⟩ | ⟨g', cap, cur, h5, _, hgb, _⟩
    · rw [h5] at ej; simp [Value.ownBlock] at ej
    · rw [h5] at ej
      obtain rfl : g' = j := by simpa [Value.ownBlock] using ej
      rw [hgb] at hj; cases hj; rfl
  · intro n₀ hn₀
    exact ((KeepG.calm hc).trans (KeepG.own hr1 hgrow)).trans (KeepG.below hs (by show g + 1 < n₀; exact hn₀))

end Go.Proofs.YtihkjgiaajgkpaaDoor
