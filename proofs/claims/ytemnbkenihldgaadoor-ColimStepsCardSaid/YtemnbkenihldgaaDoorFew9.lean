/- What the statements' own functions fewAll, fewLegs answer; diagrams and legs that are laid by hand. -/
import Derived.Test.YtemnbkenihldgaaDoorColM
import Derived.Test.YtemnbkenihldgaaDoorFew
namespace Go.Proofs.YtemnbkenihldgaaDoor
open Go.RowKit

def fewNB (Ns : List Nd) (k : Nat) : Bool := fewB (ndA Ns k).1 (ndA Ns k).2.length
def fewDB (Ns : List Nd) (As : List Ar) : Bool := (List.range Ns.length).all (fewNB Ns) && ((List.range As.length).all (fun a => decide ((arA As a).2.2.length ≤ 60)) && (decide (Ns.length ≤ 10) && decide (As.length ≤ 12)))
theorem fewD_parts {Ns : List Nd} {As : List Ar} (h : fewDB Ns As = true) : DFew Ns As := by
  unfold fewDB at h
  simp only [Bool.and_eq_true, List.all_eq_true, List.mem_range, decide_eq_true_eq] at h
  exact ⟨h.2.2.1, fun k hk => few_small (h.1 k hk), h.2.2.2, h.2.1⟩
theorem fewD_mk {Ns : List Nd} {As : List Ar} (h1 : ∀ k, k < Ns.length → fewNB Ns k = true) (h2 : ∀ a, a < As.length → (arA As a).2.2.length ≤ 60) (h3 : Ns.length ≤ 10) (h4 : As.length ≤ 12) : fewDB Ns As = true := by
  unfold fewDB
  simp only [Bool.and_eq_true, List.all_eq_true, List.mem_range, decide_eq_true_eq]
  exact ⟨h1, h2, h3, h4⟩
theorem fewD_no {Ns : List Nd} {As : List Ar} (h : (∀ k, k < Ns.length → fewNB Ns k = true) → (∀ a, a < As.length → (arA As a).2.2.length ≤ 60) → Ns.length ≤ 10 → As.length ≤ 12 → False) : fewDB Ns As = false := by
  cases hf : fewDB Ns As
  · rfl
  · unfold fewDB at hf
    simp only [Bool.and_eq_true, List.all_eq_true, List.mem_range, decide_eq_true_eq] at hf
    exact (h hf.1 hf.2.1 hf.2.2.1 hf.2.2.2).elim

def fewLB (Hs : List (List Int)) : Bool := (List.range Hs.length).all (fun k => decide ((lgA Hs k).length ≤ 60)) && decide (Hs.length ≤ 10)
theorem fewL_parts {Hs : List (List Int)} (h : fewLB Hs = true) : (∀ k, k < Hs.length → (lgA Hs k).length ≤ 60) ∧ Hs.length ≤ 10 := by
  unfold fewLB at h
  simpa only [Bool.and_eq_true, List.all_eq_true, List.mem_range, decide_eq_true_eq] using h
theorem fewL_mk {Hs : List (List Int)} (h : (∀ k, k < Hs.length → (lgA Hs k).length ≤ 60) ∧ Hs.length ≤ 10) : fewLB Hs = true := by
  unfold fewLB
  simpa only [Bool.and_eq_true, List.all_eq_true, List.mem_range, decide_eq_true_eq] using h
theorem fewL_no {Hs : List (List Int)} (h : (∀ k, k < Hs.length → (lgA Hs k).length ≤ 60) → Hs.length ≤ 10 → False) : fewLB Hs = false := by
  cases hf : fewLB Hs
  · rfl
  · exact (h (fewL_parts hf).1 (fewL_parts hf).2).elim

/-- Diagrams and legs that lie in blocks known whole. -/
theorem nodes_of {W : World} {g lo hi : Nat} {vs : List Value} {xs : List Nd} (h : W.heap[g]? = some (.cells vs.toArray 25 (0, 0))) (h1 : lo ≤ g) (h2 : g < hi) (h3 : hi ≤ W.heap.size)
    (hc : ∀ k, k < xs.length → ∃ pl nl cl pq nq cq, vs[k * 2]? = some (.slice pl nl cl) ∧ vs[k * 2 + 1]? = some (.slice pq nq cq) ∧ ObjAt W lo hi pl nl pq nq (ndA xs k).1 (ndA xs k).2 ∧ nl ≤ maxLen ∧ (pl = none → cl = 0) ∧ (pq = none → cq = 0)) : NodesAt W lo hi (some ⟨g, 0, none⟩) xs.length xs := by
  refine ⟨rfl, fun _ => ⟨g, 0, rfl, h1, h2, h3, fun k hk => ?_⟩⟩
  obtain ⟨pl, nl, cl, pq, nq, cq, c0, c1, hr⟩ := hc k hk
  exact ⟨pl, nl, cl, pq, nq, cq, by simp [World.cell?, h, c0], by simp [World.cell?, h, c1], hr⟩
theorem arrs_of {W : World} {g lo hi : Nat} {vs : List Value} {xs : List Ar} (h : W.heap[g]? = some (.cells vs.toArray 45 (0, 0))) (h1 : lo ≤ g) (h2 : g < hi) (h3 : hi ≤ W.heap.size)
    (hc : ∀ k, k < xs.length → ∃ pm nm cm, vs[k * 3]? = some (.int .i64 (arA xs k).1) ∧ vs[k * 3 + 1]? = some (.int .i64 (arA xs k).2.1) ∧ vs[k * 3 + 2]? = some (.slice pm nm cm) ∧ ZsAt W lo hi pm nm (arA xs k).2.2) : ArrsAt W lo hi (some ⟨g, 0, none⟩) xs.length xs := by
  refine ⟨rfl, fun _ => ⟨g, 0, rfl, h1, h2, h3, fun k hk => ?_⟩⟩
  obtain ⟨pm, nm, cm, c0, c1, c2, hr⟩ := hc k hk
  exact ⟨pm, nm, cm, by simp [World.cell?, h, c0], by simp [World.cell?, h, c1], by simp [World.cell?, h, c2], hr⟩
theorem legs_of {W : World} {g lo hi : Nat} {vs : List Value} {xs : List (List Int)} (h : W.heap[g]? = some (.cells vs.toArray 28 (0, 0))) (h1 : lo ≤ g) (h2 : g < hi) (h3 : hi ≤ W.heap.size)
    (hc : ∀ k, k < xs.length → ∃ pm nm cm, vs[k]? = some (.slice pm nm cm) ∧ ZsAt W lo hi pm nm (lgA xs k)) : LegsAt W lo hi (some ⟨g, 0, none⟩) xs.length xs := by
  refine ⟨rfl, fun _ => ⟨g, 0, rfl, h1, h2, h3, fun k hk => ?_⟩⟩
  obtain ⟨pm, nm, cm, c0, hr⟩ := hc k hk
  exact ⟨pm, nm, cm, by simp [World.cell?, h, c0], hr⟩
theorem zs_of {W : World} {g : Nat} {l : List Int} (h : W.heap[g]? = some (.cells (zcells l).toArray 3 (0, 0))) : ZsAt W 0 W.heap.size (some ⟨g, 0, none⟩) l.length l := (RowZ.at (w := W) (g := g) (l := l) h (Nat.zero_le _))

end Go.Proofs.YtemnbkenihldgaaDoor
