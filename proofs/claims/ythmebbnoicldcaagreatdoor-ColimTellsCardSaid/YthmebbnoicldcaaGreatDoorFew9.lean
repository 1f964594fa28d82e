/- What the statements' own functions fewAll, fewLegs answer; diagrams and legs that are laid by hand. -/
import Derived.Test.YthmebbnoicldcaaGreatDoorColM
import Derived.Test.YthmebbnoicldcaaGreatDoorFew
namespace Go.Proofs.YthmebbnoicldcaaGreatDoor
open Go.RowKit

def fewNB (Ns : List Nd) (k : Nat) : Bool := fewB (ndA Ns k).1 (ndA Ns k).2.length
def fewDB (Ns : List Nd) (As : List Ar) : Bool := (List.range Ns.length).all (fewNB Ns) && ((List.range As.length).all (fun a => decide ((arA As a).2.2.length ≤ 60)) && (decide (Ns.length ≤ 10) && decide (As.length ≤ 12)))
theorem fewD_parts {Ns : List Nd} {As : List Ar} (h : fewDB Ns As = true) : DFew Ns As := by
  unfold fewDB at h
  simp only [Bool.and_eq_true, List.all_eq_true, List.mem_range, decide_eq_true_eq] at h
  exact ⟨h.2.2.1, fun k hk => few_small (h.1 k hk), h.2.2.2, h.2.1⟩
theorem fewD_mk {Ns : List Nd} {As : List Ar} (h1 : ∀ k, k < Ns.length → fewNB Ns k = true) (h2 : ∀ a, a < As.length → (arA As a).2.2.length ≤ 60) (h3 : Ns.length ≤ 10) (h4 : As.length ≤ 12) : fewDB Ns As = true := by
  unfold fewDB
  simp only [Bool.and_eq_true, List.all_eq_true, List.mem_range, decide_eq_true_eq]
  exact ⟨h1, h2, h3, h4⟩
theorem fewD_no {Ns : List Nd} {As : List Ar} (h : (∀ k, k < Ns.length → fewNB Ns k = true) → (∀ a, a < As.length → (arA As a).2.2.length ≤ 60) → Ns.length ≤ 10 → As.length ≤ 12 → False) : fewDB Ns As = false := by
  cases hf : fewDB Ns As
  · rfl
  · unfold fewDB at hf
    simp only [Bool.and_eq_true, List.all_eq_true, List.mem_range, decide_eq_true_eq] at hf
    exact (h hf.1 hf.2.1 hf.2.2.1 hf.2.2.2).elim

set_option maxRecDepth 20000 in
set_option maxHeartbeats 4000000 in
theorem fewAll_r (p q : Option Addr) (n c m d lo hi lo' hi' : Nat) (Ns : List Nd) (As : List Ar) (r : Bool) (w : World) (hn : NodesAt w lo hi p n Ns) (ha : ArrsAt w lo' hi' q m As) (h1 : n ≤ maxLen) (h2 : m ≤ maxLen) (hr : fewDB Ns As = r) :
    Calls Tryz.prog 5 #[.agg #[.slice p n c, .slice q m d]] w fun e w' => e = .returned (.bool r) ∧ w.grownBy w' none := by
  unfold maxLen at h1 h2
  have HN := Lib.hid hn
  have HA := Lib.hid ha
  have HR := Lib.hid hr
  have HNL := Lib.hid hn.len
  have HAL := Lib.hid ha.len
  have hb := Blk.new w #[.slice p n c, .slice q m d] 25
  have hg := World.grownBy_alloc w (.cells #[.slice p n c, .slice q m d] 25) none
  clear hn ha hr
  go_enter Tryz.func5, Tryz.ntmps5
  go_wp2
  generalize w.alloc (.cells #[.slice p n c, .slice q m d] 25) = W0 at *
  have HB0 := Lib.hid hb
  have HG0 := Lib.hid hg
  clear hb hg
  generalize w.heap.size = g at *
  go_loopw [3] (fun i wr => ∃ k : Nat, k ≤ n ∧ i = .int .i64 k ∧ Hid (∀ j, j < k → fewNB Ns j = true) ∧ W0.grownBy wr none) (fun i _ => n - (intOf i).toNat)
  case atStart => exact ⟨0, Nat.zero_le _, rfl, Lib.hid (fun j hj => absurd hj (Nat.not_lt_zero _)), grownBy_refl _ _⟩
  case round =>
    obtain ⟨k, hk, rfl, HD, hgr⟩ := hrel
    have hb := HB0.out.calm hgr
    have x0 := hb.c0
    have x1 := hb.c1
    have HGR := Lib.hid hgr
    by_cases hkn : k < n
    · have k0 : (0 : Int) ≤ k := by omega
      have k1 : (k : Int) < n := by omega
      obtain ⟨b, off, rfl, q1, q2, q3, hc⟩ := (HN.out.calm (grownBy_trans HG0.out hgr)).cell (by omega)
      obtain ⟨pl, nl, cl, pq, nq, cq, c0, c1, ho, hnl, _, _⟩ := hc k hkn
      have HO := Lib.hid ho
      have hpl := ho.ps.len
      clear hc ho hgr hb
      go_wp2_with fail
      cases hf : fewB (ndA Ns k).1 nq with
      | false =>
        obtain rfl : r = false := by rw [← HR.out]; exact fewD_no (fun h1 _ _ _ => by have := h1 k (by rw [HNL.out]; exact hkn); unfold fewNB at this; rw [hpl, hf] at this; cases this)
        refine (few_r pl pq nl cl nq cq _ _ _ _ false _ HO.out hnl hf).mono ?_
        rintro e w2 ⟨rfl, hg2⟩
        have HG2 := Lib.hid (grownBy_trans HG0.out (grownBy_trans HGR.out hg2))
        clear hg2 hf
        go_wp2
        go_ret
        exact ⟨rfl, HG2.out⟩
      | true =>
        refine (few_r pl pq nl cl nq cq _ _ _ _ true _ HO.out hnl hf).mono ?_
        rintro e w2 ⟨rfl, hg2⟩
        have HG2 := Lib.hid (grownBy_trans HGR.out hg2)
        have HD2 : Hid (∀ j, j < k + 1 → fewNB Ns j = true) := Lib.hid (fun j hj => by
          by_cases e : j = k
          · subst e; unfold fewNB; rw [hpl]; exact hf
          · exact HD.out j (by omega))
        clear hg2 hf HD
        go_wp2
        exact ⟨⟨k + 1, by omega, by go_num, HD2, HG2.out⟩, by simp [intOf]; omega⟩
    · obtain rfl : k = n := by omega
      have k1 : ¬ ((k : Int) < k) := by omega
      have HB1 := Lib.hid hb
      clear hgr hb
      generalize wr = wo at *
      go_wp2
      clear x0 x1
      go_loopw [4] (fun i wr => ∃ a : Nat, a ≤ m ∧ i = .int .i64 a ∧ Hid (∀ j, j < a → (arA As j).2.2.length ≤ 60) ∧ wr = wo) (fun i _ => m - (intOf i).toNat)
      case atStart => exact ⟨0, Nat.zero_le _, rfl, Lib.hid (fun j hj => absurd hj (Nat.not_lt_zero _)), rfl⟩
      case round =>
        obtain ⟨a, ha, rfl, HC, rfl⟩ := hrel
        have x0 := HB1.out.c0
        have x1 := HB1.out.c1
        by_cases ham : a < m
        · have a0 : (0 : Int) ≤ a := by omega
          have a1 : (a : Int) < m := by omega
          obtain ⟨b, off, rfl, q1, q2, q3, hc⟩ := (HA.out.calm (grownBy_trans HG0.out HGR.out)).cell (by omega)
          obtain ⟨pm, nm, cm, c0, c1, c2, hz⟩ := hc a ham
          have hzl := hz.len
          clear hc hz c0 c1
          by_cases h60 : nm ≤ 60
          · have d1 : ¬ ((60 : Int) < nm) := by omega
            have HC2 : Hid (∀ j, j < a + 1 → (arA As j).2.2.length ≤ 60) := Lib.hid (fun j hj => by
              by_cases e : j = a
              · subst e; rw [hzl]; exact h60
              · exact HC.out j (by omega))
            clear hzl
            go_wp2
            exact ⟨⟨a + 1, by omega, by go_num, HC2, trivial⟩, by simp [intOf]; omega⟩
          · have d1 : (60 : Int) < nm := by omega
            obtain rfl : r = false := by rw [← HR.out]; exact fewD_no (fun _ h2 _ _ => by have := h2 a (by rw [HAL.out]; exact ham); omega)
            clear hzl
            go_wp2
            go_ret
            exact ⟨rfl, grownBy_trans HG0.out HGR.out⟩
        · obtain rfl : a = m := by omega
          have a1 : ¬ ((a : Int) < a) := by omega
          by_cases h10 : k ≤ 10
          · have d1 : (k : Int) ≤ 10 := by omega
            by_cases h12 : a ≤ 12
            · have d2 : (a : Int) ≤ 12 := by omega
              obtain rfl : r = true := by rw [← HR.out]; exact fewD_mk (by rw [HNL.out]; exact HD.out) (by rw [HAL.out]; exact HC.out) (by rw [HNL.out]; exact h10) (by rw [HAL.out]; exact h12)
              go_wp2
              go_ret
              exact ⟨rfl, grownBy_trans HG0.out HGR.out⟩
            · have d2 : ¬ ((a : Int) ≤ 12) := by omega
              obtain rfl : r = false := by rw [← HR.out]; exact fewD_no (fun _ _ _ h => by rw [HAL.out] at h; omega)
              go_wp2
              go_ret
              exact ⟨rfl, grownBy_trans HG0.out HGR.out⟩
          · have d1 : ¬ ((k : Int) ≤ 10) := by omega
            obtain rfl : r = false := by rw [← HR.out]; exact fewD_no (fun _ _ h _ => by rw [HNL.out] at h; omega)
            go_wp2
            go_ret
            exact ⟨rfl, grownBy_trans HG0.out HGR.out⟩

def fewLB (Hs : List (List Int)) : Bool := (List.range Hs.length).all (fun k => decide ((lgA Hs k).length ≤ 60)) && decide (Hs.length ≤ 10)
theorem fewL_parts {Hs : List (List Int)} (h : fewLB Hs = true) : (∀ k, k < Hs.length → (lgA Hs k).length ≤ 60) ∧ Hs.length ≤ 10 := by
  unfold fewLB at h
  simpa only [Bool.and_eq_true, List.all_eq_true, List.mem_range, decide_eq_true_eq] using h
theorem fewL_mk {Hs : List (List Int)} (h : (∀ k, k < Hs.length → (lgA Hs k).length ≤ 60) ∧ Hs.length ≤ 10) : fewLB Hs = true := by
  unfold fewLB
  simpa only [Bool.and_eq_true, List.all_eq_true, List.mem_range, decide_eq_true_eq] using h
theorem fewL_no {Hs : List (List Int)} (h : (∀ k, k < Hs.length → (lgA Hs k).length ≤ 60) → Hs.length ≤ 10 → False) : fewLB Hs = false := by
  cases hf : fewLB Hs
  · rfl
  · exact (h (fewL_parts hf).1 (fewL_parts hf).2).elim

set_option maxRecDepth 20000 in
set_option maxHeartbeats 4000000 in
theorem fewLegs_r (p : Option Addr) (n c lo hi : Nat) (Hs : List (List Int)) (r : Bool) (w : World) (hh : LegsAt w lo hi p n Hs) (h1 : n ≤ maxLen) (hr : fewLB Hs = r) :
    Calls Tryz.prog 7 #[.slice p n c] w fun e w' => e = .returned (.bool r) ∧ w.grownBy w' none := by
  unfold maxLen at h1
  have HH := Lib.hid hh
  have HR := Lib.hid hr
  have HHL := Lib.hid hh.len
  clear hh hr
  go_enter Tryz.func7, Tryz.ntmps7
  go_wp2
  go_loopw [3] (fun i wr => ∃ a : Nat, a ≤ n ∧ i = .int .i64 a ∧ Hid (∀ j, j < a → (lgA Hs j).length ≤ 60) ∧ wr = w) (fun i _ => n - (intOf i).toNat)
  case atStart => exact ⟨0, Nat.zero_le _, rfl, Lib.hid (fun j hj => absurd hj (Nat.not_lt_zero _)), rfl⟩
  case round =>
    obtain ⟨a, ha, rfl, HC, rfl⟩ := hrel
    by_cases ham : a < n
    · have a0 : (0 : Int) ≤ a := by omega
      have a1 : (a : Int) < n := by omega
      obtain ⟨b, off, rfl, q1, q2, q3, hc⟩ := HH.out.cell (by omega)
      obtain ⟨pm, nm, cm, c0, hz⟩ := hc a ham
      have hzl := hz.len
      clear hc hz
      by_cases h60 : nm ≤ 60
      · have d1 : ¬ ((60 : Int) < nm) := by omega
        have HC2 : Hid (∀ j, j < a + 1 → (lgA Hs j).length ≤ 60) := Lib.hid (fun j hj => by
          by_cases e : j = a
          · subst e; rw [hzl]; exact h60
          · exact HC.out j (by omega))
        clear hzl
        go_wp2
        exact ⟨⟨a + 1, by omega, by go_num, HC2, trivial⟩, by simp [intOf]; omega⟩
      · have d1 : (60 : Int) < nm := by omega
        obtain rfl : r = false := by rw [← HR.out]; exact fewL_no (fun h2 _ => by have := h2 a (by rw [HHL.out]; exact ham); omega)
        clear hzl
        go_wp2
        go_ret
        exact ⟨rfl, grownBy_refl _ _⟩
    · obtain rfl : a = n := by omega
      have a1 : ¬ ((a : Int) < a) := by omega
      by_cases h10 : a ≤ 10
      · have d1 : (a : Int) ≤ 10 := by omega
        obtain rfl : r = true := by rw [← HR.out]; exact fewL_mk ⟨by rw [HHL.out]; exact HC.out, by rw [HHL.out]; exact h10⟩
        go_wp2
        go_ret
        exact ⟨rfl, grownBy_refl _ _⟩
      · have d1 : ¬ ((a : Int) ≤ 10) := by omega
        obtain rfl : r = false := by rw [← HR.out]; exact fewL_no (fun _ h => by rw [HHL.out] at h; omega)
        go_wp2
        go_ret
        exact ⟨rfl, grownBy_refl _ _⟩

/-- Diagrams and legs that lie in blocks known whole. -/
theorem nodes_of {W : World} {g lo hi : Nat} {vs : List Value} {xs : List Nd} (h : W.heap[g]? = some (.cells vs.toArray 29 (0, 0))) (h1 : lo ≤ g) (h2 : g < hi) (h3 : hi ≤ W.heap.size)
    (hc : ∀ k, k < xs.length → ∃ pl nl cl pq nq cq, vs[k * 2]? = some (.slice pl nl cl) ∧ vs[k * 2 + 1]? = some (.slice pq nq cq) ∧ ObjAt W lo hi pl nl pq nq (ndA xs k).1 (ndA xs k).2 ∧ nl ≤ maxLen ∧ (pl = none → cl = 0) ∧ (pq = none → cq = 0)) : NodesAt W lo hi (some ⟨g, 0, none⟩) xs.length xs := by
  refine ⟨rfl, fun _ => ⟨g, 0, rfl, h1, h2, h3, fun k hk => ?_⟩⟩
  obtain ⟨pl, nl, cl, pq, nq, cq, c0, c1, hr⟩ := hc k hk
  exact ⟨pl, nl, cl, pq, nq, cq, by simp [World.cell?, h, c0], by simp [World.cell?, h, c1], hr⟩
theorem arrs_of {W : World} {g lo hi : Nat} {vs : List Value} {xs : List Ar} (h : W.heap[g]? = some (.cells vs.toArray 49 (0, 0))) (h1 : lo ≤ g) (h2 : g < hi) (h3 : hi ≤ W.heap.size)
    (hc : ∀ k, k < xs.length → ∃ pm nm cm, vs[k * 3]? = some (.int .i64 (arA xs k).1) ∧ vs[k * 3 + 1]? = some (.int .i64 (arA xs k).2.1) ∧ vs[k * 3 + 2]? = some (.slice pm nm cm) ∧ ZsAt W lo hi pm nm (arA xs k).2.2) : ArrsAt W lo hi (some ⟨g, 0, none⟩) xs.length xs := by
  refine ⟨rfl, fun _ => ⟨g, 0, rfl, h1, h2, h3, fun k hk => ?_⟩⟩
  obtain ⟨pm, nm, cm, c0, c1, c2, hr⟩ := hc k hk
  exact ⟨pm, nm, cm, by simp [World.cell?, h, c0], by simp [World.cell?, h, c1], by simp [World.cell?, h, c2], hr⟩
theorem legs_of {W : World} {g lo hi : Nat} {vs : List Value} {xs : List (List Int)} (h : W.heap[g]? = some (.cells vs.toArray 40 (0, 0))) (h1 : lo ≤ g) (h2 : g < hi) (h3 : hi ≤ W.heap.size)
    (hc : ∀ k, k < xs.length → ∃ pm nm cm, vs[k]? = some (.slice pm nm cm) ∧ ZsAt W lo hi pm nm (lgA xs k)) : LegsAt W lo hi (some ⟨g, 0, none⟩) xs.length xs := by
  refine ⟨rfl, fun _ => ⟨g, 0, rfl, h1, h2, h3, fun k hk => ?_⟩⟩
  obtain ⟨pm, nm, cm, c0, hr⟩ := hc k hk
  exact ⟨pm, nm, cm, by simp [World.cell?, h, c0], hr⟩
theorem zs_of {W : World} {g : Nat} {l : List Int} (h : W.heap[g]? = some (.cells (zcells l).toArray 3 (0, 0))) : ZsAt W 0 W.heap.size (some ⟨g, 0, none⟩) l.length l := (RowZ.at (w := W) (g := g) (l := l) h (Nat.zero_le _))

end Go.Proofs.YthmebbnoicldcaaGreatDoor
