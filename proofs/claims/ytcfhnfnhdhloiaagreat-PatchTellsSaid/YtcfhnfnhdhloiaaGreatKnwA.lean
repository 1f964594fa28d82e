/- The law folder's own patches. -/
import Derived.Test.YtcfhnfnhdhloiaaGreatPatM
import Derived.Test.YtcfhnfnhdhloiaaGreatRefPa
/-! The law folder's own patch, and what is true of it. -/
namespace Go.Proofs.YtcfhnfnhdhloiaaGreat

def kA : ByteArray := ⟨#[97]⟩
def kX : ByteArray := ⟨#[120, 10]⟩
def kY : ByteArray := ⟨#[121]⟩
def kN : ByteArray := ⟨#[10, 10]⟩
def kE : List Ed := [((65537, 0), (65537, 1))]
def kP : Pt := (65537, [], [kA], [], [(kA, [kX, kY], kE, [])])
def kQ : Pt := (65537, [], [kA], [], [(kA, [kN, kY], kE, [])])
def kZ : Pt := (0, [], [], [], [])
theorem path_kA : IsPath kA := ⟨by decide +kernel, by decide +kernel, by decide +kernel⟩
theorem path_abc : IsPath ⟨#[97, 47, 98, 46, 99]⟩ := ⟨by decide +kernel, by decide +kernel, by decide +kernel⟩
theorem path_A : ¬ IsPath ⟨#[65]⟩ := fun h => by
  have := h.ch 65 (by decide +kernel)
  revert this
  decide +kernel
theorem line_kX : IsLine kX := ⟨lines_one.2 ⟨by decide +kernel, by decide +kernel⟩, by decide +kernel⟩
theorem line_kY : IsLine kY := ⟨lines_one.2 ⟨by decide +kernel, by decide +kernel⟩, by decide +kernel⟩
theorem line_kN : ¬ IsLine kN := fun h => by
  have := (lines_one.1 h.one).2
  revert this
  decide +kernel
theorem names_kP : namesL kP = [65537, 65537] := by decide +kernel
theorem needs_kP : needsL kP = [] := (needsL_uniq (l := []) List.Pairwise.nil fun x => by
  rw [names_kP]
  show x ∈ [] ↔ x ∈ [65537, 65537] ∧ x ≠ 65537
  simp).symm
theorem paths_kP : pathsL kP = [kA] := (pathsL_uniq (l := [kA]) (List.pairwise_singleton _ _) fun x => by
  show x ∈ [kA] ↔ x ∈ [kA] ∨ x ∈ ([] : List ByteArray) ∨ x ∈ [kA]
  simp).symm
theorem lines_kP : linesN kP = 2 := by decide +kernel
theorem hk_kP : IsHk (kA, [kX, kY], kE, []) 65537 0 where
  path := path_kA
  nAdds := by decide +kernel
  nEdges := by decide +kernel
  nKills := by decide +kernel
  adds := fun s hs => by
    have hs2 : s ∈ [kX, kY] := hs
    simp only [List.mem_cons, List.not_mem_nil, or_false] at hs2
    clear hs
    rcases hs2 with rfl | rfl
    · exact line_kX
    · exact line_kY
  edges := fun e he => by
    obtain rfl : e = ((65537, 0), (65537, 1)) := List.mem_singleton.1 he
    exact ⟨⟨by decide, by decide, fun _ => by decide +kernel⟩, ⟨by decide, by decide, fun _ => by decide +kernel⟩, by decide⟩
  eris := List.pairwise_singleton _ _
  kills := fun x hx => by cases hx
  kris := List.Pairwise.nil
theorem is_kP : IsPt kP where
  id := by decide
  deps := fun d hd => by cases hd
  dris := List.Pairwise.nil
  own := fun h => by cases h
  nDeps := by decide +kernel
  makes := fun s hs => by
    obtain rfl : s = kA := List.mem_singleton.1 hs
    exact path_kA
  mris := List.pairwise_singleton _ _
  nMakes := by decide +kernel
  drops := fun s hs => by cases hs
  xris := List.Pairwise.nil
  nDrops := by decide +kernel
  apart := fun s _ h => by cases h
  nHunks := by decide +kernel
  hris := List.pairwise_singleton _ _
  hunks := fun i hi => by
    obtain rfl : i = 0 := by
      have : (pHunks kP).length = 1 := rfl
      omega
    exact hk_kP
  needs := fun d hd => by
    rw [needs_kP] at hd
    cases hd
theorem not_kQ : ¬ IsPt kQ := spoil_adds (p := kQ) (i := 0) (by decide +kernel) (s := kN) (List.mem_cons_self (a := kN) (l := [kY])) line_kN
theorem not_kZ : ¬ IsPt kZ := spoil_id rfl
theorem ne_kPQ : ¬ kP = kQ := fun h => by
  have h1 : kX = kN := by
    have h2 : hAdds ((pHunks kP).headD hk0) = hAdds ((pHunks kQ).headD hk0) := by rw [h]
    exact (List.cons.inj h2).1
  exact absurd h1 (by decide +kernel)

end Go.Proofs.YtcfhnfnhdhloiaaGreat
/-! The law folder's own patch in memory. -/
namespace Go.Proofs.YtcfhnfnhdhloiaaGreat
open Go.RowKit

/-- One hunk of two lines, one edge: m is made, a and b are added. -/
def kR (m a b : ByteArray) : Pt := (65537, [], [m], [], [(kA, [a, b], kE, [])])
theorem kR_P : kR kA kX kY = kP := rfl
theorem not_kR (m b : ByteArray) : ¬ IsPt (kR m kN b) := spoil_adds (p := kR m kN b) (i := 0) (Nat.one_pos) (s := kN) (List.mem_cons_self (a := kN) (l := [b])) line_kN
theorem ne_kR (m b : ByteArray) : ¬ kP = kR m kN b := fun h => by
  have h1 : kX = kN := by
    have h2 : hAdds ((pHunks kP).headD hk0) = hAdds ((pHunks (kR m kN b)).headD hk0) := by rw [h]
    exact (List.cons.inj h2).1
  exact absurd h1 (by decide +kernel)
theorem few_kR {m a b : ByteArray} (hm : m.size ≤ 40) (ha : a.size ≤ 100) (hb : b.size ≤ 100) : PFew (kR m a b) where
  hunks := by show 1 ≤ 8; omega
  deps := Nat.zero_le _
  makes := by show 1 ≤ 10; omega
  drops := Nat.zero_le _
  ms := fun s hs => by
    obtain rfl : s = m := List.mem_singleton.1 hs
    exact hm
  xs := fun s hs => by cases hs
  hs := fun h hh => by
    obtain rfl : h = (kA, [a, b], kE, []) := List.mem_singleton.1 hh
    refine ⟨by show 2 ≤ 50; omega, by show 1 ≤ 90; omega, Nat.zero_le _, by show kA.size ≤ 40; decide +kernel, fun s hs => ?_⟩
    have hs2 : s ∈ [a, b] := hs
    simp only [List.mem_cons, List.not_mem_nil, or_false] at hs2
    rcases hs2 with rfl | rfl
    · exact ha
    · exact hb
theorem big_kR {m a b : ByteArray} (hm : m.size ≤ 40) (ha : a.size ≤ 100) (hb : b.size ≤ 100) : PBig (kR m a b) := (few_kR hm ha hb).big
structure KAt (w : World) (lo hi : Nat) (g0 g1 g2 g3 : Nat) (c1 c2 : Nat) (pk : Option Addr) (ck : Nat) (m a b : ByteArray) : Prop where
  s0 : w.cell? ⟨g0, 0, none⟩ = some (.string m)
  a0 : w.cell? ⟨g1, 0, none⟩ = some (.string a)
  a1 : w.cell? ⟨g1, 1, none⟩ = some (.string b)
  e0 : w.cell? ⟨g2, 0, none⟩ = some (.int .u32 65537)
  e1 : w.cell? ⟨g2, 1, none⟩ = some (.int .i64 0)
  e2 : w.cell? ⟨g2, 2, none⟩ = some (.int .u32 65537)
  e3 : w.cell? ⟨g2, 3, none⟩ = some (.int .i64 1)
  k0 : w.cell? ⟨g3, 0, none⟩ = some (.string kA)
  k1 : w.cell? ⟨g3, 1, none⟩ = some (.slice (some ⟨g1, 0, none⟩) 2 c1)
  k2 : w.cell? ⟨g3, 2, none⟩ = some (.slice (some ⟨g2, 0, none⟩) 1 c2)
  k3 : w.cell? ⟨g3, 3, none⟩ = some (.slice pk 0 ck)
  b0 : lo ≤ g0 ∧ g0 < hi
  b1 : lo ≤ g1 ∧ g1 < hi
  b2 : lo ≤ g2 ∧ g2 < hi
  b3 : lo ≤ g3 ∧ g3 < hi
  top : hi ≤ w.heap.size
  l1 : 2 ≤ c1
  l2 : 1 ≤ c2
  zk : pk = none → ck = 0
theorem KAt.pt {w : World} {lo hi g0 g1 g2 g3 c1 c2 ck : Nat} {pk : Option Addr} {m a b : ByteArray} (h : KAt w lo hi g0 g1 g2 g3 c1 c2 pk ck m a b) {pd px : Option Addr} {cd cm cx ch : Nat} (zd : pd = none → cd = 0) (zx : px = none → cx = 0) (hm : 1 ≤ cm) (hh : 1 ≤ ch) :
    PtAt w lo hi 65537 pd 0 cd (some ⟨g0, 0, none⟩) 1 cm px 0 cx (some ⟨g3, 0, none⟩) 1 ch (kR m a b) where
  num := rfl
  deps := ⟨rfl, fun h => absurd h (Nat.lt_irrefl 0)⟩
  makes := ⟨rfl, fun _ => ⟨g0, 0, rfl, h.b0.1, h.b0.2, h.top, fun k hk => by
    obtain rfl : k = 0 := by omega
    exact h.s0⟩⟩
  drops := ⟨rfl, fun h => absurd h (Nat.lt_irrefl 0)⟩
  hunks := ⟨rfl, fun _ => ⟨g3, 0, rfl, h.b3.1, h.b3.2, h.top, fun i hi => by
    obtain rfl : i = 0 := by omega
    refine ⟨some ⟨g1, 0, none⟩, 2, c1, some ⟨g2, 0, none⟩, 1, c2, pk, 0, ck, h.k0, h.k1, h.k2, h.k3, ?_⟩
    exact {
      adds := ⟨rfl, fun _ => ⟨g1, 0, rfl, h.b1.1, h.b1.2, h.top, fun k hk => by
        rcases (by omega : k = 0 ∨ k = 1) with rfl | rfl
        · exact h.a0
        · exact h.a1⟩⟩
      edges := ⟨rfl, fun _ => ⟨g2, 0, rfl, h.b2.1, h.b2.2, h.top, fun k hk => by
        obtain rfl : k = 0 := by omega
        exact ⟨h.e0, h.e1, h.e2, h.e3⟩⟩⟩
      kills := ⟨rfl, fun h => absurd h (Nat.lt_irrefl 0)⟩
      la := h.l1
      le := h.l2
      lk := Nat.zero_le _
      za := fun e => by cases e
      ze := fun e => by cases e
      zk := h.zk }⟩⟩
  ld := Nat.zero_le _
  lm := hm
  lx := Nat.zero_le _
  lh := hh
  zd := zd
  zm := fun e => by cases e
  zx := zx
  zh := fun e => by cases e

/-- The five blocks that the text lays. -/
def kW (w : World) (t1 t2 t3 t4 : TypeId) : World :=
  ((((w.alloc (.cells #[.string kA] t1)).alloc (.cells #[.string kX, .string kY] t1)).alloc (.cells #[.int .u32 65537, .int .i64 0, .int .u32 65537, .int .i64 1] t2)).alloc
    (.cells #[.string kA, .slice (some ⟨w.heap.size + 1, 0, none⟩) 2 2, .slice (some ⟨w.heap.size + 1 + 1, 0, none⟩) 1 1, .slice none 0 0] t3)).alloc
    (.cells #[.int .u32 65537, .slice none 0 0, .slice (some ⟨w.heap.size, 0, none⟩) 1 1, .slice none 0 0, .slice (some ⟨w.heap.size + 1 + 1 + 1, 0, none⟩) 1 1] t4)
theorem size_alloc (w : World) (o : Obj) : (w.alloc o).heap.size = w.heap.size + 1 := by simp
theorem kW_facts (w : World) (t1 t2 t3 t4 : TypeId) :
    w.grownBy (kW w t1 t2 t3 t4) none ∧ KAt (kW w t1 t2 t3 t4) w.heap.size (w.heap.size + 5) w.heap.size (w.heap.size + 1) (w.heap.size + 1 + 1) (w.heap.size + 1 + 1 + 1) 2 1 none 0 kA kX kY ∧
    BoxV (kW w t1 t2 t3 t4) (w.heap.size + 1 + 1 + 1 + 1) [.int .u32 65537, .slice none 0 0, .slice (some ⟨w.heap.size, 0, none⟩) 1 1, .slice none 0 0, .slice (some ⟨w.heap.size + 1 + 1 + 1, 0, none⟩) 1 1] t4 ∧ (kW w t1 t2 t3 t4).heap.size = w.heap.size + 5 := by
  have H1 := BoxV.new w [.string kA] t1
  have G1 := World.grownBy_alloc w (.cells #[.string kA] t1) none
  unfold kW
  obtain ⟨w1, hw1⟩ : ∃ w1, w.alloc (.cells #[.string kA] t1) = w1 := ⟨_, rfl⟩
  have s1 : w1.heap.size = w.heap.size + 1 := by rw [← hw1, size_alloc]
  have H1' : BoxV w1 w.heap.size [.string kA] t1 := hw1 ▸ H1
  rw [hw1] at G1 ⊢
  have H2 := BoxV.new w1 [.string kX, .string kY] t1
  have G2 := World.grownBy_alloc w1 (.cells #[.string kX, .string kY] t1) none
  obtain ⟨w2, hw2⟩ : ∃ w2, w1.alloc (.cells #[.string kX, .string kY] t1) = w2 := ⟨_, rfl⟩
  have s2 : w2.heap.size = w.heap.size + 1 + 1 := by rw [← hw2, size_alloc, s1]
  have H2' : BoxV w2 (w.heap.size + 1) [.string kX, .string kY] t1 := by rw [← s1]; exact hw2 ▸ H2
  rw [hw2] at G2 ⊢
  have H3 := BoxV.new w2 [.int .u32 65537, .int .i64 0, .int .u32 65537, .int .i64 1] t2
  have G3 := World.grownBy_alloc w2 (.cells #[.int .u32 65537, .int .i64 0, .int .u32 65537, .int .i64 1] t2) none
  obtain ⟨w3, hw3⟩ : ∃ w3, w2.alloc (.cells #[.int .u32 65537, .int .i64 0, .int .u32 65537, .int .i64 1] t2) = w3 := ⟨_, rfl⟩
  have s3 : w3.heap.size = w.heap.size + 1 + 1 + 1 := by rw [← hw3, size_alloc, s2]
  have H3' : BoxV w3 (w.heap.size + 1 + 1) [.int .u32 65537, .int .i64 0, .int .u32 65537, .int .i64 1] t2 := by rw [← s2]; exact hw3 ▸ H3
  rw [hw3] at G3 ⊢
  have H4 := BoxV.new w3 [.string kA, .slice (some ⟨w.heap.size + 1, 0, none⟩) 2 2, .slice (some ⟨w.heap.size + 1 + 1, 0, none⟩) 1 1, .slice none 0 0] t3
  have G4 := World.grownBy_alloc w3 (.cells #[.string kA, .slice (some ⟨w.heap.size + 1, 0, none⟩) 2 2, .slice (some ⟨w.heap.size + 1 + 1, 0, none⟩) 1 1, .slice none 0 0] t3) none
  obtain ⟨w4, hw4⟩ : ∃ w4, w3.alloc (.cells #[.string kA, .slice (some ⟨w.heap.size + 1, 0, none⟩) 2 2, .slice (some ⟨w.heap.size + 1 + 1, 0, none⟩) 1 1, .slice none 0 0] t3) = w4 := ⟨_, rfl⟩
  have s4 : w4.heap.size = w.heap.size + 1 + 1 + 1 + 1 := by rw [← hw4, size_alloc, s3]
  have H4' : BoxV w4 (w.heap.size + 1 + 1 + 1) [.string kA, .slice (some ⟨w.heap.size + 1, 0, none⟩) 2 2, .slice (some ⟨w.heap.size + 1 + 1, 0, none⟩) 1 1, .slice none 0 0] t3 := by rw [← s3]; exact hw4 ▸ H4
  rw [hw4] at G4 ⊢
  have H5 := BoxV.new w4 [.int .u32 65537, .slice none 0 0, .slice (some ⟨w.heap.size, 0, none⟩) 1 1, .slice none 0 0, .slice (some ⟨w.heap.size + 1 + 1 + 1, 0, none⟩) 1 1] t4
  have G5 := World.grownBy_alloc w4 (.cells #[.int .u32 65537, .slice none 0 0, .slice (some ⟨w.heap.size, 0, none⟩) 1 1, .slice none 0 0, .slice (some ⟨w.heap.size + 1 + 1 + 1, 0, none⟩) 1 1] t4) none
  obtain ⟨w5, hw5⟩ : ∃ w5, w4.alloc (.cells #[.int .u32 65537, .slice none 0 0, .slice (some ⟨w.heap.size, 0, none⟩) 1 1, .slice none 0 0, .slice (some ⟨w.heap.size + 1 + 1 + 1, 0, none⟩) 1 1] t4) = w5 := ⟨_, rfl⟩
  have s5 : w5.heap.size = w.heap.size + 5 := by rw [← hw5, size_alloc, s4]
  have H5' : BoxV w5 (w.heap.size + 1 + 1 + 1 + 1) [.int .u32 65537, .slice none 0 0, .slice (some ⟨w.heap.size, 0, none⟩) 1 1, .slice none 0 0, .slice (some ⟨w.heap.size + 1 + 1 + 1, 0, none⟩) 1 1] t4 := by rw [← s4]; exact hw5 ▸ H5
  rw [hw5] at G5 ⊢
  have B4 := H4'.calm G5
  have B3 := H3'.calm (grownBy_trans G4 G5)
  have B2 := H2'.calm (grownBy_trans G3 (grownBy_trans G4 G5))
  have B1 := H1'.calm (grownBy_trans G2 (grownBy_trans G3 (grownBy_trans G4 G5)))
  refine ⟨grownBy_trans G1 (grownBy_trans G2 (grownBy_trans G3 (grownBy_trans G4 G5))), ?_, H5', s5⟩
  exact ⟨B1.cell rfl, B2.cell rfl, B2.cell rfl, B3.cell rfl, B3.cell rfl, B3.cell rfl, B3.cell rfl, B4.cell rfl, B4.cell rfl, B4.cell rfl, B4.cell rfl, by omega, by omega, by omega, by omega, by omega, by omega, by omega, fun _ => rfl⟩

end Go.Proofs.YtcfhnfnhdhloiaaGreat
