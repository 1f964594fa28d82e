/- Package state: the law folder's own patches, and what they make. -/
import Derived.Test.YtnknejokneddbaaGreatDoorStaI
import Derived.Test.YtnknejokneddbaaGreatDoorStaE
import Derived.Test.YtnknejokneddbaaGreatDoorKnwA
import Derived.Test.YtnknejokneddbaaGreatDoorStaF
namespace Go.Proofs.YtnknejokneddbaaGreatDoor
set_option maxRecDepth 20000
set_option maxHeartbeats 16000000
def k1P : Pt := (1, [], [kA], [], [(kA, [kX, kY], [((1, 0), (1, 1))], [])])
def k2P : Pt := (2, [1], [], [], [(kA, [], [], [(1, 0)])])
def k12 : List Pt := [k2P, k1P]
def kF : Fl := (kA, [((1, 0), kX, true), ((1, 1), kY, false)], [(0, 1)])
theorem hk_k1 : IsHk (kA, [kX, kY], [((1, 0), (1, 1))], []) 1 0 where
 path := path_kA
 nAdds := by decide +kernel
 nEdges := by decide +kernel
 nKills := by decide +kernel
 adds := fun s hs => by
  have hs2 : s ∈ [kX, kY] := hs
  simp only [List.mem_cons, List.not_mem_nil, or_false] at hs2
  clear hs
  rcases hs2 with rfl | rfl
  ·exact line_kX
  ·exact line_kY
 edges := fun e he => by
  obtain rfl : e = ((1, 0), (1, 1)) := Yu.1 he
  exact ⟨⟨by decide, by decide, fun _ => by decide +kernel⟩, ⟨by decide, by decide, fun _ => by decide +kernel⟩, by decide⟩
 eris := Vg _ _
 kills := fun x hx => by cases hx
 kris := Vb
theorem hk_k2 : IsHk (kA, [], [], [(1, 0)]) 2 0 where
 path := path_kA
 nAdds := by decide +kernel
 nEdges := by decide +kernel
 nKills := by decide +kernel
 adds := fun s hs => by cases hs
 edges := fun e he => by cases he
 eris := Vb
 kills := fun x hx => by
  obtain rfl : x = (1, 0) := Yu.1 hx
  exact ⟨by decide, by decide, by decide⟩
 kris := Vg _ _
theorem needs_k1 : needsL k1P = [] := by decide +kernel
theorem needs_k2 : needsL k2P = [1] := by decide +kernel
theorem is_k1 : IsPt k1P where
 id := by decide
 deps := fun d hd => by cases hd
 dris := Vb
 own := fun h => by cases h
 nDeps := by decide +kernel
 makes := fun s hs => by
  obtain rfl : s = kA := Yu.1 hs
  exact path_kA
 mris := Vg _ _
 nMakes := by decide +kernel
 drops := fun s hs => by cases hs
 xris := Vb
 nDrops := by decide +kernel
 apart := fun s _ h => by cases h
 nHunks := by decide +kernel
 hris := Vg _ _
 hunks := fun i hi => by
  obtain rfl : i = 0 := by
   have : (pHunks k1P).length = 1 := rfl
   omega
  exact hk_k1
 needs := fun d hd => by
  rw [needs_k1] at hd
  cases hd
theorem is_k2 : IsPt k2P where
 id := by decide
 deps := fun d hd => by
  obtain rfl : d = 1 := Yu.1 hd
  decide
 dris := Vg _ _
 own := fun h => by
  have h2 : (2 : Nat) ∈ [1] := h
  revert h2
  decide
 nDeps := by decide +kernel
 makes := fun s hs => by cases hs
 mris := Vb
 nMakes := by decide +kernel
 drops := fun s hs => by cases hs
 xris := Vb
 nDrops := by decide +kernel
 apart := fun s h _ => by cases h
 nHunks := by decide +kernel
 hris := Vg _ _
 hunks := fun i hi => by
  obtain rfl : i = 0 := by
   have : (pHunks k2P).length = 1 := rfl
   omega
  exact hk_k2
 needs := fun d hd => by
  rw [needs_k2] at hd
  exact hd
theorem all_12 : IsAll k12 := ⟨fun x hx => by
 have hx2 : x ∈ [k2P, k1P] := hx
 simp only [List.mem_cons, List.not_mem_nil, or_false] at hx2
 rcases hx2 with rfl | rfl
 ·exact is_k2
 ·exact is_k1, by decide⟩
theorem all_2 : IsAll [k2P] := ⟨fun x hx => by
 obtain rfl := Yu.1 hx
 exact is_k2, by decide⟩
theorem closed_12 : ClosedL k12 := fun x hx d hd => by
 have hx2 : x ∈ [k2P, k1P] := hx
 simp only [List.mem_cons, List.not_mem_nil, or_false] at hx2
 rcases hx2 with rfl | rfl
 ·obtain rfl : d = 1 := Yu.1 hd
  exact ⟨k1P, by simp [k12], rfl⟩
 ·cases hd
theorem closed_1 : ClosedL [k1P] := fun x hx d hd => by
 obtain rfl := Yu.1 hx
 cases hd
theorem nclosed_2 : ¬ ClosedL [k2P] := fun h => by
 obtain ⟨y, hy, e⟩ := h k2P (Yu.2 rfl) 1 (Yu.2 rfl)
 obtain rfl := Yu.1 hy
 revert e
 decide
theorem track_12 : trackL k12 = [kA] := by decide +kernel
theorem cnt_12 : cntS k12 = 2 := by decide +kernel
theorem err_12 : errL k12 = 0 := errL_ok all_12 closed_12 (by rw [track_12, cnt_12]; decide)
theorem err_2 : errL [k2P] = 17 := errL_deps all_2 nclosed_2
theorem files_2 : filesL [k2P] = [] := filesL_err (by rw [err_2]; decide)
theorem file_12 : fileL k12 kA = kF := by decide +kernel
theorem files_12 : filesL k12 = [kF] := by rw [filesL_ok err_12, track_12]; show [fileL k12 kA] = [kF]; rw [file_12]
theorem alive_kF : aliveL (fLines kF) = [1] := by decide +kernel
theorem find_kF : findL [kF] ⟨#[98]⟩ = none := by decide +kernel
theorem leg_kF : legK (fLines kF) (fLines kF) 2 = [0, 1] := by decide +kernel
theorem cnt_kF : cntL [kF] = 2 := by decide +kernel
theorem few_k1 : PFew k1P where
 hunks := by decide +kernel
 deps := by decide +kernel
 makes := by decide +kernel
 drops := by decide +kernel
 ms := by decide +kernel
 xs := by decide +kernel
 hs := by decide +kernel
theorem few_k2 : PFew k2P where
 hunks := by decide +kernel
 deps := by decide +kernel
 makes := by decide +kernel
 drops := by decide +kernel
 ms := by decide +kernel
 xs := by decide +kernel
 hs := by decide +kernel
theorem num_k1 : pID k1P < 4294967296 /\ ∀ h ∈ pHunks k1P, NumH h := ⟨by decide, fun h hh => by
 obtain rfl : h = (kA, [kX, kY], [((1, 0), (1, 1))], []) := Yu.1 hh
 exact ⟨by decide +kernel, by decide +kernel⟩⟩
theorem num_k2 : pID k2P < 4294967296 /\ ∀ h ∈ pHunks k2P, NumH h := ⟨by decide, fun h hh => by
 obtain rfl : h = (kA, [], [], [(1, 0)]) := Yu.1 hh
 exact ⟨by decide +kernel, by decide +kernel⟩⟩
theorem few_12 : ∀ x ∈ k12, PFew x := fun x hx => by
 have hx2 : x ∈ [k2P, k1P] := hx
 simp only [List.mem_cons, List.not_mem_nil, or_false] at hx2
 rcases hx2 with rfl | rfl
 ·exact few_k2
 ·exact few_k1
theorem num_12 : ∀ x ∈ k12, pID x < 4294967296 /\ ∀ h ∈ pHunks x, NumH h := fun x hx => by
 have hx2 : x ∈ [k2P, k1P] := hx
 simp only [List.mem_cons, List.not_mem_nil, or_false] at hx2
 rcases hx2 with rfl | rfl
 ·exact num_k2
 ·exact num_k1
theorem ok_kF : ∀ x ∈ fLines kF, OkK (nID x) := fun x hx => by
 have hx2 : x ∈ [(((1, 0), kX, true) : Lne), ((1, 1), kY, false)] := hx
 simp only [List.mem_cons, List.not_mem_nil, or_false] at hx2
 rcases hx2 with rfl | rfl
 ·exact ⟨by decide, by decide, by decide⟩
 ·exact ⟨by decide, by decide, by decide⟩
open Go.RowKit
theorem pairs_wide13 {w : World} {lo hi n : Nat} {p : Option Addr} {l : List (Int × Int)} (h : PairsAt w lo hi p n l) : PairsAt w 0 w.heap.size p n l := ⟨h.len, fun hn => by
 obtain ⟨b, off, e, h1, h2, h3, hc⟩ := h.cell hn
 exact ⟨b, off, e, Ze _, by omega, Zc _, hc⟩⟩
def layB (w : World) : List (List Value × TypeId) -> World
 | [] => w
 | o :: os => layB (w.alloc (.cells o.1.toArray o.2)) os
theorem layB_gr : ∀ (os : List (List Value × TypeId)) (w : World), w.grownBy (layB w os) none /\ (layB w os).heap.size = w.heap.size + os.length
 | [], w => ⟨Zi _ _, rfl⟩
 | o :: os, w => by
  obtain ⟨h1, h2⟩ := layB_gr os (w.alloc (.cells o.1.toArray o.2))
  refine ⟨Zb (Zd w _ none) h1, ?_⟩
  show (layB (w.alloc (.cells o.1.toArray o.2)) os).heap.size = _
  rw [h2, Yw, Zt]
  omega
theorem layB_at : ∀ (os : List (List Value × TypeId)) (w : World) (i : Nat) (o : List Value × TypeId), os[i]? = some o -> BoxV (layB w os) (w.heap.size + i) o.1 o.2
 | [], _, _, _, h => by simp at h
 | x :: os, w, 0, o, h => by
  obtain rfl : x = o := by simpa using h
  exact (BoxV.new w x.1 x.2).calm (layB_gr os _).1
 | x :: os, w, i + 1, o, h => by
  have := layB_at os (w.alloc (.cells x.1.toArray x.2)) i o (by simpa using h)
  rw [Yw] at this
  rw [show w.heap.size + (i + 1) = w.heap.size + 1 + i by omega]
  exact this
def kOs (g : Nat) : List (List Value × TypeId) := [([.string kA], 9), ([.string kX, .string kY], 9), ([.int .u32 1, .int .i64 0, .int .u32 1, .int .i64 1], 70), ([.string kA, .slice (some ⟨g + 1, 0, none⟩) 2 2, .slice (some ⟨g + 1 + 1, 0, none⟩) 1 1, .slice none 0 0], 68), ([.int .u32 1, .slice none 0 0, .slice (some ⟨g, 0, none⟩) 1 1, .slice none 0 0, .slice (some ⟨g + 1 + 1 + 1, 0, none⟩) 1 1], 56), ([.int .u32 1], 52), ([.int .u32 1, .int .i64 0], 60), ([.string kA, .slice none 0 0, .slice none 0 0, .slice (some ⟨g + 1 + 1 + 1 + 1 + 1 + 1, 0, none⟩) 1 1], 68), ([.int .u32 2, .slice (some ⟨g + 1 + 1 + 1 + 1 + 1, 0, none⟩) 1 1, .slice none 0 0, .slice none 0 0, .slice (some ⟨g + 1 + 1 + 1 + 1 + 1 + 1 + 1, 0, none⟩) 1 1], 56)]
structure K13 (W : World) (g : Nat) : Prop where
 B0 : BoxV W (g) [.string kA] 9
 B1 : BoxV W (g + 1) [.string kX, .string kY] 9
 B2 : BoxV W (g + 1 + 1) [.int .u32 1, .int .i64 0, .int .u32 1, .int .i64 1] 70
 B3 : BoxV W (g + 1 + 1 + 1) [.string kA, .slice (some ⟨g + 1, 0, none⟩) 2 2, .slice (some ⟨g + 1 + 1, 0, none⟩) 1 1, .slice none 0 0] 68
 B5 : BoxV W (g + 1 + 1 + 1 + 1 + 1) [.int .u32 1] 52
 B6 : BoxV W (g + 1 + 1 + 1 + 1 + 1 + 1) [.int .u32 1, .int .i64 0] 60
 B7 : BoxV W (g + 1 + 1 + 1 + 1 + 1 + 1 + 1) [.string kA, .slice none 0 0, .slice none 0 0, .slice (some ⟨g + 1 + 1 + 1 + 1 + 1 + 1, 0, none⟩) 1 1] 68
 b1 : BoxV W (g + 1 + 1 + 1 + 1) [.int .u32 1, .slice none 0 0, .slice (some ⟨g, 0, none⟩) 1 1, .slice none 0 0, .slice (some ⟨g + 1 + 1 + 1, 0, none⟩) 1 1] 56
 b2 : BoxV W (g + 1 + 1 + 1 + 1 + 1 + 1 + 1 + 1) [.int .u32 2, .slice (some ⟨g + 1 + 1 + 1 + 1 + 1, 0, none⟩) 1 1, .slice none 0 0, .slice none 0 0, .slice (some ⟨g + 1 + 1 + 1 + 1 + 1 + 1 + 1, 0, none⟩) 1 1] 56
 top : g + 9 <= W.heap.size
theorem K13.calm {W X : World} {g : Nat} (h : K13 W g) (hg : W.grownBy X none) : K13 X g := ⟨h.B0.calm hg, h.B1.calm hg, h.B2.calm hg, h.B3.calm hg, h.B5.calm hg, h.B6.calm hg, h.B7.calm hg, h.b1.calm hg, h.b2.calm hg, Zn h.top hg.size⟩
theorem k13_of (w : World) (g : Nat) (hg : w.heap.size = g) : K13 (layB w (kOs g)) g := by
 have hs : (layB w (kOs g)).heap.size = g + 9 := by rw [(layB_gr _ w).2, hg]; rfl
 have hb : ∀ i o, (kOs g)[i]? = some o -> BoxV (layB w (kOs g)) (g + i) o.1 o.2 := fun i o h => by rw [<- hg]; exact layB_at _ w i o (by rw [hg]; exact h)
 exact ⟨hb 0 _ rfl, hb 1 _ rfl, hb 2 _ rfl, hb 3 _ rfl, hb 5 _ rfl, hb 6 _ rfl, hb 7 _ rfl, hb 4 _ rfl, hb 8 _ rfl, by omega⟩
theorem K13.p1 {W : World} {g H : Nat} (h : K13 W g) (h1 : g + 9 <= H) (h2 : H <= W.heap.size) : PtAt W 0 H 1 none 0 0 (some ⟨g, 0, none⟩) 1 1 none 0 0 (some ⟨g + 1 + 1 + 1, 0, none⟩) 1 1 k1P := by
 exact {
  num := rfl
  deps := ⟨rfl, fun e => absurd e (Xv 0)⟩
  makes := ⟨rfl, fun _ => ⟨g, 0, rfl, by omega, by omega, by omega, fun k hk => by
   obtain rfl : k = 0 := by omega
   exact h.B0.cell (k := 0) rfl⟩⟩
  drops := ⟨rfl, fun e => absurd e (Xv 0)⟩
  hunks := ⟨rfl, fun _ => ⟨g + 1 + 1 + 1, 0, rfl, by omega, by omega, by omega, fun i hi => by
   obtain rfl : i = 0 := by omega
   refine ⟨some ⟨g + 1, 0, none⟩, 2, 2, some ⟨g + 1 + 1, 0, none⟩, 1, 1, none, 0, 0, h.B3.cell (k := 0) rfl, h.B3.cell (k := 1) rfl, h.B3.cell (k := 2) rfl, h.B3.cell (k := 3) rfl, ?_⟩
   exact {
    adds := ⟨rfl, fun _ => ⟨g + 1, 0, rfl, by omega, by omega, by omega, fun k hk => by
     rcases (by omega : k = 0 ∨ k = 1) with rfl | rfl
     ·exact h.B1.cell (k := 0) rfl
     ·exact h.B1.cell (k := 1) rfl⟩⟩
    edges := ⟨rfl, fun _ => ⟨g + 1 + 1, 0, rfl, by omega, by omega, by omega, fun k hk => by
     obtain rfl : k = 0 := by omega
     exact ⟨h.B2.cell (k := 0) rfl, h.B2.cell (k := 1) rfl, h.B2.cell (k := 2) rfl, h.B2.cell (k := 3) rfl⟩⟩⟩
    kills := ⟨rfl, fun e => absurd e (Xv 0)⟩
    la := Zc _
    le := Zc _
    lk := Ze _
    za := fun e => by cases e
    ze := fun e => by cases e
    zk := fun _ => rfl }⟩⟩
  ld := Ze _
  lm := Zc _
  lx := Ze _
  lh := Zc _
  zd := fun _ => rfl
  zm := fun e => by cases e
  zx := fun _ => rfl
  zh := fun e => by cases e }
theorem K13.p2 {W : World} {g H : Nat} (h : K13 W g) (h1 : g + 9 <= H) (h2 : H <= W.heap.size) : PtAt W 0 H 2 (some ⟨g + 1 + 1 + 1 + 1 + 1, 0, none⟩) 1 1 none 0 0 none 0 0 (some ⟨g + 1 + 1 + 1 + 1 + 1 + 1 + 1, 0, none⟩) 1 1 k2P := by
 exact {
  num := rfl
  deps := ⟨rfl, fun _ => ⟨g + 1 + 1 + 1 + 1 + 1, 0, rfl, by omega, by omega, by omega, fun k hk => by
   obtain rfl : k = 0 := by omega
   exact h.B5.cell (k := 0) rfl⟩⟩
  makes := ⟨rfl, fun e => absurd e (Xv 0)⟩
  drops := ⟨rfl, fun e => absurd e (Xv 0)⟩
  hunks := ⟨rfl, fun _ => ⟨g + 1 + 1 + 1 + 1 + 1 + 1 + 1, 0, rfl, by omega, by omega, by omega, fun i hi => by
   obtain rfl : i = 0 := by omega
   refine ⟨none, 0, 0, none, 0, 0, some ⟨g + 1 + 1 + 1 + 1 + 1 + 1, 0, none⟩, 1, 1, h.B7.cell (k := 0) rfl, h.B7.cell (k := 1) rfl, h.B7.cell (k := 2) rfl, h.B7.cell (k := 3) rfl, ?_⟩
   exact {
    adds := ⟨rfl, fun e => absurd e (Xv 0)⟩
    edges := ⟨rfl, fun e => absurd e (Xv 0)⟩
    kills := ⟨rfl, fun _ => ⟨g + 1 + 1 + 1 + 1 + 1 + 1, 0, rfl, by omega, by omega, by omega, fun k hk => by
     obtain rfl : k = 0 := by omega
     exact ⟨h.B6.cell (k := 0) rfl, h.B6.cell (k := 1) rfl⟩⟩⟩
    la := Ze _
    le := Ze _
    lk := Zc _
    za := fun _ => rfl
    ze := fun _ => rfl
    zk := fun e => by cases e }⟩⟩
  ld := Zc _
  lm := Ze _
  lx := Ze _
  lh := Zc _
  zd := fun e => by cases e
  zm := fun _ => rfl
  zx := fun _ => rfl
  zh := fun e => by cases e }
theorem K13.both {W : World} {g : Nat} (h : K13 W g) : PtsAt (W.alloc (.cells #[.int .u32 2, .slice (some ⟨g + 1 + 1 + 1 + 1 + 1, 0, none⟩) 1 1, .slice none 0 0, .slice none 0 0, .slice (some ⟨g + 1 + 1 + 1 + 1 + 1 + 1 + 1, 0, none⟩) 1 1, .int .u32 1, .slice none 0 0, .slice (some ⟨g, 0, none⟩) 1 1, .slice none 0 0, .slice (some ⟨g + 1 + 1 + 1, 0, none⟩) 1 1] 56)) 0 (W.heap.size + 1) (some ⟨W.heap.size, 0, none⟩) 2 k12 := by
 have hgr := Zd W (.cells #[.int .u32 2, .slice (some ⟨g + 1 + 1 + 1 + 1 + 1, 0, none⟩) 1 1, .slice none 0 0, .slice none 0 0, .slice (some ⟨g + 1 + 1 + 1 + 1 + 1 + 1 + 1, 0, none⟩) 1 1, .int .u32 1, .slice none 0 0, .slice (some ⟨g, 0, none⟩) 1 1, .slice none 0 0, .slice (some ⟨g + 1 + 1 + 1, 0, none⟩) 1 1] 56) none
 have B := BoxV.new W [.int .u32 2, .slice (some ⟨g + 1 + 1 + 1 + 1 + 1, 0, none⟩) 1 1, .slice none 0 0, .slice none 0 0, .slice (some ⟨g + 1 + 1 + 1 + 1 + 1 + 1 + 1, 0, none⟩) 1 1, .int .u32 1, .slice none 0 0, .slice (some ⟨g, 0, none⟩) 1 1, .slice none 0 0, .slice (some ⟨g + 1 + 1 + 1, 0, none⟩) 1 1] 56
 have htop := h.top
 refine ⟨rfl, fun _ => ⟨W.heap.size, 0, rfl, Ze _, by omega, by simp, fun i hi => ?_⟩⟩
 rcases (by omega : i = 0 ∨ i = 1) with rfl | rfl
 ·exact ⟨_, _, _, _, _, _, _, _, _, _, _, _, B.cell (k := 0) rfl, B.cell (k := 1) rfl, B.cell (k := 2) rfl, B.cell (k := 3) rfl, B.cell (k := 4) rfl, (h.calm hgr).p2 (by omega) (by simp)⟩
 ·exact ⟨_, _, _, _, _, _, _, _, _, _, _, _, B.cell (k := 5) rfl, B.cell (k := 6) rfl, B.cell (k := 7) rfl, B.cell (k := 8) rfl, B.cell (k := 9) rfl, (h.calm hgr).p1 (by omega) (by simp)⟩
theorem K13.second {W : World} {g : Nat} (h : K13 W g) : PtsAt (W.alloc (.cells #[.int .u32 2, .slice (some ⟨g + 1 + 1 + 1 + 1 + 1, 0, none⟩) 1 1, .slice none 0 0, .slice none 0 0, .slice (some ⟨g + 1 + 1 + 1 + 1 + 1 + 1 + 1, 0, none⟩) 1 1] 56)) 0 (W.heap.size + 1) (some ⟨W.heap.size, 0, none⟩) 1 [k2P] := by
 have hgr := Zd W (.cells #[.int .u32 2, .slice (some ⟨g + 1 + 1 + 1 + 1 + 1, 0, none⟩) 1 1, .slice none 0 0, .slice none 0 0, .slice (some ⟨g + 1 + 1 + 1 + 1 + 1 + 1 + 1, 0, none⟩) 1 1] 56) none
 have B := BoxV.new W [.int .u32 2, .slice (some ⟨g + 1 + 1 + 1 + 1 + 1, 0, none⟩) 1 1, .slice none 0 0, .slice none 0 0, .slice (some ⟨g + 1 + 1 + 1 + 1 + 1 + 1 + 1, 0, none⟩) 1 1] 56
 have htop := h.top
 refine ⟨rfl, fun _ => ⟨W.heap.size, 0, rfl, Ze _, by omega, by simp, fun i hi => ?_⟩⟩
 obtain rfl : i = 0 := by omega
 exact ⟨_, _, _, _, _, _, _, _, _, _, _, _, B.cell (k := 0) rfl, B.cell (k := 1) rfl, B.cell (k := 2) rfl, B.cell (k := 3) rfl, B.cell (k := 4) rfl, (h.calm hgr).p2 (by omega) (by simp)⟩
theorem K13.first {W : World} {g : Nat} (h : K13 W g) : PtsAt (W.alloc (.cells #[.int .u32 1, .slice none 0 0, .slice (some ⟨g, 0, none⟩) 1 1, .slice none 0 0, .slice (some ⟨g + 1 + 1 + 1, 0, none⟩) 1 1] 56)) 0 (W.heap.size + 1) (some ⟨W.heap.size, 0, none⟩) 1 [k1P] := by
 have hgr := Zd W (.cells #[.int .u32 1, .slice none 0 0, .slice (some ⟨g, 0, none⟩) 1 1, .slice none 0 0, .slice (some ⟨g + 1 + 1 + 1, 0, none⟩) 1 1] 56) none
 have B := BoxV.new W [.int .u32 1, .slice none 0 0, .slice (some ⟨g, 0, none⟩) 1 1, .slice none 0 0, .slice (some ⟨g + 1 + 1 + 1, 0, none⟩) 1 1] 56
 have htop := h.top
 refine ⟨rfl, fun _ => ⟨W.heap.size, 0, rfl, Ze _, by omega, by simp, fun i hi => ?_⟩⟩
 obtain rfl : i = 0 := by omega
 exact ⟨_, _, _, _, _, _, _, _, _, _, _, _, B.cell (k := 0) rfl, B.cell (k := 1) rfl, B.cell (k := 2) rfl, B.cell (k := 3) rfl, B.cell (k := 4) rfl, (h.calm hgr).p1 (by omega) (by simp)⟩
theorem known13_c (w : World) (ht : Tab w) : Calls Tryz.prog 9 #[] w fun e w' => e = .returned (.bool true) /\ w.grownBy w' none := by
 obtain ⟨g, hgs⟩ : ∃ g, w.heap.size = g := ⟨_, rfl⟩
 have HK := Za (k13_of w g hgs)
 have HG := Za (layB_gr (kOs g) w).1
 have HT := Za ht
 have HO12 : Hid (∀ X, K13 X g -> w.grownBy X none -> Calls Tryz.prog 11 #[.slice (some ⟨X.heap.size, 0, none⟩) 2 2] (X.alloc (.cells #[.int .u32 2, .slice (some ⟨g + 1 + 1 + 1 + 1 + 1, 0, none⟩) 1 1, .slice none 0 0, .slice none 0 0, .slice (some ⟨g + 1 + 1 + 1 + 1 + 1 + 1 + 1, 0, none⟩) 1 1, .int .u32 1, .slice none 0 0, .slice (some ⟨g, 0, none⟩) 1 1, .slice none 0 0, .slice (some ⟨g + 1 + 1 + 1, 0, none⟩) 1 1] 56)) fun e w' => ∃ pf cf, e = .returned (.tuple #[.slice pf 1 cf, .int .i64 0]) /\ FlsAt w' 0 w'.heap.size pf 1 [kF] /\ X.grownBy w' none) := Za fun X hK hX => by
  have hg1 := Zd X (.cells #[.int .u32 2, .slice (some ⟨g + 1 + 1 + 1 + 1 + 1, 0, none⟩) 1 1, .slice none 0 0, .slice none 0 0, .slice (some ⟨g + 1 + 1 + 1 + 1 + 1 + 1 + 1, 0, none⟩) 1 1, .int .u32 1, .slice none 0 0, .slice (some ⟨g, 0, none⟩) 1 1, .slice none 0 0, .slice (some ⟨g + 1 + 1 + 1, 0, none⟩) 1 1] 56) none
  refine (of_pts 0 (X.heap.size + 1) (some ⟨X.heap.size, 0, none⟩) 2 2 k12 _ ((ht.grown hX (by simp)).grown hg1 (by simp)) hK.both few_12 (by omega) (by simp) num_12).mono ?_
  rintro e w1 ⟨pf, cf, rfl, hfl, _, _, hg2⟩
  rw [files_12] at hfl
  refine ⟨pf, cf, by rw [err_12, files_12]; rfl, ?_, Zb hg1 hg2⟩
  exact ⟨hfl.len, fun h0 => by
   obtain ⟨b, off, e, h1, h2, h3, hc⟩ := hfl.cell h0
   refine ⟨b, off, e, Ze _, h2, h3, fun i hi => ?_⟩
   obtain ⟨pl, nl, cl, pp, np, cp, c0, c1, c2, hf⟩ := hc i hi
   exact ⟨pl, nl, cl, pp, np, cp, c0, c1, c2, ⟨lnes_span hf.lines (Ze _), pairs_wide13 hf.pairs, hf.ll, hf.lp, hf.zl, hf.zp⟩⟩⟩
 have HO2 : Hid (∀ X, K13 X g -> w.grownBy X none -> Calls Tryz.prog 11 #[.slice (some ⟨X.heap.size, 0, none⟩) 1 1] (X.alloc (.cells #[.int .u32 2, .slice (some ⟨g + 1 + 1 + 1 + 1 + 1, 0, none⟩) 1 1, .slice none 0 0, .slice none 0 0, .slice (some ⟨g + 1 + 1 + 1 + 1 + 1 + 1 + 1, 0, none⟩) 1 1] 56)) fun e w' => ∃ pf cf, e = .returned (.tuple #[.slice pf 0 cf, .int .i64 17]) /\ X.grownBy w' none) := Za fun X hK hX => by
  have hg1 := Zd X (.cells #[.int .u32 2, .slice (some ⟨g + 1 + 1 + 1 + 1 + 1, 0, none⟩) 1 1, .slice none 0 0, .slice none 0 0, .slice (some ⟨g + 1 + 1 + 1 + 1 + 1 + 1 + 1, 0, none⟩) 1 1] 56) none
  refine (of_pts 0 (X.heap.size + 1) (some ⟨X.heap.size, 0, none⟩) 1 1 [k2P] _ ((ht.grown hX (by simp)).grown hg1 (by simp)) hK.second (fun x hx => by obtain rfl := Yu.1 hx; exact few_k2) (by omega) (by simp) (fun x hx => by obtain rfl := Yu.1 hx; exact num_k2)).mono ?_
  rintro e w1 ⟨pf, cf, rfl, hfl, _, _, hg2⟩
  exact ⟨pf, cf, by rw [err_2, files_2]; rfl, Zb hg1 hg2⟩
 have HCLO : Hid (∀ X, K13 X g -> Calls Tryz.prog 14 #[.slice (some ⟨X.heap.size, 0, none⟩) 1 1] (X.alloc (.cells #[.int .u32 1, .slice none 0 0, .slice (some ⟨g, 0, none⟩) 1 1, .slice none 0 0, .slice (some ⟨g + 1 + 1 + 1, 0, none⟩) 1 1] 56)) fun e w' => e = .returned (.bool true) /\ X.grownBy w' none) := Za fun X hK => by
  have hg1 := Zd X (.cells #[.int .u32 1, .slice none 0 0, .slice (some ⟨g, 0, none⟩) 1 1, .slice none 0 0, .slice (some ⟨g + 1 + 1 + 1, 0, none⟩) 1 1] 56) none
  refine (closed_pts 0 (X.heap.size + 1) (some ⟨X.heap.size, 0, none⟩) 1 1 [k1P] true _ hK.first (fun x hx => by obtain rfl := Yu.1 hx; exact few_k1) (by omega) (by simp) ⟨fun _ => closed_1, fun _ => rfl⟩).mono ?_
  rintro e w1 ⟨rfl, hg2⟩
  exact ⟨rfl, Zb hg1 hg2⟩
 clear ht
 go_enter Tryz.func9, Tryz.ntmps9
 go_upto_region 3 with fail
 clear hgs
 change Code.wp _ _ _ _ (layB w (kOs g))
 generalize layB w (kOs g) = W at *
 have hb2 := (HK.out.b2).five
 obtain ⟨y0, y1, y2, y3, y4⟩ := hb2
 obtain ⟨x0, x1, x2, x3, x4⟩ := (HK.out.b1).five
 go_wp2_with fail
 refine (HO12.out _ HK.out HG.out).mono ?_
 rintro e w1 ⟨pf, cf, rfl, hfl, hg1⟩
 have HG1 := Za (Zb HG.out hg1)
 have HK1 := Za (HK.out.calm hg1)
 have HFL1 := Za hfl
 clear x0 x1 x2 x3 x4 y0 y1 y2 y3 y4 hg1 hfl HK HG HO12
 obtain ⟨y0, y1, y2, y3, y4⟩ := HK1.out.b2.five
 go_wp2_with fail
 refine (HO2.out _ HK1.out HG1.out).mono ?_
 rintro e w2 ⟨pn, cn, rfl, hg2⟩
 have HG2 := Za (Zb HG1.out hg2)
 have HK2 := Za (HK1.out.calm hg2)
 have HFL2 := Za (HFL1.out.calm hg2)
 clear y0 y1 y2 y3 y4 hg2 HO2 HK1 HG1 HFL1
 obtain ⟨bf, of, rfl, _, _, _, hc⟩ := HFL2.out.cell (by omega)
 obtain ⟨pl, nl, cl, pp, np, cp, c0, c1, c2, hf⟩ := hc 0 (by omega)
 have hnl : nl = 2 := by rw [<- hf.lines.len]; rfl
 have hnp : np = 1 := by rw [<- hf.pairs.len]; rfl
 subst hnl hnp
 have HF := Za hf
 clear hc hf
 go_upto_region 7 with fail
 simp only [Nat.zero_mul, Ve] at c0 c1 c2
 have HC0 := Za c0
 have HC1 := Za c1
 have HC2 := Za c2
 go_wp2_with fail
 refine (aliveS_c _ (fLines kF) pl 2 cl pp 1 cp 0 _ w2 HF.out.lines (by omega)).mono ?_
 rintro e w3 ⟨va, rfl, hva, hg3⟩
 rw [alive_kF] at hva
 obtain ⟨pz, cz, rfl⟩ := Xs hva
 obtain ⟨gz, rfl⟩ : ∃ gz, pz = some ⟨gz, 0, none⟩ := by
  rcases hva.2 with ⟨_, e2⟩ | ⟨g', cap, cur, e1, _⟩
  ·cases e2
  ·cases e1
   exact ⟨_, rfl⟩
 have hz0 : w3.cell? ⟨gz, 0, none⟩ = some (.int .i64 1) := by
  have := World.ownsRow.cells hva (g := gz) rfl 0 (.int .i64 1) rfl
  rw [add_off] at this
  simpa using this
 have HG3 := Za (Zb HG2.out hg3)
 have HK3 := Za (HK2.out.calm hg3)
 have HFL3 := Za (HFL2.out.calm hg3)
 have HF3 := Za (HF.out.calm hg3)
 have c03 := Zh hg3 HC0.out
 have c13 := Zh hg3 HC1.out
 have c23 := Zh hg3 HC2.out
 clear c0 c1 c2 hva hg3 HC0 HC1 HC2 HF HFL2 HK2 HG2
 go_wp2_with fail
 refine (findS_c _ 1 cf [kF] ⟨#[98]⟩ _ _ w3 HFL3.out (by omega) (by decide +kernel)).mono ?_
 rintro e w4 ⟨hg4, ql, ml, dl, qp, mp, dp, rfl, _⟩
 rw [find_kF]
 have HG4 := Za (Zb HG3.out hg4)
 have HK4 := Za (HK3.out.calm hg4)
 have HFL4 := Za (HFL3.out.calm hg4)
 have HF4 := Za (HF3.out.calm hg4)
 have c04 := Zh hg4 c03
 have c14 := Zh hg4 c13
 have c24 := Zh hg4 c23
 have hz4 := Zh hg4 hz0
 clear c03 c13 c23 hz0 hg4 HF3 HFL3 HK3 HG3
 go_upto_region 9 with fail
 have hga := Zd w4 (.cells #[.string (fPath ((none : Option Fl).getD fl0)), .slice ql ml dl, .slice qp mp dp] 35) none
 have HG5 := Za (Zb HG4.out hga)
 have HK5 := Za (HK4.out.calm hga)
 have HFL5 := Za (HFL4.out.calm hga)
 have HF5 := Za (HF4.out.calm hga)
 have c05 := Zh hga c04
 have c15 := Zh hga c14
 have c25 := Zh hga c24
 have hz5 := Zh hga hz4
 clear c04 c14 c24 hz4 hga HG4 HK4 HFL4 HF4
 try simp only [Option.getD_none] at *
 generalize w4.alloc _ = w5 at *
 generalize w4.heap.size = gq at *
 have HLG : Hid (∀ X, w5.grownBy X none -> Calls Tryz.prog 22 #[.agg #[.string (fPath kF), .slice pl 2 cl, .slice pp 1 cp], .agg #[.string (fPath kF), .slice pl 2 cl, .slice pp 1 cp]] X fun e w' => ∃ gl c, e = .returned (.tuple #[.slice (some ⟨gl, 0, none⟩) 2 c, .bool true]) /\ w'.cell? ⟨gl, 1, none⟩ = some (.int .i64 1) /\ X.grownBy w' none) := Za fun X hX => by
  refine (legS_c (fPath kF) (fLines kF) pl 2 cl pp 1 cp (fPath kF) (fLines kF) pl 2 cl pp 1 cp 0 _ 0 _ X (HF5.out.calm hX).lines (HF5.out.calm hX).lines (by omega) (by omega) ok_kF ok_kF).mono ?_
  rintro e w' ⟨hg, h | h⟩
  ·obtain ⟨v, rfl, _, hv⟩ := h
   rw [leg_kF] at hv
   rcases hv.2 with ⟨_, e2⟩ | ⟨g', cap, cur, e1, _⟩
   ·cases e2
   ·refine ⟨g', cap, by rw [e1], ?_, hg⟩
    have := World.ownsRow.cells hv (g := g') (by rw [e1]; rfl) 1 (.int .i64 1) rfl
    rw [add_off] at this
    simpa using this
  ·obtain ⟨_, j, hj, hlt⟩ := h
   exfalso
   revert hlt
   rcases (by omega : j = 0 ∨ j = 1) with rfl | rfl <;> decide +kernel
 have HS : Hid (∀ X, w5.grownBy X none -> X.cell? ⟨bf, of, none⟩ = some (.string (fPath kF)) /\ X.cell? ⟨bf, of + 1, none⟩ = some (.slice pl 2 cl) /\ X.cell? ⟨bf, of + 2, none⟩ = some (.slice pp 1 cp)) := Za fun X hX => ⟨Zh hX c05, Zh hX c15, Zh hX c25⟩
 have henv : w5.grownBy (World.drew w5) none := Zo w5 1 none
 go_region_held3 (fun X => X.cell? ⟨bf, of, none⟩ = some (.string (fPath kF)) /\ X.cell? ⟨bf, of + 1, none⟩ = some (.slice pl 2 cl) /\ X.cell? ⟨bf, of + 2, none⟩ = some (.slice pp 1 cp))
  (first | exact HS.out _ henv | go_keep)
  (first | (go_at_call 22; (with_reducible refine (HLG.out _ henv).mono ?_); rintro e w7 ⟨gl, cg, rfl, hl1, hg⟩; have henv := Zb henv hg))
 have HG7 := Za (Zb HG5.out henv)
 have HK7 := Za (HK5.out.calm henv)
 have HFL7 := Za (HFL5.out.calm henv)
 have HF7 := Za (HF5.out.calm henv)
 have c07 := Zh henv c05
 have c17 := Zh henv c15
 have c27 := Zh henv c25
 have hz7 := Zh henv hz5
 clear c05 c15 c25 hz5 HS HLG HK5 HFL5 HF5 HG5 henv
 obtain ⟨x0, x1, x2, x3, x4⟩ := HK7.out.b1.five
 obtain ⟨bl, ol, rfl, _, _, _, hln⟩ := HF7.out.lines.cell (by omega)
 obtain ⟨_, _, _, d3⟩ := hln 0 (by omega)
 replace d3 : w7.cell? ⟨bl, ol + 3, none⟩ = some (.bool true) := by
  have e : nDead ((fLines ([kF][0]?.getD fl0))[0]?.getD lne0) = true := rfl
  rw [e] at d3
  simp only [Nat.zero_mul, Ve] at d3
  exact d3
 clear hln
 go_upto_region 10 with fail
 have HS : Hid (∀ X, w7.grownBy X none -> X.cell? ⟨bf, of, none⟩ = some (.string (fPath kF)) /\ X.cell? ⟨bf, of + 1, none⟩ = some (.slice (some ⟨bl, ol, none⟩) 2 cl) /\ X.cell? ⟨bf, of + 2, none⟩ = some (.slice pp 1 cp) /\ X.cell? ⟨bl, ol + 3, none⟩ = some (.bool true) /\ X.cell? ⟨gz, 0, none⟩ = some (.int .i64 1) /\ X.cell? ⟨gl, 1, none⟩ = some (.int .i64 1) /\
  X.cell? ⟨g + 1 + 1 + 1 + 1, 0, none⟩ = some (.int .u32 1) /\ X.cell? ⟨g + 1 + 1 + 1 + 1, 1, none⟩ = some (.slice none 0 0) /\ X.cell? ⟨g + 1 + 1 + 1 + 1, 2, none⟩ = some (.slice (some ⟨g, 0, none⟩) 1 1) /\ X.cell? ⟨g + 1 + 1 + 1 + 1, 3, none⟩ = some (.slice none 0 0) /\ X.cell? ⟨g + 1 + 1 + 1 + 1, 4, none⟩ = some (.slice (some ⟨g + 1 + 1 + 1, 0, none⟩) 1 1)) :=
  Za fun X hX => ⟨Zh hX c07, Zh hX c17, Zh hX c27, Zh hX d3, Zh hX hz7, Zh hX hl1, Zh hX x0, Zh hX x1, Zh hX x2, Zh hX x3, Zh hX x4⟩
 have HCN : Hid (∀ X, w7.grownBy X none -> Calls Tryz.prog 20 #[.slice (some ⟨bf, of, none⟩) 1 cf] X fun e w' => e = .returned (.int .i64 2) /\ X.grownBy w' none) := Za fun X hX =>
  (countF_c _ 1 cf _ _ [kF] X (HFL7.out.calm hX) (by omega) (by decide +kernel)).mono fun e w' ⟨he, hg⟩ => ⟨by rw [he, cnt_kF]; rfl, hg⟩
 have HOB : Hid (∀ X, w7.grownBy X none -> Calls Tryz.prog 28 #[.agg #[.string (fPath kF), .slice (some ⟨bl, ol, none⟩) 2 cl, .slice pp 1 cp]] X fun e w' => ∃ q cq p c, e = .returned (.agg #[.slice q 2 cq, .slice p 1 c]) /\ X.grownBy w' none) := Za fun X hX =>
  (objS_c (fPath kF) (fLines kF) (fPairs kF) _ 2 cl pp 1 cp _ _ X (HF7.out.calm hX).lines (HF7.out.calm hX).pairs HF7.out.zp (by omega) (by omega)).mono fun e w' ⟨q, cq, p, c, he, _, _, hg⟩ => ⟨q, cq, p, c, he, hg⟩
 have HCL : Hid (∀ X, w7.grownBy X none -> Calls Tryz.prog 14 #[.slice (some ⟨X.heap.size, 0, none⟩) 1 1] (X.alloc (.cells #[.int .u32 1, .slice none 0 0, .slice (some ⟨g, 0, none⟩) 1 1, .slice none 0 0, .slice (some ⟨g + 1 + 1 + 1, 0, none⟩) 1 1] 56)) fun e w' => e = .returned (.bool true) /\ X.grownBy w' none) := Za fun X hX => HCLO.out X (HK7.out.calm hX)
 clear HCLO HFL7 HF7 HK7
 go_wp2_with fail
 refine (HCN.out _ (Zi _ _)).mono ?_
 rintro e w8 ⟨rfl, hg8⟩
 clear x0 x1 x2 x3 x4 c07 c17 c27 d3 hz7 hl1
 obtain ⟨c0, c1, c2, d3, hz, hl, x0, x1, x2, x3, x4⟩ := HS.out _ hg8
 have HG8 := Za hg8
 clear hg8
 go_wp2_with fail
 refine (HCL.out _ HG8.out).mono ?_
 rintro e w9 ⟨rfl, hg9⟩
 have HG9 := Za (Zb HG8.out hg9)
 clear x0 x1 x2 x3 x4 c0 c1 c2 d3 hz hl hg9
 obtain ⟨c0, c1, c2, d3, hz, hl, x0, x1, x2, x3, x4⟩ := HS.out _ HG9.out
 go_wp2_with fail
 refine (HOB.out _ HG9.out).mono ?_
 rintro e wx ⟨qo, co, po, do_, rfl, hg10⟩
 have HGX := Za (Zb HG7.out (Zb HG9.out hg10))
 clear x0 x1 x2 x3 x4 c0 c1 c2 d3 hz hl hg10
 have hfd : ∀ w : World, (Instr.field 50 (.agg #[.slice qo 2 co, .slice po 1 do_]) 0).run Tryz.prog w = .ok (.slice qo 2 co) w := fun _ => by kernel_rfl
 go_wp2
 go_ret
 exact ⟨rfl, HGX.out⟩
end Go.Proofs.YtnknejokneddbaaGreatDoor
