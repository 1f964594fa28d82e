/- Contracts and plain facts, put together: RefB. -/
import Derived.Test.YtnknejokneddbaaGreatDoorAl
import Derived.Laws.StructEq
import Derived.Deep.AppendLies
import Derived.Deep.RegionLaw
import Derived.StillTailTactics
import Derived.OrdersIn
import Derived.RegionIn
import Derived.Stop.RegionWithIn
import Derived.Laws.AppendOwnNone
import Derived.Deep.CutBlock
import Derived.Deep.RegionHeld3
import Derived.Test.YtnknejokneddbaaGreatDoorRela
import Derived.Test.YtnknejokneddbaaGreatDoorBits
import Derived.Test.YtnknejokneddbaaGreatDoorMats
import Derived.Test.YtnknejokneddbaaGreatDoorRelb
import Derived.Test.YtnknejokneddbaaGreatDoorObja
import Derived.Test.YtnknejokneddbaaGreatDoorRefPa
import Derived.Test.YtnknejokneddbaaGreatDoorStaM
import Derived.Test.YtnknejokneddbaaGreatDoorArra
import Derived.Test.YtnknejokneddbaaGreatDoorRefSe
import Derived.Test.YtnknejokneddbaaGreatDoorApps
import Derived.Test.YtnknejokneddbaaGreatDoorSplR
import Derived.Test.YtnknejokneddbaaGreatDoorRefSi
namespace Go.Proofs.YtnknejokneddbaaGreatDoor
set_option maxHeartbeats 16000000
set_option maxRecDepth 20000
open Go.RowKit
theorem IsRel.supp {w : World} {lo hi p n : Nat} {R : Nat -> Nat -> Bool} (h : IsRel w lo hi p n R) : Supp n R := h.2.1
open Go.RowKit Go.Shelf
attribute [local go_sem] Oper.semAt_some
theorem IsMat.supp {w : World} {lo hi p n : Nat} {R : Nat -> Nat -> Bool} (h : IsMat w lo hi p n R) : Supp n R := h.2.1
theorem Tryz.infoB4 : (Tryz.prog.info? 4).map (fun i => (i.zero, i.size, i.bytes)) = some (some (.bool false), 1, 1) := by kernel_rfl
theorem Tryz.infoB116 : (Tryz.prog.info? 116).map (fun i => (i.zero, i.size, i.bytes)) = some (some (.slice none 0 0), 1, 24) := by kernel_rfl
def MatPost (n : Nat) (T : Nat -> Nat -> Bool) (w : World) (e : Ending) (w' : World) : Prop :=
 ∃ p, e = .returned (.pointer (some ⟨p, 0, none⟩)) /\ IsMat w' w.heap.size w'.heap.size p n T /\ w.grownBy w' none
theorem heads_succ (n : Nat) (rb : Nat -> Nat) (k : Nat) : heads n rb (k + 1) = heads n rb k ++ [.slice (some ⟨rb k, 0, none⟩) n n] := by
 unfold heads; rw [List.range_succ, Xj]; rfl
theorem heads_congr {n : Nat} {rb rc : Nat -> Nat} {k : Nat} (h : ∀ a, a < k -> rb a = rc a) : heads n rb k = heads n rc k := by
 unfold heads
 apply List.map_congr_left
 intro a ha
 rw [h a (by simpa using ha)]
theorem boolRow_new (w : World) (n : Nat) : BoolRow (w.alloc (.cells (madeCells #[.bool false] n) 4)) w.heap.size n (fun _ => false) :=
 ⟨_, Vh w _, fun _ hi => made_get _ _ _ hi⟩
theorem MatUp.step {w0 w w1 : World} {p n k cap cap' g : Nat} {pm : Option Addr} {rb : Nat -> Nat} (h : MatUp w0 w p n k pm cap rb)
  (hown : w1.ownsRow w0.heap.size 116 1 (.slice (some ⟨g, 0, none⟩) (k + 1) cap') (k + 1) (heads n rb k ++ [.slice (some ⟨w.heap.size, 0, none⟩) n n]))
  (hgrow : ((w.alloc (Obj.cells (madeCells #[.bool false] n) 4)).alloc (.cells #[.slice (some ⟨w.heap.size, 0, none⟩) n n] 116)).grownBy w1 (Value.slice pm k cap).ownBlock) :
  MatUp w0 (w1.setCell ⟨p, 1, none⟩ (.slice (some ⟨g, 0, none⟩) (k + 1) cap')) p n (k + 1) (some ⟨g, 0, none⟩) cap' (fun a => if a = k then w.heap.size else rb a) := by
 have hsz := h.grown.size
 have hA := Zb (Zd w (Obj.cells (madeCells #[.bool false] n) 4) none) (Zd _ (.cells #[.slice (some ⟨w.heap.size, 0, none⟩) n n] 116) none)
 -- every block of w that is no row of headers lies in w1 as it lay
 have keepA : ∀ (i : Nat) (cur : Array Value) (t : TypeId), ((w.alloc (Obj.cells (madeCells #[.bool false] n) 4)).alloc (.cells #[.slice (some ⟨w.heap.size, 0, none⟩) n n] 116)).heap[i]? = some (.cells cur t (0, 0)) -> t ≠ 116 -> w1.heap[i]? = some (.cells cur t (0, 0)) := by
  intro i cur t hi ht
  refine (hgrow.block i (Zp.1 hi).1 fun e => ?_).trans hi
  rcases h.own.2 with ⟨e2, _⟩ | ⟨g2, cap2, cur2, e2, _, hg2, _⟩
  ·rw [e2] at e; simp [Value.ownBlock] at e
  ·rw [e2] at e
   obtain rfl : i = g2 := by simpa [Value.ownBlock] using e
   have := (hA.block i (Zp.1 hg2).1 (by simp)).trans hg2
   rw [hi] at this
   simp at this
   exact ht this.2
 have keepW : ∀ (i : Nat) (cur : Array Value) (t : TypeId), w.heap[i]? = some (.cells cur t (0, 0)) -> t ≠ 116 -> w1.heap[i]? = some (.cells cur t (0, 0)) := fun i cur t hi ht =>
  keepA i cur t ((hA.block i (Zp.1 hi).1 (by simp)).trans hi) ht
 have hp1 := keepW p _ _ h.st (by decide)
 have hset : ∀ i o, w1.heap[i]? = some o -> i ≠ p -> (w1.setCell ⟨p, 1, none⟩ (.slice (some ⟨g, 0, none⟩) (k + 1) cap')).heap[i]? = some o := fun i o ho hne => (Below.heap_setCell _ _ _ _ hne).trans ho
 have hnewrow : BoolRow (w1.setCell ⟨p, 1, none⟩ (.slice (some ⟨g, 0, none⟩) (k + 1) cap')) w.heap.size n (fun _ => false) := by
  obtain ⟨cur, hc1, hc2⟩ := boolRow_new w n
  have h2 := ((Zd _ (.cells #[.slice (some ⟨w.heap.size, 0, none⟩) n n] 116) none).block w.heap.size (by simp) (by simp)).trans hc1
  exact ⟨cur, hset _ _ (keepA _ _ _ h2 (by decide)) (fun e => by have := (Zp.1 h.st).1; omega), hc2⟩
 refine ⟨h.p1, ?_, ?_, ?_, ?_, ?_, ?_⟩
 ·rw [heap_setCell_same _ _ _ _ _ _ hp1]
  rfl
 ·have e : heads n (fun a => if a = k then w.heap.size else rb a) (k + 1) = heads n rb k ++ [.slice (some ⟨w.heap.size, 0, none⟩) n n] := by
   rw [heads_succ, if_pos rfl, heads_congr (rb := fun a => if a = k then w.heap.size else rb a) (rc := rb) (fun a ha => if_neg (by omega))]
  rw [e]
  refine hown.kept (Zz w1 ⟨p, 1, none⟩ _) (.inr fun e => ?_)
  rcases hown.2 with ⟨e2, _⟩ | ⟨g2, cap2, cur2, e2, _, hg2, _⟩
  ·cases e2
  ·simp only [Value.slice.injEq, Option.some.injEq, Addr.mk.injEq, and_true, true_and] at e2
   obtain ⟨rfl, rfl⟩ := e2
   obtain rfl : g = p := by simpa [Value.ownBlock] using e
   rw [hp1] at hg2
   simp at hg2
 ·intro a ha
  by_cases e : a = k
  ·simp only [if_pos e]; exact hsz
  ·simp only [if_neg e]; exact h.inb a (by omega)
 ·intro a ha
  by_cases e : a = k
  ·simp only [if_pos e]; exact hnewrow
  ·simp only [if_neg e]
   obtain ⟨cur, hc1, hc2⟩ := h.row a (by omega)
   refine ⟨cur, hset _ _ (keepW _ _ _ hc1 (by decide)) (fun e => ?_), hc2⟩
   have := h.st
   rw [<- e, hc1] at this
   simp at this
 ·intro a ha c hc hne
  by_cases e : a = k
  ·subst e
   simp only [if_pos]
   rw [if_neg (fun e => hne e.symm)]
   have := (h.row c (by omega)).lt
   omega
  ·simp only [if_neg e]
   by_cases e2 : c = k
   ·simp only [if_pos e2]
    have := (h.row a (by omega)).lt
    omega
   ·simp only [if_neg e2]
    exact h.inj a (by omega) c (by omega) hne
 ·have h1 : w0.grownBy w1 none := by
   have h2 := Zb h.grown hA
   cases hob : (Value.slice pm k cap).ownBlock with
   | none => rw [hob] at hgrow; exact Zb h2 hgrow
   | some r => rw [hob] at hgrow; exact Yx h2 hgrow (h.own.lt r hob).1
  exact Yx h1 (Zz w1 ⟨p, 1, none⟩ _) h.p1
theorem matNew_zero (w : World) : Calls Tryz.prog 72 #[.int .i64 0] w (MatPost 0 (fun _ _ => false) w) := by
 have HS : Hid (MatUp w (w.alloc (.cells #[.int .i64 ((0 : Nat) : Int), .slice none 0 0] 119)) w.heap.size 0 0 none 0 (fun _ => 0)) := Za ⟨Zc _, Vh w _, Yp _ _ _ _, fun a ha => by omega, fun a ha => by omega, fun a ha => by omega, Zd _ _ _⟩
 go_enter Tryz.func72, Tryz.ntmps72
 go_wp2
 go_loop [4] (fun i => i = .int .i64 0) (fun _ => 0)
 case atStart => rfl
 case round =>
  obtain rfl := hrel
  go_wp2
  go_ret
  exact ⟨_, rfl, (HS.out.end (by omega)).1, (HS.out.end (by omega)).2⟩
theorem matNew_pos (n : Nat) (w : World) (hn : n <= 200) (hpos : 0 < n) : Calls Tryz.prog 72 #[.int .i64 n] w (MatPost n (fun _ _ => false) w) := by
 have hmk := run_make_row' (P := Tryz.prog) 116 4 (.bool false) 1 Tryz.underlying116 Tryz.infoB4 rfl .i64 .i64 n (by omega) (by omega)
 obtain ⟨i0, hi0, hz0, hz1, hz2⟩ := Yz Tryz.infoB116
 have h0 : (0 : Int) <= n := by omega
 have h1 : (n : Int) <= 200 := by omega
 have HS : Hid (MatUp w (w.alloc (.cells #[.int .i64 n, .slice none 0 0] 119)) w.heap.size n 0 none 0 (fun _ => 0)) := Za ⟨Zc _, Vh w _, Yp _ _ _ _, fun a ha => by omega, fun a ha => by omega, fun a ha => by omega, Zd _ _ _⟩
 go_enter Tryz.func72, Tryz.ntmps72
 have hmm : max 0 (min (n : Int) 200) = n := by omega
 go_wp2
 go_loopw [4] (fun i wr => ∃ (k : Nat) (pm : Option Addr) (cap : Nat) (rb : Nat -> Nat), k <= n /\ i = .int .i64 k /\ MatUp w wr w.heap.size n k pm cap rb) (fun i _ => n - (intOf i).toNat)
 case atStart => exact ⟨0, none, 0, _, Ze _, rfl, HS.out⟩
 case round =>
  obtain ⟨k, pm, cap, rb, hk, rfl, hup⟩ := hrel
  have hc0 : wr.cell? ⟨w.heap.size, 0, none⟩ = some (.int .i64 n) := by simp [World.cell?, hup.st]
  have hc1 : wr.cell? ⟨w.heap.size, 1, none⟩ = some (.slice pm k cap) := by simp [World.cell?, hup.st]
  have hf1 : wr.frozen? ⟨w.heap.size, 1, none⟩ = false := by simp [World.frozen?, hup.st]
  by_cases hkn : k < n
  ·have HUP := Za hup
   have hlt : w.heap.size < wr.heap.size := (Zp.1 hup.st).1
   have hcn := cell_one_new (wr.alloc (.cells (madeCells #[.bool false] n) 4)) (.slice (some ⟨wr.heap.size, 0, none⟩) n n) 116
   rw [Yw] at hcn
   have HCN := Za hcn
   have HNE : Hid (some w.heap.size ≠ (Value.slice pm k cap).ownBlock) := Za (fun e => by
    rcases hup.own.2 with ⟨e2, _⟩ | ⟨g2, cap2, cur2, e2, _, hg2, _⟩
    ·rw [e2] at e; simp [Value.ownBlock] at e
    ·rw [e2] at e
     obtain rfl : w.heap.size = g2 := by simpa [Value.ownBlock] using e
     rw [hup.st] at hg2
     simp at hg2)
   have hgA := Zb (Zd wr (.cells (madeCells #[.bool false] n) 4) none) (Zd _ (.cells #[.slice (some ⟨wr.heap.size, 0, none⟩) n n] 116) none)
   have HC0 := Za ((Zs (a := ⟨w.heap.size, 0, none⟩) (hgA.block _ hlt (by simp))).trans hc0)
   have HC1 := Za ((Zs (a := ⟨w.heap.size, 1, none⟩) (hgA.block _ hlt (by simp))).trans hc1)
   have HF1 := Za ((World.frozen?_of_block (a := ⟨w.heap.size, 1, none⟩) (hgA.block _ hlt (by simp))).trans hf1)
   have HLT := Za (Yt hlt hgA.size)
   clear hup hcn hgA
   go_wp2
   go_region_law (first | ((refine step_append_lies _ (by rfl) _ _ _ (by rfl) w.heap.size 116 i0 (.slice none 0 0) 1 24 Tryz.underlying117 hi0 hz0 hz1 hz2 rfl (by decide) (.slice pm k cap) k (heads n rb k) (by rfl) (by exact (HUP.out.own.alloc _).alloc _) ⟨wr.heap.size + 1, 0, none⟩ 1 1 [.slice (some ⟨wr.heap.size, 0, none⟩) n n] (by rfl) rfl (by exact HCN.out) (by simp [Value.oneCell']) (by decide) (by unfold maxLen; omega) (by omega) (by simp; omega) (wr.heap.size + 1 + 1) (by simp) ?_; intro g cap' w1 hown hgrow hat hgl; have hk0 := World.grownBy.cell hgrow (a := ⟨w.heap.size, 0, none⟩) HC0.out HNE.out; have hk1 := World.grownBy.cell hgrow (a := ⟨w.heap.size, 1, none⟩) HC1.out HNE.out; have hkf := (World.frozen?_of_block (a := ⟨w.heap.size, 1, none⟩) (hgrow.block _ HLT.out HNE.out)).trans HF1.out)))
   all_goals go_wp2
   all_goals exact ⟨⟨k + 1, _, _, _, by omega, by go_num, HUP.out.step hown (Zb (Zo _ 1 _) hgrow)⟩, by simp [intOf]; omega⟩
  ·obtain rfl : k = n := by omega
   have HE := Za (hup.end hn)
   clear hup
   go_wp2
   go_ret
   exact ⟨_, rfl, HE.out.1, HE.out.2⟩
theorem matNew_c (n : Nat) (w : World) (hn : n <= 200) : Calls Tryz.prog 72 #[.int .i64 n] w (MatPost n (fun _ _ => false) w) := by
 by_cases h : n = 0
 ·subst h; exact matNew_zero w
 ·exact matNew_pos n w hn (by omega)
theorem IsMat.get {w : World} {lo hi p n : Nat} {R : Nat -> Nat -> Bool} (h : IsMat w lo hi p n R) {a b : Nat} (ha : a < n) (hb : b < n) :
  ∃ mb rb cap, w.cell? ⟨p, 1, none⟩ = some (.slice (some ⟨mb, 0, none⟩) n cap) /\ w.cell? ⟨mb, a, none⟩ = some (.slice (some ⟨rb, 0, none⟩) n n) /\ w.cell? ⟨rb, b, none⟩ = some (.bool (R a b)) := by
 obtain ⟨h1, h2, pm, cap, mb, rb, h3⟩ := h
 obtain ⟨rfl, e2⟩ := h3.cm ha
 exact ⟨mb, rb a, cap, h3.c1, e2, (h3.row a ha).cell hb⟩
def partR (R : Nat -> Nat -> Bool) (a b x y : Nat) : Bool := if x < a ∨ (x = a /\ y < b) then R x y else false
theorem partR_start (R : Nat -> Nat -> Bool) (a : Nat) : partR R a 0 = firstR R a := by
 funext x y
 unfold partR firstR
 by_cases h : x < a
 ·rw [if_pos (.inl h), if_pos h]
 ·rw [if_neg (by omega), if_neg h]
theorem partR_end {n : Nat} {R : Nat -> Nat -> Bool} (h : Supp n R) (a : Nat) : partR R a n = firstR R (a + 1) := by
 funext x y
 unfold partR firstR
 by_cases hx : x < a + 1
 ·rw [if_pos hx]
  by_cases hc : x < a ∨ (x = a /\ y < n)
  ·rw [if_pos hc]
  ·rw [if_neg hc]
   cases hr : R x y
   ·rfl
   ·have := (h x y hr).2
    omega
 ·rw [if_neg (by omega), if_neg hx]
theorem partR_put (R : Nat -> Nat -> Bool) (a b x y : Nat) : partR R a (b + 1) x y = if x = a /\ y = b then R a b else partR R a b x y := by
 unfold partR
 by_cases h : x = a /\ y = b
 ·rw [if_pos h, if_pos (by omega), h.1, h.2]
 ·rw [if_neg h]
  by_cases h2 : x < a ∨ (x = a /\ y < b)
  ·rw [if_pos (by omega), if_pos h2]
  ·rw [if_neg (by omega), if_neg h2]
theorem partR_supp {n : Nat} {R : Nat -> Nat -> Bool} (h : Supp n R) (a b : Nat) : Supp n (partR R a b) := fun x y e => by
 unfold partR at e
 split at e
 ·exact h x y e
 ·cases e
theorem matCopy_c (lo hi p n : Nat) (R : Nat -> Nat -> Bool) (w : World) (h : IsMat w lo hi p n R) : Calls Tryz.prog 109 #[.pointer (some ⟨p, 0, none⟩)] w (MatPost n R w) := by
 have hn := h.small
 have hc0 := h.c0
 have H := Za h
 have HSU := Za h.supp
 clear h
 go_enter Tryz.func109, Tryz.ntmps109
 go_wp2_with fail
 refine (matNew_c n _ hn).mono ?_
 rintro e w1 ⟨q, rfl, hr1, hg1⟩
 have HR1 := Za hr1
 have HG1 := Za hg1
 clear hr1 hg1
 go_wp2_with fail
 go_loopw [4] (fun i wr => ∃ a : Nat, a <= n /\ i = .int .i64 a /\ IsMat wr w.heap.size w1.heap.size q n (firstR R a) /\ w.grownBy wr none) (fun i _ => n - (intOf i).toNat)
 case atStart => exact ⟨0, Ze _, rfl, by rw [firstR_zero]; exact HR1.out, HG1.out⟩
 case round =>
  obtain ⟨a, ha, rfl, hma, hga⟩ := hrel
  have hc0a := (H.out.calm hga).c0
  by_cases han : a < n
  ·have HMA := Za hma
   have HGA := Za hga
   clear hma hga
   go_wp2_with fail
   go_loopw [5] (fun i wr => ∃ b : Nat, b <= n /\ i = .int .i64 b /\ IsMat wr w.heap.size w1.heap.size q n (partR R a b) /\ w.grownBy wr none) (fun i _ => n - (intOf i).toNat)
   case atStart => exact ⟨0, Ze _, rfl, by rw [partR_start]; exact HMA.out, HGA.out⟩
   case round =>
    obtain ⟨b, hb, rfl, hmb, hgb⟩ := hrel
    have hc0b := (H.out.calm hgb).c0
    by_cases hbn : b < n
    ·obtain ⟨mb0, rb0, cap0, g1, g2, g3⟩ := (H.out.calm hgb).get han hbn
     obtain ⟨pm, mb, rb, cap, rfl, hc1, hcm, hcr, hfr, hput⟩ := hmb.put (T := partR R a (b + 1)) han hbn (R a b) (partR_put R a b) (partR_supp HSU.out a (b + 1))
     have HPUT := Za (hput (wr.drewN 1) rfl rfl rfl rfl)
     have HGB := Za hgb
     have a0 : (0 : Int) <= a := by omega
     have b0 : (0 : Int) <= b := by omega
     have a1 : (a : Int) < n := by omega
     have b1 : (b : Int) < n := by omega
     clear hput hmb hgb
     generalize R a b = v at *
     go_wp2
     refine wp_region_still_tail 19 (by kernel_rfl) (by kernel_rfl) ?_
     simp only [List.take_succ_cons, List.take_zero, List.drop_succ_cons, List.drop_zero]
     repeat still_step
     refine wpStill_nil ?_
     change wpList _ _ _ _ _ wr.drew
     go_wp2
     exact ⟨⟨b + 1, by omega, by go_num, HPUT.out.1, Kept.new HGB.out HPUT.out.2 (Zc _)⟩, by simp [intOf]; omega⟩
    ·obtain rfl : b = n := by omega
     rw [partR_end HSU.out] at hmb
     go_wp2
     exact ⟨⟨a + 1, by omega, by go_num, hmb, hgb⟩, by simp [intOf]; omega⟩
  ·obtain rfl : a = n := by omega
   rw [firstR_all HSU.out] at hma
   have HE := Za (show MatPost a R w (.returned (.pointer (some ⟨q, 0, none⟩))) wr from ⟨q, rfl, hma.outer (Zc _) hma.top, hga⟩)
   clear hma hga
   go_wp2
   go_ret
   exact HE.out
def innV (W : Nat -> Nat -> Bool) (v a b x y : Nat) : Bool := if x < a ∨ (x = a /\ y < b) then wvia W v x y else W x y
theorem innV_start (W : Nat -> Nat -> Bool) (v a : Nat) : innV W v a 0 = midV W v a := by
 funext x y
 unfold innV midV
 by_cases h : x < a
 ·rw [if_pos (.inl h), if_pos h]
 ·rw [if_neg (by omega), if_neg h]
theorem innV_end {n : Nat} {W : Nat -> Nat -> Bool} (h : Supp n W) (v a : Nat) : innV W v a n = midV W v (a + 1) := by
 funext x y
 unfold innV midV
 by_cases hx : x < a + 1
 ·rw [if_pos hx]
  by_cases hc : x < a ∨ (x = a /\ y < n)
  ·rw [if_pos hc]
  ·rw [if_neg hc]
   cases hw : wvia W v x y
   ·cases hr : W x y
    ·rfl
    ·have := (h x y hr).2; omega
   ·have := (wvia_supp h v x y hw).2; omega
 ·rw [if_neg (by omega), if_neg hx]
theorem innV_supp {n : Nat} {W : Nat -> Nat -> Bool} (h : Supp n W) (v a b : Nat) : Supp n (innV W v a b) := fun x y e => by
 unfold innV at e
 split at e
 ·exact wvia_supp h v x y e
 ·exact h x y e
theorem innV_yes {W : Nat -> Nat -> Bool} {v a b : Nat} (h1 : W a v = true) (h2 : W v b = true) (x y : Nat) : innV W v a (b + 1) x y = if x = a /\ y = b then true else innV W v a b x y := by
 unfold innV
 by_cases h : x = a /\ y = b
 ·rw [if_pos h, if_pos (by omega), h.1, h.2]
  exact (wvia_iff _ _ _ _).2 (.inr ⟨h1, h2⟩)
 ·rw [if_neg h]
  by_cases h2 : x < a ∨ (x = a /\ y < b)
  ·rw [if_pos (by omega), if_pos h2]
  ·rw [if_neg (by omega), if_neg h2]
theorem innV_no {W : Nat -> Nat -> Bool} {v a b : Nat} (h2 : W v b = false) : innV W v a (b + 1) = innV W v a b := by
 funext x y
 unfold innV
 by_cases h : x = a /\ y = b
 ·rw [if_pos (by omega), if_neg (by omega), h.1, h.2]
  unfold wvia
  rw [h2]
  simp
 ·by_cases h2 : x < a ∨ (x = a /\ y < b)
  ·rw [if_pos (by omega), if_pos h2]
  ·rw [if_neg (by omega), if_neg h2]
theorem innV_row (W : Nat -> Nat -> Bool) (v a b : Nat) : innV W v a b v b = W v b := by
 unfold innV
 split
 ·exact wvia_row W v b
 ·rfl
theorem midV_at (W : Nat -> Nat -> Bool) (v a y : Nat) : midV W v a a y = W a y := by simp [midV]
theorem midV_skip {W : Nat -> Nat -> Bool} {v a : Nat} (h : W a v = false) : midV W v (a + 1) = midV W v a := by
 funext x y
 rw [midV_succ]
 split
 ·rename_i e
  subst e
  simp [midV, wvia, h]
 ·rfl
theorem matClosure_c (lo hi p n : Nat) (R : Nat -> Nat -> Bool) (w : World) (h : IsMat w lo hi p n R) : Calls Tryz.prog 73 #[.pointer (some ⟨p, 0, none⟩)] w (MatPost n (clo n R) w) := by
 have hn := h.small
 have H := Za h
 have HSU := Za h.supp
 clear h
 go_enter Tryz.func73, Tryz.ntmps73
 go_wp2_with fail
 refine (matCopy_c lo hi p n R _ H.out).mono ?_
 rintro e w1 ⟨q, rfl, hr1, hg1⟩
 have HR1 := Za hr1
 have HG1 := Za hg1
 clear hr1 hg1
 go_wp2_with fail
 go_loopw [4] (fun i wr => ∃ v : Nat, v <= n /\ i = .int .i64 v /\ IsMat wr w.heap.size w1.heap.size q n (warsh R v) /\ w.grownBy wr none) (fun i _ => n - (intOf i).toNat)
 case atStart => exact ⟨0, Ze _, rfl, HR1.out, HG1.out⟩
 case round =>
  obtain ⟨v, hv, rfl, hmv, hgv⟩ := hrel
  have hc0v := hmv.c0
  by_cases hvn : v < n
  ·have HSW := Za hmv.supp
   have HWS : Hid (warsh R (v + 1) = wvia (warsh R v) v) := Za rfl
   generalize hW : warsh R v = W at *
   clear hW
   have HMV := Za hmv
   have HGV := Za hgv
   clear hmv hgv
   go_wp2_with fail
   go_loopw [5] (fun i wr => ∃ a : Nat, a <= n /\ i = .int .i64 a /\ IsMat wr w.heap.size w1.heap.size q n (midV W v a) /\ w.grownBy wr none) (fun i _ => n - (intOf i).toNat)
   case atStart => exact ⟨0, Ze _, rfl, by rw [midV_zero]; exact HMV.out, HGV.out⟩
   case round =>
    obtain ⟨a, ha, rfl, hma, hga⟩ := hrel
    have hc0a := hma.c0
    by_cases han : a < n
    ·obtain ⟨mb0, rb0, cap0, g1, g2, g3⟩ := hma.get han hvn
     rw [midV_at] at g3
     have HMA := Za hma
     have HGA := Za hga
     have a0 : (0 : Int) <= a := by omega
     have v0 : (0 : Int) <= v := by omega
     have a1 : (a : Int) < n := by omega
     have v1 : (v : Int) < n := by omega
     clear hma hga
     cases hav : W a v
     ·rw [hav] at g3
      have HSK := Za (midV_skip hav)
      clear hav
      go_wp2
      exact ⟨⟨a + 1, by omega, by go_num, by rw [HSK.out]; exact HMA.out, HGA.out⟩, by simp [intOf]; omega⟩
     ·rw [hav] at g3
      have HAV := Za hav
      clear hav
      go_wp2_with fail
      go_loopw [6] (fun i wr => ∃ b : Nat, b <= n /\ i = .int .i64 b /\ IsMat wr w.heap.size w1.heap.size q n (innV W v a b) /\ w.grownBy wr none) (fun i _ => n - (intOf i).toNat)
      case atStart => exact ⟨0, Ze _, rfl, by rw [innV_start]; exact HMA.out, HGA.out⟩
      case round =>
       obtain ⟨b, hb, rfl, hmb, hgb⟩ := hrel
       have hc0b := hmb.c0
       by_cases hbn : b < n
       ·obtain ⟨mb1, rb1, cap1, e1, e2, e3⟩ := hmb.get hvn hbn
        rw [innV_row] at e3
        have b0 : (0 : Int) <= b := by omega
        have b1 : (b : Int) < n := by omega
        cases hvb : W v b
        ·rw [hvb] at e3
         have HSK := Za (innV_no (a := a) hvb)
         have HMB := Za hmb
         have HGB := Za hgb
         clear hvb hmb hgb
         go_wp2
         exact ⟨⟨b + 1, by omega, by go_num, by rw [HSK.out]; exact HMB.out, HGB.out⟩, by simp [intOf]; omega⟩
        ·rw [hvb] at e3
         obtain ⟨pm, mb, rb, cap, rfl, hc1, hcm, hcr, hfr, hput⟩ := hmb.put (T := innV W v a (b + 1)) han hbn true (innV_yes HAV.out hvb) (innV_supp HSW.out v a (b + 1))
         have HPUT := Za (hput wr rfl rfl rfl rfl)
         have HGB := Za hgb
         have he : (Value.slice (some ⟨mb, 0, none⟩) n cap) = .slice (some ⟨mb1, 0, none⟩) n cap1 := by
          rw [hc1] at e1; exact Option.some.inj e1
         simp only [Value.slice.injEq, Option.some.injEq, Addr.mk.injEq, and_true, true_and] at he
         obtain ⟨rfl, rfl⟩ := he
         clear hput hvb hmb hgb hc1
         go_wp2
         exact ⟨⟨b + 1, by omega, by go_num, HPUT.out.1, Kept.new HGB.out HPUT.out.2 (Zc _)⟩, by simp [intOf]; omega⟩
       ·obtain rfl : b = n := by omega
        rw [innV_end HSW.out] at hmb
        go_wp2
        exact ⟨⟨a + 1, by omega, by go_num, hmb, hgb⟩, by simp [intOf]; omega⟩
    ·obtain rfl : a = n := by omega
     rw [midV_all HSW.out] at hma
     go_wp2
     exact ⟨⟨v + 1, by omega, by go_num, by rw [HWS.out]; exact hma, hga⟩, by simp [intOf]; omega⟩
  ·obtain rfl : v = n := by omega
   have HE := Za (show MatPost v (clo v R) w (.returned (.pointer (some ⟨q, 0, none⟩))) wr from ⟨q, rfl, hmv.outer (Zc _) hmv.top, hgv⟩)
   clear hmv hgv
   go_wp2
   go_ret
   exact HE.out
theorem refIn_c (p : Option Addr) (n c lo hi : Nat) (l : List ByteArray) (s : ByteArray) (r : Bool) (w : World) (h : StrsAt w lo hi p n l) (hn : n <= 1000000) (hr : r = true ↔ s ∈ l) :
  Calls Tryz.prog 31 #[.slice p n c, .string s] w fun e w' => e = .returned (.bool r) /\ w' = w := by
 have H := Za h
 have HR := Za hr
 have HL := Za h.len
 clear h hr
 go_enter Tryz.func31, Tryz.ntmps31
 go_wp2
 go_loop [5] (fun i => ∃ k : Nat, k <= n /\ i = .int .i64 k /\ Hid (∀ j, j < k -> l[j]?.getD .empty ≠ s)) (fun i => n - (intOf i).toNat)
 case atStart => exact ⟨0, Ze _, rfl, Za fun i hi => absurd hi (Zy _)⟩
 case round =>
  obtain ⟨k, hk, rfl, HU⟩ := hrel
  by_cases hkn : k < n
  ·have k0 : (0 : Int) <= k := by omega
   have k1 : (k : Int) < n := by omega
   obtain ⟨b, o, rfl, _, _, _, hc⟩ := H.out.cell (by omega)
   have hck := hc k hkn
   have HM := Za (Zr (d := .empty) (show k < l.length by rw [HL.out]; exact hkn))
   have HK := Za (show l[k]?.getD .empty ≠ s -> ∀ j, j < k + 1 -> l[j]?.getD .empty ≠ s from fun h => Yk HU.out h)
   clear hc
   generalize l[k]?.getD .empty = x at *
   by_cases e : x = s
   ·have e1 := Xz e
    obtain rfl : r = true := HR.out.2 (e ▸ HM.out)
    clear e
    go_wp2
    go_ret
    exact ⟨rfl, rfl⟩
   ·have e1 := Xt e
    have HK2 := Za (HK.out e)
    clear e
    go_wp2
    exact ⟨⟨k + 1, by omega, by go_num, HK2⟩, by simp [intOf]; omega⟩
  ·obtain rfl : k = n := by omega
   have k1 : ¬ ((k : Int) < k) := by omega
   obtain rfl : r = false := Zj HR.out fun h => by
    obtain ⟨j, hj, e⟩ := Xx (d := ByteArray.empty) h
    exact HU.out j (by rw [<- HL.out]; exact hj) e
   go_wp2
   go_ret
   exact ⟨rfl, rfl⟩
section
variable {w w' : World} {g : Nat} {vs : List Value} {t : TypeId}
end
theorem ltLn_iff {a b : Ln} : ltLn a b = true ↔ a.1 < b.1 ∨ (a.1 = b.1 /\ a.2 < b.2) := by
 simp only [ltLn, Bool.or_eq_true, Yv, Yb]
theorem refLess_c (a b : Ln) (r : Bool) (w : World) (hr : r = ltLn a b) :
  Calls Tryz.prog 48 #[.agg #[.int .u32 (a.1 : Int), .int .i64 a.2], .agg #[.int .u32 (b.1 : Int), .int .i64 b.2]] w fun e w' => e = .returned (.bool r) /\ w.grownBy w' none := by
 obtain ⟨x, m⟩ := a
 obtain ⟨y, n⟩ := b
 have HR := Za hr
 clear hr
 have HG := Za (Zb (Zd w (.cells #[.int .u32 (x : Int), .int .i64 m] 60) none) (Zd _ (.cells #[.int .u32 (y : Int), .int .i64 n] 60) none))
 rcases Nat.lt_trichotomy x y with h | h | h
 ·have e1 : (x : Int) < y := by omega
  obtain rfl : r = true := by rw [HR.out]; exact ltLn_iff.2 (.inl h)
  clear h
  go_enter Tryz.func48, Tryz.ntmps48
  go_wp2
  go_ret
  exact ⟨rfl, HG.out⟩
 ·subst h
  have e1 : ¬ (x : Int) < x := by omega
  by_cases h2 : m < n
  ·obtain rfl : r = true := by rw [HR.out]; exact ltLn_iff.2 (.inr ⟨rfl, h2⟩)
   go_enter Tryz.func48, Tryz.ntmps48
   go_wp2
   go_ret
   exact ⟨rfl, HG.out⟩
  ·obtain rfl : r = false := by rw [HR.out, Bool.eq_false_iff]; intro h; rcases ltLn_iff.1 h with h | h; exact absurd h (Xv _); exact h2 h.2
   go_enter Tryz.func48, Tryz.ntmps48
   go_wp2
   go_ret
   exact ⟨rfl, HG.out⟩
 ·have e1 : ¬ (x : Int) < y := by omega
  have e2 : ((x : Int) == (y : Int)) = false := by simp; omega
  have e3 : ¬ (x : Int) = y := by omega
  obtain rfl : r = false := by rw [HR.out, Bool.eq_false_iff]; intro h; rcases ltLn_iff.1 h with h | h <;> simp only at h <;> omega
  clear h
  go_enter Tryz.func48, Tryz.ntmps48
  go_wp2
  go_ret
  exact ⟨rfl, HG.out⟩
theorem atV_some {ls : List Lne} {x : Ln} {k : Nat} (hk : k < ls.length) (he : nID (ls[k]?.getD lne0) = x) (hb : ∀ j, j < k -> nID (ls[j]?.getD lne0) ≠ x) : atV ls x = (k : Int) := by
 have : atL ls x = some k := by
  unfold atL
  rw [List.findIdx?_eq_some_iff_getElem]
  refine ⟨hk, ?_, fun j hj => ?_⟩
  ·rw [Zm hk] at he
   simpa using he
  ·have := hb j hj
   rw [Zm (by omega)] at this
   simpa using this
 unfold atV
 rw [this]
theorem atV_none {ls : List Lne} {x : Ln} (hb : ∀ j, j < ls.length -> nID (ls[j]?.getD lne0) ≠ x) : atV ls x = -1 := by
 have : atL ls x = none := by
  unfold atL
  rw [List.findIdx?_eq_none_iff]
  intro y hy
  obtain ⟨j, hj, e⟩ := Xx (d := lne0) hy
  have := hb j hj
  rw [e] at this
  simpa using this
 unfold atV
 rw [this]
theorem refAt_c (s : ByteArray) (ls : List Lne) (a : Nat) (b : Int) (pl : Option Addr) (nl cl : Nat) (pp : Option Addr) (np cp : Nat) (lo hi : Nat) (w : World) (h : LnesAt w lo hi pl nl ls) (hn : nl <= 1000000) :
  Calls Tryz.prog 50 #[.agg #[.string s, .slice pl nl cl, .slice pp np cp], .agg #[.int .u32 (a : Int), .int .i64 b]] w fun e w' => e = .returned (.int .i64 (atV ls (a, b))) /\ w.grownBy w' none := by
 have HG := Za (Zb (Zd w (.cells #[.string s, .slice pl nl cl, .slice pp np cp] 35) none) (Zd _ (.cells #[.int .u32 (a : Int), .int .i64 b] 60) none))
 have HB := Za ((BoxV.new w [.string s, .slice pl nl cl, .slice pp np cp] 35).calm (Zd _ (.cells #[.int .u32 (a : Int), .int .i64 b] 60) none))
 have HC := Za (BoxV.second w [.string s, .slice pl nl cl, .slice pp np cp] [.int .u32 (a : Int), .int .i64 b] 35 60)
 have H := Za (h.calm HG.out)
 have HL := Za h.len
 clear h
 go_enter Tryz.func50, Tryz.ntmps50
 go_upto_region 1 with fail
 generalize World.alloc w _ = w0 at *
 generalize World.alloc w0 _ = w1 at *
 generalize w.heap.size = g at *
 go_wp2
 go_loopw [5] (fun v wr => ∃ k : Nat, k <= nl /\ v = .int .i64 k /\ Hid (∀ j, j < k -> nID (ls[j]?.getD lne0) ≠ (a, b)) /\ Hid (w1.grownBy wr none)) (fun v _ => nl - (intOf v).toNat)
 case atStart => exact ⟨0, Ze _, rfl, Za (fun j hj => absurd hj (Zy _)), Za (Zi _ _)⟩
 case round =>
 obtain ⟨k, hk, rfl, HU, HGW⟩ := hrel
 have b1 := (HB.out.calm HGW.out).cell (k := 1) rfl
 by_cases hkn : k < nl
 ·have k0 : (0 : Int) <= k := by omega
  have k1 : (k : Int) < nl := by omega
  obtain ⟨bl, ol, rfl, _, _, _, hc⟩ := (H.out.calm HGW.out).cell (by omega)
  obtain ⟨x0, x1, _, _⟩ := hc k hkn
  have d0 := (HC.out.calm HGW.out).cell (k := 0) rfl
  have d1 := (HC.out.calm HGW.out).cell (k := 1) rfl
  have HU2 := Za (show nID (ls[k]?.getD lne0) ≠ (a, b) -> ∀ j, j < k + 1 -> nID (ls[j]?.getD lne0) ≠ (a, b) from fun h => Yk (q := fun j => nID (ls[j]?.getD lne0) ≠ (a, b)) HU.out h)
  have HF := Za (show nID (ls[k]?.getD lne0) = (a, b) -> atV ls (a, b) = (k : Int) from fun h => atV_some (by rw [HL.out]; exact hkn) h HU.out)
  clear hc HU
  generalize nID (ls[k]?.getD lne0) = y at *
  obtain ⟨y1, y2⟩ := y
  replace x0 : wr.cell? ⟨bl, ol + k * 4, none⟩ = some (.int .u32 (y1 : Int)) := x0
  replace x1 : wr.cell? ⟨bl, ol + k * 4 + 1, none⟩ = some (.int .i64 y2) := x1
  have q0 := fun z : Later wr => Zk x0 z
  have q1 := fun z : Later wr => Zk x1 z
  have q2 := fun z : Later wr => Zk b1 z
  have q3 := fun z : Later wr => Zk d0 z
  have q4 := fun z : Later wr => Zk d1 z
  have hne5 := later_one wr
  have hq := ln_eql (y1 : Int) a y2 b
  go_upto_region 4 with fail
  clear x0 x1 b1 d0 d1
  by_cases hee : ((y1, y2) : Ln) = (a, b)
  ·have hb1 : ((y1 : Int) == (a : Int) && y2 == b) = true := by
    simp only [Prod.mk.injEq] at hee
    obtain ⟨rfl, rfl⟩ := hee
    simp
   rw [hb1] at hq
   have HV := Za (HF.out hee)
   clear hee hb1
   refine Zz0 (by kernel_rfl) (by kernel_rfl) ?_
   repeat (go_big_quiet_step (fail))
   refine Ya ?_
   rintro _ ⟨z, rfl⟩
   have HG9 := Za (Zb HGW.out z.ok)
   go_wp2
   go_ret
   exact ⟨by rw [HV.out]; rfl, Zb HG.out HG9.out⟩
  ·have HU3 := Za (HU2.out hee)
   have hb1 : ((y1 : Int) == (a : Int) && y2 == b) = false := by
    rw [Bool.eq_false_iff]
    intro h
    simp only [Yv, beq_iff_eq] at h
    apply hee
    simp only [Prod.mk.injEq]
    omega
   rw [hb1] at hq
   clear hee hb1
   refine Zz0 (by kernel_rfl) (by kernel_rfl) ?_
   repeat (go_big_quiet_step (fail))
   refine Ya ?_
   rintro _ ⟨z, rfl⟩
   have HG9 := Za (Zb HGW.out z.ok)
   go_wp2
   exact ⟨⟨k + 1, by omega, by go_num, HU3, HG9⟩, by simp [intOf]; omega⟩
 obtain rfl : nl = k := by omega
 have k1 : ¬ ((nl : Int) < nl) := by omega
 have HV := Za (atV_none (ls := ls) (x := (a, b)) (by rw [HL.out]; exact HU.out))
 go_wp2
 go_ret
 exact ⟨by rw [HV.out]; rfl, Zb HG.out HGW.out⟩
theorem refSameFile_c (x y : Fl) (pl : Option Addr) (nl cl : Nat) (pp : Option Addr) (np cp : Nat) (ql : Option Addr) (ml dl : Nat) (qp : Option Addr) (mp dp : Nat) (lo hi lo' hi' : Nat) (r : Bool) (w : World)
  (h : FlAt w lo hi pl nl cl pp np cp x) (h' : FlAt w lo' hi' ql ml dl qp mp dp y) (hn : nl <= 1000000 /\ np <= 1000000 /\ ml <= 1000000 /\ mp <= 1000000) (hr : r = true ↔ x = y) :
  Calls Tryz.prog 19 #[.agg #[.string (fPath x), .slice pl nl cl, .slice pp np cp], .agg #[.string (fPath y), .slice ql ml dl, .slice qp mp dp]] w fun e w' => e = .returned (.bool r) /\ w.grownBy w' none := by
 have HR := Za hr
 have HG := Za (Zb (Zd w (.cells #[.string (fPath x), .slice pl nl cl, .slice pp np cp] 35) none) (Zd _ (.cells #[.string (fPath y), .slice ql ml dl, .slice qp mp dp] 35) none))
 have HB := Za ((BoxV.new w [.string (fPath x), .slice pl nl cl, .slice pp np cp] 35).calm (Zd _ (.cells #[.string (fPath y), .slice ql ml dl, .slice qp mp dp] 35) none))
 have HC := Za (BoxV.second w [.string (fPath x), .slice pl nl cl, .slice pp np cp] [.string (fPath y), .slice ql ml dl, .slice qp mp dp] 35 35)
 have H := Za (h.calm HG.out)
 have H' := Za (h'.calm HG.out)
 have HL := Za h.lines.len
 have HL' := Za h'.lines.len
 have HP := Za h.pairs.len
 have HP' := Za h'.pairs.len
 have HEQ := Za (fun (h : x = y) => (⟨by rw [h], by rw [h], by rw [h]⟩ : fPath x = fPath y /\ fLines x = fLines y /\ fPairs x = fPairs y))
 clear h h' hr
 go_enter Tryz.func19, Tryz.ntmps19
 go_upto_region 1 with fail
 generalize World.alloc w _ = w0 at *
 generalize World.alloc w0 _ = w1 at *
 generalize w.heap.size = g at *
 obtain ⟨a0, a1, a2⟩ := HB.out.three
 obtain ⟨b0, b1, b2⟩ := HC.out.three
 by_cases hp : fPath x = fPath y
 case neg =>
  obtain rfl : r = false := Zj HR.out fun h => hp (HEQ.out h).1
  have e1 := Xt hp
  go_wp2
  go_ret
  exact ⟨rfl, HG.out⟩
 have e1 := Xz hp
 have HPA := Za hp
 clear hp
 by_cases hl : nl = ml
 case neg =>
  obtain rfl : r = false := Zj HR.out fun h => by have := (HEQ.out h).2.1; rw [<- HL.out, <- HL'.out, this] at hl; exact hl rfl
  have f1 : ((nl : Int) != (ml : Int)) = true := by simp; omega
  go_wp2
  go_ret
  exact ⟨rfl, HG.out⟩
 subst hl
 have f1 : ((nl : Int) != (nl : Int)) = false := by simp
 by_cases hq : np = mp
 case neg =>
  obtain rfl : r = false := Zj HR.out fun h => by have := (HEQ.out h).2.2; rw [<- HP.out, <- HP'.out, this] at hq; exact hq rfl
  have f2 : ((np : Int) != (mp : Int)) = true := by simp; omega
  go_wp2
  go_ret
  exact ⟨rfl, HG.out⟩
 subst hq
 have f2 : ((np : Int) != (np : Int)) = false := by simp
 go_wp2
 clear a0 a1 a2 b0 b1 b2 f1 f2 e1
 go_loopw [5] (fun v wr => ∃ k : Nat, k <= nl /\ v = .int .i64 k /\ Hid (∀ j, j < k -> (fLines x)[j]?.getD lne0 = (fLines y)[j]?.getD lne0) /\ Hid (w1.grownBy wr none)) (fun v _ => nl - (intOf v).toNat)
 case atStart => exact ⟨0, Ze _, rfl, Za (fun j hj => absurd hj (Zy _)), Za (Zi _ _)⟩
 case round =>
 obtain ⟨k, hk, rfl, HU, HGW⟩ := hrel
 have a1 := (HB.out.calm HGW.out).cell (k := 1) rfl
 have b1 := (HC.out.calm HGW.out).cell (k := 1) rfl
 by_cases hkn : k < nl
 ·have k0 : (0 : Int) <= k := by omega
  have k1 : (k : Int) < nl := by omega
  obtain ⟨ba, oa, rfl, _, _, _, hc⟩ := (H.out.lines.calm HGW.out).cell (by omega)
  obtain ⟨bb, ob, rfl, _, _, _, hd⟩ := (H'.out.lines.calm HGW.out).cell (by omega)
  obtain ⟨x0, x1, x2, x3⟩ := hc k hkn
  obtain ⟨y0, y1, y2, y3⟩ := hd k hkn
  have HU2 := Za (show (fLines x)[k]?.getD lne0 = (fLines y)[k]?.getD lne0 -> ∀ j, j < k + 1 -> (fLines x)[j]?.getD lne0 = (fLines y)[j]?.getD lne0 from fun h => Yk (q := fun j => (fLines x)[j]?.getD lne0 = (fLines y)[j]?.getD lne0) HU.out h)
  have HX := Za (show x = y -> (fLines x)[k]?.getD lne0 = (fLines y)[k]?.getD lne0 from fun h => by rw [(HEQ.out h).2.1])
  clear hc hd HU
  generalize (fLines x)[k]?.getD lne0 = u at *
  generalize (fLines y)[k]?.getD lne0 = v at *
  obtain ⟨⟨u1, u2⟩, u3, u4⟩ := u
  obtain ⟨⟨v1, v2⟩, v3, v4⟩ := v
  replace x0 : wr.cell? ⟨ba, oa + k * 4, none⟩ = some (.int .u32 (u1 : Int)) := x0
  replace x1 : wr.cell? ⟨ba, oa + k * 4 + 1, none⟩ = some (.int .i64 u2) := x1
  replace x2 : wr.cell? ⟨ba, oa + k * 4 + 2, none⟩ = some (.string u3) := x2
  replace x3 : wr.cell? ⟨ba, oa + k * 4 + 3, none⟩ = some (.bool u4) := x3
  replace y0 : wr.cell? ⟨bb, ob + k * 4, none⟩ = some (.int .u32 (v1 : Int)) := y0
  replace y1 : wr.cell? ⟨bb, ob + k * 4 + 1, none⟩ = some (.int .i64 v2) := y1
  replace y2 : wr.cell? ⟨bb, ob + k * 4 + 2, none⟩ = some (.string v3) := y2
  replace y3 : wr.cell? ⟨bb, ob + k * 4 + 3, none⟩ = some (.bool v4) := y3
  have p0 := fun z : Later wr => Zk x0 z
  have p1 := fun z : Later wr => Zk x1 z
  have p2 := fun z : Later wr => Zk x2 z
  have p3 := fun z : Later wr => Zk x3 z
  have r0 := fun z : Later wr => Zk y0 z
  have r1 := fun z : Later wr => Zk y1 z
  have r2 := fun z : Later wr => Zk y2 z
  have r3 := fun z : Later wr => Zk y3 z
  have p4 := fun z : Later wr => Zk a1 z
  have r4 := fun z : Later wr => Zk b1 z
  have hne5 := later_one wr
  have hq := lne_neq (u1 : Int) v1 u2 v2 u3 v3 u4 v4
  go_upto_region 6 with fail
  clear x0 x1 x2 x3 y0 y1 y2 y3 a1 b1
  by_cases hxy : (((u1, u2), u3, u4) : Lne) = ((v1, v2), v3, v4)
  ·have HU3 := Za (HU2.out hxy)
   have hb1 : (!(((u1 : Int) == (v1 : Int) && u2 == v2) && (u3.toList == v3.toList) && (u4 == v4))) = false := by
    simp only [Prod.mk.injEq] at hxy
    obtain ⟨⟨rfl, rfl⟩, rfl, rfl⟩ := hxy
    simp
   rw [hb1] at hq
   clear hxy hb1
   refine Zz0 (by kernel_rfl) (by kernel_rfl) ?_
   repeat (go_big_quiet_step (fail))
   refine Ya ?_
   rintro _ ⟨z, rfl⟩
   have HG9 := Za (Zb HGW.out z.ok)
   go_wp2
   exact ⟨⟨k + 1, by omega, by go_num, HU3, HG9⟩, by simp [intOf]; omega⟩
  ·obtain rfl : r = false := Zj HR.out fun h => hxy (HX.out h)
   have hb1 : (!(((u1 : Int) == (v1 : Int) && u2 == v2) && (u3.toList == v3.toList) && (u4 == v4))) = true := by
    rw [Bool.not_eq_true', Bool.eq_false_iff]
    intro h
    simp only [Yv, beq_iff_eq] at h
    apply hxy
    obtain ⟨⟨⟨h1, h2⟩, h3⟩, h4⟩ := h
    have h5 : u3 = v3 := by
     by_cases e : u3 = v3
     ·exact e
     ·have := Xt e
      rw [h3] at this
      simp at this
    have h6 : u1 = v1 := by omega
    subst h6 h2 h5 h4
    rfl
   rw [hb1] at hq
   clear hxy hb1
   refine Zz0 (by kernel_rfl) (by kernel_rfl) ?_
   repeat (go_big_quiet_step (fail))
   refine Ya ?_
   rintro _ ⟨z, rfl⟩
   have HG9 := Za (Zb HGW.out z.ok)
   go_wp2
   go_ret
   exact ⟨rfl, Zb HG.out HG9.out⟩
 obtain rfl : nl = k := by omega
 have k1 : ¬ ((nl : Int) < nl) := by omega
 have HLE := Za (list_eqD HL.out HL'.out HU.out)
 clear HU
 go_wp2
 clear a1 b1 k1 hkn hk
 go_loopw [6] (fun v wr => ∃ k : Nat, k <= np /\ v = .int .i64 k /\ Hid (∀ j, j < k -> (fPairs x)[j]?.getD (0, 0) = (fPairs y)[j]?.getD (0, 0)) /\ Hid (w1.grownBy wr none)) (fun v _ => np - (intOf v).toNat)
 case atStart => exact ⟨0, Ze _, rfl, Za (fun j hj => absurd hj (Zy _)), HGW⟩
 case round =>
 clear HGW
 obtain ⟨k, hk, rfl, HU, HGW⟩ := hrel
 have a1 := (HB.out.calm HGW.out).cell (k := 2) rfl
 have b1 := (HC.out.calm HGW.out).cell (k := 2) rfl
 by_cases hkn : k < np
 ·have k0 : (0 : Int) <= k := by omega
  have k1 : (k : Int) < np := by omega
  obtain ⟨ba, oa, rfl, _, _, _, hc⟩ := (H.out.pairs.calm HGW.out).cell (by omega)
  obtain ⟨bb, ob, rfl, _, _, _, hd⟩ := (H'.out.pairs.calm HGW.out).cell (by omega)
  obtain ⟨x0, x1⟩ := hc k hkn
  obtain ⟨y0, y1⟩ := hd k hkn
  have HU2 := Za (show (fPairs x)[k]?.getD (0, 0) = (fPairs y)[k]?.getD (0, 0) -> ∀ j, j < k + 1 -> (fPairs x)[j]?.getD (0, 0) = (fPairs y)[j]?.getD (0, 0) from fun h => Yk (q := fun j => (fPairs x)[j]?.getD (0, 0) = (fPairs y)[j]?.getD (0, 0)) HU.out h)
  have HX := Za (show x = y -> (fPairs x)[k]?.getD (0, 0) = (fPairs y)[k]?.getD (0, 0) from fun h => by rw [(HEQ.out h).2.2])
  clear hc hd HU
  generalize (fPairs x)[k]?.getD (0, 0) = u at *
  generalize (fPairs y)[k]?.getD (0, 0) = v at *
  obtain ⟨u1, u2⟩ := u
  obtain ⟨v1, v2⟩ := v
  replace x0 : wr.cell? ⟨ba, oa + k * 2, none⟩ = some (.int .i64 u1) := x0
  replace x1 : wr.cell? ⟨ba, oa + k * 2 + 1, none⟩ = some (.int .i64 u2) := x1
  replace y0 : wr.cell? ⟨bb, ob + k * 2, none⟩ = some (.int .i64 v1) := y0
  replace y1 : wr.cell? ⟨bb, ob + k * 2 + 1, none⟩ = some (.int .i64 v2) := y1
  have p0 := fun z : Later wr => Zk x0 z
  have p1 := fun z : Later wr => Zk x1 z
  have r0 := fun z : Later wr => Zk y0 z
  have r1 := fun z : Later wr => Zk y1 z
  have p4 := fun z : Later wr => Zk a1 z
  have r4 := fun z : Later wr => Zk b1 z
  have hne5 := later_one wr
  have hq := pair_neq u1 u2 v1 v2
  go_upto_region 11 with fail
  clear x0 x1 y0 y1 a1 b1
  by_cases hxy : ((u1, u2) : Int × Int) = (v1, v2)
  ·have HU3 := Za (HU2.out hxy)
   have hb1 : (!(u1 == v1 && u2 == v2)) = false := by
    simp only [Prod.mk.injEq] at hxy
    obtain ⟨rfl, rfl⟩ := hxy
    simp
   rw [hb1] at hq
   clear hxy hb1
   refine Zz0 (by kernel_rfl) (by kernel_rfl) ?_
   repeat (go_big_quiet_step (fail))
   refine Ya ?_
   rintro _ ⟨z, rfl⟩
   have HG9 := Za (Zb HGW.out z.ok)
   go_wp2
   exact ⟨⟨k + 1, by omega, by go_num, HU3, HG9⟩, by simp [intOf]; omega⟩
  ·obtain rfl : r = false := Zj HR.out fun h => hxy (HX.out h)
   have hb1 : (!(u1 == v1 && u2 == v2)) = true := by
    rw [Bool.not_eq_true', Bool.eq_false_iff]
    intro h
    simp only [Yv, beq_iff_eq] at h
    apply hxy
    rw [h.1, h.2]
   rw [hb1] at hq
   clear hxy hb1
   refine Zz0 (by kernel_rfl) (by kernel_rfl) ?_
   repeat (go_big_quiet_step (fail))
   refine Ya ?_
   rintro _ ⟨z, rfl⟩
   have HG9 := Za (Zb HGW.out z.ok)
   go_wp2
   go_ret
   exact ⟨rfl, Zb HG.out HG9.out⟩
 obtain rfl : np = k := by omega
 have k1 : ¬ ((np : Int) < np) := by omega
 obtain rfl : r = true := HR.out.2 (fl_eq HPA.out HLE.out (list_eqD HP.out HP'.out HU.out))
 go_wp2
 go_ret
 exact ⟨rfl, Zb HG.out HGW.out⟩
theorem step_append_src {P : Program} {ops : Array Oper} {o : Oper} {a : Act} {w : World} {K : Act -> World -> Prop} {Q : Exit -> Act -> World -> Prop} {E : Prop} (hgd : o.guard = none) (s x : Operand) (t : TypeId)
  (ho : o.op = .call { callee := .builtin .append, args := #[s, x], argTypes := #[t, t] })
  (base : Nat) (e : TypeId) (i : TypeInfo) (z : Value) (size bytes : Nat) (ht : P.underlying t = some (.slice e)) (hi : P.info? e = some i) (hz : i.zero = some z)
  (hsize : i.size = size) (hby : i.bytes = bytes) (hzs : z.cells.size = size) (hsz : 0 < size)
  (v : Value) (n : Nat) (xs : List Value) (hs : a.eval s = v) (hown : w.ownsRow base e size v n xs)
  (px : Option Addr) (m c : Nat) (news : List Value) (hx : a.eval x = .slice px m c) (hl : news.length = m * size)
  (hsrc : (px = none /\ m = 0 /\ c = 0) ∨ ∃ ad, px = some ad /\ ∀ j u, news[j]? = some u -> w.cell? (ad.add j) = some u) (h1 : ∀ u ∈ news, u.oneCell' = true)
  (h63 : n + m <= maxLen) (hbytes : (n + m) * bytes <= 140737488355328) (hbase : base <= w.heap.size)
  (h : ∀ p' c' w', w'.ownsRow base e size (.slice p' (n + m) c') (n + m) (xs ++ news) -> w.grownBy w' v.ownBlock -> K (a.put o.dst (.slice p' (n + m) c')) w') :
  if Region.wanted o (yielded ops a.tmps) = true then Oper.wp P o a w K Q else E := by
 have hw : Region.wanted o (yielded ops a.tmps) = true := by simp [Region.wanted, hgd]
 rw [if_pos hw]
 rcases hsrc with ⟨rfl, rfl, rfl⟩ | ⟨ad, rfl, hnews⟩
 ·have hnl : news = [] := Xu (by omega)
  subst hnl
  obtain ⟨p', c', rfl⟩ := Xs hown
  have hrun := run_append_owned_none (P := P) (w := w) base t o.type e i size ht hi (.slice p' n c') n xs hown
  unfold Oper.wp
  simp [execOp, ho, resolve, invoke, builtin, hs, hx, hrun, Result.andThen]
  exact h p' c' w (by simpa using hown) (Zi _ _)
 ·refine wp_append_own w s x t ho base e i z size bytes ht hi hz hsize hby hzs hsz v n xs hs hown ad m c news hx hl hnews h1 h63 hbytes hbase fun v' w' h2 h3 _ => ?_
  obtain ⟨p', c', rfl⟩ := Xs h2
  exact h p' c' w' h2 h3
structure Env3 (W : World) (B lo hi lo' hi' lof hif : Nat) (p q p' q' pf : Option Addr) (n c m d n' c' m' d' nf : Nat) (L L' : List ByteArray) (P P' : List (Int × Int)) (f : List Int) : Prop where
 a : ObjAt W lo hi p n q m L P
 b : ObjAt W lo' hi' p' n' q' m' L' P'
 f : ZsAt W lof hif pf nf f
 b0 : W.cell? ⟨B, 0, none⟩ = some (.slice p n c)
 b1 : W.cell? ⟨B, 1, none⟩ = some (.slice q m d)
 b2 : W.cell? ⟨B + 1, 0, none⟩ = some (.slice p' n' c')
 b3 : W.cell? ⟨B + 1, 1, none⟩ = some (.slice q' m' d')
 top : B + 1 < W.heap.size
theorem Env3.calm {W W' : World} {B lo hi lo' hi' lof hif : Nat} {p q p' q' pf : Option Addr} {n c m d n' c' m' d' nf : Nat} {L L' : List ByteArray} {P P' : List (Int × Int)} {f : List Int} (h : Env3 W B lo hi lo' hi' lof hif p q p' q' pf n c m d n' c' m' d' nf L L' P P' f) (hg : W.grownBy W' none) : Env3 W' B lo hi lo' hi' lof hif p q p' q' pf n c m d n' c' m' d' nf L L' P P' f := by
 have ht := h.top
 have k0 := hg.block B (by omega) (by simp)
 have k1 := hg.block (B + 1) (by omega) (by simp)
 exact ⟨h.a.calm hg, h.b.calm hg, h.f.calm hg, (Zs (a := ⟨B, 0, none⟩) k0).trans h.b0, (Zs (a := ⟨B, 1, none⟩) k0).trans h.b1, (Zs (a := ⟨B + 1, 0, none⟩) k1).trans h.b2, (Zs (a := ⟨B + 1, 1, none⟩) k1).trans h.b3, Yt ht hg.size⟩
end Go.Proofs.YtnknejokneddbaaGreatDoor
