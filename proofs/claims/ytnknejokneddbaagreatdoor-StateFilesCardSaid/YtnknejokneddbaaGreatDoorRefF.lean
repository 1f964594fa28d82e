/- Contracts and plain facts, put together: RefF. -/
import Derived.OrdersIn
import Derived.RegionIn
import Derived.Stop.RegionWithIn
import Derived.Laws.AppendOwnNone
import Derived.Laws.CopyOwn
import Derived.Deep.AppendLies
import Derived.Test.YtnknejokneddbaaGreatDoorObja
import Derived.Test.YtnknejokneddbaaGreatDoorRelb
import Derived.Test.YtnknejokneddbaaGreatDoorMats
import Derived.Test.YtnknejokneddbaaGreatDoorArra
import Derived.Test.YtnknejokneddbaaGreatDoorRefSe
import Derived.Test.YtnknejokneddbaaGreatDoorStaM
import Derived.Test.YtnknejokneddbaaGreatDoorRefPa
import Derived.Test.YtnknejokneddbaaGreatDoorApps
import Derived.Test.YtnknejokneddbaaGreatDoorSplR
import Derived.Test.YtnknejokneddbaaGreatDoorRefSi
import Derived.Test.YtnknejokneddbaaGreatDoorLaw13
import Derived.Test.YtnknejokneddbaaGreatDoorFew12
import Derived.Test.YtnknejokneddbaaGreatDoorArgS
import Derived.Test.YtnknejokneddbaaGreatDoorArgT
import Derived.Test.YtnknejokneddbaaGreatDoorRefB
namespace Go.Proofs.YtnknejokneddbaaGreatDoor
open Go.RowKit

end Go.Proofs.YtnknejokneddbaaGreatDoor
/-! The contract of the iterator neighbours of package obj, which hands over each pair with the one behind it. -/
namespace Go.Proofs.YtnknejokneddbaaGreatDoor
open Go.RowKit Go.Shelf
attribute [local go_sem] Oper.semAt_some

end Go.Proofs.YtnknejokneddbaaGreatDoor
/-! The contract of rises of package obj: whether pairs rise. -/
namespace Go.Proofs.YtnknejokneddbaaGreatDoor
open Go.RowKit Go.Shelf
attribute [local go_sem] Oper.semAt_some

end Go.Proofs.YtnknejokneddbaaGreatDoor
/-! The contracts of read, Check, Is, Rel of package obj. -/
namespace Go.Proofs.YtnknejokneddbaaGreatDoor
open Go.RowKit

end Go.Proofs.YtnknejokneddbaaGreatDoor
/-! The contracts of fresh, Copy, Make, Same of package obj. -/
namespace Go.Proofs.YtnknejokneddbaaGreatDoor
open Go.RowKit

end Go.Proofs.YtnknejokneddbaaGreatDoor
/-! The contracts of slices.Equal over strings and pairs, Same of package obj. -/
namespace Go.Proofs.YtnknejokneddbaaGreatDoor
open Go.RowKit

theorem take_eqS {l1 l2 : List ByteArray} {k : Nat} (h1 : k < l1.length) (h2 : k < l2.length) (h : l1.take k = l2.take k) (e : l1[k]?.getD .empty = l2[k]?.getD .empty) : l1.take (k + 1) = l2.take (k + 1) := by
 rw [List.getElem?_eq_getElem h1, List.getElem?_eq_getElem h2] at e
 simp only [Option.getD_some] at e
 rw [List.take_succ_eq_append_getElem h1, List.take_succ_eq_append_getElem h2, h, e]

end Go.Proofs.YtnknejokneddbaaGreatDoor
/-! The contracts of Copy and Make of package obj. -/
namespace Go.Proofs.YtnknejokneddbaaGreatDoor
open Go.RowKit

end Go.Proofs.YtnknejokneddbaaGreatDoor

namespace Go.Proofs.YtnknejokneddbaaGreatDoor
open Go.RowKit

theorem take_eqZ {l1 l2 : List Int} {k : Nat} (h1 : k < l1.length) (h2 : k < l2.length) (h : l1.take k = l2.take k) (e : l1[k]?.getD 0 = l2[k]?.getD 0) : l1.take (k + 1) = l2.take (k + 1) := by
 rw [List.getElem?_eq_getElem h1, List.getElem?_eq_getElem h2] at e
 simp only [Option.getD_some] at e
 rw [List.take_succ_eq_append_getElem h1, List.take_succ_eq_append_getElem h2, h, e]

end Go.Proofs.YtnknejokneddbaaGreatDoor
/-! Package arrow: the contracts of keepsLabels, keepsPairs, Is, movesNothing, Inverse. -/
namespace Go.Proofs.YtnknejokneddbaaGreatDoor
open Go.RowKit

end Go.Proofs.YtnknejokneddbaaGreatDoor

namespace Go.Proofs.YtnknejokneddbaaGreatDoor
open Go.RowKit

end Go.Proofs.YtnknejokneddbaaGreatDoor
/-! RefSb -/
namespace Go.Proofs.YtnknejokneddbaaGreatDoor
open Go.RowKit

set_option maxRecDepth 20000 in
set_option maxHeartbeats 8000000 in
theorem refAlive_c (s : ByteArray) (ls : List Lne) (pl : Option Addr) (nl cl : Nat) (pp : Option Addr) (np cp : Nat) (lo hi : Nat) (w : World) (h : LnesAt w lo hi pl nl ls) (hn : nl ≤ 1000000) :
  Calls Tryz.prog 26 #[.agg #[.string s, .slice pl nl cl, .slice pp np cp]] w fun e w' => ∃ v, e = .returned v ∧ w'.ownsRow (w.heap.size + 1) 3 1 v (aliveL ls).length (zcells (aliveL ls)) ∧ w.grownBy w' none := by
 obtain ⟨i0, hi0, hz0, hz1, hz2⟩ := info_parts Tryz.infoZ3
 have HG := Lib.hid (World.grownBy_alloc w (.cells #[.string s, .slice pl nl cl, .slice pp np cp] 35) none)
 have HB := Lib.hid (BoxV.new w [.string s, .slice pl nl cl, .slice pp np cp] 35)
 have H := Lib.hid (h.calm HG.out)
 have HL := Lib.hid h.len
 have HS1 : Hid ((w.alloc (.cells #[.string s, .slice pl nl cl, .slice pp np cp] 35)).heap.size = w.heap.size + 1) := Lib.hid (by simp)
 clear h
 go_enter Tryz.func26, Tryz.ntmps26
 go_upto_region 1 with fail
 generalize World.alloc w _ = w1 at *
 generalize hg0 : w.heap.size = g at *
 go_wp2
 go_loopw [3, 4] (fun v i wr => ∃ (k : Nat) (q : Value), q = v ∧ k ≤ nl ∧ i = .int .i64 k ∧ Hid (wr.ownsRow w1.heap.size 3 1 q (aliveK ls k).length (zcells (aliveK ls k))) ∧ Hid (w1.grownBy wr none)) (fun _ i _ => nl - (intOf i).toNat)
 case atStart => exact ⟨0, _, rfl, Nat.zero_le _, rfl, Lib.hid (World.ownsRow_nil _ _ _ _), Lib.hid (grownBy_refl _ _)⟩
 case round =>
 obtain ⟨k, q, rfl, hk, rfl, HROW, HGW⟩ := hrel
 have b1 := (HB.out.calm HGW.out).cell (k := 1) rfl
 by_cases hkn : k < nl
 ·have k0 : (0 : Int) ≤ k := by omega
  have k1 : (k : Int) < nl := by omega
  obtain ⟨bl, ol, rfl, _, _, _, hc⟩ := (H.out.calm HGW.out).cell (by omega)
  obtain ⟨_, _, _, x3⟩ := hc k hkn
  have hal := aliveK_len ls k
  clear hc
  cases hd : nDead (ls[k]?.getD lne0) with
  | true =>
   rw [hd] at x3
   have HROW2 : Hid (wr.ownsRow w1.heap.size 3 1 q (aliveK ls (k + 1)).length (zcells (aliveK ls (k + 1)))) := Lib.hid (by
    have : aliveK ls (k + 1) = aliveK ls k := by show aliveK ls k ++ _ = _; rw [if_pos hd, List.append_nil]
    rw [this]
    exact HROW.out)
   clear hd
   go_wp2
   exact ⟨⟨k + 1, _, rfl, by omega, by go_num, HROW2, HGW⟩, by simp [intOf]; omega⟩
  | false =>
   rw [hd] at x3
   have HA : Hid (aliveK ls (k + 1) = aliveK ls k ++ [(k : Int)]) := Lib.hid (by show aliveK ls k ++ _ = _; rw [if_neg (by rw [hd]; decide)])
   have hsz : w1.heap.size ≤ wr.heap.size := HGW.out.size
   clear hd
   go_wp2_with (at_builtin; refine wpList_append_own _ rfl _ _ 42 rfl w1.heap.size 3 i0 (.int .i64 0) 1 8 Tryz.underlying42 hi0 hz0 hz1 hz2 rfl (by decide) _ _ _ rfl (HROW.out.alloc _) ⟨wr.heap.size, 0, none⟩ 1 1 [.int .i64 (k : Int)] rfl rfl (cell_one_new _ _ _) (by simp [Value.oneCell']) (by unfold maxLen; omega) (by omega) (by simp; omega) ?_; intro v' w2 hown' hgrow _; have HO := Lib.hid hown'; have HG3 := Lib.hid (grownBy_app HGW.out HROW.out hgrow); clear hown' hgrow)
   exact ⟨⟨k + 1, _, rfl, by omega, by go_num, Lib.hid (by rw [HA.out, zcells_snoc, List.length_append]; exact HO.out), HG3⟩, by simp [intOf]; omega⟩
 obtain rfl : nl = k := by omega
 have k1 : ¬ ((nl : Int) < nl) := by omega
 go_wp2
 go_ret
 exact ⟨_, rfl, by rw [← HS1.out]; unfold aliveL; rw [HL.out]; exact HROW.out, grownBy_trans HG.out HGW.out⟩

set_option maxRecDepth 20000 in
set_option maxHeartbeats 16000000 in
theorem refLeg_c (s : ByteArray) (ls : List Lne) (pl : Option Addr) (nl cl : Nat) (pp : Option Addr) (np cp : Nat) (s' : ByteArray) (ms : List Lne) (ql : Option Addr) (ml dl : Nat) (qp : Option Addr) (mp dp : Nat) (lo hi lo' hi' : Nat) (w : World)
  (h : LnesAt w lo hi pl nl ls) (h' : LnesAt w lo' hi' ql ml ms) (hn : nl ≤ 1000000) (hm : ml ≤ 1000000) :
  Calls Tryz.prog 23 #[.agg #[.string s, .slice pl nl cl, .slice pp np cp], .agg #[.string s', .slice ql ml dl, .slice qp mp dp]] w fun e w' => w.grownBy w' none ∧ ((∃ v, e = .returned (.tuple #[v, .bool true]) ∧ (∀ j, j < nl → 0 ≤ atV ms (nID (ls[j]?.getD lne0))) ∧ w'.ownsRow (w.heap.size + 2) 3 1 v nl (zcells (legK ls ms nl))) ∨
   (e = .returned (.tuple #[.slice none 0 0, .bool false]) ∧ ∃ j, j < nl ∧ atV ms (nID (ls[j]?.getD lne0)) < 0)) := by
 obtain ⟨i0, hi0, hz0, hz1, hz2⟩ := info_parts Tryz.infoZ3
 have HG := Lib.hid (grownBy_trans (World.grownBy_alloc w (.cells #[.string s, .slice pl nl cl, .slice pp np cp] 35) none) (World.grownBy_alloc _ (.cells #[.string s', .slice ql ml dl, .slice qp mp dp] 35) none))
 have HB := Lib.hid ((BoxV.new w [.string s, .slice pl nl cl, .slice pp np cp] 35).calm (World.grownBy_alloc _ (.cells #[.string s', .slice ql ml dl, .slice qp mp dp] 35) none))
 have HC := Lib.hid (BoxV.second w [.string s, .slice pl nl cl, .slice pp np cp] [.string s', .slice ql ml dl, .slice qp mp dp] 35 35)
 have HS1 : Hid (((w.alloc (.cells #[.string s, .slice pl nl cl, .slice pp np cp] 35)).alloc (.cells #[.string s', .slice ql ml dl, .slice qp mp dp] 35)).heap.size = w.heap.size + 2) := Lib.hid (by simp)
 have H := Lib.hid (h.calm HG.out)
 have H' := Lib.hid (h'.calm HG.out)
 have HL := Lib.hid h.len
 clear h h'
 go_enter Tryz.func23, Tryz.ntmps23
 go_upto_region 1 with fail
 generalize World.alloc w _ = w0 at *
 generalize World.alloc w0 _ = w1 at *
 generalize hg0 : w.heap.size = g at *
 go_wp2
 go_loopw [6, 7] (fun v i wr => ∃ (k : Nat) (q : Value), q = v ∧ k ≤ nl ∧ i = .int .i64 k ∧ Hid (∀ j, j < k → 0 ≤ atV ms (nID (ls[j]?.getD lne0))) ∧ Hid (wr.ownsRow w1.heap.size 3 1 q k (zcells (legK ls ms k))) ∧ Hid (w1.grownBy wr none)) (fun _ i _ => nl - (intOf i).toNat)
 case atStart => exact ⟨0, _, rfl, Nat.zero_le _, rfl, Lib.hid (fun j hj => absurd hj (Nat.not_lt_zero _)), Lib.hid (World.ownsRow_nil _ _ _ _), Lib.hid (grownBy_refl _ _)⟩
 case round =>
 obtain ⟨k, q, rfl, hk, rfl, HU, HROW, HGW⟩ := hrel
 have b1 := (HB.out.calm HGW.out).cell (k := 1) rfl
 by_cases hkn : k < nl
 ·have k0 : (0 : Int) ≤ k := by omega
  have k1 : (k : Int) < nl := by omega
  obtain ⟨bl, ol, rfl, _, _, _, hc⟩ := (H.out.calm HGW.out).cell (by omega)
  obtain ⟨x0, x1, _, _⟩ := hc k hkn
  obtain ⟨d0, d1, d2⟩ : wr.cell? ⟨g + 1, 0, none⟩ = some (.string s') ∧ wr.cell? ⟨g + 1, 1, none⟩ = some (.slice ql ml dl) ∧ wr.cell? ⟨g + 1, 2, none⟩ = some (.slice qp mp dp) := ⟨(HC.out.calm HGW.out).cell (k := 0) rfl, (HC.out.calm HGW.out).cell (k := 1) rfl, (HC.out.calm HGW.out).cell (k := 2) rfl⟩
  have HSU := Lib.hid (legK_succ (a := ls) (b := ms) (k := k) (by rw [HL.out]; exact hkn))
  have HU2 := Lib.hid (show 0 ≤ atV ms (nID (ls[k]?.getD lne0)) → ∀ j, j < k + 1 → 0 ≤ atV ms (nID (ls[j]?.getD lne0)) from fun h => upto_succ (q := fun j => 0 ≤ atV ms (nID (ls[j]?.getD lne0))) HU.out h)
  have HBD := Lib.hid (show atV ms (nID (ls[k]?.getD lne0)) < 0 → ∃ j, j < nl ∧ atV ms (nID (ls[j]?.getD lne0)) < 0 from fun h => ⟨k, hkn, h⟩)
  clear hc HU
  generalize nID (ls[k]?.getD lne0) = y at *
  obtain ⟨y1, y2⟩ := y
  replace x0 : wr.cell? ⟨bl, ol + k * 4, none⟩ = some (.int .u32 (y1 : Int)) := x0
  replace x1 : wr.cell? ⟨bl, ol + k * 4 + 1, none⟩ = some (.int .i64 y2) := x1
  have HCI : Hid (∀ X, wr.grownBy X none → Calls Tryz.prog 50 #[.agg #[.string s', .slice ql ml dl, .slice qp mp dp], .agg #[.int .u32 (y1 : Int), .int .i64 y2]] X fun e w' => e = .returned (.int .i64 (atV ms (y1, y2))) ∧ X.grownBy w' none) := Lib.hid fun X hX =>
   refAt_c s' ms y1 y2 ql ml dl qp mp dp _ _ X ((H'.out.calm HGW.out).calm hX) hm
  have HS : Hid (∀ X, wr.grownBy X none → X.cell? ⟨g, 1, none⟩ = some (.slice (some ⟨bl, ol, none⟩) nl cl) ∧ X.cell? ⟨g + 1, 0, none⟩ = some (.string s') ∧ X.cell? ⟨g + 1, 1, none⟩ = some (.slice ql ml dl) ∧ X.cell? ⟨g + 1, 2, none⟩ = some (.slice qp mp dp) ∧ X.cell? ⟨bl, ol + k * 4, none⟩ = some (.int .u32 (y1 : Int)) ∧ X.cell? ⟨bl, ol + k * 4 + 1, none⟩ = some (.int .i64 y2)) := Lib.hid fun X hX => ⟨cell_calmQ hX b1, cell_calmQ hX d0, cell_calmQ hX d1, cell_calmQ hX d2, cell_calmQ hX x0, cell_calmQ hX x1⟩
  go_upto_region 5 with fail
  have henv : wr.grownBy (World.drew wr) none := grownBy_drewN wr 1 none
  go_region_held3 (fun X => X.cell? ⟨g, 1, none⟩ = some (.slice (some ⟨bl, ol, none⟩) nl cl) ∧ X.cell? ⟨g + 1, 0, none⟩ = some (.string s') ∧ X.cell? ⟨g + 1, 1, none⟩ = some (.slice ql ml dl) ∧ X.cell? ⟨g + 1, 2, none⟩ = some (.slice qp mp dp) ∧ X.cell? ⟨bl, ol + k * 4, none⟩ = some (.int .u32 (y1 : Int)) ∧ X.cell? ⟨bl, ol + k * 4 + 1, none⟩ = some (.int .i64 y2))
   (first | exact HS.out _ henv | go_keep)
   (first | (go_at_call 50; (with_reducible refine (HCI.out _ henv).mono ?_); rintro e w7 ⟨rfl, hg⟩; have henv := grownBy_trans henv hg))
  have HGE := Lib.hid (grownBy_trans HGW.out henv)
  have HROW2 := Lib.hid (ownsRow_calm HROW.out henv)
  clear henv HS HCI x0 x1 b1 d0 d1 d2
  generalize atV ms (y1, y2) = z at *
  by_cases hz : z < 0
  ·have HB2 := Lib.hid (HBD.out hz)
   have HGZ := Lib.hid (grownBy_trans HG.out HGE.out)
   go_wp2
   go_ret2
   exact ⟨HGZ.out, .inr ⟨rfl, HB2.out⟩⟩
  ·have HU3 := Lib.hid (HU2.out (by omega))
   have hsz : w1.heap.size ≤ w7.heap.size := HGE.out.size
   go_wp2_with (at_builtin; refine wpList_append_own _ rfl _ _ 42 rfl w1.heap.size 3 i0 (.int .i64 0) 1 8 Tryz.underlying42 hi0 hz0 hz1 hz2 rfl (by decide) _ _ _ rfl (HROW2.out.alloc _) ⟨w7.heap.size, 0, none⟩ 1 1 [.int .i64 z] rfl rfl (cell_one_new _ _ _) (by simp [Value.oneCell']) (by unfold maxLen; omega) (by omega) (by simp; omega) ?_; intro v' w2 hown' hgrow _; have HO := Lib.hid hown'; have HG3 := Lib.hid (grownBy_app HGE.out HROW2.out hgrow); clear hown' hgrow)
   exact ⟨⟨k + 1, _, rfl, by omega, by go_num, HU3, Lib.hid (by rw [HSU.out, zcells_snoc]; exact HO.out), HG3⟩, by simp [intOf]; omega⟩
 obtain rfl : nl = k := by omega
 have k1 : ¬ ((nl : Int) < nl) := by omega
 go_wp2
 go_ret2
 exact ⟨grownBy_trans HG.out HGW.out, .inl ⟨_, rfl, HU.out, by rw [← HS1.out]; exact HROW.out⟩⟩

end Go.Proofs.YtnknejokneddbaaGreatDoor
/-! RefSc -/
namespace Go.Proofs.YtnknejokneddbaaGreatDoor
open Go.RowKit

end Go.Proofs.YtnknejokneddbaaGreatDoor
/-! RefSd -/
namespace Go.Proofs.YtnknejokneddbaaGreatDoor
open Go.RowKit

end Go.Proofs.YtnknejokneddbaaGreatDoor
/-! RefSe -/
namespace Go.Proofs.YtnknejokneddbaaGreatDoor
open Go.RowKit

end Go.Proofs.YtnknejokneddbaaGreatDoor

namespace Go.Proofs.YtnknejokneddbaaGreatDoor
open Go.RowKit

end Go.Proofs.YtnknejokneddbaaGreatDoor
/-! RefSh -/
namespace Go.Proofs.YtnknejokneddbaaGreatDoor
open Go.RowKit

end Go.Proofs.YtnknejokneddbaaGreatDoor
/-! RefSi -/
namespace Go.Proofs.YtnknejokneddbaaGreatDoor
open Go.RowKit

set_option maxRecDepth 20000 in
set_option maxHeartbeats 16000000 in
theorem refObj_c (s : ByteArray) (ls : List Lne) (Ps : List (Int × Int)) (pl : Option Addr) (nl cl : Nat) (pp : Option Addr) (np cp : Nat) (lo hi : Nat) (w : World) (h : LnesAt w lo hi pl nl ls) (h' : PairsAt w lo hi pp np Ps) (hp : pp = none → cp = 0) (hn : nl ≤ 100000) (hm : np ≤ 1000000) :
  Calls Tryz.prog 29 #[.agg #[.string s, .slice pl nl cl, .slice pp np cp]] w fun e w' => ∃ q cq p c, e = .returned (.agg #[.slice q nl cq, .slice p np c]) ∧ StrsAt w' w.heap.size w'.heap.size q nl (ls.map nTxt) ∧ PairsAt w' w.heap.size w'.heap.size p np Ps ∧ w.grownBy w' none := by
 obtain ⟨i0, hi0, hz0, hz1, hz2⟩ := info_parts infoPr
 obtain ⟨j0, hj0, jz0, jz1, jz2⟩ := info_parts Tryz.info9
 have HG := Lib.hid (grownBy_trans (World.grownBy_alloc w (.cells #[.string s, .slice pl nl cl, .slice pp np cp] 35) none) (World.grownBy_alloc _ (.cells #[.slice none 0 0, .slice none 0 0] 50) none))
 have HB := Lib.hid ((BoxV.new w [.string s, .slice pl nl cl, .slice pp np cp] 35).calm (World.grownBy_alloc _ (.cells #[.slice none 0 0, .slice none 0 0] 50) none))
 have HC := Lib.hid (BoxV.second w [.string s, .slice pl nl cl, .slice pp np cp] [.slice none 0 0, .slice none 0 0] 35 50)
 have HS1 : Hid (((w.alloc (.cells #[.string s, .slice pl nl cl, .slice pp np cp] 35)).alloc (.cells #[.slice none 0 0, .slice none 0 0] 50)).heap.size = w.heap.size + 2) := Lib.hid (by simp)
 have H := Lib.hid (h.calm HG.out)
 have H' := Lib.hid (h'.calm HG.out)
 have HL := Lib.hid h.len
 have HP := Lib.hid hp
 have HPL : Hid ((pcells Ps).length = np * 2) := Lib.hid (by rw [pcells_len, h'.len])
 have HSR := Lib.hid (pairs_srcP H'.out hp)
 clear h h' hp
 go_enter Tryz.func29, Tryz.ntmps29
 go_upto_region 1 with fail
 generalize World.alloc w _ = w0 at *
 generalize World.alloc w0 _ = w1 at *
 generalize hg0 : w.heap.size = g at *
 have HG0 : Hid (w.heap.size ≤ g) := Lib.hid (Nat.le_of_eq hg0)
 have HGE := Lib.hid hg0
 clear hg0
 obtain ⟨a0, a1, a2⟩ := HB.out.three
 go_upto_region 2 with (at_builtin; refine wpList_append_src rfl (.const (.slice none 0 0)) (.tmp 6) 33 rfl w1.heap.size 88 i0 (.agg #[.int .i64 0, .int .i64 0]) 2 16 Tryz.underlying33 hi0 hz0 hz1 hz2 rfl (by decide) (.slice none 0 0) 0 [] (by rfl) (World.ownsRow_nil _ _ _ _) pp np cp (pcells Ps) (by rfl) HPL.out HSR.out (pcells_one' _) (by unfold maxLen; omega) (by omega) (Nat.le_refl _) ?_; intro p1 c1 w2 hr1 hg1; rw [Nat.zero_add, List.nil_append] at hr1; rw [Nat.zero_add]; have HR1 := Lib.hid hr1; have HG1 : Hid (w1.grownBy w2 none) := Lib.hid hg1; clear hr1 hg1)
 have hpl : np = Ps.length := by have := HPL.out; rw [pcells_len] at this; omega
 have HPA := Lib.hid (show PairsAt w2 w1.heap.size w2.heap.size p1 np Ps from by
  have h := HR1.out
  rw [hpl] at h ⊢
  obtain ⟨p, c, e, ha⟩ := pairsAt_own h
  cases e
  exact ha)
 have HGA := Lib.hid (World.grownBy_alloc w2 (.cells #[.slice none 0 0, .slice p1 np c1] 50) none)
 have HB3 := Lib.hid (BoxV.new w2 [.slice none 0 0, .slice p1 np c1] 50)
 have H3L : Hid (g + 2 ≤ w2.heap.size) := Lib.hid (by have := HG1.out.size; have := HS1.out; omega)
 clear hpl a0 a1 a2 HR1
 have HE : Hid (ObE w (w2.alloc (.cells #[.slice none 0 0, .slice p1 np c1] 50)) g w2.heap.size [.string s, .slice pl nl cl, .slice pp np cp] none 0 0 p1 np c1 ls Ps 0) := Lib.hid ⟨(HB.out.calm HG1.out).calm HGA.out, (HC.out.calm HG1.out).calm HGA.out, HB3.out, World.ownsRow_nil _ _ _ _, by rw [← HS1.out]; exact HPA.out.calm HGA.out, grownBy_trans (grownBy_trans HG.out HG1.out) HGA.out, H3L.out⟩
 have HLA := Lib.hid (H.out.calm (grownBy_trans HG1.out HGA.out))
 generalize World.alloc w2 _ = w3 at *
 generalize w2.heap.size = g3 at *
 clear HPA HGA HB3 HG1
 go_wp2
 go_loopw [4] (fun v wr => ∃ (k : Nat) (q : Option Addr) (cq : Nat), k ≤ nl ∧ v = .int .i64 k ∧ Hid (ObE w wr g g3 [.string s, .slice pl nl cl, .slice pp np cp] q k cq p1 np c1 ls Ps k) ∧ Hid (LnesAt wr lo hi pl nl ls)) (fun v _ => nl - (intOf v).toNat)
 case atStart => exact ⟨0, none, 0, Nat.zero_le _, rfl, HE, HLA⟩
 case round =>
 clear HE HLA
 obtain ⟨k, q, cq, hk, rfl, HE, HLA⟩ := hrel
 have b1 := HE.out.bf.cell (k := 1) rfl
 by_cases hkn : k < nl
 ·have k0 : (0 : Int) ≤ k := by omega
  have k1 : (k : Int) < nl := by omega
  have HHI : Hid (hi ≤ g3) := Lib.hid (by
   obtain ⟨_, _, _, _, _, h3, _⟩ := H.out.cell (by omega)
   have := HS1.out
   have := HGE.out
   have := HE.out.g3l
   omega)
  obtain ⟨bl, ol, rfl, _, _, _, hc⟩ := HLA.out.cell (by omega)
  obtain ⟨_, _, x2, _⟩ := hc k hkn
  have HTS := Lib.hid (txtK_succ (ls := ls) (k := k) (by rw [HL.out]; exact hkn))
  clear hc
  generalize nTxt (ls[k]?.getD lne0) = y at *
  have hlt := HE.out.b3.lt
  have hg3 := HE.out.g3l
  have z0 := HE.out.b3.cell (k := 0) rfl
  have z0' := cell_calmQ (World.grownBy_alloc wr (.cells #[.string y] 9) none) z0
  go_upto_region 5 with fail
  go_region_law (refine step_append_src rfl (.tmp 17) (.tmp 24) 48 rfl (g3 + 1) 9 j0 (.string .empty) 1 16 Tryz.underlying48 hj0 jz0 jz1 jz2 rfl (by decide) (.slice q k cq) k (scells (txtK ls k)) (by rfl) (by exact ownsRow_calm HE.out.row (grownBy_trans (grownBy_drewN wr 1 none) (World.grownBy_alloc _ _ none))) (some ⟨wr.heap.size, 0, none⟩) 1 1 [.string y] (by rfl) rfl (.inr ⟨_, rfl, by exact World.news_of_block (BoxV.new wr.drew [.string y] 9)⟩) (by simp [Value.oneCell']) (by unfold maxLen; omega) (by omega) (by simp; omega) ?_; intro q' cq' w7 hr hg; have HR7 := Lib.hid hr; have HB7 := Lib.hid (box_far (by exact ownsRow_calm HE.out.row (grownBy_trans (grownBy_drewN wr 1 none) (World.grownBy_alloc _ _ none))) hg (by exact HE.out.b3.calm (grownBy_trans (grownBy_drewN wr 1 none) (World.grownBy_alloc _ _ none))) (by omega)); have HBF := Lib.hid (box_far (by exact ownsRow_calm HE.out.row (grownBy_trans (grownBy_drewN wr 1 none) (World.grownBy_alloc _ _ none))) hg (by exact HE.out.bf.calm (grownBy_trans (grownBy_drewN wr 1 none) (World.grownBy_alloc _ _ none))) (by omega)); have HB2 := Lib.hid (box_far (by exact ownsRow_calm HE.out.row (grownBy_trans (grownBy_drewN wr 1 none) (World.grownBy_alloc _ _ none))) hg (by exact HE.out.b2.calm (grownBy_trans (grownBy_drewN wr 1 none) (World.grownBy_alloc _ _ none))) (by omega)); have HSF := Lib.hid (stay_far (lo := 0) (hi := g3) (by exact ownsRow_calm HE.out.row (grownBy_trans (grownBy_drewN wr 1 none) (World.grownBy_alloc _ _ none))) hg (by omega) (by simp; omega)); have HPS := Lib.hid (show PairsAt w7 (g + 2) g3 p1 np Ps from PairsAt.stay (by exact HE.out.prs.calm (grownBy_trans (grownBy_drewN wr 1 none) (World.grownBy_alloc _ _ none))) ⟨HSF.out.size, fun i h1 h2 => HSF.out.block i (Nat.zero_le _) h2⟩); have HLN := Lib.hid (LnesAt.stay (lo := lo) (hi := hi) (by exact HLA.out.calm (grownBy_trans (grownBy_drewN wr 1 none) (World.grownBy_alloc _ _ none))) ⟨HSF.out.size, fun i h1 h2 => HSF.out.block i (Nat.zero_le _) (by have := HHI.out; omega)⟩); have HGR := Lib.hid (ownsRow_new (by exact grownBy_trans HE.out.gr (grownBy_trans (grownBy_drewN wr 1 none) (World.grownBy_alloc _ _ none))) (ownsRow_lowB (by exact ownsRow_calm HE.out.row (grownBy_trans (grownBy_drewN wr 1 none) (World.grownBy_alloc _ _ none))) (by have := HG0.out; omega)) hg); have t0 := HB7.out.cell (k := 0) rfl; have f0 := HB7.out.free 0; clear hr hg)
  all_goals
   clear z0 z0' x2 b1
   have HE2 : Hid (ObE w (w7.setCell ⟨g3, 0, none⟩ (.slice q' (k + 1 : Nat) cq')) g g3 [.string s, .slice (some ⟨bl, ol, none⟩) nl cl, .slice pp np cp] q' (k + 1) cq' p1 np c1 ls Ps (k + 1)) := Lib.hid ⟨keepOne HBF.out (by omega) 0 _, keepOne HB2.out (by omega) 0 _, HB7.out.set 0 _, ownsRow_setO (by rw [HTS.out, scells_snoc]; exact HR7.out) (by omega) 0 _, HPS.out.stay (stay_set (Stay.of (grownBy_refl w7 none) (by have := HB7.out.lt; omega)) (.inr (Nat.le_refl _)) 0 _ (by have := HB7.out.lt; omega)), grownBy_new HGR.out (grownBy_setCell _ _ _) (by show w.heap.size ≤ g3; have := HG0.out; omega), hg3⟩
   have HLN2 := Lib.hid (HLN.out.stay (stay_set (Stay.of (grownBy_refl w7 none) (by have := HB7.out.lt; have := HHI.out; omega)) (b := g3) (.inr HHI.out) 0 (.slice q' (k + 1 : Nat) cq') (by have := HB7.out.lt; have := HHI.out; omega)))
   clear HBF HB2 HB7 HSF HPS HLN HGR HR7 HE HLA
   go_wp2
   exact ⟨⟨k + 1, q', cq', by omega, by go_num, HE2, HLN2⟩, by simp [intOf]; omega⟩
 obtain rfl : nl = k := by omega
 have k1 : ¬ ((nl : Int) < nl) := by omega
 have hg3 := HE.out.g3l
 have hlt := HE.out.b3.lt
 have y0 := HE.out.b3.cell (k := 0) rfl
 have y1 := HE.out.b3.cell (k := 1) rfl
 have r0 := HE.out.b2.cell (k := 0) rfl
 have r1 := HE.out.b2.cell (k := 1) rfl
 have f0 := HE.out.b2.free 0
 have f1 := HE.out.b2.free 1
 have HNB := Lib.hid ((HE.out.b2.set 0 (.slice q nl cq)).set 1 (.slice p1 np c1))
 have HNG := Lib.hid (grownBy_new (grownBy_new HE.out.gr (grownBy_setCell wr ⟨g + 1, 0, none⟩ (.slice q nl cq)) (by show w.heap.size ≤ g + 1; have := HG0.out; omega)) (grownBy_setCell _ ⟨g + 1, 1, none⟩ (.slice p1 np c1)) (by show w.heap.size ≤ g + 1; have := HG0.out; omega))
 have HROW := Lib.hid (ownsRow_setO (ownsRow_setO HE.out.row (show g + 1 < g3 + 1 by omega) 0 (.slice q nl cq)) (show g + 1 < g3 + 1 by omega) 1 (.slice p1 np c1))
 have HPS := Lib.hid (HE.out.prs.stay (stay_set (stay_set (Stay.of (grownBy_refl wr none) (Nat.le_of_lt hlt)) (b := g + 1) (.inl (by omega)) 0 (.slice q nl cq) (Nat.le_of_lt hlt)) (b := g + 1) (.inl (by omega)) 1 (.slice p1 np c1) (Nat.le_of_lt hlt)))
 have HTX : Hid (txtK ls nl = ls.map nTxt) := Lib.hid (by unfold txtK; rw [List.take_of_length_le (by rw [HL.out]; exact Nat.le_refl _)])
 clear HE HLA
 go_wp2
 generalize World.setCell _ ⟨g + 1, 1, none⟩ _ = wy at *
 have z0 := HNB.out.cell (k := 0) rfl
 have z1 := HNB.out.cell (k := 1) rfl
 try simp only [Exit.inBlock, Exit.then]

 refine bodyPost_ret (v := .agg #[.slice q nl cq, .slice p1 np c1]) (by simp [results, Tryz.results29, go_sem, z0, z1]) rfl ?_
 rw [HTX.out] at HROW
 obtain ⟨q2, c2, e2, hs, _⟩ := strsAt_own3 (by rw [List.length_map, HL.out]) HROW.out
 cases e2
 first | refine ⟨q, cq, p1, c1, rfl, ?_, ?_, HNG.out⟩ | refine ⟨q, cq, p1, ⟨c1, rfl⟩, ?_, ?_, HNG.out⟩
 ·exact ⟨hs.len, fun h => by
   obtain ⟨b, off, e, h1, h2, h3, hc⟩ := hs.cell h
   exact ⟨b, off, e, by have := HG0.out; omega, h2, h3, hc⟩⟩
 ·have hp := HPS.out
  exact ⟨hp.len, fun h => by
   obtain ⟨b, off, e, h1, h2, h3, hc⟩ := hp.cell h
   exact ⟨b, off, e, by have := HG0.out; omega, by omega, Nat.le_refl _, hc⟩⟩

end Go.Proofs.YtnknejokneddbaaGreatDoor

namespace Go.Proofs.YtnknejokneddbaaGreatDoor
open Go.RowKit

/-- Lines' numbers rise. -/
def RightL (ls : List Lne) : Prop := ∀ j, j + 1 < ls.length → ltLn (nID (ls[j]?.getD lne0)) (nID (ls[j + 1]?.getD lne0)) = true
set_option maxRecDepth 8000 in
set_option maxHeartbeats 8000000 in
theorem right_c (s : ByteArray) (ls : List Lne) (pl : Option Addr) (nl cl : Nat) (pp : Option Addr) (np cp : Nat) (lo hi : Nat) (r : Bool) (w : World) (h : LnesAt w lo hi pl nl ls) (hn : nl ≤ 1000000) (hr : r = true ↔ RightL ls) :
  Calls Tryz.prog 21 #[.agg #[.string s, .slice pl nl cl, .slice pp np cp]] w fun e w' => e = .returned (.bool r) ∧ w.grownBy w' none := by
 have HG := Lib.hid (World.grownBy_alloc w (.cells #[.string s, .slice pl nl cl, .slice pp np cp] 35) none)
 have HB := Lib.hid (BoxV.new w [.string s, .slice pl nl cl, .slice pp np cp] 35)
 have H := Lib.hid (h.calm HG.out)
 have HL := Lib.hid h.len
 have HR := Lib.hid hr
 clear h hr
 go_enter Tryz.func21, Tryz.ntmps21
 go_upto_region 1 with fail
 generalize World.alloc w _ = w1 at *
 generalize w.heap.size = g at *
 go_wp2
 go_loopw [3] (fun v wr => ∃ k : Nat, (k + 1 ≤ nl ∨ k = 0) ∧ v = .int .i64 ((k + 1 : Nat) : Int) ∧ Hid (∀ j, j < k → ltLn (nID (ls[j]?.getD lne0)) (nID (ls[j + 1]?.getD lne0)) = true) ∧ Hid (w1.grownBy wr none)) (fun v _ => nl + 1 - (intOf v).toNat)
 case atStart => exact ⟨0, .inr rfl, rfl, Lib.hid (fun j hj => absurd hj (Nat.not_lt_zero _)), Lib.hid (grownBy_refl _ _)⟩
 case round =>
 obtain ⟨k, hk, rfl, HU, HGW⟩ := hrel
 have b1 := (HB.out.calm HGW.out).cell (k := 1) rfl
 by_cases hkn : k + 1 < nl
 ·obtain ⟨bl, ol, rfl, _, _, _, hc⟩ := (H.out.calm HGW.out).cell (by omega)
  obtain ⟨x0, x1, _, _⟩ := hc k (by omega)
  obtain ⟨y0, y1, _, _⟩ := hc (k + 1) hkn
  have HU2 := Lib.hid (show ltLn (nID (ls[k]?.getD lne0)) (nID (ls[k + 1]?.getD lne0)) = true → ∀ j, j < k + 1 → ltLn (nID (ls[j]?.getD lne0)) (nID (ls[j + 1]?.getD lne0)) = true from fun h => upto_succ (q := fun j => ltLn (nID (ls[j]?.getD lne0)) (nID (ls[j + 1]?.getD lne0)) = true) HU.out h)
  have HX := Lib.hid (show RightL ls → ltLn (nID (ls[k]?.getD lne0)) (nID (ls[k + 1]?.getD lne0)) = true from fun h => h k (by rw [HL.out]; exact hkn))
  have kw : IntKind.i64.wrap (((k + 1 : Nat) : Int) - 1) = (k : Int) := by rw [IntWalk.i64_in _ (by omega)]; omega
  have k0 : (0 : Int) ≤ (k : Int) := by omega
  have k1 : (k : Int) < nl := by omega
  have kp : (0 : Int) ≤ ((k + 1 : Nat) : Int) := by omega
  have kq : ((k + 1 : Nat) : Int) < nl := by omega
  clear hc HU
  generalize nID (ls[k]?.getD lne0) = u at *
  generalize nID (ls[k + 1]?.getD lne0) = v at *
  obtain ⟨u1, u2⟩ := u
  obtain ⟨v1, v2⟩ := v
  generalize hkk : k + 1 = kk at *
  have HKK := Lib.hid hkk
  clear hkk
  replace x0 : wr.cell? ⟨bl, ol + k * 4, none⟩ = some (.int .u32 (u1 : Int)) := x0
  replace x1 : wr.cell? ⟨bl, ol + k * 4 + 1, none⟩ = some (.int .i64 u2) := x1
  replace y0 : wr.cell? ⟨bl, ol + kk * 4, none⟩ = some (.int .u32 (v1 : Int)) := y0
  replace y1 : wr.cell? ⟨bl, ol + kk * 4 + 1, none⟩ = some (.int .i64 v2) := y1
  have q0 := fun z : Later wr => later_cell b1 z
  have q1 := fun z : Later wr => later_cell x0 z
  have q2 := fun z : Later wr => later_cell x1 z
  have q3 := fun z : Later wr => later_cell y0 z
  have q4 := fun z : Later wr => later_cell y1 z
  have hne5 := later_one wr
  go_upto_region 4 with fail
  clear x0 x1 y0 y1 b1
  cases h1 : ltLn (u1, u2) (v1, v2) with
  | true =>
   have hT := Lib.hid (fun z : Later wr => later_call (fun w' hg => refLess_c (u1, u2) (v1, v2) true w' h1.symm) z)
   have HU3 := Lib.hid (HU2.out h1)
   clear h1
   refine region_quiet_in (C := fun x => ∃ z : Later wr, x = z.at_) (by kernel_rfl) (by kernel_rfl) (later_drew wr) ?_
   repeat (go_big_quiet_step ((go_at_call 48; with_reducible exact hT.out _)))
   refine wpQuiet_nil ?_
   intro w' hw'
   obtain ⟨z, hz⟩ := hw'
   subst hz
   have HG9 := Lib.hid (grownBy_trans HGW.out z.ok)
   go_wp2
   exact ⟨⟨kk, by omega, by go_num, HU3, HG9⟩, by have := HKK.out; simp [intOf]; omega⟩
  | false =>
   have hT := Lib.hid (fun z : Later wr => later_call (fun w' hg => refLess_c (u1, u2) (v1, v2) false w' h1.symm) z)
   obtain rfl : r = false := no_false HR.out fun h => by have := HX.out h; rw [h1] at this; cases this
   clear h1
   refine region_quiet_in (C := fun x => ∃ z : Later wr, x = z.at_) (by kernel_rfl) (by kernel_rfl) (later_drew wr) ?_
   repeat (go_big_quiet_step ((go_at_call 48; with_reducible exact hT.out _)))
   refine wpQuiet_nil ?_
   intro w' hw'
   obtain ⟨z, hz⟩ := hw'
   subst hz
   have HG9 := Lib.hid (grownBy_trans HGW.out z.ok)
   go_wp2
   go_ret
   exact ⟨rfl, grownBy_trans HG.out HG9.out⟩
 have k1 : ¬ (((k + 1 : Nat) : Int) < nl) := by omega
 obtain rfl : r = true := HR.out.2 (fun j hj => HU.out j (by rw [HL.out] at hj; omega))
 go_wp2
 go_ret
 exact ⟨rfl, grownBy_trans HG.out HGW.out⟩

end Go.Proofs.YtnknejokneddbaaGreatDoor

namespace Go.Proofs.YtnknejokneddbaaGreatDoor
open Go.ChangeShapes Go.WideShapes Go.ChangeAt Go.WideMaps Go.WideElems Go.RowKit Go.Deep

section
variable {P : Program} {H : Type} {enc : TypeId × Value → H} {W : World} {fuel : Nat}
variable {tU tI tS tSs tUs tL tLs tE tEs tH tHs tP : TypeId} {fL fE fH fP : Array Field}
/-- The types of a file: booleans, lines, pairs. -/
structure STys (P : Program) (tL tB tS tI tN tNs tR tRs tF : TypeId) (fN fR fF : Array Field) : Prop where
 uB : P.underlying tB = some .bool
 cB : P.cellsOf tB = 1
 uN : P.underlying tN = some (.struct fN)
 cN : P.cellsOf tN = 4
 nN : fN.size = 3
 n0 : FldAt fN 0 tL 0
 n1 : FldAt fN 1 tS 2
 n2 : FldAt fN 2 tB 3
 uNs : P.underlying tNs = some (.slice tN)
 cNs : P.cellsOf tNs = 1
 uR : P.underlying tR = some (.struct fR)
 cR : P.cellsOf tR = 2
 nR : fR.size = 2
 r0 : FldAt fR 0 tI 0
 r1 : FldAt fR 1 tI 1
 uRs : P.underlying tRs = some (.slice tR)
 cRs : P.cellsOf tRs = 1
 uF : P.underlying tF = some (.struct fF)
 cF : P.cellsOf tF = 3
 nF : fF.size = 3
 f0 : FldAt fF 0 tS 0
 f1 : FldAt fF 1 tNs 1
 f2 : FldAt fF 2 tRs 2
variable {tB tN tNs tR tRs tF tPs : TypeId} {fN fR fF : Array Field}

theorem lneT (T : PTys P tU tI tS tSs tUs tL tLs tE tEs tH tHs tP fL fE fH fP) (S : STys P tL tB tS tI tN tNs tR tRs tF fN fR fF) {cs : List Value} {x : DataW H × List MemPlace} (hf : DataW.trod enc P W 0 (fun _ => true) true fuel tN cs = some x) :
  ∃ (a : Nat) (b : Int) (s : ByteArray) (d : Bool), cs = [.int .u32 (a : Int), .int .i64 b, .string s, .bool d] ∧ a < 4294967296 ∧ -9223372036854775808 ≤ b ∧ b ≤ 9223372036854775807 := by
 obtain ⟨ys, n', _, _, hlen, hyl, hfd⟩ := DataW.trod_struct S.uN hf
 rw [S.cN] at hlen
 rw [S.nN] at hyl
 obtain ⟨f0, e0, t0, o0⟩ := S.n0.ex
 obtain ⟨f1, e1, t1, o1⟩ := S.n1.ex
 obtain ⟨f2, e2, t2, o2⟩ := S.n2.ex
 have g0 := hfd 0 f0 e0
 have g1 := hfd 1 f1 e1
 have g2 := hfd 2 f2 e2
 rw [t0, o0, T.cL] at g0
 rw [t1, o1, T.cS] at g1
 rw [t2, o2, S.cB] at g2
 match cs, hlen, ys, hyl with
 | [v0, v1, v2, v3], _, [y0, y1, y2], _ =>
  have k0 : DataW.trod enc P W 0 (fun _ => true) true n' tL [v0, v1] = some y0 := g0
  have k1 : DataW.trod enc P W 0 (fun _ => true) true n' tS [v2] = some y1 := g1
  have k2 : DataW.trod enc P W 0 (fun _ => true) true n' tB [v3] = some y2 := g2
  obtain ⟨a, b, e0, ha⟩ := lnT2 T k0
  obtain ⟨s, hs, _⟩ := DataW.trod_string T.uS k1
  obtain ⟨d, hd, _⟩ := DataW.trod_bool S.uB k2
  simp only [List.cons.injEq, and_true] at e0 hs hd
  exact ⟨a, b, s, d, by rw [e0.1, e0.2, hs, hd], ha⟩
theorem lnesT (T : PTys P tU tI tS tSs tUs tL tLs tE tEs tH tHs tP fL fE fH fP) (S : STys P tL tB tS tI tN tNs tR tRs tF fN fR fF) {v : Value} {x : DataW H × List MemPlace} (hf : DataW.trod enc P W 0 (fun _ => true) true fuel tNs [v] = some x) :
  ∃ p L c l, v = .slice p L c ∧ LnesAt W 0 W.heap.size p L l ∧ (∀ x ∈ l, (nID x).1 < 4294967296 ∧ -9223372036854775808 ≤ (nID x).2 ∧ (nID x).2 ≤ 9223372036854775807) ∧ L ≤ c ∧ (p = none → c = 0) ∧ L ≤ maxLen := by
 rcases open_slice S.uNs hf with ⟨hcs, _⟩ | ⟨a, len, cap, m, n, D, Pl, hcs, _, hl, hm, hmm, _, hi⟩
 ·simp only [List.cons.injEq, and_true] at hcs
  subst hcs
  exact ⟨none, 0, 0, [], rfl, lnesAt_nil _ _ _, (fun x hx => by cases hx), Nat.le_refl _, fun _ => rfl, Nat.zero_le _⟩
 ·simp only [List.cons.injEq, and_true] at hcs
  subst hcs
  simp only [if_true] at hmm
  have key : ∀ i, i < len → ∃ x : Lne, (W.cell? (a.add (i * 4)) = some (.int .u32 (((nID x).1 : Nat) : Int)) ∧ W.cell? ((a.add (i * 4)).add 1) = some (.int .i64 (nID x).2) ∧ W.cell? ((a.add (i * 4)).add 2) = some (.string (nTxt x)) ∧ W.cell? ((a.add (i * 4)).add 3) = some (.bool (nDead x))) ∧
    (nID x).1 < 4294967296 ∧ -9223372036854775808 ≤ (nID x).2 ∧ (nID x).2 ≤ 9223372036854775807 := by
   intro i hil
   obtain ⟨cs', hc, ht⟩ := hi i (by omega)
   rw [S.cN] at hc
   obtain ⟨_, hcl, hat⟩ := World.cells?_some hc
   obtain ⟨u, v, s, d, rfl, hu⟩ := lneT T S ht
   have c0 := hat 0 (by omega)
   rw [add_zero'] at c0
   exact ⟨((u, v), s, d), ⟨c0, hat 1 (by omega), hat 2 (by omega), hat 3 (by omega)⟩, hu⟩
  obtain ⟨l, hll, hS⟩ := list_ofT lne0 key
  refine ⟨some a, len, cap, l, rfl, ⟨hll, fun hn => ?_⟩, fun x hx => ?_, hl, (fun h => by cases h), Nat.le_trans hl hm⟩
  ·obtain ⟨⟨hc0, _⟩, _⟩ := hS 0 hn
   rw [Nat.zero_mul, add_zero'] at hc0
   obtain ⟨b, off, rfl⟩ := cell_plain hc0
   refine ⟨b, off, rfl, Nat.zero_le _, cell_lt hc0, Nat.le_refl _, fun i hil => ?_⟩
   have hs := (hS i hil).1
   simp only [add_plain] at hs
   exact hs
  ·obtain ⟨i, hi', rfl⟩ := List.getElem_of_mem hx
   have hs := (hS i (by omega)).2
   rwa [List.getElem?_eq_getElem hi'] at hs
theorem prT (T : PTys P tU tI tS tSs tUs tL tLs tE tEs tH tHs tP fL fE fH fP) (S : STys P tL tB tS tI tN tNs tR tRs tF fN fR fF) {cs : List Value} {x : DataW H × List MemPlace} (hf : DataW.trod enc P W 0 (fun _ => true) true fuel tR cs = some x) :
  ∃ a b : Int, cs = [.int .i64 a, .int .i64 b] := by
 obtain ⟨ys, n', _, _, hlen, hyl, hfd⟩ := DataW.trod_struct S.uR hf
 rw [S.cR] at hlen
 rw [S.nR] at hyl
 obtain ⟨f0, e0, t0, o0⟩ := S.r0.ex
 obtain ⟨f1, e1, t1, o1⟩ := S.r1.ex
 have g0 := hfd 0 f0 e0
 have g1 := hfd 1 f1 e1
 rw [t0, o0, T.cI] at g0
 rw [t1, o1, T.cI] at g1
 match cs, hlen, ys, hyl with
 | [v0, v1], _, [y0, y1], _ =>
  have k0 : DataW.trod enc P W 0 (fun _ => true) true n' tI [v0] = some y0 := g0
  have k1 : DataW.trod enc P W 0 (fun _ => true) true n' tI [v1] = some y1 := g1
  obtain ⟨a, ea, _⟩ := DataW.trod_int T.uI k0
  obtain ⟨b, eb, _⟩ := DataW.trod_int T.uI k1
  simp only [List.cons.injEq, and_true] at ea eb
  exact ⟨a, b, by rw [ea, eb]⟩
theorem prsT (T : PTys P tU tI tS tSs tUs tL tLs tE tEs tH tHs tP fL fE fH fP) (S : STys P tL tB tS tI tN tNs tR tRs tF fN fR fF) {v : Value} {x : DataW H × List MemPlace} (hf : DataW.trod enc P W 0 (fun _ => true) true fuel tRs [v] = some x) :
  ∃ p L c l, v = .slice p L c ∧ PairsAt W 0 W.heap.size p L l ∧ L ≤ c ∧ (p = none → c = 0) ∧ L ≤ maxLen := by
 rcases open_slice S.uRs hf with ⟨hcs, _⟩ | ⟨a, len, cap, m, n, D, Pl, hcs, _, hl, hm, hmm, _, hi⟩
 ·simp only [List.cons.injEq, and_true] at hcs
  subst hcs
  exact ⟨none, 0, 0, [], rfl, ⟨rfl, fun h => absurd h (by omega)⟩, Nat.le_refl _, fun _ => rfl, Nat.zero_le _⟩
 ·simp only [List.cons.injEq, and_true] at hcs
  subst hcs
  simp only [if_true] at hmm
  have key : ∀ i, i < len → ∃ x : Int × Int, W.cell? (a.add (i * 2)) = some (.int .i64 x.1) ∧ W.cell? ((a.add (i * 2)).add 1) = some (.int .i64 x.2) := by
   intro i hil
   obtain ⟨cs', hc, ht⟩ := hi i (by omega)
   rw [S.cR] at hc
   obtain ⟨_, hcl, hat⟩ := World.cells?_some hc
   obtain ⟨u, v, rfl⟩ := prT T S ht
   have c0 := hat 0 (by omega)
   rw [add_zero'] at c0
   exact ⟨(u, v), c0, hat 1 (by omega)⟩
  obtain ⟨l, hll, hS⟩ := list_ofT ((0, 0) : Int × Int) key
  refine ⟨some a, len, cap, l, rfl, ⟨hll, fun hn => ?_⟩, hl, (fun h => by cases h), Nat.le_trans hl hm⟩
  obtain ⟨hc0, _⟩ := hS 0 hn
  rw [Nat.zero_mul, add_zero'] at hc0
  obtain ⟨b, off, rfl⟩ := cell_plain hc0
  refine ⟨b, off, rfl, Nat.zero_le _, cell_lt hc0, Nat.le_refl _, fun i hil => ?_⟩
  have hs := hS i hil
  simp only [add_plain] at hs
  exact hs
/-- A file that came in. -/
structure FArg (w : World) (pl : Option Addr) (nl cl : Nat) (pp : Option Addr) (np cp : Nat) (f : Fl) : Prop where
 at' : FlAt w 0 w.heap.size pl nl cl pp np cp f
 num : ∀ x ∈ fLines f, (nID x).1 < 4294967296 ∧ -9223372036854775808 ≤ (nID x).2 ∧ (nID x).2 ≤ 9223372036854775807
 ml : nl ≤ maxLen
 mp : np ≤ maxLen
theorem flT (T : PTys P tU tI tS tSs tUs tL tLs tE tEs tH tHs tP fL fE fH fP) (S : STys P tL tB tS tI tN tNs tR tRs tF fN fR fF) {cs : List Value} {x : DataW H × List MemPlace} (hf : DataW.trod enc P W 0 (fun _ => true) true fuel tF cs = some x) :
  ∃ (s : ByteArray) (pl : Option Addr) (nl cl : Nat) (pp : Option Addr) (np cp : Nat) (f : Fl), cs = [.string s, .slice pl nl cl, .slice pp np cp] ∧ fPath f = s ∧ FArg W pl nl cl pp np cp f := by
 obtain ⟨ys, n', _, _, hlen, hyl, hfd⟩ := DataW.trod_struct S.uF hf
 rw [S.cF] at hlen
 rw [S.nF] at hyl
 obtain ⟨f0, e0, t0, o0⟩ := S.f0.ex
 obtain ⟨f1, e1, t1, o1⟩ := S.f1.ex
 obtain ⟨f2, e2, t2, o2⟩ := S.f2.ex
 have g0 := hfd 0 f0 e0
 have g1 := hfd 1 f1 e1
 have g2 := hfd 2 f2 e2
 rw [t0, o0, T.cS] at g0
 rw [t1, o1, S.cNs] at g1
 rw [t2, o2, S.cRs] at g2
 match cs, hlen, ys, hyl with
 | [v0, v1, v2], _, [y0, y1, y2], _ =>
  have k0 : DataW.trod enc P W 0 (fun _ => true) true n' tS [v0] = some y0 := g0
  have k1 : DataW.trod enc P W 0 (fun _ => true) true n' tNs [v1] = some y1 := g1
  have k2 : DataW.trod enc P W 0 (fun _ => true) true n' tRs [v2] = some y2 := g2
  obtain ⟨s, hs, _⟩ := DataW.trod_string T.uS k0
  simp only [List.cons.injEq, and_true] at hs
  obtain ⟨pl, nl, cl, l, rfl, h1, h2, h3, h4, h5⟩ := lnesT T S k1
  obtain ⟨pp, np, cp, r, rfl, k1, k2, k3, k4⟩ := prsT T S k2
  exact ⟨s, pl, nl, cl, pp, np, cp, (s, l, r), by rw [hs], rfl, ⟨h1, k1, h3, k2, h4, k3⟩, h2, h5, k4⟩
end

theorem staTys : STys Tryz.prog 60 4 9 3 62 32 88 33 35 (Tryz.prog.fieldsOf 62) (Tryz.prog.fieldsOf 88) (Tryz.prog.fieldsOf 35) where
 uB := by kernel_rfl
 cB := by kernel_rfl
 uN := by kernel_rfl
 cN := by kernel_rfl
 nN := by kernel_rfl
 n0 := by unfold FldAt; kernel_rfl
 n1 := by unfold FldAt; kernel_rfl
 n2 := by unfold FldAt; kernel_rfl
 uNs := by kernel_rfl
 cNs := by kernel_rfl
 uR := by kernel_rfl
 cR := by kernel_rfl
 nR := by kernel_rfl
 r0 := by unfold FldAt; kernel_rfl
 r1 := by unfold FldAt; kernel_rfl
 uRs := by kernel_rfl
 cRs := by kernel_rfl
 uF := by kernel_rfl
 cF := by kernel_rfl
 nF := by kernel_rfl
 f0 := by unfold FldAt; kernel_rfl
 f1 := by unfold FldAt; kernel_rfl
 f2 := by unfold FldAt; kernel_rfl
set_option maxRecDepth 20000 in
theorem fileAt_of {H : Type} {enc : TypeId × Value → H} {W : World} {base : Nat} {v : Value} {d : DataW H} {ps : List MemPlace} (hok : Value.okWide Tryz.prog W .any base 35 v)
  (h : DataW.Trod enc Tryz.prog W 0 (fun _ => true) true 35 v d ps) : ∃ (pl : Option Addr) (nl cl : Nat) (pp : Option Addr) (np cp : Nat) (f : Fl), v = .agg #[.string (fPath f), .slice pl nl cl, .slice pp np cp] ∧ FArg W pl nl cl pp np cp f := by
 obtain ⟨cs, rfl, hsz⟩ := okWide_struct Tryz.underlying35 hok
 obtain ⟨fuel, hf⟩ := h
 obtain ⟨s, pl, nl, cl, pp, np, cp, f, e, e2, ha⟩ := flT patTys staTys hf
 obtain ⟨cl'⟩ := cs
 have e' : cl' = _ := e
 subst e'
 subst e2
 exact ⟨pl, nl, cl, pp, np, cp, f, rfl, ha⟩
end Go.Proofs.YtnknejokneddbaaGreatDoor

namespace Go.Proofs.YtnknejokneddbaaGreatDoor
open Go.RowKit

end Go.Proofs.YtnknejokneddbaaGreatDoor
/-! The contracts of the reference's IsTransitive, Check, Is, Rel, Make, Same. -/
namespace Go.Proofs.YtnknejokneddbaaGreatDoor
open Go.RowKit

end Go.Proofs.YtnknejokneddbaaGreatDoor
/-! The contracts of the reference's Make and Same. -/
namespace Go.Proofs.YtnknejokneddbaaGreatDoor
open Go.RowKit

set_option maxRecDepth 20000 in
set_option maxHeartbeats 2000000 in
theorem refSame_r (p q p' q' : Option Addr) (n c m d n' c' m' d' lo hi lo' hi' : Nat) (L L' : List ByteArray) (P P' : List (Int × Int)) (r : Bool) (w : World) (h : ObjAt w lo hi p n q m L P) (h' : ObjAt w lo' hi' p' n' q' m' L' P') (hn : n ≤ 1000000) (hm : m ≤ 1000000)
  (hr : (decide (L = L') && decide (P = P')) = r) :
  Calls Tryz.prog 27 #[.agg #[.slice p n c, .slice q m d], .agg #[.slice p' n' c', .slice q' m' d']] w fun e w' => e = .returned (.bool r) ∧ w.grownBy w' none := by
 have hg0 := grownBy_trans (World.grownBy_alloc w (.cells #[.slice p n c, .slice q m d] 50) none) (World.grownBy_alloc _ (.cells #[.slice p' n' c', .slice q' m' d'] 50) none)
 have H1 := Lib.hid (h.calm hg0)
 have H2 := Lib.hid (h'.calm hg0)
 have HL1 := Lib.hid h.ls.len
 have HL2 := Lib.hid h'.ls.len
 have HP1 := Lib.hid h.ps.len
 have HP2 := Lib.hid h'.ps.len
 have HR := Lib.hid hr
 have HG0 := Lib.hid hg0
 clear h h' hg0 hr
 by_cases hl : n = n'
 ·obtain rfl : n = n' := hl
  have hb : ((n : Int) != (n : Int)) = false := by simp
  by_cases hl2 : m = m'
  ·obtain rfl : m = m' := hl2
   have hb2 : ((m : Int) != (m : Int)) = false := by simp
   go_enter Tryz.func27, Tryz.ntmps27
   go_wp2
   go_loopw [5] (fun i wr => ∃ k : Nat, k ≤ n ∧ i = .int .i64 k ∧ Hid (L.take k = L'.take k) ∧ ((w.alloc (.cells #[.slice p n c, .slice q m d] 50)).alloc (.cells #[.slice p' n c', .slice q' m d'] 50)).grownBy wr none) (fun i _ => n - (intOf i).toNat)
   case atStart => exact ⟨0, Nat.zero_le _, rfl, Lib.hid rfl, grownBy_refl _ _⟩
   case round =>
    obtain ⟨k, hk, rfl, HT, hgr⟩ := hrel
    obtain ⟨⟨b0, b1⟩, ⟨b2, b3⟩, hgw⟩ := box22 hgr
    by_cases hkn : k < n
    ·obtain ⟨g1, o1, rfl, q1, q2, q3, hc1⟩ := (H1.out.calm hgr).ls.cell (by omega)
     obtain ⟨g2, o2, rfl, r1, r2, r3, hc2⟩ := (H2.out.calm hgr).ls.cell (by omega)
     have x1 := hc1 k hkn
     have y1 := hc2 k hkn
     clear hc1 hc2
     have k0 : (0 : Int) ≤ k := by omega
     have k1 : (k : Int) < n := by omega
     by_cases heq : L[k]?.getD .empty = L'[k]?.getD .empty
     ·have HT2 := Lib.hid (take_eqS (by rw [HL1.out]; exact hkn) (by rw [HL2.out]; exact hkn) HT.out heq)
      have hN : ((L[k]?.getD .empty).toList == (L'[k]?.getD .empty).toList) = true := by rw [str_eq]; simpa using heq
      clear heq
      generalize L[k]?.getD .empty = u at *
      generalize L'[k]?.getD .empty = v at *
      go_wp2
      go_quiet (fail)
      go_wp2
      exact ⟨⟨k + 1, by omega, by go_num, HT2, grownBy_trans hgr (grownBy_drewN _ _ none)⟩, by simp [intOf]; omega⟩
     ·have hN : ((L[k]?.getD .empty).toList == (L'[k]?.getD .empty).toList) = false := by rw [str_eq]; simpa using heq
      have hrf : r = false := by
       rw [← HR.out, Bool.and_eq_false_iff]
       refine .inl (decide_eq_false fun e => heq (by rw [e]))
      subst hrf
      clear heq
      generalize L[k]?.getD .empty = u at *
      generalize L'[k]?.getD .empty = v at *
      go_wp2
      go_quiet (fail)
      go_wp2
      go_ret
      exact ⟨rfl, grownBy_trans hgw (grownBy_drewN _ _ none)⟩
    ·obtain rfl : n = k := by omega
     have k1 : ¬ ((n : Int) < n) := by omega
     have hLL : L = L' := by
      have := HT.out
      rw [List.take_of_length_le (by rw [HL1.out]; exact Nat.le_refl _), List.take_of_length_le (by rw [HL2.out]; exact Nat.le_refl _)] at this
      exact this
     have HR2 : Hid (decide (P = P') = r) := Lib.hid (by rw [← HR.out, hLL]; simp)
     clear hLL
     generalize wr = wo at *
     go_wp2
     go_loopw [6] (fun i wr => ∃ k : Nat, k ≤ m ∧ i = .int .i64 k ∧ Hid (P.take k = P'.take k) ∧ ((w.alloc (.cells #[.slice p n c, .slice q m d] 50)).alloc (.cells #[.slice p' n c', .slice q' m d'] 50)).grownBy wr none) (fun i _ => m - (intOf i).toNat)
     case atStart => exact ⟨0, Nat.zero_le _, rfl, Lib.hid rfl, hgr⟩
     case round =>
      obtain ⟨j, hj, rfl, HTP, hgj⟩ := hrel
      obtain ⟨⟨b0, b1⟩, ⟨b2, b3⟩, hgv⟩ := box22 hgj
      by_cases hjm : j < m
      ·obtain ⟨g1, o1, rfl, q1, q2, q3, hc1⟩ := (H1.out.calm hgj).ps.cell (by omega)
       obtain ⟨g2, o2, rfl, r1, r2, r3, hc2⟩ := (H2.out.calm hgj).ps.cell (by omega)
       obtain ⟨x1, x2⟩ := hc1 j hjm
       obtain ⟨y1, y2⟩ := hc2 j hjm
       clear hc1 hc2
       have j0 : (0 : Int) ≤ j := by omega
       have j1 : (j : Int) < m := by omega
       have hN := pair_neq (P[j]?.getD (0, 0)).1 (P[j]?.getD (0, 0)).2 (P'[j]?.getD (0, 0)).1 (P'[j]?.getD (0, 0)).2
       by_cases heq : P[j]?.getD (0, 0) = P'[j]?.getD (0, 0)
       ·have e1 : (!((P[j]?.getD (0, 0)).1 == (P'[j]?.getD (0, 0)).1 && (P[j]?.getD (0, 0)).2 == (P'[j]?.getD (0, 0)).2)) = false := by rw [heq]; simp
        rw [e1] at hN
        have HT2 := Lib.hid (take_eq_succ (by rw [HP1.out]; exact hjm) (by rw [HP2.out]; exact hjm) HTP.out heq)
        clear heq e1
        generalize P[j]?.getD (0, 0) = u at *
        generalize P'[j]?.getD (0, 0) = v at *
        go_wp2
        go_quiet (fail)
        go_wp2
        exact ⟨⟨j + 1, by omega, by go_num, HT2, grownBy_trans hgj (grownBy_drewN _ _ none)⟩, by simp [intOf]; omega⟩
       ·have e1 : (!((P[j]?.getD (0, 0)).1 == (P'[j]?.getD (0, 0)).1 && (P[j]?.getD (0, 0)).2 == (P'[j]?.getD (0, 0)).2)) = true := by
         rw [Bool.not_eq_true', Bool.and_eq_false_iff, beq_eq_false_iff_ne, beq_eq_false_iff_ne]
         by_cases e0 : (P[j]?.getD (0, 0)).1 = (P'[j]?.getD (0, 0)).1
         ·exact .inr fun e2 => heq (Prod.ext e0 e2)
         ·exact .inl e0
        rw [e1] at hN
        have hrf : r = false := by
         rw [← HR2.out]
         exact decide_eq_false fun e => heq (by rw [e])
        subst hrf
        clear heq e1
        generalize P[j]?.getD (0, 0) = u at *
        generalize P'[j]?.getD (0, 0) = v at *
        go_wp2
        go_quiet (fail)
        go_wp2
        go_ret
        exact ⟨rfl, grownBy_trans hgv (grownBy_drewN _ _ none)⟩
      ·obtain rfl : m = j := by omega
       have j1 : ¬ ((m : Int) < m) := by omega
       have hrt : r = true := by
        have := HTP.out
        rw [List.take_of_length_le (by rw [HP1.out]; exact Nat.le_refl _), List.take_of_length_le (by rw [HP2.out]; exact Nat.le_refl _)] at this
        rw [← HR2.out]
        simpa using this
       subst hrt
       go_wp2
       go_ret
       exact ⟨rfl, hgv⟩
  ·have hb2 : ((m : Int) != (m' : Int)) = true := by simp; omega
   have hrf : r = false := by
    rw [← HR.out, Bool.and_eq_false_iff]
    exact .inr (decide_eq_false fun e => hl2 (by rw [← HP1.out, ← HP2.out, e]))
   subst hrf
   clear hl2
   go_enter Tryz.func27, Tryz.ntmps27
   go_wp2
   go_ret
   exact ⟨rfl, HG0.out⟩
 ·have hb : ((n : Int) != (n' : Int)) = true := by simp; omega
  have hrf : r = false := by
   rw [← HR.out, Bool.and_eq_false_iff]
   exact .inl (decide_eq_false fun e => hl (by rw [← HL1.out, ← HL2.out, e]))
  subst hrf
  clear hl
  go_enter Tryz.func27, Tryz.ntmps27
  go_wp2
  go_ret
  exact ⟨rfl, HG0.out⟩

end Go.Proofs.YtnknejokneddbaaGreatDoor

namespace Go.Proofs.YtnknejokneddbaaGreatDoor
open Go.RowKit

set_option maxHeartbeats 1000000 in
theorem alike_r (p1 p2 : Option Addr) (n1 n2 c1 c2 lo1 hi1 lo2 hi2 : Nat) (l1 l2 : List Int) (r : Bool) (w : World) (h1 : ZsAt w lo1 hi1 p1 n1 l1) (h2 : ZsAt w lo2 hi2 p2 n2 l2) (hs : n1 ≤ 1000000) (hr : decide (l1 = l2) = r) :
  Calls Tryz.prog 24 #[.slice p1 n1 c1, .slice p2 n2 c2] w fun e w' => e = .returned (.bool r) ∧ w.grownBy w' none := by
 by_cases hl : n1 = n2
 ·obtain rfl : n1 = n2 := hl
  have hb : ((n1 : Int) != (n1 : Int)) = false := by simp
  have H1 := Lib.hid h1
  have H2 := Lib.hid h2
  have HR := Lib.hid hr
  clear h1 h2 hr
  go_enter Tryz.func24, Tryz.ntmps24
  go_wp2
  go_loopw [5] (fun i wr => ∃ k : Nat, k ≤ n1 ∧ i = .int .i64 k ∧ Hid (l1.take k = l2.take k) ∧ w.grownBy wr none) (fun i _ => n1 - (intOf i).toNat)
  case atStart => exact ⟨0, Nat.zero_le _, rfl, Lib.hid rfl, grownBy_refl _ _⟩
  case round =>
   obtain ⟨k, hk, rfl, HT, hgr⟩ := hrel
   by_cases hkn : k < n1
   ·obtain ⟨b1, o1, rfl, q1, q2, q3, hc1⟩ := (H1.out.calm hgr).cell (by omega)
    obtain ⟨b2, o2, rfl, r1, r2, r3, hc2⟩ := (H2.out.calm hgr).cell (by omega)
    have x1 := hc1 k hkn
    have y1 := hc2 k hkn
    clear hc1 hc2
    have k0 : (0 : Int) ≤ k := by omega
    have k1 : (k : Int) < n1 := by omega
    by_cases heq : l1[k]?.getD 0 = l2[k]?.getD 0
    ·have HT2 := Lib.hid (take_eqZ (by rw [H1.out.len]; exact hkn) (by rw [H2.out.len]; exact hkn) HT.out heq)
     have hN : (l1[k]?.getD 0 != l2[k]?.getD 0) = false := by rw [heq]; simp
     clear heq
     generalize l1[k]?.getD 0 = u at *
     generalize l2[k]?.getD 0 = v at *
     go_wp2
     go_quiet (fail)
     go_wp2
     exact ⟨⟨k + 1, by omega, by go_num, HT2, grownBy_trans hgr (grownBy_drewN _ _ none)⟩, by simp [intOf]; omega⟩
    ·have hN : (l1[k]?.getD 0 != l2[k]?.getD 0) = true := by simpa using heq
     have hrf : r = false := by
      rw [← HR.out, decide_eq_false_iff_not]
      intro e
      exact heq (by rw [e])
     subst hrf
     clear heq
     generalize l1[k]?.getD 0 = u at *
     generalize l2[k]?.getD 0 = v at *
     go_wp2
     go_quiet (fail)
     go_wp2
     go_ret
     exact ⟨rfl, grownBy_trans hgr (grownBy_drewN _ _ none)⟩
   ·obtain rfl : k = n1 := by omega
    have hrt : r = true := by
     have := HT.out
     rw [List.take_of_length_le (by rw [H1.out.len]; exact Nat.le_refl _), List.take_of_length_le (by rw [H2.out.len]; exact Nat.le_refl _)] at this
     rw [← HR.out]
     simpa using this
    subst hrt
    go_wp2
    go_ret
    exact ⟨rfl, hgr⟩
 ·have hb : ((n1 : Int) != (n2 : Int)) = true := by simp; omega
  have hrf : r = false := by
   rw [← hr, decide_eq_false_iff_not]
   intro e
   exact hl (by rw [← h1.len, ← h2.len, e])
  subst hrf
  clear h1 h2 hl hr
  go_enter Tryz.func24, Tryz.ntmps24
  go_wp2
  go_ret
  exact ⟨rfl, grownBy_refl _ _⟩

end Go.Proofs.YtnknejokneddbaaGreatDoor
/-! The reference's Arrow and Inverse (package centoref4). -/
namespace Go.Proofs.YtnknejokneddbaaGreatDoor
open Go.RowKit

end Go.Proofs.YtnknejokneddbaaGreatDoor
