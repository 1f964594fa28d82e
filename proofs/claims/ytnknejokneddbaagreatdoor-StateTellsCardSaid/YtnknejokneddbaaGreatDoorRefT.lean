/- Contracts and plain facts, put together: RefT. -/
import Derived.Lib.Join
import Derived.Lib.Bytealg
import Derived.Lib.Strings
import Derived.Lib.IndexBytes
import Derived.Lib.SlicesCompact
import Derived.Deep.AppendLies
import Derived.Deep.RegionLaw
import Derived.StillTailTactics
import Derived.OrdersIn
import Derived.RegionIn
import Derived.Stop.RegionWithIn
import Derived.Laws.AppendOwnNone
import Derived.Deep.CutBlock
import Derived.Deep.RegionHeld3
import Derived.Test.YtnknejokneddbaaGreatDoorPatP
import Derived.Test.YtnknejokneddbaaGreatDoorBits
import Derived.Test.YtnknejokneddbaaGreatDoorMats
import Derived.Test.YtnknejokneddbaaGreatDoorRelb
import Derived.Test.YtnknejokneddbaaGreatDoorObja
import Derived.Test.YtnknejokneddbaaGreatDoorRefPa
import Derived.Test.YtnknejokneddbaaGreatDoorStaM
import Derived.Test.YtnknejokneddbaaGreatDoorArra
import Derived.Test.YtnknejokneddbaaGreatDoorSplR
import Derived.Test.YtnknejokneddbaaGreatDoorShelf
import Derived.Test.YtnknejokneddbaaGreatDoorApps
import Derived.Test.YtnknejokneddbaaGreatDoorRefSe
import Derived.Test.YtnknejokneddbaaGreatDoorRefSi
import Derived.Test.YtnknejokneddbaaGreatDoorPut
import Derived.Test.YtnknejokneddbaaGreatDoorRefB
namespace Go.Proofs.YtnknejokneddbaaGreatDoor
set_option maxHeartbeats 64000000
set_option maxRecDepth 20000
theorem cutL_end : ∀ {l : List UInt8}, (∀ x ∈ l, x ≠ 10) -> cutL (l ++ [10]) = [l ++ [10]]
 | [], _ => rfl
 | x :: t, h => by
  have hx : x ≠ 10 := h x (List.mem_cons_self ..)
  rw [Xd, cutL_cons, if_neg hx, cutL_end fun y hy => h y (List.mem_cons_of_mem _ hy)]
section
variable {α : Type} {lt : α -> α -> Bool}
theorem while_at {p : α -> Bool} : ∀ {l : List α} {k : Nat}, k <= l.length -> (∀ j, (hj : j < k) -> (hl : j < l.length) -> p l[j] = true) -> (∀ hl : k < l.length, p l[k] = false) -> l.takeWhile p = l.take k /\ l.dropWhile p = l.drop k
 | [], k, _, _, _ => by simp
 | a :: l, 0, _, _, h => by
  have := h (by simp)
  rw [Yc] at this
  simp [this]
 | a :: l, k + 1, hk, h1, h2 => by
  have h0 := h1 0 (by omega) (by simp)
  rw [Yc] at h0
  have ih := while_at (l := l) (k := k) (by simpa using hk) (fun j hj hl => h1 (j + 1) (by omega) (by simpa using hl)) (fun hl => h2 (by simpa using hl))
  simp [h0, ih]
end
section
variable {α : Type} [DecidableEq α] {lt : α -> α -> Bool}
theorem allR_snoc (xs : List α) (x : α) : allR lt (xs ++ [x]) = putR lt (allR lt xs) x := by simp [allR, List.foldl_append]
end
open Go.Lib
section
variable {α : Type} [Inhabited α] [DecidableEq α]
end
open Go.RowKit
theorem onL_succ (S : Nat -> Bool) (b : Nat) : onL S (b + 1) = onL S b ++ if S b then [b] else [] := by
 unfold onL
 rw [List.range_succ, List.filter_append, List.filter_cons]
 cases S b <;> rfl
def pairsP (n : Nat) (R : Nat -> Nat -> Bool) (a b : Nat) : List (Int × Int) := pairsL n R a ++ (onL (R a) b).map fun y : Nat => ((a : Int), (y : Int))
theorem pairsP_zero (n : Nat) (R : Nat -> Nat -> Bool) (a : Nat) : pairsP n R a 0 = pairsL n R a := by simp [pairsP, onL]
theorem pairsP_end (n : Nat) (R : Nat -> Nat -> Bool) (a : Nat) : pairsP n R a n = pairsL n R (a + 1) := (pairsL_succ n R a).symm
theorem pairsP_yes {n : Nat} {R : Nat -> Nat -> Bool} {a b : Nat} (h : R a b = true) : pairsP n R a (b + 1) = pairsP n R a b ++ [((a : Int), (b : Int))] := by
 unfold pairsP
 rw [onL_succ, h]
 simp
theorem pairsP_no {n : Nat} {R : Nat -> Nat -> Bool} {a b : Nat} (h : R a b = false) : pairsP n R a (b + 1) = pairsP n R a b := by
 unfold pairsP
 rw [onL_succ, h]
 simp
theorem pairsP_len (n : Nat) (R : Nat -> Nat -> Bool) (a b : Nat) (hn : n <= 200) (ha : a <= 200) (hb : b <= 200) : (pairsP n R a b).length <= 40200 := by
 unfold pairsP
 rw [Zq, Yn]
 have h1 := pairsL_len n R a
 have h2 := onL_le (R a) b
 have h3 : a * n <= 200 * 200 := Nat.mul_le_mul ha hn
 omega
open Go.RowKit Go.Shelf
attribute [local go_sem] Oper.semAt_some
def StrsPost (l : List ByteArray) (w : World) (e : Ending) (w' : World) : Prop :=
 ∃ v, e = .returned v /\ w'.ownsRow w.heap.size 9 1 v l.length (scells l) /\ w.grownBy w' none
theorem refIsPath_c (s : ByteArray) (r : Bool) (w : World) (hs : s.size <= 1000000) (hr : r = true ↔ IsPath s) :
  Calls Tryz.prog 105 #[.string s] w fun e w' => e = .returned (.bool r) /\ w' = w := by
 have HR := Za hr
 clear hr
 go_enter Tryz.func105, Tryz.ntmps105
 go_wp2
 go_loop [3] (fun i => ∃ k : Nat, k <= s.size /\ i = .int .i64 k /\ Hid (okU s k)) (fun i => s.size - (intOf i).toNat)
 case atStart => exact ⟨0, Ze _, rfl, Za fun i hi => absurd hi (Zy _)⟩
 case round =>
  obtain ⟨k, hk, rfl, HU⟩ := hrel
  by_cases hks : k < s.size
  ·have k0 : (0 : Int) <= k := by omega
   have k1 : (k : Int) < s.size := by omega
   have HB := Za (Lib.data_getElem? s k hks)
   obtain ⟨X, hX⟩ : ∃ X, (s[k]'hks).toNat = X := ⟨_, rfl⟩
   have HO := Za (okC_iff (s[k]'hks) X hX)
   have HY : Hid (((97 <= X /\ X <= 122) ∨ (48 <= X /\ X <= 57) ∨ X = 46 ∨ X = 47) -> okU s (k + 1)) := Za fun h => okU_succ HU.out HB.out (HO.out.2 h)
   have HN : Hid (¬ ((97 <= X /\ X <= 122) ∨ (48 <= X /\ X <= 57) ∨ X = 46 ∨ X = 47) -> r = false) := Za fun h => by
    cases e : r
    ·rfl
    ·exact absurd (HR.out.1 e) (okU_no HB.out fun h2 => h (HO.out.1 h2))
   by_cases c1 : 97 <= X
   ·have d1 : (97 : Int) <= X := by omega
    by_cases c2 : X <= 122
    ·have d2 : (X : Int) <= 122 := by omega
     have HK := Za (HY.out (by omega))
     clear HY HN HO HB
     go_wp2
     exact ⟨⟨k + 1, by omega, by go_num, HK⟩, by simp [intOf]; omega⟩
    ·have d2 : ¬ ((X : Int) <= 122) := by omega
     have d3 : (48 : Int) <= X := by omega
     have d4 : ¬ ((X : Int) <= 57) := by omega
     have d5 : ((X : Int) == 46) = false := by rw [beq_eq_false_iff_ne]; omega
     have d6 : ((X : Int) == 47) = false := by rw [beq_eq_false_iff_ne]; omega
     have hf : r = false := HN.out (by omega)
     subst hf
     clear HY HN HO HB
     go_wp2
     go_ret
     exact ⟨rfl, rfl⟩
   ·have d1 : ¬ ((97 : Int) <= X) := by omega
    by_cases c3 : 48 <= X
    ·have d3 : (48 : Int) <= X := by omega
     by_cases c4 : X <= 57
     ·have d4 : (X : Int) <= 57 := by omega
      have HK := Za (HY.out (by omega))
      clear HY HN HO HB
      go_wp2
      exact ⟨⟨k + 1, by omega, by go_num, HK⟩, by simp [intOf]; omega⟩
     ·have d4 : ¬ ((X : Int) <= 57) := by omega
      have d5 : ((X : Int) == 46) = false := by rw [beq_eq_false_iff_ne]; omega
      have d6 : ((X : Int) == 47) = false := by rw [beq_eq_false_iff_ne]; omega
      have hf : r = false := HN.out (by omega)
      subst hf
      clear HY HN HO HB
      go_wp2
      go_ret
      exact ⟨rfl, rfl⟩
    ·have d3 : ¬ ((48 : Int) <= X) := by omega
     by_cases c5 : X = 46
     ·have d5 : ((X : Int) == 46) = true := by rw [beq_iff_eq]; omega
      have HK := Za (HY.out (by omega))
      clear HY HN HO HB
      go_wp2
      exact ⟨⟨k + 1, by omega, by go_num, HK⟩, by simp [intOf]; omega⟩
     ·have d5 : ((X : Int) == 46) = false := by rw [beq_eq_false_iff_ne]; omega
      by_cases c6 : X = 47
      ·have d6 : ((X : Int) == 47) = true := by rw [beq_iff_eq]; omega
       have HK := Za (HY.out (by omega))
       clear HY HN HO HB
       go_wp2
       exact ⟨⟨k + 1, by omega, by go_num, HK⟩, by simp [intOf]; omega⟩
      ·have d6 : ((X : Int) == 47) = false := by rw [beq_eq_false_iff_ne]; omega
       have hf : r = false := HN.out (by omega)
       subst hf
       clear HY HN HO HB
       go_wp2
       go_ret
       exact ⟨rfl, rfl⟩
  ·obtain rfl : k = s.size := by omega
   have HE := Za (fun h1 h2 => HR.out.2 (okU_end HU.out h1 h2))
   have HNE := Za (fun h : ¬ (1 <= s.size /\ s.size <= 20) => show r = false by
    cases e : r
    ·rfl
    ·exact absurd ⟨(HR.out.1 e).lo, (HR.out.1 e).hi⟩ h)
   by_cases c1 : 1 <= s.size
   ·have d1 : (1 : Int) <= s.size := by omega
    by_cases c2 : s.size <= 20
    ·have d2 : (s.size : Int) <= 20 := by omega
     obtain rfl : r = true := HE.out c1 c2
     go_wp2
     go_ret
     exact ⟨rfl, rfl⟩
    ·have d2 : ¬ ((s.size : Int) <= 20) := by omega
     obtain rfl : r = false := HNE.out (by omega)
     go_wp2
     go_ret
     exact ⟨rfl, rfl⟩
   ·have d1 : ¬ ((1 : Int) <= s.size) := by omega
    obtain rfl : r = false := HNE.out (by omega)
    go_wp2
    go_ret
    exact ⟨rfl, rfl⟩
theorem refHas_c (p : Option Addr) (n c lo hi x : Nat) (l : List Nat) (r : Bool) (w : World) (h : NsAt .u32 w lo hi p n l) (hn : n <= 1000000) (hr : r = true ↔ x ∈ l) :
  Calls Tryz.prog 66 #[.slice p n c, .int .u32 x] w fun e w' => e = .returned (.bool r) /\ w' = w := by
 have H := Za h
 have HR := Za hr
 have HL := Za h.len
 clear h hr
 go_enter Tryz.func66, Tryz.ntmps66
 go_wp2
 go_loop [5] (fun i => ∃ k : Nat, k <= n /\ i = .int .i64 k /\ Hid (∀ j, j < k -> l[j]?.getD 0 ≠ x)) (fun i => n - (intOf i).toNat)
 case atStart => exact ⟨0, Ze _, rfl, Za fun i hi => absurd hi (Zy _)⟩
 case round =>
  obtain ⟨k, hk, rfl, HU⟩ := hrel
  by_cases hkn : k < n
  ·have k0 : (0 : Int) <= k := by omega
   have k1 : (k : Int) < n := by omega
   obtain ⟨b, o, rfl, _, _, _, hc⟩ := H.out.cell (by omega)
   have hck := hc k hkn
   have HM := Za (Zr (d := 0) (show k < l.length by rw [HL.out]; exact hkn))
   have HK := Za (show l[k]?.getD 0 ≠ x -> ∀ j, j < k + 1 -> l[j]?.getD 0 ≠ x from fun h => Yk HU.out h)
   clear hc
   generalize l[k]?.getD 0 = y at *
   by_cases e : y = x
   ·have e1 : ((y : Int) == (x : Int)) = true := by rw [beq_iff_eq]; omega
    obtain rfl : r = true := HR.out.2 (e ▸ HM.out)
    clear e
    go_wp2
    go_ret
    exact ⟨rfl, rfl⟩
   ·have e1 : ((y : Int) == (x : Int)) = false := by rw [beq_eq_false_iff_ne]; omega
    have HK2 := Za (HK.out e)
    clear e
    go_wp2
    exact ⟨⟨k + 1, by omega, by go_num, HK2⟩, by simp [intOf]; omega⟩
  ·obtain rfl : k = n := by omega
   have k1 : ¬ ((k : Int) < k) := by omega
   obtain rfl : r = false := Zj HR.out fun h => by
    obtain ⟨j, hj, e⟩ := Xx (d := 0) h
    exact HU.out j (by rw [<- HL.out]; exact hj) e
   go_wp2
   go_ret
   exact ⟨rfl, rfl⟩
theorem risB_all {α : Type} {lt : α -> α -> Bool} (O : Lin lt) {d : α} {l : List α} (h : risB lt d l l.length = true) : risR lt l := by
 have := (risB_iff O d (Zc l.length)).1 h
 rwa [List.take_length] at this
theorem risB_of {α : Type} {lt : α -> α -> Bool} (O : Lin lt) {d : α} {l : List α} (h : risR lt l) : risB lt d l l.length = true := (risB_iff O d (Zc l.length)).2 (by rw [List.take_length]; exact h)
theorem ris_bad {α : Type} {lt : α -> α -> Bool} (O : Lin lt) {d : α} {l : List α} {k : Nat} (hk : k + 1 < l.length) (h : lt (l[k]?.getD d) (l[k + 1]?.getD d) = false) : ¬ risR lt l := fun hr => by
 have h1 := risB_of O (d := d) hr
 rw [risB_no hk (by omega) (by rw [Nat.add_sub_cancel]; exact h)] at h1
 cases h1
theorem refRising_c (p : Option Addr) (n c lo hi : Nat) (l : List Nat) (r : Bool) (w : World) (h : NsAt .u32 w lo hi p n l) (hn : n <= 1000000) (hr : r = true ↔ (∀ d ∈ l, d ≠ 0) /\ risR ltN l) :
  Calls Tryz.prog 65 #[.slice p n c] w fun e w' => e = .returned (.bool r) /\ w.grownBy w' none := by
 have H := Za h
 have HR := Za hr
 have HL := Za h.len
 clear h hr
 go_enter Tryz.func65, Tryz.ntmps65
 go_wp2
 go_loopw [3] (fun i wr => ∃ k : Nat, k <= n /\ i = .int .i64 k /\ Hid (∀ j, j < k -> l[j]?.getD 0 ≠ 0) /\ Hid (risB ltN 0 l k = true) /\ w.grownBy wr none) (fun i _ => n - (intOf i).toNat)
 case atStart => exact ⟨0, Ze _, rfl, Za (fun i hi => absurd hi (Zy _)), Za rfl, Zi _ _⟩
 case round =>
  obtain ⟨k, hk, rfl, HZ, HS, hgr⟩ := hrel
  by_cases hkn : k < n
  ·have k0 : (0 : Int) <= k := by omega
   have k1 : (k : Int) < n := by omega
   obtain ⟨b, o, rfl, _, _, _, hc⟩ := (H.out.calm hgr).cell (by omega)
   have hck := hc k hkn
   have HM := Za (Zr (d := 0) (show k < l.length by rw [HL.out]; exact hkn))
   have HK := Za (show l[k]?.getD 0 ≠ 0 -> ∀ j, j < k + 1 -> l[j]?.getD 0 ≠ 0 from fun h => Yk HZ.out h)
   have HSU := Za (risB_succ (lt := ltN) 0 l k)
   rw [HS.out] at HSU
   by_cases hz : l[k]?.getD 0 = 0
   ·obtain rfl : r = false := Zj HR.out fun h => h.1 _ HM.out hz
    have e1 : (((l[k]?.getD 0 : Nat) : Int) == 0) = true := by rw [hz]; rfl
    clear hc hz
    generalize l[k]?.getD 0 = x at *
    go_wp2
    go_quiet (fail)
    go_wp2
    go_ret
    exact ⟨rfl, Zb hgr (Zo _ _ none)⟩
   ·have HK2 := Za (HK.out hz)
    have e1 : (((l[k]?.getD 0 : Nat) : Int) == 0) = false := by rw [beq_eq_false_iff_ne]; omega
    cases k with
    | zero =>
     have HS2 : Hid (risB ltN 0 l (0 + 1) = true) := Za (by rw [HSU.out]; rfl)
     have e2 : decide ((0 : Int) < ((0 : Nat) : Int)) = false := by decide
     clear hc hz HSU HK HM
     simp only [Ve] at hck
     generalize l[0]?.getD 0 = x at *
     go_wp2
     go_quiet (fail)
     go_wp2
     exact ⟨⟨0 + 1, by omega, by go_num, HK2, HS2, Zb hgr (Zo _ _ none)⟩, by simp [intOf]; omega⟩
    | succ K =>
     have hcK := hc K (by omega)
     have HBAD := Za (ris_bad linN (d := 0) (l := l) (k := K) (by rw [HL.out]; exact hkn))
     have HS2 := HSU
     rw [Nat.add_sub_cancel] at HS2
     have kw : IntKind.i64.wrap (((K + 1 : Nat) : Int) - 1) = (K : Int) := by rw [Zf _ (by omega)]; omega
     have kp : (0 : Int) < ((K + 1 : Nat) : Int) := by omega
     have K0 : (0 : Int) <= K := by omega
     have K1 : (K : Int) < n := by omega
     clear hc hz HSU HK HM
     generalize l[K + 1]?.getD 0 = x at *
     generalize l[K]?.getD 0 = y at *
     generalize hkk : K + 1 = kk at *
     have HKK := Za hkk
     clear hkk
     have e2 : decide ((0 : Int) < (kk : Int)) = true := Zg kp
     have e2' : decide (0 < kk) = true := Zg (by omega)
     by_cases hxy : x <= y
     ·have e3 : decide ((x : Int) <= (y : Int)) = true := Zg (by omega)
      have e3' : decide (x <= y) = true := Zg hxy
      obtain rfl : r = false := Zj HR.out fun h => HBAD.out (by simp [ltN]; exact hxy) h.2
      go_wp2
      go_quiet (fail)
      go_wp2
      go_ret
      exact ⟨rfl, Zb hgr (Zo _ _ none)⟩
     ·have e3 : decide ((x : Int) <= (y : Int)) = false := Zl (by omega)
      have e3' : decide (x <= y) = false := Zl hxy
      have HS3 : Hid (risB ltN 0 l (kk + 1) = true) := Za (by
       rw [HS2.out]
       have : ltN y x = true := by simp [ltN]; omega
       rw [this, Bool.or_true]; rfl)
      go_wp2
      go_quiet (fail)
      clear kw
      go_wp2
      exact ⟨⟨kk + 1, by omega, by go_num, HK2, HS3, Zb hgr (Zo _ _ none)⟩, by have := HKK.out; simp [intOf]; omega⟩
  ·obtain rfl : k = n := by omega
   have k1 : ¬ ((k : Int) < k) := by omega
   obtain rfl : r = true := HR.out.2 ⟨fun d hd => by
    obtain ⟨j, hj, e⟩ := Xx (d := 0) hd
    rw [<- e]
    exact HZ.out j (by rw [<- HL.out]; exact hj), risB_all linN (by rw [HL.out]; exact HS.out)⟩
   go_wp2
   go_ret
   exact ⟨rfl, hgr⟩
theorem refPaths0_c (p : Option Addr) (n c lo hi : Nat) (l : List ByteArray) (r : Bool) (w : World) (h : StrsAt w lo hi p n l) (hs : ∀ s ∈ l, s.size <= 1000000) (hn : n <= 1000000) (hr : r = true ↔ (∀ s ∈ l, IsPath s) /\ risR ltS l) :
  Calls Tryz.prog 67 #[.slice p n c] w fun e w' => e = .returned (.bool r) /\ w.grownBy w' none := by
 have H := Za h
 have HR := Za hr
 have HL := Za h.len
 have HSM := Za hs
 clear h hr hs
 go_enter Tryz.func67, Tryz.ntmps67
 go_wp2
 go_loopw [3] (fun i wr => ∃ k : Nat, k <= n /\ i = .int .i64 k /\ Hid (∀ j, j < k -> IsPath (l[j]?.getD .empty)) /\ Hid (risB ltS .empty l k = true) /\ w.grownBy wr none) (fun i _ => n - (intOf i).toNat)
 case atStart => exact ⟨0, Ze _, rfl, Za (fun i hi => absurd hi (Zy _)), Za rfl, Zi _ _⟩
 case round =>
  obtain ⟨k, hk, rfl, HZ, HS, hgr⟩ := hrel
  by_cases hkn : k < n
  ·have k0 : (0 : Int) <= k := by omega
   have k1 : (k : Int) < n := by omega
   obtain ⟨b, o, rfl, _, _, _, hc⟩ := (H.out.calm hgr).cell (by omega)
   have hck := hc k hkn
   have HM := Za (Zr (d := ByteArray.empty) (show k < l.length by rw [HL.out]; exact hkn))
   have HX := Za (HSM.out _ HM.out)
   have HK := Za (show IsPath (l[k]?.getD .empty) -> ∀ j, j < k + 1 -> IsPath (l[j]?.getD .empty) from fun h => Yk (q := fun j => IsPath (l[j]?.getD .empty)) HZ.out h)
   have HSU := Za (risB_succ (lt := ltS) .empty l k)
   rw [HS.out] at HSU
   by_cases hz : IsPath (l[k]?.getD .empty)
   ·have HK2 := Za (HK.out hz)
    have HP := Za hz
    cases k with
    | zero =>
     have HS2 : Hid (risB ltS .empty l (0 + 1) = true) := Za (by rw [HSU.out]; rfl)
     have e2 : decide ((0 : Int) < ((0 : Nat) : Int)) = false := by decide
     clear hc hz HSU HK HM
     simp only [Ve] at hck
     generalize l[0]?.getD .empty = x at *
     go_wp2
     go_quiet ((go_at_call 105; exact Calls.quiet_of_same (refIsPath_c x true _ HX.out (iff_of_true rfl HP.out))))
     go_wp2
     exact ⟨⟨0 + 1, by omega, by go_num, HK2, HS2, Zb hgr (Zo _ _ none)⟩, by simp [intOf]; omega⟩
    | succ K =>
     have hcK := hc K (by omega)
     have HBAD := Za (ris_bad linS (d := ByteArray.empty) (l := l) (k := K) (by rw [HL.out]; exact hkn))
     have HS2 := HSU
     rw [Nat.add_sub_cancel] at HS2
     have kw : IntKind.i64.wrap (((K + 1 : Nat) : Int) - 1) = (K : Int) := by rw [Zf _ (by omega)]; omega
     have kp : (0 : Int) < ((K + 1 : Nat) : Int) := by omega
     have K0 : (0 : Int) <= K := by omega
     have K1 : (K : Int) < n := by omega
     clear hc hz HSU HK HM
     generalize l[K + 1]?.getD .empty = x at *
     generalize l[K]?.getD .empty = y at *
     generalize hkk : K + 1 = kk at *
     have HKK := Za hkk
     clear hkk
     have e2 : decide ((0 : Int) < (kk : Int)) = true := Zg kp
     have e2' : decide (0 < kk) = true := Zg (by omega)
     cases hxy : ltS y x with
     | false =>
      obtain rfl : r = false := Zj HR.out fun h => HBAD.out hxy h.2
      by_cases hne : x = y
      ·subst hne
       have e3 : Op.bytesLess x.toList x.toList = false := less_irr _
       have e4 : (x.toList == x.toList) = true := Xz rfl
       clear hxy
       go_wp2
       go_quiet ((go_at_call 105; exact Calls.quiet_of_same (refIsPath_c x true _ HX.out (iff_of_true rfl HP.out))))
       go_wp2
       go_ret
       exact ⟨rfl, Zb hgr (Zo _ _ none)⟩
      ·have e3 : Op.bytesLess x.toList y.toList = true := (linS.tot x y hne).resolve_right (by rw [hxy]; decide)
       have e4 := Xt hne
       clear hxy hne
       go_wp2
       go_quiet ((go_at_call 105; exact Calls.quiet_of_same (refIsPath_c x true _ HX.out (iff_of_true rfl HP.out))))
       go_wp2
       go_ret
       exact ⟨rfl, Zb hgr (Zo _ _ none)⟩
     | true =>
      have e3 : Op.bytesLess x.toList y.toList = false := linS.not hxy
      have e4 : (x.toList == y.toList) = false := Xt fun e => by
       rw [e, linS.irr] at hxy
       cases hxy
      have HS3 : Hid (risB ltS .empty l (kk + 1) = true) := Za (by rw [HS2.out, hxy, Bool.or_true]; rfl)
      clear hxy
      go_wp2
      go_quiet ((go_at_call 105; exact Calls.quiet_of_same (refIsPath_c x true _ HX.out (iff_of_true rfl HP.out))))
      clear kw
      go_wp2
      exact ⟨⟨kk + 1, by omega, by go_num, HK2, HS3, Zb hgr (Zo _ _ none)⟩, by have := HKK.out; simp [intOf]; omega⟩
   ·obtain rfl : r = false := Zj HR.out fun h => hz (h.1 _ HM.out)
    have HP := Za (show false = true ↔ IsPath (l[k]?.getD .empty) from ⟨(fun h => by cases h), fun h => absurd h hz⟩)
    clear hc hz HK
    generalize l[k]?.getD .empty = x at *
    go_wp2
    go_quiet ((go_at_call 105; exact Calls.quiet_of_same (refIsPath_c x false _ HX.out HP.out)))
    go_wp2
    go_ret
    exact ⟨rfl, Zb hgr (Zo _ _ none)⟩
  ·obtain rfl : k = n := by omega
   have k1 : ¬ ((k : Int) < k) := by omega
   obtain rfl : r = true := HR.out.2 ⟨fun d hd => by
    obtain ⟨j, hj, e⟩ := Xx (d := ByteArray.empty) hd
    rw [<- e]
    exact HZ.out j (by rw [<- HL.out]; exact hj), risB_all linS (by rw [HL.out]; exact HS.out)⟩
   go_wp2
   go_ret
   exact ⟨rfl, hgr⟩
theorem ncells_len (k : IntKind) (l : List Nat) : (ncells k l).length = l.length := by simp [ncells]
theorem ncells_one (k : IntKind) (l : List Nat) : ∀ u ∈ ncells k l, u.oneCell' = true := by
 intro u hu
 unfold ncells at hu
 obtain ⟨x, _, rfl⟩ := Yi.1 hu
 rfl
theorem nums_part {k : IntKind} {w : World} {lo hi n b off : Nat} {l : List Nat} (h : NsAt k w lo hi (some ⟨b, off, none⟩) n l) (a m : Nat) (ham : a + m <= n) : ∀ j u, (ncells k ((l.drop a).take m))[j]? = some u -> w.cell? ((⟨b, off + a, none⟩ : Addr).add j) = some u := by
 intro j u hj
 have hjm : j < m := by
  have := (List.getElem?_eq_some_iff.1 hj).1
  rw [ncells_len, Yo] at this
  omega
 obtain ⟨b', off', e, _, _, _, hc⟩ := h.cell (by omega)
 simp only [Option.some.injEq, Addr.mk.injEq, and_true] at e
 obtain ⟨rfl, rfl⟩ := e
 have := hc (a + j) (by omega)
 rw [ncells_get (by rw [Yo, Yr, h.len]; omega)] at hj
 cases hj
 rw [add_off, Nat.add_assoc, this, Xy hjm, List.getElem?_drop]
theorem src_front {kd : IntKind} {w : World} {lo hi n c k : Nat} {p : Option Addr} {l : List Nat} (h : NsAt kd w lo hi p n l) (hp : p = none -> c = 0) (hk : k <= n) : (p = none /\ k = 0 /\ c = 0) ∨ ∃ ad, p = some ad /\ ∀ j u, (ncells kd (l.take k))[j]? = some u -> w.cell? (ad.add j) = some u := by
 rcases Nat.eq_zero_or_pos n with e | e
 ·obtain rfl : k = 0 := by omega
  cases p with
  | none => exact .inl ⟨rfl, rfl, hp rfl⟩
  | some ad => exact .inr ⟨ad, rfl, fun j u hj => by simp [ncells] at hj⟩
 ·obtain ⟨b, off, rfl, _⟩ := h.cell e
  refine .inr ⟨_, rfl, fun j u hj => ?_⟩
  have := nums_part h 0 k (by omega) j u (by rw [List.drop_zero]; exact hj)
  rwa [Ve] at this
theorem while_get {α : Type} {q : α -> Bool} {l : List α} {d : α} {k : Nat} (hk : k <= l.length) (h1 : ∀ j, j < k -> q (l[j]?.getD d) = true) (h2 : k < l.length -> q (l[k]?.getD d) = false) : l.takeWhile q = l.take k /\ l.dropWhile q = l.drop k :=
 while_at hk (fun j hj hl => by have := h1 j hj; rwa [Zm hl] at this) (fun hl => by have := h2 hl; rwa [Zm hl] at this)
theorem StrsAt.wideP {w : World} {lo hi n : Nat} {p : Option Addr} {l : List ByteArray} (h : StrsAt w lo hi p n l) : StrsAt w 0 w.heap.size p n l := ⟨h.len, fun hn => by
 obtain ⟨b, off, e, h1, h2, h3, hc⟩ := h.cell hn
 exact ⟨b, off, e, Ze _, by omega, Zc _, hc⟩⟩
theorem put_cells {l : List Nat} {x k : Nat} (hm : x ∉ l) (h1 : l.takeWhile (fun y => ltN y x) = l.take k) (h2 : l.dropWhile (fun y => ltN y x) = l.drop k) : ncells .u32 (l.take k) ++ [Value.int .u32 x] ++ ncells .u32 (l.drop k) = ncells .u32 (putR ltN l x) := by
 rw [putR_new hm, h1, h2, ncells_app]
 show _ = _ ++ (Value.int .u32 x :: ncells .u32 (l.drop k))
 rw [Xa]
 rfl
theorem refPut_c (p : Option Addr) (n c lo hi x : Nat) (l : List Nat) (w : World) (h : NsAt .u32 w lo hi p n l) (hn : n <= 100000) (hc : n <= c) (hp : p = none -> c = 0) (hz : n = 0 -> p = none) :
  Calls Tryz.prog 108 #[.slice p n c, .int .u32 x] w fun e w' => ∃ p' n' c', e = .returned (.slice p' n' c') /\ NsAt .u32 w' 0 w'.heap.size p' n' (putR ltN l x) /\ n' <= c' /\ (p' = none -> c' = 0) /\ (n' = 0 -> p' = none) /\ n' <= n + 1 /\ w.grownBy w' none := by
 obtain ⟨i0, hi0, hz0, hz1, hz2⟩ := Yz infoU32
 have H := Za h
 have HL := Za h.len
 have HP := Za hp
 have HZ := Za hz
 clear h hp hz
 obtain ⟨r, hr⟩ : ∃ r, decide (x ∈ l) = r := ⟨_, rfl⟩
 have hr2 : r = true ↔ x ∈ l := by rw [<- hr, Yb]
 go_enter Tryz.func108, Tryz.ntmps108
 go_wp2_with fail
 refine (refHas_c p n c lo hi x l r _ H.out (by omega) hr2).mono ?_
 rintro e w1 ⟨rfl, h9⟩
 subst w1
 cases r with
 | true =>
  have HM := Za (hr2.1 rfl)
  clear hr hr2
  go_wp2
  go_ret
  rw [putR_has HM.out]
  exact ⟨p, n, c, rfl, H.out.wide, hc, HP.out, HZ.out, by omega, Zi _ _⟩
 | false =>
  have hm : x ∉ l := fun h => by have := hr2.2 h; cases this
  have HM := Za hm
  clear hr hr2 hm
  go_upto_block 0 with fail
  go_cut [5] from 11 to 24 (fun s5 wx => ∃ k : Nat, s5 = .int .i64 k /\ k <= n /\ Hid (l.takeWhile (fun y => ltN y x) = l.take k /\ l.dropWhile (fun y => ltN y x) = l.drop k) /\ wx = w)
  case first =>
   go_wp2_with fail
   go_loop [5] (fun i => ∃ k : Nat, k <= n /\ i = .int .i64 k /\ Hid (∀ j, j < k -> ltN (l[j]?.getD 0) x = true)) (fun i => n - (intOf i).toNat)
   case atStart => exact ⟨0, Ze _, rfl, Za fun i hi => absurd hi (Zy _)⟩
   case round =>
    obtain ⟨k, hk, rfl, HU⟩ := hrel
    by_cases hkn : k < n
    ·have k0 : (0 : Int) <= k := by omega
     have k1 : (k : Int) < n := by omega
     obtain ⟨b, o, rfl, _, _, _, hc'⟩ := H.out.cell (by omega)
     have hck := hc' k hkn
     have HK := Za (show ltN (l[k]?.getD 0) x = true -> ∀ j, j < k + 1 -> ltN (l[j]?.getD 0) x = true from fun h => Yk (q := fun j => ltN (l[j]?.getD 0) x = true) HU.out h)
     have HE := Za (show ltN (l[k]?.getD 0) x = false -> l.takeWhile (fun y => ltN y x) = l.take k /\ l.dropWhile (fun y => ltN y x) = l.drop k from fun h => while_get (d := 0) (by rw [HL.out]; exact hk) HU.out (fun _ => h))
     clear hc'
     generalize l[k]?.getD 0 = y at *
     by_cases hy : y < x
     ·have e1 : (y : Int) < (x : Int) := by omega
      have HK2 := Za (HK.out (by simp [ltN]; exact hy))
      go_wp2
      exact ⟨⟨k + 1, by omega, by go_num, HK2⟩, by simp [intOf]; omega⟩
     ·have e1 : ¬ ((y : Int) < (x : Int)) := by omega
      have HE2 := Za (HE.out (by simp [ltN]; omega))
      go_wp2
      go_meet
      exact ⟨k, rfl, hk, HE2, rfl⟩
    ·obtain rfl : k = n := by omega
     have k1 : ¬ ((k : Int) < k) := by omega
     have HE2 := Za (while_get (q := fun y => ltN y x) (d := 0) (by rw [HL.out]; exact Zc _) HU.out (fun h => absurd h (by rw [HL.out]; exact Xv _)))
     go_wp2
     go_meet
     exact ⟨k, rfl, hk, HE2, rfl⟩
  case rest =>
   obtain ⟨k, rfl, hk, HE, hwc⟩ := hcut
   subst hwc
   have HF := Za (src_front (k := k) H.out HP.out hk)
   have HT := Za (show (ncells .u32 (l.take k)).length = k by rw [ncells_len, Yo, HL.out]; omega)
   have k0 : (0 : Int) <= k := by omega
   have k1 : (k : Int) <= n := by omega
   have k2 : (k : Int) <= c := by omega
   have c9 : n <= c := hc
   by_cases hn0 : n = 0
   ·obtain rfl := HZ.out hn0
    subst hn0
    obtain rfl : k = 0 := by omega
    obtain rfl : c = 0 := HP.out rfl
    have HLN : Hid (l = []) := Za (Xu HL.out)
    go_upto_region 7 with (first
     | (at_builtin; refine Xf rfl (.const (.slice none 0 0)) (.tmp 27) 53 rfl wc.heap.size 52 i0 (.int .u32 0) 1 4 Tryz.underlying53 hi0 hz0 hz1 hz2 rfl (by decide) (.slice none 0 0) 0 [] (by simp [Act.eval]) (Yp _ _ _ _) (none) 0 0 (ncells .u32 (l.take 0)) (by simp [Act.eval]) (by rw [Nat.mul_one]; exact HT.out) HF.out (ncells_one _ _) (by unfold maxLen; omega) (by omega) (Zc _) ?_; intro p1 c1 w1 hr1 hg1; rw [Yj, Ys] at hr1; rw [Yj]; have HR1 := Za hr1; have hg1 : wc.grownBy w1 none := hg1; have hs1 := hg1.size; have HG1 := Za hg1; clear hr1 hg1)
     | (at_builtin; refine Xc _ rfl _ _ 53 rfl wc.heap.size 52 i0 (.int .u32 0) 1 4 Tryz.underlying53 hi0 hz0 hz1 hz2 rfl (by decide) _ _ _ rfl (HR1.out.alloc _) ⟨w1.heap.size, 0, none⟩ 1 1 [.int .u32 x] rfl rfl (cell_one_new _ _ _) (by simp [Value.oneCell']) (by unfold maxLen; omega) (by omega) (by simp; omega) ?_; intro v' w2 hown' hgrow _; obtain ⟨g', cap', rfl⟩ := ownsRow_succ hown'; have HR2 := Za hown'; have HG2 := Za (Xe HG1.out HR1.out hgrow); clear hown' hgrow))
    have HR5 : Hid (w2.ownsRow wc.heap.size 52 1 (.slice (some ⟨g', 0, none⟩) 1 cap') 1 (ncells .u32 (l.take 0) ++ [.int .u32 x])) := Za (by have := HR2.out; rw [Yj] at this; exact this)
    clear HF HT
    go_wp2_with (at_builtin; refine Xf rfl (.tmp 32) (.tmp 35) 53 rfl wc.heap.size 52 i0 (.int .u32 0) 1 4 Tryz.underlying53 hi0 hz0 hz1 hz2 rfl (by decide) (.slice (some ⟨g', 0, none⟩) (1) cap') (1) (ncells .u32 (l.take 0) ++ [.int .u32 x]) (by simp [Act.eval]) HR5.out (none) (0) (0) (ncells .u32 (l.drop 0)) (by simp [Act.eval]) (by rw [HLN.out]; rfl) (.inl ⟨rfl, rfl, rfl⟩) (ncells_one _ _) (by unfold maxLen; omega) (by omega) HG2.out.size ?_; intro p3 c3 w3 hr3 hg3; have HR3 := Za hr3; have HG3 := Za (ownsRow_new HG2.out HR5.out hg3); clear hr3 hg3)
    go_ret
    have hr := HR3.out
    rw [put_cells HM.out HE.out.1 HE.out.2] at hr
    obtain ⟨p4, c4, e4, h4, h5, h6⟩ := nsAt_own (by rw [putR_new HM.out, HE.out.1, HE.out.2, Zq, Zt, Yo, Yr, HL.out]; omega) hr
    cases e4
    exact ⟨_, _, _, rfl, h4.wide, h5, h6, by omega, by omega, HG3.out⟩
   ·obtain ⟨b, o, rfl, _⟩ := H.out.cell (by omega)
    by_cases hck : c = k
    ·subst hck
     obtain rfl : n = c := by omega
     go_upto_region 7 with (first
      | (at_builtin; refine Xf rfl (.const (.slice none 0 0)) (.tmp 27) 53 rfl wc.heap.size 52 i0 (.int .u32 0) 1 4 Tryz.underlying53 hi0 hz0 hz1 hz2 rfl (by decide) (.slice none 0 0) 0 [] (by simp [Act.eval]) (Yp _ _ _ _) (some ⟨b, o, none⟩) n n (ncells .u32 (l.take n)) (by simp [Act.eval]) (by rw [Nat.mul_one]; exact HT.out) HF.out (ncells_one _ _) (by unfold maxLen; omega) (by omega) (Zc _) ?_; intro p1 c1 w1 hr1 hg1; rw [Yj, Ys] at hr1; rw [Yj]; have HR1 := Za hr1; have hg1 : wc.grownBy w1 none := hg1; have hs1 := hg1.size; have HG1 := Za hg1; clear hr1 hg1)
      | (at_builtin; refine Xc _ rfl _ _ 53 rfl wc.heap.size 52 i0 (.int .u32 0) 1 4 Tryz.underlying53 hi0 hz0 hz1 hz2 rfl (by decide) _ _ _ rfl (HR1.out.alloc _) ⟨w1.heap.size, 0, none⟩ 1 1 [.int .u32 x] rfl rfl (cell_one_new _ _ _) (by simp [Value.oneCell']) (by unfold maxLen; omega) (by omega) (by simp; omega) ?_; intro v' w2 hown' hgrow _; obtain ⟨g', cap', rfl⟩ := ownsRow_succ hown'; have HR2 := Za hown'; have HG2 := Za (Xe HG1.out HR1.out hgrow); clear hown' hgrow))
     clear HF HT
     go_wp2_with (at_builtin; refine Xf rfl (.tmp 32) (.tmp 35) 53 rfl wc.heap.size 52 i0 (.int .u32 0) 1 4 Tryz.underlying53 hi0 hz0 hz1 hz2 rfl (by decide) (.slice (some ⟨g', 0, none⟩) (n + 1) cap') (n + 1) (ncells .u32 (l.take n) ++ [.int .u32 x]) (by simp [Act.eval]) HR2.out (some ⟨b, o, none⟩) (0) (0) (ncells .u32 (l.drop n)) (by simp [Act.eval]) (by rw [List.drop_eq_nil_of_le (by rw [HL.out]; omega)]; rfl) (.inr ⟨_, rfl, fun j u hj => by rw [List.drop_eq_nil_of_le (by rw [HL.out]; omega)] at hj; simp [ncells] at hj⟩) (ncells_one _ _) (by unfold maxLen; omega) (by omega) HG2.out.size ?_; intro p3 c3 w3 hr3 hg3; have HR3 := Za hr3; have HG3 := Za (ownsRow_new HG2.out HR2.out hg3); clear hr3 hg3)
     go_ret
     have hr := HR3.out
     rw [put_cells HM.out HE.out.1 HE.out.2] at hr
     obtain ⟨p4, c4, e4, h4, h5, h6⟩ := nsAt_own (by rw [putR_new HM.out, HE.out.1, HE.out.2, Zq, Zt, Yo, Yr, HL.out]; omega) hr
     cases e4
     exact ⟨_, _, _, rfl, h4.wide, h5, h6, by omega, by omega, HG3.out⟩
    ·by_cases hk0 : k = 0
     ·subst hk0
      go_upto_region 7 with (first
       | (at_builtin; refine Xf rfl (.const (.slice none 0 0)) (.tmp 27) 53 rfl wc.heap.size 52 i0 (.int .u32 0) 1 4 Tryz.underlying53 hi0 hz0 hz1 hz2 rfl (by decide) (.slice none 0 0) 0 [] (by simp [Act.eval]) (Yp _ _ _ _) (some ⟨b, o, none⟩) 0 c (ncells .u32 (l.take 0)) (by simp [Act.eval]) (by rw [Nat.mul_one]; exact HT.out) HF.out (ncells_one _ _) (by unfold maxLen; omega) (by omega) (Zc _) ?_; intro p1 c1 w1 hr1 hg1; rw [Yj, Ys] at hr1; rw [Yj]; have HR1 := Za hr1; have hg1 : wc.grownBy w1 none := hg1; have hs1 := hg1.size; have HG1 := Za hg1; clear hr1 hg1)
       | (at_builtin; refine Xc _ rfl _ _ 53 rfl wc.heap.size 52 i0 (.int .u32 0) 1 4 Tryz.underlying53 hi0 hz0 hz1 hz2 rfl (by decide) _ _ _ rfl (HR1.out.alloc _) ⟨w1.heap.size, 0, none⟩ 1 1 [.int .u32 x] rfl rfl (cell_one_new _ _ _) (by simp [Value.oneCell']) (by unfold maxLen; omega) (by omega) (by simp; omega) ?_; intro v' w2 hown' hgrow _; obtain ⟨g', cap', rfl⟩ := ownsRow_succ hown'; have HR2 := Za hown'; have HG2 := Za (Xe HG1.out HR1.out hgrow); clear hown' hgrow))
      have HR5 : Hid (w2.ownsRow wc.heap.size 52 1 (.slice (some ⟨g', 0, none⟩) 1 cap') 1 (ncells .u32 (l.take 0) ++ [.int .u32 x])) := Za (by have := HR2.out; rw [Yj] at this; exact this)
      have HS := Za (nums_part (H.out.calm HG2.out) 0 n (by omega))
      clear HF HT
      go_wp2_with (at_builtin; refine Xf rfl (.tmp 32) (.tmp 35) 53 rfl wc.heap.size 52 i0 (.int .u32 0) 1 4 Tryz.underlying53 hi0 hz0 hz1 hz2 rfl (by decide) (.slice (some ⟨g', 0, none⟩) (1) cap') (1) (ncells .u32 (l.take 0) ++ [.int .u32 x]) (by simp [Act.eval]) HR5.out (some ⟨b, o, none⟩) (n) (c) (ncells .u32 (l.drop 0)) (by simp [Act.eval]) (by rw [ncells_len, Yr, HL.out]; omega) (.inr ⟨_, rfl, fun j u hj => by have := HS.out j u (by rw [Yl (by rw [Yr, HL.out]; omega)]; exact hj); rwa [Ve] at this⟩) (ncells_one _ _) (by unfold maxLen; omega) (by omega) HG2.out.size ?_; intro p3 c3 w3 hr3 hg3; have HR3 := Za hr3; have HG3 := Za (ownsRow_new HG2.out HR5.out hg3); clear hr3 hg3)
      go_ret
      have hr := HR3.out
      rw [put_cells HM.out HE.out.1 HE.out.2] at hr
      obtain ⟨p4, c4, e4, h4, h5, h6⟩ := nsAt_own (by rw [putR_new HM.out, HE.out.1, HE.out.2, Zq, Zt, Yo, Yr, HL.out]; omega) hr
      cases e4
      exact ⟨_, _, _, rfl, h4.wide, h5, h6, by omega, by omega, HG3.out⟩
     ·have k3 : ¬ c = k := hck
      go_upto_region 7 with (first
       | (at_builtin; refine Xf rfl (.const (.slice none 0 0)) (.tmp 27) 53 rfl wc.heap.size 52 i0 (.int .u32 0) 1 4 Tryz.underlying53 hi0 hz0 hz1 hz2 rfl (by decide) (.slice none 0 0) 0 [] (by simp [Act.eval]) (Yp _ _ _ _) (some ⟨b, o, none⟩) k c (ncells .u32 (l.take k)) (by simp [Act.eval]) (by rw [Nat.mul_one]; exact HT.out) HF.out (ncells_one _ _) (by unfold maxLen; omega) (by omega) (Zc _) ?_; intro p1 c1 w1 hr1 hg1; rw [Yj, Ys] at hr1; rw [Yj]; have HR1 := Za hr1; have hg1 : wc.grownBy w1 none := hg1; have hs1 := hg1.size; have HG1 := Za hg1; clear hr1 hg1)
       | (at_builtin; refine Xc _ rfl _ _ 53 rfl wc.heap.size 52 i0 (.int .u32 0) 1 4 Tryz.underlying53 hi0 hz0 hz1 hz2 rfl (by decide) _ _ _ rfl (HR1.out.alloc _) ⟨w1.heap.size, 0, none⟩ 1 1 [.int .u32 x] rfl rfl (cell_one_new _ _ _) (by simp [Value.oneCell']) (by unfold maxLen; omega) (by omega) (by simp; omega) ?_; intro v' w2 hown' hgrow _; obtain ⟨g', cap', rfl⟩ := ownsRow_succ hown'; have HR2 := Za hown'; have HG2 := Za (Xe HG1.out HR1.out hgrow); clear hown' hgrow))
      have HS := Za (nums_part (H.out.calm HG2.out) k (n - k) (by omega))
      clear HF HT
      go_wp2_with (at_builtin; refine Xf rfl (.tmp 32) (.tmp 35) 53 rfl wc.heap.size 52 i0 (.int .u32 0) 1 4 Tryz.underlying53 hi0 hz0 hz1 hz2 rfl (by decide) (.slice (some ⟨g', 0, none⟩) (k + 1) cap') (k + 1) (ncells .u32 (l.take k) ++ [.int .u32 x]) (by simp [Act.eval]) HR2.out (some ⟨b, o + k, none⟩) (n - k) (c - k) (ncells .u32 (l.drop k)) (by simp [Act.eval]) (by rw [ncells_len, Yr, HL.out, Nat.mul_one]) (.inr ⟨_, rfl, fun j u hj => HS.out j u (by rw [Yl (by rw [Yr, HL.out]; exact Zc _)]; exact hj)⟩) (ncells_one _ _) (by unfold maxLen; omega) (by omega) HG2.out.size ?_; intro p3 c3 w3 hr3 hg3; have HR3 := Za hr3; have HG3 := Za (ownsRow_new HG2.out HR2.out hg3); clear hr3 hg3)
      go_ret
      have hr := HR3.out
      rw [put_cells HM.out HE.out.1 HE.out.2] at hr
      obtain ⟨p4, c4, e4, h4, h5, h6⟩ := nsAt_own (by rw [putR_new HM.out, HE.out.1, HE.out.2, Zq, Zt, Yo, Yr, HL.out]; omega) hr
      cases e4
      exact ⟨_, _, _, rfl, h4.wide, h5, h6, by omega, by omega, HG3.out⟩
theorem scells_lenP (l : List ByteArray) : (scells l).length = l.length := by simp [scells]
theorem scells_oneP (l : List ByteArray) : ∀ u ∈ scells l, u.oneCell' = true := by
 intro u hu
 unfold scells at hu
 obtain ⟨x, _, rfl⟩ := Yi.1 hu
 rfl
theorem strs_part {w : World} {lo hi n b off : Nat} {l : List ByteArray} (h : StrsAt w lo hi (some ⟨b, off, none⟩) n l) (a m : Nat) (ham : a + m <= n) : ∀ j u, (scells ((l.drop a).take m))[j]? = some u -> w.cell? ((⟨b, off + a, none⟩ : Addr).add j) = some u := by
 intro j u hj
 have hjm : j < m := by
  have := (List.getElem?_eq_some_iff.1 hj).1
  rw [scells_lenP, Yo] at this
  omega
 obtain ⟨b', off', e, _, _, _, hc⟩ := h.cell (by omega)
 simp only [Option.some.injEq, Addr.mk.injEq, and_true] at e
 obtain ⟨rfl, rfl⟩ := e
 have := hc (a + j) (by omega)
 rw [scells_get (by rw [Yo, Yr, h.len]; omega)] at hj
 cases hj
 rw [add_off, Nat.add_assoc, this, Xy hjm, List.getElem?_drop]
theorem srcS_front {w : World} {lo hi n c k : Nat} {p : Option Addr} {l : List ByteArray} (h : StrsAt w lo hi p n l) (hp : p = none -> c = 0) (hk : k <= n) : (p = none /\ k = 0 /\ c = 0) ∨ ∃ ad, p = some ad /\ ∀ j u, (scells (l.take k))[j]? = some u -> w.cell? (ad.add j) = some u := by
 rcases Nat.eq_zero_or_pos n with e | e
 ·obtain rfl : k = 0 := by omega
  cases p with
  | none => exact .inl ⟨rfl, rfl, hp rfl⟩
  | some ad => exact .inr ⟨ad, rfl, fun j u hj => by simp [scells] at hj⟩
 ·obtain ⟨b, off, rfl, _⟩ := h.cell e
  refine .inr ⟨_, rfl, fun j u hj => ?_⟩
  have := strs_part h 0 k (by omega) j u (by rw [List.drop_zero]; exact hj)
  rwa [Ve] at this
theorem putS_cells {l : List ByteArray} {x : ByteArray} {k : Nat} (hm : x ∉ l) (h1 : l.takeWhile (fun y => ltS y x) = l.take k) (h2 : l.dropWhile (fun y => ltS y x) = l.drop k) : scells (l.take k) ++ [Value.string x] ++ scells (l.drop k) = scells (putR ltS l x) := by
 rw [putR_new hm, h1, h2, scells_app]
 show _ = _ ++ (Value.string x :: scells (l.drop k))
 rw [Xa]
 rfl
theorem refPutText_c (p : Option Addr) (n c lo hi : Nat) (x : ByteArray) (l : List ByteArray) (w : World) (h : StrsAt w lo hi p n l) (hn : n <= 100000) (hc : n <= c) (hp : p = none -> c = 0) (hz : n = 0 -> p = none) :
  Calls Tryz.prog 70 #[.slice p n c, .string x] w fun e w' => ∃ p' n' c', e = .returned (.slice p' n' c') /\ StrsAt w' 0 w'.heap.size p' n' (putR ltS l x) /\ n' <= c' /\ (p' = none -> c' = 0) /\ (n' = 0 -> p' = none) /\ n' <= n + 1 /\ w.grownBy w' none := by
 obtain ⟨i0, hi0, hz0, hz1, hz2⟩ := Yz Tryz.info9
 have H := Za h
 have HL := Za h.len
 have HP := Za hp
 have HZ := Za hz
 clear h hp hz
 obtain ⟨r, hr2⟩ : ∃ r : Bool, r = true ↔ x ∈ l := by
  by_cases h : x ∈ l
  ·exact ⟨true, iff_of_true rfl h⟩
  ·exact ⟨false, iff_of_false Bool.false_ne_true h⟩
 go_enter Tryz.func70, Tryz.ntmps70
 go_wp2_with fail
 refine (refIn_c p n c lo hi l x r _ H.out (by omega) hr2).mono ?_
 rintro e w1 ⟨rfl, h9⟩
 subst w1
 cases r with
 | true =>
  have HM := Za (hr2.1 rfl)
  clear hr2
  go_wp2
  go_ret
  rw [putR_has HM.out]
  exact ⟨p, n, c, rfl, H.out.wideP, hc, HP.out, HZ.out, by omega, Zi _ _⟩
 | false =>
  have hm : x ∉ l := fun h => by have := hr2.2 h; cases this
  have HM := Za hm
  clear hr2 hm
  go_upto_block 0 with fail
  go_cut [5] from 11 to 24 (fun s5 wx => ∃ k : Nat, s5 = .int .i64 k /\ k <= n /\ Hid (l.takeWhile (fun y => ltS y x) = l.take k /\ l.dropWhile (fun y => ltS y x) = l.drop k) /\ wx = w)
  case first =>
   go_wp2_with fail
   go_loop [5] (fun i => ∃ k : Nat, k <= n /\ i = .int .i64 k /\ Hid (∀ j, j < k -> ltS (l[j]?.getD .empty) x = true)) (fun i => n - (intOf i).toNat)
   case atStart => exact ⟨0, Ze _, rfl, Za fun i hi => absurd hi (Zy _)⟩
   case round =>
    obtain ⟨k, hk, rfl, HU⟩ := hrel
    by_cases hkn : k < n
    ·have k0 : (0 : Int) <= k := by omega
     have k1 : (k : Int) < n := by omega
     obtain ⟨b, o, rfl, _, _, _, hc'⟩ := H.out.cell (by omega)
     have hck := hc' k hkn
     have HK := Za (show ltS (l[k]?.getD .empty) x = true -> ∀ j, j < k + 1 -> ltS (l[j]?.getD .empty) x = true from fun h => Yk (q := fun j => ltS (l[j]?.getD .empty) x = true) HU.out h)
     have HE := Za (show ltS (l[k]?.getD .empty) x = false -> l.takeWhile (fun y => ltS y x) = l.take k /\ l.dropWhile (fun y => ltS y x) = l.drop k from fun h => while_get (d := ByteArray.empty) (by rw [HL.out]; exact hk) HU.out (fun _ => h))
     clear hc'
     generalize l[k]?.getD .empty = y at *
     cases hy : ltS y x with
     | true =>
      have e1 : Op.bytesLess y.toList x.toList = true := hy
      have HK2 := Za (HK.out hy)
      clear hy
      go_wp2
      exact ⟨⟨k + 1, by omega, by go_num, HK2⟩, by simp [intOf]; omega⟩
     | false =>
      have e1 : Op.bytesLess y.toList x.toList = false := hy
      have HE2 := Za (HE.out hy)
      clear hy
      go_wp2
      go_meet
      exact ⟨k, rfl, hk, HE2, rfl⟩
    ·obtain rfl : k = n := by omega
     have k1 : ¬ ((k : Int) < k) := by omega
     have HE2 := Za (while_get (q := fun y => ltS y x) (d := ByteArray.empty) (by rw [HL.out]; exact Zc _) HU.out (fun h => absurd h (by rw [HL.out]; exact Xv _)))
     go_wp2
     go_meet
     exact ⟨k, rfl, hk, HE2, rfl⟩
  case rest =>
   obtain ⟨k, rfl, hk, HE, hwc⟩ := hcut
   subst hwc
   have HF := Za (srcS_front (k := k) H.out HP.out hk)
   have HT := Za (show (scells (l.take k)).length = k by rw [scells_lenP, Yo, HL.out]; omega)
   have k0 : (0 : Int) <= k := by omega
   have k1 : (k : Int) <= n := by omega
   have k2 : (k : Int) <= c := by omega
   have c9 : n <= c := hc
   by_cases hn0 : n = 0
   ·obtain rfl := HZ.out hn0
    subst hn0
    obtain rfl : k = 0 := by omega
    obtain rfl : c = 0 := HP.out rfl
    have HLN : Hid (l = []) := Za (Xu HL.out)
    go_upto_region 7 with (first
     | (at_builtin; refine Xf rfl (.const (.slice none 0 0)) (.tmp 27) 48 rfl wc.heap.size 9 i0 (.string .empty) 1 16 Tryz.underlying48 hi0 hz0 hz1 hz2 rfl (by decide) (.slice none 0 0) 0 [] (by simp [Act.eval]) (Yp _ _ _ _) (none) 0 0 (scells (l.take 0)) (by simp [Act.eval]) (by rw [Nat.mul_one]; exact HT.out) HF.out (scells_oneP _) (by unfold maxLen; omega) (by omega) (Zc _) ?_; intro p1 c1 w1 hr1 hg1; rw [Yj, Ys] at hr1; rw [Yj]; have HR1 := Za hr1; have hg1 : wc.grownBy w1 none := hg1; have hs1 := hg1.size; have HG1 := Za hg1; clear hr1 hg1)
     | (at_builtin; refine Xc _ rfl _ _ 48 rfl wc.heap.size 9 i0 (.string .empty) 1 16 Tryz.underlying48 hi0 hz0 hz1 hz2 rfl (by decide) _ _ _ rfl (HR1.out.alloc _) ⟨w1.heap.size, 0, none⟩ 1 1 [.string x] rfl rfl (cell_one_new _ _ _) (by simp [Value.oneCell']) (by unfold maxLen; omega) (by omega) (by simp; omega) ?_; intro v' w2 hown' hgrow _; obtain ⟨g', cap', rfl⟩ := ownsRow_succ hown'; have HR2 := Za hown'; have HG2 := Za (Xe HG1.out HR1.out hgrow); clear hown' hgrow))
    have HR5 : Hid (w2.ownsRow wc.heap.size 9 1 (.slice (some ⟨g', 0, none⟩) 1 cap') 1 (scells (l.take 0) ++ [.string x])) := Za (by have := HR2.out; rw [Yj] at this; exact this)
    clear HF HT
    go_wp2_with (at_builtin; refine Xf rfl (.tmp 32) (.tmp 35) 48 rfl wc.heap.size 9 i0 (.string .empty) 1 16 Tryz.underlying48 hi0 hz0 hz1 hz2 rfl (by decide) (.slice (some ⟨g', 0, none⟩) (1) cap') (1) (scells (l.take 0) ++ [.string x]) (by simp [Act.eval]) HR5.out (none) (0) (0) (scells (l.drop 0)) (by simp [Act.eval]) (by rw [HLN.out]; rfl) (.inl ⟨rfl, rfl, rfl⟩) (scells_oneP _) (by unfold maxLen; omega) (by omega) HG2.out.size ?_; intro p3 c3 w3 hr3 hg3; have HR3 := Za hr3; have HG3 := Za (ownsRow_new HG2.out HR5.out hg3); clear hr3 hg3)
    go_ret
    have hr := HR3.out
    rw [putS_cells HM.out HE.out.1 HE.out.2] at hr
    obtain ⟨p4, c4, e4, h4, h5, h6⟩ := strsAt_own3 (by rw [putR_new HM.out, HE.out.1, HE.out.2, Zq, Zt, Yo, Yr, HL.out]; omega) hr
    cases e4
    exact ⟨_, _, _, rfl, h4.wideP, h5, h6, by omega, by omega, HG3.out⟩
   ·obtain ⟨b, o, rfl, _⟩ := H.out.cell (by omega)
    by_cases hck : c = k
    ·subst hck
     obtain rfl : n = c := by omega
     go_upto_region 7 with (first
      | (at_builtin; refine Xf rfl (.const (.slice none 0 0)) (.tmp 27) 48 rfl wc.heap.size 9 i0 (.string .empty) 1 16 Tryz.underlying48 hi0 hz0 hz1 hz2 rfl (by decide) (.slice none 0 0) 0 [] (by simp [Act.eval]) (Yp _ _ _ _) (some ⟨b, o, none⟩) n n (scells (l.take n)) (by simp [Act.eval]) (by rw [Nat.mul_one]; exact HT.out) HF.out (scells_oneP _) (by unfold maxLen; omega) (by omega) (Zc _) ?_; intro p1 c1 w1 hr1 hg1; rw [Yj, Ys] at hr1; rw [Yj]; have HR1 := Za hr1; have hg1 : wc.grownBy w1 none := hg1; have hs1 := hg1.size; have HG1 := Za hg1; clear hr1 hg1)
      | (at_builtin; refine Xc _ rfl _ _ 48 rfl wc.heap.size 9 i0 (.string .empty) 1 16 Tryz.underlying48 hi0 hz0 hz1 hz2 rfl (by decide) _ _ _ rfl (HR1.out.alloc _) ⟨w1.heap.size, 0, none⟩ 1 1 [.string x] rfl rfl (cell_one_new _ _ _) (by simp [Value.oneCell']) (by unfold maxLen; omega) (by omega) (by simp; omega) ?_; intro v' w2 hown' hgrow _; obtain ⟨g', cap', rfl⟩ := ownsRow_succ hown'; have HR2 := Za hown'; have HG2 := Za (Xe HG1.out HR1.out hgrow); clear hown' hgrow))
     clear HF HT
     go_wp2_with (at_builtin; refine Xf rfl (.tmp 32) (.tmp 35) 48 rfl wc.heap.size 9 i0 (.string .empty) 1 16 Tryz.underlying48 hi0 hz0 hz1 hz2 rfl (by decide) (.slice (some ⟨g', 0, none⟩) (n + 1) cap') (n + 1) (scells (l.take n) ++ [.string x]) (by simp [Act.eval]) HR2.out (some ⟨b, o, none⟩) (0) (0) (scells (l.drop n)) (by simp [Act.eval]) (by rw [List.drop_eq_nil_of_le (by rw [HL.out]; omega)]; rfl) (.inr ⟨_, rfl, fun j u hj => by rw [List.drop_eq_nil_of_le (by rw [HL.out]; omega)] at hj; simp [scells] at hj⟩) (scells_oneP _) (by unfold maxLen; omega) (by omega) HG2.out.size ?_; intro p3 c3 w3 hr3 hg3; have HR3 := Za hr3; have HG3 := Za (ownsRow_new HG2.out HR2.out hg3); clear hr3 hg3)
     go_ret
     have hr := HR3.out
     rw [putS_cells HM.out HE.out.1 HE.out.2] at hr
     obtain ⟨p4, c4, e4, h4, h5, h6⟩ := strsAt_own3 (by rw [putR_new HM.out, HE.out.1, HE.out.2, Zq, Zt, Yo, Yr, HL.out]; omega) hr
     cases e4
     exact ⟨_, _, _, rfl, h4.wideP, h5, h6, by omega, by omega, HG3.out⟩
    ·by_cases hk0 : k = 0
     ·subst hk0
      go_upto_region 7 with (first
       | (at_builtin; refine Xf rfl (.const (.slice none 0 0)) (.tmp 27) 48 rfl wc.heap.size 9 i0 (.string .empty) 1 16 Tryz.underlying48 hi0 hz0 hz1 hz2 rfl (by decide) (.slice none 0 0) 0 [] (by simp [Act.eval]) (Yp _ _ _ _) (some ⟨b, o, none⟩) 0 c (scells (l.take 0)) (by simp [Act.eval]) (by rw [Nat.mul_one]; exact HT.out) HF.out (scells_oneP _) (by unfold maxLen; omega) (by omega) (Zc _) ?_; intro p1 c1 w1 hr1 hg1; rw [Yj, Ys] at hr1; rw [Yj]; have HR1 := Za hr1; have hg1 : wc.grownBy w1 none := hg1; have hs1 := hg1.size; have HG1 := Za hg1; clear hr1 hg1)
       | (at_builtin; refine Xc _ rfl _ _ 48 rfl wc.heap.size 9 i0 (.string .empty) 1 16 Tryz.underlying48 hi0 hz0 hz1 hz2 rfl (by decide) _ _ _ rfl (HR1.out.alloc _) ⟨w1.heap.size, 0, none⟩ 1 1 [.string x] rfl rfl (cell_one_new _ _ _) (by simp [Value.oneCell']) (by unfold maxLen; omega) (by omega) (by simp; omega) ?_; intro v' w2 hown' hgrow _; obtain ⟨g', cap', rfl⟩ := ownsRow_succ hown'; have HR2 := Za hown'; have HG2 := Za (Xe HG1.out HR1.out hgrow); clear hown' hgrow))
      have HR5 : Hid (w2.ownsRow wc.heap.size 9 1 (.slice (some ⟨g', 0, none⟩) 1 cap') 1 (scells (l.take 0) ++ [.string x])) := Za (by have := HR2.out; rw [Yj] at this; exact this)
      have HS := Za (strs_part (H.out.calm HG2.out) 0 n (by omega))
      clear HF HT
      go_wp2_with (at_builtin; refine Xf rfl (.tmp 32) (.tmp 35) 48 rfl wc.heap.size 9 i0 (.string .empty) 1 16 Tryz.underlying48 hi0 hz0 hz1 hz2 rfl (by decide) (.slice (some ⟨g', 0, none⟩) (1) cap') (1) (scells (l.take 0) ++ [.string x]) (by simp [Act.eval]) HR5.out (some ⟨b, o, none⟩) (n) (c) (scells (l.drop 0)) (by simp [Act.eval]) (by rw [scells_lenP, Yr, HL.out]; omega) (.inr ⟨_, rfl, fun j u hj => by have := HS.out j u (by rw [Yl (by rw [Yr, HL.out]; omega)]; exact hj); rwa [Ve] at this⟩) (scells_oneP _) (by unfold maxLen; omega) (by omega) HG2.out.size ?_; intro p3 c3 w3 hr3 hg3; have HR3 := Za hr3; have HG3 := Za (ownsRow_new HG2.out HR5.out hg3); clear hr3 hg3)
      go_ret
      have hr := HR3.out
      rw [putS_cells HM.out HE.out.1 HE.out.2] at hr
      obtain ⟨p4, c4, e4, h4, h5, h6⟩ := strsAt_own3 (by rw [putR_new HM.out, HE.out.1, HE.out.2, Zq, Zt, Yo, Yr, HL.out]; omega) hr
      cases e4
      exact ⟨_, _, _, rfl, h4.wideP, h5, h6, by omega, by omega, HG3.out⟩
     ·have k3 : ¬ c = k := hck
      go_upto_region 7 with (first
       | (at_builtin; refine Xf rfl (.const (.slice none 0 0)) (.tmp 27) 48 rfl wc.heap.size 9 i0 (.string .empty) 1 16 Tryz.underlying48 hi0 hz0 hz1 hz2 rfl (by decide) (.slice none 0 0) 0 [] (by simp [Act.eval]) (Yp _ _ _ _) (some ⟨b, o, none⟩) k c (scells (l.take k)) (by simp [Act.eval]) (by rw [Nat.mul_one]; exact HT.out) HF.out (scells_oneP _) (by unfold maxLen; omega) (by omega) (Zc _) ?_; intro p1 c1 w1 hr1 hg1; rw [Yj, Ys] at hr1; rw [Yj]; have HR1 := Za hr1; have hg1 : wc.grownBy w1 none := hg1; have hs1 := hg1.size; have HG1 := Za hg1; clear hr1 hg1)
       | (at_builtin; refine Xc _ rfl _ _ 48 rfl wc.heap.size 9 i0 (.string .empty) 1 16 Tryz.underlying48 hi0 hz0 hz1 hz2 rfl (by decide) _ _ _ rfl (HR1.out.alloc _) ⟨w1.heap.size, 0, none⟩ 1 1 [.string x] rfl rfl (cell_one_new _ _ _) (by simp [Value.oneCell']) (by unfold maxLen; omega) (by omega) (by simp; omega) ?_; intro v' w2 hown' hgrow _; obtain ⟨g', cap', rfl⟩ := ownsRow_succ hown'; have HR2 := Za hown'; have HG2 := Za (Xe HG1.out HR1.out hgrow); clear hown' hgrow))
      have HS := Za (strs_part (H.out.calm HG2.out) k (n - k) (by omega))
      clear HF HT
      go_wp2_with (at_builtin; refine Xf rfl (.tmp 32) (.tmp 35) 48 rfl wc.heap.size 9 i0 (.string .empty) 1 16 Tryz.underlying48 hi0 hz0 hz1 hz2 rfl (by decide) (.slice (some ⟨g', 0, none⟩) (k + 1) cap') (k + 1) (scells (l.take k) ++ [.string x]) (by simp [Act.eval]) HR2.out (some ⟨b, o + k, none⟩) (n - k) (c - k) (scells (l.drop k)) (by simp [Act.eval]) (by rw [scells_lenP, Yr, HL.out, Nat.mul_one]) (.inr ⟨_, rfl, fun j u hj => HS.out j u (by rw [Yl (by rw [Yr, HL.out]; exact Zc _)]; exact hj)⟩) (scells_oneP _) (by unfold maxLen; omega) (by omega) HG2.out.size ?_; intro p3 c3 w3 hr3 hg3; have HR3 := Za hr3; have HG3 := Za (ownsRow_new HG2.out HR2.out hg3); clear hr3 hg3)
      go_ret
      have hr := HR3.out
      rw [putS_cells HM.out HE.out.1 HE.out.2] at hr
      obtain ⟨p4, c4, e4, h4, h5, h6⟩ := strsAt_own3 (by rw [putR_new HM.out, HE.out.1, HE.out.2, Zq, Zt, Yo, Yr, HL.out]; omega) hr
      cases e4
      exact ⟨_, _, _, rfl, h4.wideP, h5, h6, by omega, by omega, HG3.out⟩
section
variable {w w' : World} {g : Nat} {vs : List Value} {t : TypeId}
end
theorem putR_step {α : Type} [DecidableEq α] {lt : α -> α -> Bool} (pre l : List α) {k : Nat} (hk : k < l.length) (d : α) : putR lt (allR lt (pre ++ l.take k)) (l[k]?.getD d) = allR lt (pre ++ l.take (k + 1)) := by
 rw [take_snoc hk d, <- Xa, allR_snoc]
theorem refPut_n (w0 w : World) (s : Value) (xs : List Nat) (x : Nat) (h : NumAcc w0 w s xs) (hn : xs.length <= 99999) :
  Calls Tryz.prog 108 #[s, .int .u32 x] w fun e w' => ∃ s', e = .returned s' /\ NumAcc w0 w' s' (xs ++ [x]) /\ w.grownBy w' none := by
 obtain ⟨q, m, c, rfl, h1, h2, h3, h4, h5, h6⟩ := h
 refine (refPut_c q m c 0 w.heap.size x _ w h1 (by omega) h2 h3 h4).mono ?_
 rintro e w2 ⟨q', m', c', rfl, g1, g2, g3, g4, g5, g6⟩
 rw [<- allR_snoc] at g1
 exact ⟨_, rfl, ⟨q', m', c', rfl, g1, g2, g3, g4, by rw [Zq, List.length_singleton]; omega, Zb h6 g6⟩, g6⟩
theorem names_K {l : List Ln} {k : Nat} (hk : k < l.length) : (l.take (k + 1)).map (fun x => x.1) = (l.take k).map (fun x => x.1) ++ [(l[k]?.getD (0, 0)).1] := by
 rw [take_snoc hk (0, 0), Xj]
 rfl
theorem refNeeds_c (id : Nat) (pd : Option Addr) (nd cd : Nat) (pm : Option Addr) (nm cm : Nat) (px : Option Addr) (nx cx : Nat) (ph : Option Addr) (nh ch : Nat) (lo hi : Nat) (p : Pt) (w : World)
  (h : PtAt w lo hi id pd nd cd pm nm cm px nx cx ph nh ch p) (hn : nh <= 20) (hl : ∀ x ∈ pHunks p, (hEdges x).length <= 1000 /\ (hKills x).length <= 1000) :
  Calls Tryz.prog 69 #[.agg #[.int .u32 (id : Int), .slice pd nd cd, .slice pm nm cm, .slice px nx cx, .slice ph nh ch]] w fun e w' => ∃ q m c, e = .returned (.slice q m c) /\ NsAt .u32 w' 0 w'.heap.size q m (needsL p) /\ m <= c /\ (q = none -> c = 0) /\ m <= 60000 /\ w.grownBy w' none := by
 obtain ⟨i0, hi0, hz0, hz1, hz2⟩ := Yz infoU32
 have HH := Za h.hunks
 have HHL := Za h.hunks.len
 have HID := Za h.num
 have HB1 := Za hl
 have HB2 := Za (names_lenH hl)
 have HE := Za (show (allR ltN ((pHunks p).flatMap namesH)).filter (fun x => decide (x ≠ pID p)) = needsL p from rfl)
 clear h hl
 generalize needsL p = r at *
 generalize pID p = pid at *
 obtain rfl := HID.out
 clear HID
 generalize pHunks p = hs at *
 go_enter Tryz.func69, Tryz.ntmps69
 go_wp2
 have HB := Za (BoxV.new w [.int .u32 (pid : Int), .slice pd nd cd, .slice pm nm cm, .slice px nx cx, .slice ph nh ch] 56)
 have HG := Za (Zd w (.cells [.int .u32 (pid : Int), .slice pd nd cd, .slice pm nm cm, .slice px nx cx, .slice ph nh ch].toArray 56) none)
 generalize w.alloc _ = w1 at *
 generalize w.heap.size = g at *
 go_loopw [3, 4] (fun s i wr => ∃ k : Nat, k <= nh /\ i = .int .i64 k /\ Hid (NumAcc w1 wr s ((hs.take k).flatMap namesH))) (fun _ i _ => nh - (intOf i).toNat)
 case atStart => exact ⟨0, Ze _, rfl, Za (NumAcc.nil _)⟩
 case round =>
  obtain ⟨i, hi, rfl, HT⟩ := hrel
  have c4 := (HB.out.calm HT.out.gr).cell (k := 4) rfl
  by_cases hin : i < nh
  ·have i0' : (0 : Int) <= i := by omega
   have i1 : (i : Int) < nh := by omega
   obtain ⟨b, o, rfl, _, _, _, hc⟩ := (HH.out.calm (Zb HG.out HT.out.gr)).cell (by omega)
   obtain ⟨pa, na, ca, pe, ne, ce, pk, nk, ck, cA, cB, cC, cD, hh⟩ := hc i hin
   have hil : i < hs.length := by rw [HHL.out]; exact hin
   have HX := Za hh.edges
   have HK := Za hh.kills
   have HXL := Za hh.edges.len
   have HKL := Za hh.kills.len
   have HNS := Za (names_H hil)
   have HBX := Za (HB1.out _ (Zr (d := hk0) hil))
   have HBN := Za (HB2.out i (by omega))
   clear hc hh
   generalize hEdges (hs[i]?.getD hk0) = es at *
   generalize hKills (hs[i]?.getD hk0) = ks at *
   generalize hPath (hs[i]?.getD hk0) = path at *
   generalize (hs.take i).flatMap namesH = pre at *
   go_wp2
   have HBH := Za (BoxV.new wr [.string path, .slice pa na ca, .slice pe ne ce, .slice pk nk ck] 68)
   have HGA := Za (Zd wr (.cells [.string path, .slice pa na ca, .slice pe ne ce, .slice pk nk ck].toArray 68) none)
   have HT2 := Za (HT.out.calm HGA.out)
   have HX2 := Za (HX.out.calm HGA.out)
   have HK2 := Za (HK.out.calm HGA.out)
   clear HX HK HT HGA c4 cA cB cC cD
   generalize wr.alloc _ = wB at *
   generalize wr.heap.size = gB at *
   clear wr
   go_loopw [3, 6] (fun s i wr => ∃ k : Nat, k <= ne /\ i = .int .i64 k /\ Hid (NumAcc w1 wr s (pre ++ (es.take k).flatMap namesE)) /\ Hid (wB.grownBy wr none)) (fun _ i _ => ne - (intOf i).toNat)
   case atStart => exact ⟨0, Ze _, rfl, Za (by rw [List.take_zero, List.flatMap_nil, Xq]; exact HT2.out), Za (Zi _ _)⟩
   case round =>
    obtain ⟨k, hk, rfl, HT, HGB⟩ := hrel
    have c2 := (HBH.out.calm HGB.out).cell (k := 2) rfl
    by_cases hkn : k < ne
    ·have hne : ne <= 1000 := by have := HBX.out.1; have := HXL.out; omega
     have k0 : (0 : Int) <= k := by omega
     have k1 : (k : Int) < ne := by omega
     obtain ⟨be, oe, rfl, _, _, _, hc⟩ := (HX2.out.calm HGB.out).cell (by omega)
     obtain ⟨x0, _, x2, _⟩ := hc k hkn
     have HN := Za (names_E (l := es) (k := k) (by rw [HXL.out]; exact hkn))
     have HLN := Za (names_len es k)
     have HLB : Hid ((pre ++ (es.take k).flatMap namesE).length <= 62000) := Za (by rw [Zq]; have := HBN.out; have := HLN.out; have := HBX.out.1; have := HXL.out; omega)
     clear hc
     generalize (es[k]?.getD ((0, 0), (0, 0))).1.1 = xa at *
     generalize (es[k]?.getD ((0, 0), (0, 0))).2.1 = xb at *
     generalize hnow : pre ++ (es.take k).flatMap namesE = now at *
     have HNOW := Za hnow
     clear hnow
     have henv : NdEnv wB wr gB [.string path, .slice pa na ca, .slice (some ⟨be, oe, none⟩) ne ce, .slice pk nk ck] be (oe + k * 4) xa xb := ⟨HGB.out, HBH.out.calm HGB.out, x0, x2⟩
     have hdr : wr.grownBy wr.drew none := Zo wr 1 none
     have henv := henv.calm hdr
     have hacc := HT.out.calm hdr
     have hle := HLB.out
     go_wp2_with fail
     go_region_held3 (fun w' => w'.cell? ⟨gB, 2, none⟩ = some (.slice (some ⟨be, oe, none⟩) ne ce) /\ w'.cell? ⟨be, oe + k * 4, none⟩ = some (.int .u32 (xa : Int)) /\ w'.cell? ⟨be, oe + k * 4 + 2, none⟩ = some (.int .u32 (xb : Int))) (first | exact henv.three rfl | go_keep)
      (first | (go_at_call 108; refine (refPut_n w1 _ _ _ _ hacc (by first | omega | (simp only [Zq, List.length_singleton]; omega))).mono ?_; rintro e w5 ⟨s', rfl, hacc', hg5⟩; have henv := henv.calm hg5; have hacc := hacc'; clear hacc' hg5))
     have HT3 : Hid (NumAcc w1 w5 s' (pre ++ (es.take (k + 1)).flatMap namesE)) := Za (by rw [HN.out, <- Xa, <- Xa, HNOW.out]; exact hacc)
     have HG3 := Za henv.gr
     clear henv hacc
     go_wp2
     exact ⟨⟨k + 1, by omega, by go_num, HT3, HG3⟩, by simp [intOf]; omega⟩
    ·obtain rfl : ne = k := by omega
     have k1 : ¬ ((ne : Int) < ne) := by omega
     have HT3 : Hid (NumAcc w1 wr u3 (pre ++ es.flatMap namesE ++ (ks.take 0).map (fun x => x.1))) := Za (by have := HT.out; rw [Yl (by rw [HXL.out]; exact Zc _)] at this; rw [List.take_zero, List.map_nil, Xq]; exact this)
     have HLN := Za (names_len es es.length)
     rw [List.take_length] at HLN
     have HLB : Hid ((pre ++ es.flatMap namesE).length <= 62000) := Za (by rw [Zq]; have := HBN.out; have := HLN.out; have := HBX.out.1; have := HXL.out; omega)
     clear HT HLN
     generalize hnow : pre ++ es.flatMap namesE = now at *
     have HNOW := Za hnow
     clear hnow
     go_wp2
     go_loopw [3, 7] (fun s i wr => ∃ k : Nat, k <= nk /\ i = .int .i64 k /\ Hid (NumAcc w1 wr s (now ++ (ks.take k).map (fun x => x.1))) /\ Hid (wB.grownBy wr none)) (fun _ i _ => nk - (intOf i).toNat)
     case atStart => exact ⟨0, Ze _, rfl, HT3, HGB⟩
     case round =>
      obtain ⟨k, hk, rfl, HT, HGB⟩ := hrel
      have c3 := (HBH.out.calm HGB.out).cell (k := 3) rfl
      by_cases hkn : k < nk
      ·have hnk : nk <= 1000 := by have := HBX.out.2; have := HKL.out; omega
       have k0 : (0 : Int) <= k := by omega
       have k1 : (k : Int) < nk := by omega
       obtain ⟨be, oe, rfl, _, _, _, hc⟩ := (HK2.out.calm HGB.out).cell (by omega)
       obtain ⟨x0, _⟩ := hc k hkn
       have HN := Za (names_K (l := ks) (k := k) (by rw [HKL.out]; exact hkn))
       have HLB2 : Hid ((now ++ (ks.take k).map (fun x => x.1)).length <= 99999) := Za (by rw [Zq, Yn, Yo]; have := HLB.out; have := HBX.out.2; omega)
       clear hc
       generalize (ks[k]?.getD (0, 0)).1 = xa at *
       go_wp2_with fail
       refine (refPut_n w1 _ _ _ _ HT.out HLB2.out).mono ?_
       rintro e w5 ⟨s', rfl, hacc, hg5⟩
       have HT4 : Hid (NumAcc w1 w5 s' (now ++ (ks.take (k + 1)).map (fun x => x.1))) := Za (by rw [HN.out, <- Xa]; exact hacc)
       have HG4 := Za (Zb HGB.out hg5)
       clear hacc hg5
       go_wp2
       exact ⟨⟨k + 1, by omega, by go_num, HT4, HG4⟩, by simp [intOf]; omega⟩
      ·obtain rfl : nk = k := by omega
       have k1 : ¬ ((nk : Int) < nk) := by omega
       have HT4 : Hid (NumAcc w1 wr u3 ((hs.take (i + 1)).flatMap namesH)) := Za (by have := HT.out; rw [Yl (by rw [HKL.out]; exact Zc _)] at this; rw [HNS.out]; exact this)
       clear HT HT3
       go_wp2
       exact ⟨⟨i + 1, by omega, by go_num, HT4⟩, by simp [intOf]; omega⟩
  ·obtain rfl : nh = i := by omega
   have k1 : ¬ ((nh : Int) < nh) := by omega
   have HT2 : Hid (NumAcc w1 wr u3 (hs.flatMap namesH)) := Za (by have := HT.out; rwa [Yl (by rw [HHL.out]; exact Zc _)] at this)
   have HB9 := Za (HB2.out nh (by rw [HHL.out]; exact Zc _))
   rw [Yl (by rw [HHL.out]; exact Zc _)] at HB9
   clear HT
   obtain ⟨q, m, c, rfl, hs1, hs2, hs3, hs4, hs5, hgr⟩ := HT2.out
   have HS := Za hs1
   have HSL := Za hs1.len
   have HG2 := Za hgr
   have HB5 := Za (HB.out.calm hgr)
   have hm : m <= 60000 := by have := HB9.out; omega
   clear HT2 hs1 hs3 hs4 hgr
   generalize allR ltN (hs.flatMap namesH) = L at *
   generalize wr = wx at *
   go_wp2
   go_loopw [8, 9] (fun s i wr => ∃ k j : Nat, k <= m /\ i = .int .i64 k /\ j <= k /\ j = ((L.take k).filter (fun x => decide (x ≠ pid))).length /\ Hid (wr.ownsRow wx.heap.size 52 1 s j (ncells .u32 ((L.take k).filter (fun x => decide (x ≠ pid))))) /\ Hid (wx.grownBy wr none)) (fun _ i _ => m - (intOf i).toNat)
   case atStart => exact ⟨0, 0, Ze _, rfl, Zc _, rfl, Za (Yp _ _ _ _), Za (Zi _ _)⟩
   case round =>
    obtain ⟨k, j, hk, rfl, hjk, hjl, HR, HGR⟩ := hrel
    by_cases hkn : k < m
    ·have k0 : (0 : Int) <= k := by omega
     have k1 : (k : Int) < m := by omega
     obtain ⟨be, oe, rfl, _, _, _, hc⟩ := (HS.out.calm HGR.out).cell (by omega)
     have x0 := hc k hkn
     have c0 := (HB5.out.calm HGR.out).cell (k := 0) rfl
     have HTK := Za (show (L.take (k + 1)).filter (fun x => decide (x ≠ pid)) = (L.take k).filter (fun x => decide (x ≠ pid)) ++ (if L[k]?.getD 0 = pid then [] else [L[k]?.getD 0]) by
      rw [take_snoc (show k < L.length by rw [HSL.out]; exact hkn) 0, List.filter_append]
      congr 1
      by_cases e : L[k]?.getD 0 = pid <;> simp [e])
     have HJL := Za hjl
     clear hc hjl
     generalize (L.take k).filter (fun x => decide (x ≠ pid)) = M at *
     generalize L[k]?.getD 0 = x at *
     by_cases hx : x = pid
     ·have e1 : (((x : Nat) : Int) != ((pid : Nat) : Int)) = false := by rw [hx]; simp
      rw [if_pos hx, Xq] at HTK
      have HTJ : Hid (j = ((L.take (k + 1)).filter (fun x => decide (x ≠ pid))).length) := Za (by rw [HTK.out]; exact HJL.out)
      have HR2 : Hid (∀ z, (wr.drewN z).ownsRow wx.heap.size 52 1 u8 j (ncells .u32 ((L.take (k + 1)).filter (fun x => decide (x ≠ pid))))) := Za (by rw [HTK.out]; exact fun _ => HR.out)
      have HG3 : Hid (∀ z, wx.grownBy (wr.drewN z) none) := Za fun z => Zb HGR.out (Zo wr z none)
      clear hx HR
      go_wp2
      go_quiet (fail)
      go_wp2
      exact ⟨⟨k + 1, j, by omega, by go_num, by omega, HTJ.out, Za (HR2.out _), Za (HG3.out _)⟩, by simp [intOf]; omega⟩
     ·have e1 : (((x : Nat) : Int) != ((pid : Nat) : Int)) = true := by simp; omega
      rw [if_neg hx] at HTK
      have HTJ : Hid (j + 1 = ((L.take (k + 1)).filter (fun x => decide (x ≠ pid))).length) := Za (by rw [HTK.out, Zq, <- HJL.out]; rfl)
      have HR2 : Hid (∀ z, (wr.drewN z).ownsRow wx.heap.size 52 1 u8 j (ncells .u32 M)) := Za fun _ => HR.out
      have HG3 : Hid (∀ z, wx.grownBy (wr.drewN z) none) := Za fun z => Zb HGR.out (Zo wr z none)
      have HX1 : Hid (∀ z, (wr.drewN z).cell? ⟨be, oe + k, none⟩ = some (.int .u32 (x : Int))) := Za fun _ => x0
      clear hx HR
      go_wp2
      go_quiet (fail)
      generalize hwq : wr.drewN _ = wq
      have hrow : wq.ownsRow wx.heap.size 52 1 u8 j (ncells .u32 M) := hwq ▸ HR2.out _
      have hgq : wx.grownBy wq none := hwq ▸ HG3.out _
      have hxq : wq.cell? ⟨be, oe + k, none⟩ = some (.int .u32 (x : Int)) := hwq ▸ HX1.out _
      clear HR2 HG3 HX1 x0 c0 hwq
      go_wp2_with (at_builtin; refine Xc _ rfl _ _ 53 rfl wx.heap.size 52 i0 (.int .u32 0) 1 4 Tryz.underlying53 hi0 hz0 hz1 hz2 rfl (by decide) _ _ _ rfl (hrow.alloc _) ⟨wq.heap.size, 0, none⟩ 1 1 [.int .u32 (x : Int)] rfl rfl (cell_one_new _ _ _) (by simp [Value.oneCell']) (by unfold maxLen; omega) (by omega) (by have := hgq.size; simp; omega) ?_; intro v' w1 hown' hgrow _; obtain ⟨g', cap', rfl⟩ := ownsRow_succ hown'; have HO := Za hown'; have HG := Za (Xe hgq hrow hgrow); clear hown' hgrow)
      have HO2 : Hid (w1.ownsRow wx.heap.size 52 1 (.slice (some ⟨g', 0, none⟩) (j + 1) cap') (j + 1) (ncells .u32 ((L.take (k + 1)).filter (fun x => decide (x ≠ pid))))) := Za (by rw [HTK.out, ncells_app]; exact HO.out)
      clear HO hrow hgq
      go_wp2
      exact ⟨⟨k + 1, j + 1, by omega, by go_num, by omega, HTJ.out, HO2, HG⟩, by simp [intOf]; omega⟩
    ·obtain rfl : m = k := by omega
     have k1 : ¬ ((m : Int) < m) := by omega
     have hfin := HR.out
     have HFL : Hid (L.take m = L) := Za (Yl (by rw [HSL.out]; exact Zc _))
     rw [HFL.out] at hfin hjl
     obtain ⟨p9, c9, rfl, h9, h10, h11⟩ := nsAt_own hjl.symm hfin
     have HF9 := Za h9
     have HF11 := Za h11
     clear hfin HR h9 h11 hjl
     go_wp2
     go_ret
     refine ⟨p9, j, c9, rfl, ?_, h10, HF11.out, by omega, Zb HG.out (Zb HG2.out HGR.out)⟩
     rw [<- HE.out]
     exact HF9.out.wide
theorem refNamed_c (x : Ln) (id a b : Nat) (r : Bool) (w : World) (hr : r = true ↔ Named x id a b) :
  Calls Tryz.prog 107 #[.agg #[.int .u32 (x.1 : Int), .int .i64 x.2], .int .u32 (id : Int), .int .i64 (a : Int), .int .i64 (b : Int)] w fun e w' => e = .returned (.bool r) /\ w.grownBy w' none := by
 obtain ⟨y, m⟩ := x
 have HR := Za hr
 clear hr
 have HG := Za (Zd w (.cells #[.int .u32 (y : Int), .int .i64 m] 60) none)
 by_cases h0 : 0 <= m
 ·by_cases h1 : m < 40
  ·by_cases h2 : y = id
   ·subst h2
    have e0 : ((y : Int) != (y : Int)) = false := by simp
    by_cases h3 : (a : Int) <= m
    ·by_cases h4 : m < (b : Int)
     ·obtain rfl : r = true := HR.out.2 ⟨h0, h1, fun _ => ⟨h3, h4⟩⟩
      go_enter Tryz.func107, Tryz.ntmps107
      go_wp2
      go_ret
      exact ⟨rfl, HG.out⟩
     ·obtain rfl : r = false := Zj HR.out fun h => h4 (h.own rfl).2
      go_enter Tryz.func107, Tryz.ntmps107
      go_wp2
      go_ret
      exact ⟨rfl, HG.out⟩
    ·obtain rfl : r = false := Zj HR.out fun h => h3 (h.own rfl).1
     go_enter Tryz.func107, Tryz.ntmps107
     go_wp2
     go_ret
     exact ⟨rfl, HG.out⟩
   ·have e0 : ((y : Int) != (id : Int)) = true := by simp; omega
    obtain rfl : r = true := HR.out.2 ⟨h0, h1, fun e => absurd e h2⟩
    clear h2
    go_enter Tryz.func107, Tryz.ntmps107
    go_wp2
    go_ret
    exact ⟨rfl, HG.out⟩
  ·obtain rfl : r = false := Zj HR.out fun h => h1 h.hi
   go_enter Tryz.func107, Tryz.ntmps107
   go_wp2
   go_ret
   exact ⟨rfl, HG.out⟩
 ·obtain rfl : r = false := Zj HR.out fun h => h0 h.lo
  go_enter Tryz.func107, Tryz.ntmps107
  go_wp2
  go_ret
  exact ⟨rfl, HG.out⟩
theorem RL.start (s : ByteArray) : RL s 0 0 [] := ⟨Zc _, Ze _, .inl rfl, rfl, fun k _ h => absurd h (by omega)⟩
theorem RL.more {s : ByteArray} {f i : Nat} {pre : List ByteArray} (h : RL s f i pre) (hi : i < s.size) (hx : (bl s)[i]? ≠ some 10) : RL s f (i + 1) pre :=
 ⟨Nat.le_succ_of_le h.fi, hi, h.ends, h.pre', fun k h1 h2 => by
  by_cases e : k = i
  ·subst e; exact hx
  ·exact h.no k h1 (by omega)⟩
theorem RL.cut {s : ByteArray} {f i : Nat} {pre : List ByteArray} (h : RL s f i pre) (hi : i < s.size) (hx : (bl s)[i]? = some 10) : RL s (i + 1) (i + 1) (pre ++ [s.extract f (i + 1)]) := by
 have hm := mid_no h.no
 have hfi := h.fi
 have e1 : ((bl s).drop f).take (i + 1 - f) = ((bl s).drop f).take (i - f) ++ [10] := by
  rw [show i + 1 - f = (i - f) + 1 from by omega, List.take_add_one, List.getElem?_drop, show f + (i - f) = i from by omega, hx]
  rfl
 have e2 : (bl s).take (i + 1) = (bl s).take f ++ (((bl s).drop f).take (i - f) ++ [10]) := by
  rw [<- e1, <- List.take_add, show f + (i + 1 - f) = i + 1 from by omega]
 refine ⟨Zc _, hi, .inr ⟨(bl s).take f ++ ((bl s).drop f).take (i - f), by rw [e2, Xa]⟩, ?_, fun k h1 h2 => absurd h2 (by omega)⟩
 rw [e2, cutL_split h.ends, cutL_end hm, Xj, <- h.pre', extract_mk, e1]
 rfl
theorem byte10 {x : UInt8} (h : ((x.toNat : Int) == 10) = true) : x = 10 := by
 have h' : (x.toNat : Int) = 10 := by simpa using h
 exact UInt8.toNat_inj.1 (by show x.toNat = 10; omega)
theorem not10 {x : UInt8} (h : ((x.toNat : Int) == 10) = false) : some x ≠ some 10 := by
 intro e
 cases e
 simp at h
theorem refLines_c (s : ByteArray) (w : World) (hs : s.size <= 1000000) :
  Calls Tryz.prog 106 #[.string s] w (StrsPost (linesS s) w) := by
 obtain ⟨i0, hi', hz0, hz1, hz2⟩ := Yz Tryz.info9
 go_enter Tryz.func106, Tryz.ntmps106
 go_wp2
 go_loopw [3, 4, 5] (fun v f i wr => ∃ (F K : Nat) (pre : List ByteArray), f = .int .i64 F /\ i = .int .i64 K /\ RL s F K pre /\ wr.ownsRow w.heap.size 9 1 v pre.length (scells pre) /\ w.grownBy wr none) (fun _ _ i _ => s.size - (intOf i).toNat)
 case atStart => exact ⟨0, 0, [], rfl, rfl, RL.start s, Yp _ _ _ _, Zi _ _⟩
 case round =>
  obtain ⟨F, K, pre, rfl, rfl, hR, hrow, hg⟩ := hrel
  have hfi := hR.fi
  have hil := hR.il
  have hlen := hR.len
  have HR := Za hR
  clear hR
  by_cases hk : K < s.size
  ·have hk' : (K : Int) < s.size := by omega
   have k0 : (0 : Int) <= K := by omega
   have k1 : (F : Int) <= (K : Int) + 1 := by omega
   have k2 : (0 : Int) <= F := by omega
   have k3 : (K : Int) + 1 <= s.size := by omega
   have k4 : IntKind.i64.wrap ((K : Int) + 1) = (K : Int) + 1 := Zf _ (by omega)
   have k5 : ((K : Int) + 1).toNat = K + 1 := by omega
   have HB := Za (Lib.data_getElem? s K hk)
   go_wp2_with (at_builtin; refine Xc _ rfl _ _ 48 rfl w.heap.size 9 i0 (.string .empty) 1 16 Tryz.underlying48 hi' hz0 hz1 hz2 rfl (by decide) _ _ _ rfl (hrow.alloc _) ⟨wr.heap.size, 0, none⟩ 1 1 [.string (s.extract F (K + 1))] rfl rfl (cell_one_new _ _ _) (by simp [Value.oneCell']) (by unfold maxLen; omega) (by omega) (by have := hg.size; simp; omega) ?_; intro v' w1 hown' hgrow _; obtain ⟨g', cap', rfl⟩ := ownsRow_succ hown'; have HO := Za hown'; have HG := Za (Xe hg hrow hgrow); clear hown' hgrow)
   ·have hx : (((s[K]'hk).toNat : Int) == 10) = true := by assumption
    have hb : (bl s)[K]? = some 10 := by rw [show (bl s)[K]? = _ from HB.out, byte10 hx]
    exact ⟨⟨K + 1, K + 1, _, by go_num, by go_num, HR.out.cut hk hb, by rw [scells_snoc]; simpa using HO.out, HG.out⟩, by simp [intOf]; omega⟩
   ·have hx : (((s[K]'hk).toNat : Int) == 10) = false := by assumption
    have hb : (bl s)[K]? ≠ some 10 := by rw [show (bl s)[K]? = _ from HB.out]; exact not10 hx
    exact ⟨⟨F, K + 1, pre, rfl, by go_num, HR.out.more hk hb, hrow, hg⟩, by simp [intOf]; omega⟩
  ·have hk' : ¬ ((K : Int) < s.size) := by omega
   obtain rfl : K = s.size := by omega
   by_cases hF : F < s.size
   ·have hF' : (F : Int) < s.size := by omega
    have k2 : (0 : Int) <= F := by omega
    have k3 : (F : Int) <= s.size := by omega
    have HE := Za (HR.out.last hF)
    go_wp2_with (at_builtin; refine Xc _ rfl _ _ 48 rfl w.heap.size 9 i0 (.string .empty) 1 16 Tryz.underlying48 hi' hz0 hz1 hz2 rfl (by decide) _ _ _ rfl (hrow.alloc _) ⟨wr.heap.size, 0, none⟩ 1 1 [.string (s.extract F s.size)] rfl rfl (cell_one_new _ _ _) (by simp [Value.oneCell']) (by unfold maxLen; omega) (by omega) (by have := hg.size; simp; omega) ?_; intro v' w1 hown' hgrow _; obtain ⟨g', cap', rfl⟩ := ownsRow_succ hown'; have HO := Za hown'; have HG := Za (Xe hg hrow hgrow); clear hown' hgrow)
    go_ret
    exact ⟨_, rfl, by rw [HE.out, scells_snoc]; simpa using HO.out, HG.out⟩
   ·have hF' : ¬ ((F : Int) < s.size) := by omega
    have HE := Za (HR.out.none hF)
    go_wp2
    go_ret
    exact ⟨_, rfl, by rw [HE.out]; exact hrow, hg⟩
theorem refClosed_c (p : Option Addr) (n c lo hi : Nat) (l : List Pt) (r : Bool) (w : World) (h : PtsAt w lo hi p n l) (hn : n <= 1000) (hd : ∀ x ∈ l, (pDeps x).length <= 1000) (hr : r = true ↔ ClosedL l) :
  Calls Tryz.prog 15 #[.slice p n c] w fun e w' => e = .returned (.bool r) /\ w.grownBy w' none := by
 have H := Za h
 have HR := Za hr
 have HL := Za h.len
 have HD := Za hd
 clear h hr hd
 go_enter Tryz.func15, Tryz.ntmps15
 go_wp2
 go_loopw [3] (fun v wr => ∃ i : Nat, i <= n /\ v = .int .i64 i /\ Hid (∀ j, j < i -> ∀ d ∈ pDeps (l[j]?.getD pt0), ∃ y ∈ l, pID y = d) /\ Hid (w.grownBy wr none)) (fun v _ => n - (intOf v).toNat)
 case atStart => exact ⟨0, Ze _, rfl, Za (fun j hj => absurd hj (Zy _)), Za (Zi _ _)⟩
 case round =>
 obtain ⟨i, hi', rfl, HU, HG⟩ := hrel
 by_cases hin : i < n
 ·have i0 : (0 : Int) <= i := by omega
  have i1 : (i : Int) < n := by omega
  obtain ⟨b, o, rfl, _, _, _, hc⟩ := H.out.cell (by omega)
  have HC := Za hc
  obtain ⟨pd, nd, cd, pm, nm, cm, px, nx, cx, ph, nh, ch, _, c1, _, _, _, hp⟩ := hc i hin
  clear hc
  have HM := Za (Zr (d := pt0) (show i < l.length by rw [HL.out]; exact hin))
  have HU2 := Za (show (∀ d ∈ pDeps (l[i]?.getD pt0), ∃ y ∈ l, pID y = d) -> ∀ j, j < i + 1 -> ∀ d ∈ pDeps (l[j]?.getD pt0), ∃ y ∈ l, pID y = d from fun h => Yk (q := fun j => ∀ d ∈ pDeps (l[j]?.getD pt0), ∃ y ∈ l, pID y = d) HU.out h)
  have hnd : nd <= 1000 := by have := HD.out _ HM.out; rw [hp.deps.len] at this; exact this
  have HP := Za hp.deps
  have HC1 := Za c1
  clear hp c1 HU
  generalize hx : l[i]?.getD pt0 = x at *
  have HX := Za hx
  clear hx
  go_wp2
  go_loopw [4] (fun v wr => ∃ k : Nat, k <= nd /\ v = .int .i64 k /\ Hid (∀ j, j < k -> ∃ y ∈ l, pID y = (pDeps x)[j]?.getD 0) /\ Hid (w.grownBy wr none)) (fun v _ => nd - (intOf v).toNat)
  case atStart => exact ⟨0, Ze _, rfl, Za (fun j hj => absurd hj (Zy _)), HG⟩
  case round =>
  clear HG
  obtain ⟨k, hk, rfl, HV, HG⟩ := hrel
  have a1 := Zh HG.out HC1.out
  by_cases hkn : k < nd
  ·have k0 : (0 : Int) <= k := by omega
   have k1 : (k : Int) < nd := by omega
   obtain ⟨bd, od, rfl, _, _, _, hcd⟩ := HP.out.cell (by omega)
   have HX0 := Za (hcd k hkn)
   have HM2 := Za (Zr (d := 0) (show k < (pDeps x).length by rw [HP.out.len]; exact hkn))
   have HV2 := Za (show (∃ y ∈ l, pID y = (pDeps x)[k]?.getD 0) -> ∀ j, j < k + 1 -> ∃ y ∈ l, pID y = (pDeps x)[j]?.getD 0 from fun h => Yk (q := fun j => ∃ y ∈ l, pID y = (pDeps x)[j]?.getD 0) HV.out h)
   clear hcd HV
   generalize (pDeps x)[k]?.getD 0 = d at *
   go_wp2
   clear a1
   go_loopw [5, 6] (fun u v wr => ∃ (f : Bool) (j : Nat), j <= n /\ u = .bool f /\ v = .int .i64 j /\ Hid (f = true ↔ ∃ q, q < j /\ pID (l[q]?.getD pt0) = d) /\ Hid (w.grownBy wr none)) (fun _ v _ => n - (intOf v).toNat)
   case atStart => exact ⟨false, 0, Ze _, rfl, rfl, Za ⟨fun h => (by cases h), fun ⟨q, hq, _⟩ => absurd hq (Zy _)⟩, HG⟩
   case round =>
   clear HG
   obtain ⟨f, j, hj, rfl, rfl, HF, HG⟩ := hrel
   by_cases hjn : j < n
   ·have j0 : (0 : Int) <= j := by omega
    have j1 : (j : Int) < n := by omega
    obtain ⟨_, _, _, _, _, _, _, _, _, _, _, _, c0, _⟩ := HC.out j hjn
    have q0 := fun z : Later wr => Zk (Zh HG.out c0) z
    have q1 := fun z : Later wr => Zk (Zh HG.out HC1.out) z
    have q2 := fun z : Later wr => Zk (Zh HG.out HX0.out) z
    have hne5 := later_one wr
    have HFS := Za (show (∃ q, q < j + 1 /\ pID (l[q]?.getD pt0) = d) ↔ (∃ q, q < j /\ pID (l[q]?.getD pt0) = d) ∨ pID (l[j]?.getD pt0) = d from ⟨fun ⟨q, hq, e⟩ => by
     by_cases hqj : q = j
     ·subst hqj; exact .inr e
     ·exact .inl ⟨q, by omega, e⟩, fun h => by
     rcases h with ⟨q, hq, e⟩ | e
     ·exact ⟨q, by omega, e⟩
     ·exact ⟨j, by omega, e⟩⟩)
    clear c0
    generalize pID (l[j]?.getD pt0) = y at *
    go_upto_region 11 with fail
    cases f with
    | true =>
     have HF2 : Hid (true = true ↔ ∃ q, q < j + 1 /\ pID (l[q]?.getD pt0) = d) := Za ⟨fun _ => HFS.out.2 (.inl (HF.out.1 rfl)), fun _ => rfl⟩
     refine Zz0 (by kernel_rfl) (by kernel_rfl) ?_
     repeat (go_big_quiet_step (fail))
     refine Ya ?_
     rintro _ ⟨z, rfl⟩
     have HG9 := Za (Zb HG.out z.ok)
     go_wp2
     exact ⟨⟨true, j + 1, by omega, rfl, by go_num, HF2, HG9⟩, by simp [intOf]; omega⟩
    | false =>
     have HN : Hid (¬ ∃ q, q < j /\ pID (l[q]?.getD pt0) = d) := Za fun h => by have := HF.out.2 h; cases this
     by_cases hyd : y = d
     ·have e1 : ((y : Int) == (d : Int)) = true := by rw [hyd]; simp
      have HF2 : Hid (true = true ↔ ∃ q, q < j + 1 /\ pID (l[q]?.getD pt0) = d) := Za ⟨fun _ => HFS.out.2 (.inr hyd), fun _ => rfl⟩
      clear hyd
      refine Zz0 (by kernel_rfl) (by kernel_rfl) ?_
      repeat (go_big_quiet_step (fail))
      refine Ya ?_
      rintro _ ⟨z, rfl⟩
      have HG9 := Za (Zb HG.out z.ok)
      go_wp2
      exact ⟨⟨true, j + 1, by omega, rfl, by go_num, HF2, HG9⟩, by simp [intOf]; omega⟩
     ·have e1 : ((y : Int) == (d : Int)) = false := by simp; omega
      have HF2 : Hid (false = true ↔ ∃ q, q < j + 1 /\ pID (l[q]?.getD pt0) = d) := Za ⟨fun h => (by cases h), fun h => by
       rcases HFS.out.1 h with h | h
       ·exact absurd h HN.out
       ·exact absurd h hyd⟩
      clear hyd
      refine Zz0 (by kernel_rfl) (by kernel_rfl) ?_
      repeat (go_big_quiet_step (fail))
      refine Ya ?_
      rintro _ ⟨z, rfl⟩
      have HG9 := Za (Zb HG.out z.ok)
      go_wp2
      exact ⟨⟨false, j + 1, by omega, rfl, by go_num, HF2, HG9⟩, by simp [intOf]; omega⟩
   obtain rfl : n = j := by omega
   have j1 : ¬ ((n : Int) < n) := by omega
   cases f with
   | true =>
    have HV3 := Za (HV2.out (by
     obtain ⟨q, hq, e⟩ := HF.out.1 rfl
     exact ⟨_, Zr (d := pt0) (by rw [HL.out]; exact hq), e⟩))
    go_wp2
    exact ⟨⟨k + 1, by omega, by go_num, HV3, HG⟩, by simp [intOf]; omega⟩
   | false =>
    obtain rfl : r = false := Zj HR.out fun h => by
     obtain ⟨y, hy, e⟩ := h x HM.out d HM2.out
     obtain ⟨q, hq, eq⟩ := Xx (d := pt0) hy
     have := HF.out.2 ⟨q, by rw [<- HL.out]; exact hq, by rw [eq]; exact e⟩
     cases this
    go_wp2
    go_ret
    exact ⟨rfl, HG.out⟩
  obtain rfl : nd = k := by omega
  have k1 : ¬ ((nd : Int) < nd) := by omega
  have HU3 := Za (HU2.out (upto_list (q := fun d => ∃ y ∈ l, pID y = d) HP.out.len HV.out))
  go_wp2
  exact ⟨⟨i + 1, by omega, by go_num, HU3, HG⟩, by simp [intOf]; omega⟩
 obtain rfl : n = i := by omega
 have i1 : ¬ ((n : Int) < n) := by omega
 obtain rfl : r = true := HR.out.2 (upto_list (q := fun x => ∀ d ∈ pDeps x, ∃ y ∈ l, pID y = d) HL.out HU.out)
 go_wp2
 go_ret
 exact ⟨rfl, HG.out⟩
theorem refSameFiles_c (p : Option Addr) (n c : Nat) (q : Option Addr) (m d : Nat) (l l' : List Fl) (lo hi lo' hi' : Nat) (r : Bool) (w : World) (h : FlsAt w lo hi p n l) (h' : FlsAt w lo' hi' q m l') (hn : n <= 1000000) (hm : m <= 1000000)
  (hb : ∀ x ∈ l, (fLines x).length <= 1000000 /\ (fPairs x).length <= 1000000) (hb' : ∀ x ∈ l', (fLines x).length <= 1000000 /\ (fPairs x).length <= 1000000) (hr : r = true ↔ l = l') :
  Calls Tryz.prog 13 #[.slice p n c, .slice q m d] w fun e w' => e = .returned (.bool r) /\ w.grownBy w' none := by
 have HR := Za hr
 have H := Za h
 have H' := Za h'
 have HL := Za h.len
 have HL' := Za h'.len
 have HB := Za hb
 have HB' := Za hb'
 clear h h' hr hb hb'
 go_enter Tryz.func13, Tryz.ntmps13
 by_cases hl : n = m
 case neg =>
  obtain rfl : r = false := Zj HR.out fun h => by rw [<- HL.out, <- HL'.out, h] at hl; exact hl rfl
  have f1 : ((n : Int) != (m : Int)) = true := by simp; omega
  go_wp2
  go_ret
  exact ⟨rfl, Zi _ _⟩
 subst hl
 have f1 : ((n : Int) != (n : Int)) = false := by simp
 go_wp2
 go_loopw [5] (fun v wr => ∃ k : Nat, k <= n /\ v = .int .i64 k /\ Hid (∀ j, j < k -> l[j]?.getD fl0 = l'[j]?.getD fl0) /\ Hid (w.grownBy wr none)) (fun v _ => n - (intOf v).toNat)
 case atStart => exact ⟨0, Ze _, rfl, Za (fun j hj => absurd hj (Zy _)), Za (Zi _ _)⟩
 case round =>
 obtain ⟨k, hk, rfl, HU, HGW⟩ := hrel
 by_cases hkn : k < n
 ·have k0 : (0 : Int) <= k := by omega
  have k1 : (k : Int) < n := by omega
  obtain ⟨ba, oa, rfl, _, _, _, hc⟩ := (H.out.calm HGW.out).cell (by omega)
  obtain ⟨bb, ob, rfl, _, _, _, hd⟩ := (H'.out.calm HGW.out).cell (by omega)
  obtain ⟨pl, nl, cl, pp, np, cp, x0, x1, x2, hx⟩ := hc k hkn
  obtain ⟨ql, ml, dl, qp, mp, dp, y0, y1, y2, hy⟩ := hd k hkn
  have HM := Za (HB.out _ (Zr (d := fl0) (show k < l.length by rw [HL.out]; exact hkn)))
  have HM' := Za (HB'.out _ (Zr (d := fl0) (show k < l'.length by rw [HL'.out]; exact hkn)))
  have HU2 := Za (show l[k]?.getD fl0 = l'[k]?.getD fl0 -> ∀ j, j < k + 1 -> l[j]?.getD fl0 = l'[j]?.getD fl0 from fun h => Yk (q := fun j => l[j]?.getD fl0 = l'[j]?.getD fl0) HU.out h)
  have HX := Za (show l = l' -> l[k]?.getD fl0 = l'[k]?.getD fl0 from fun h => by rw [h])
  clear hc hd HU
  generalize l[k]?.getD fl0 = u at *
  generalize l'[k]?.getD fl0 = v at *
  obtain ⟨rs, hrs⟩ := Ym (u = v)
  have HRS := Za hrs
  clear hrs
  have HCI : Hid (∀ X, wr.grownBy X none -> Calls Tryz.prog 19 #[.agg #[.string (fPath u), .slice pl nl cl, .slice pp np cp], .agg #[.string (fPath v), .slice ql ml dl, .slice qp mp dp]] X fun e w' => e = .returned (.bool rs) /\ X.grownBy w' none) := Za fun X hX =>
   refSameFile_c u v pl nl cl pp np cp ql ml dl qp mp dp _ _ _ _ rs X (hx.calm hX) (hy.calm hX) ⟨by rw [<- hx.lines.len]; exact HM.out.1, by rw [<- hx.pairs.len]; exact HM.out.2, by rw [<- hy.lines.len]; exact HM'.out.1, by rw [<- hy.pairs.len]; exact HM'.out.2⟩ HRS.out
  have HS : Hid (∀ X, wr.grownBy X none -> X.cell? ⟨ba, oa + k * 3, none⟩ = some (.string (fPath u)) /\ X.cell? ⟨ba, oa + k * 3 + 1, none⟩ = some (.slice pl nl cl) /\ X.cell? ⟨ba, oa + k * 3 + 2, none⟩ = some (.slice pp np cp) /\ X.cell? ⟨bb, ob + k * 3, none⟩ = some (.string (fPath v)) /\ X.cell? ⟨bb, ob + k * 3 + 1, none⟩ = some (.slice ql ml dl) /\ X.cell? ⟨bb, ob + k * 3 + 2, none⟩ = some (.slice qp mp dp)) := Za fun X hX => ⟨Zh hX x0, Zh hX x1, Zh hX x2, Zh hX y0, Zh hX y1, Zh hX y2⟩
  go_upto_region 6 with fail
  have henv : wr.grownBy (World.drew wr) none := Zo wr 1 none
  go_region_held3 (fun X => X.cell? ⟨ba, oa + k * 3, none⟩ = some (.string (fPath u)) /\ X.cell? ⟨ba, oa + k * 3 + 1, none⟩ = some (.slice pl nl cl) /\ X.cell? ⟨ba, oa + k * 3 + 2, none⟩ = some (.slice pp np cp) /\ X.cell? ⟨bb, ob + k * 3, none⟩ = some (.string (fPath v)) /\ X.cell? ⟨bb, ob + k * 3 + 1, none⟩ = some (.slice ql ml dl) /\ X.cell? ⟨bb, ob + k * 3 + 2, none⟩ = some (.slice qp mp dp))
   (first | exact HS.out _ henv | go_keep)
   (first | (go_at_call 19; (with_reducible refine (HCI.out _ henv).mono ?_); rintro e w7 ⟨rfl, hg⟩; have henv := Zb henv hg))
  have HGE := Za (Zb HGW.out henv)
  clear henv HS HCI x0 x1 x2 y0 y1 y2 hx hy
  cases rs with
  | false =>
   obtain rfl : r = false := Zj HR.out fun h => by have := HRS.out.2 (HX.out h); cases this
   go_wp2
   go_ret
   exact ⟨rfl, HGE.out⟩
  | true =>
   have HU3 := Za (HU2.out (HRS.out.1 rfl))
   go_wp2
   exact ⟨⟨k + 1, by omega, by go_num, HU3, HGE⟩, by simp [intOf]; omega⟩
 obtain rfl : n = k := by omega
 have k1 : ¬ ((n : Int) < n) := by omega
 obtain rfl : r = true := HR.out.2 (list_eqD HL.out HL'.out HU.out)
 go_wp2
 go_ret
 exact ⟨rfl, HGW.out⟩
theorem refFind_c (p : Option Addr) (n c : Nat) (l : List Fl) (s : ByteArray) (lo hi : Nat) (w : World) (h : FlsAt w lo hi p n l) (hn : n <= 1000000) :
  Calls Tryz.prog 18 #[.slice p n c, .string s] w fun e w' => w.grownBy w' none /\ ∃ pl nl cl pp np cp, e = .returned (.tuple #[.agg #[.string (fPath ((findL l s).getD fl0)), .slice pl nl cl, .slice pp np cp], .bool (findL l s).isSome]) /\ FlAt w' lo hi pl nl cl pp np cp ((findL l s).getD fl0) := by
 have H := Za h
 have HL := Za h.len
 have HG := Za (Zd w (.cells #[.string ⟨#[]⟩, .slice none 0 0, .slice none 0 0] 35) none)
 have HB := Za (BoxV.new w [.string ⟨#[]⟩, .slice none 0 0, .slice none 0 0] 35)
 clear h
 go_enter Tryz.func18, Tryz.ntmps18
 go_upto_region 1 with fail
 generalize World.alloc w _ = w1 at *
 generalize hg0 : w.heap.size = g at *
 have HG0 : Hid (w.heap.size <= g) := Za (Nat.le_of_eq hg0)
 clear hg0
 go_wp2
 go_loopw [6] (fun v wr => ∃ k : Nat, k <= n /\ v = .int .i64 k /\ Hid (∀ j, j < k -> fPath (l[j]?.getD fl0) ≠ s) /\ Hid (w1.grownBy wr none)) (fun v _ => n - (intOf v).toNat)
 case atStart => exact ⟨0, Ze _, rfl, Za (fun j hj => absurd hj (Zy _)), Za (Zi _ _)⟩
 case round =>
 obtain ⟨k, hk, rfl, HU, HGW⟩ := hrel
 have HGA := Za (Zb HG.out HGW.out)
 have HBW := Za (HB.out.calm HGW.out)
 obtain ⟨b0, b1, b2⟩ := HBW.out.three
 have f0 := HBW.out.free 0
 have f1 := HBW.out.free 1
 have f2 := HBW.out.free 2
 by_cases hkn : k < n
 ·have k0 : (0 : Int) <= k := by omega
  have k1 : (k : Int) < n := by omega
  obtain ⟨ba, oa, rfl, _, _, _, hc⟩ := H.out.cell (by omega)
  obtain ⟨pl, nl, cl, pp, np, cp, x0, x1, x2, hx⟩ := hc k hkn
  replace x0 := Zh HGA.out x0
  replace x1 := Zh HGA.out x1
  replace x2 := Zh HGA.out x2
  have HU2 := Za (show fPath (l[k]?.getD fl0) ≠ s -> ∀ j, j < k + 1 -> fPath (l[j]?.getD fl0) ≠ s from fun h => Yk (q := fun j => fPath (l[j]?.getD fl0) ≠ s) HU.out h)
  have HF := Za (show fPath (l[k]?.getD fl0) = s -> findL l s = some (l[k]?.getD fl0) from fun h => findL_some (by rw [HL.out]; exact hkn) h HU.out)
  clear hc HU
  generalize l[k]?.getD fl0 = u at *
  have HX := Za hx
  clear hx
  by_cases he : fPath u = s
  ·have e1 := Xz he
   have HV := Za (HF.out he)
   have HGZ := Za (set3_new HGA.out HG0.out (.string (fPath u)) (.slice pl nl cl) (.slice pp np cp))
   have HBZ := Za (((HBW.out.set 0 (.string (fPath u))).set 1 (.slice pl nl cl)).set 2 (.slice pp np cp))
   clear he
   go_wp2
   generalize World.setCell _ ⟨g, 2, none⟩ _ = wz at *
   obtain ⟨y0, y1, y2⟩ := BoxV.three HBZ.out
   try simp only [Exit.inBlock, Exit.then]
   refine bodyPost_ret (v := .tuple #[.agg #[.string (fPath u), .slice pl nl cl, .slice pp np cp], .bool true]) (by simp [results, Tryz.results18, go_sem, y0, y1, y2]) rfl ?_
   refine ⟨HGZ.out, pl, nl, cl, pp, np, cp, ?_, ?_⟩
   ·rw [HV.out]
    rfl
   ·rw [HV.out]
    exact HX.out.calm HGZ.out
  ·have e1 := Xt he
   have HU3 := Za (HU2.out he)
   clear he
   go_wp2
   exact ⟨⟨k + 1, by omega, by go_num, HU3, HGW⟩, by simp [intOf]; omega⟩
 obtain rfl : n = k := by omega
 have k1 : ¬ ((n : Int) < n) := by omega
 have HV := Za (findL_none (l := l) (s := s) (by rw [HL.out]; exact HU.out))
 have HGZ := Za (set3_new HGA.out HG0.out (.string ⟨#[]⟩) (.slice none 0 0) (.slice none 0 0))
 have HBZ := Za (((HBW.out.set 0 (.string ⟨#[]⟩)).set 1 (.slice none 0 0)).set 2 (.slice none 0 0))
 go_wp2
 generalize World.setCell _ ⟨g, 2, none⟩ _ = wz at *
 obtain ⟨y0, y1, y2⟩ := BoxV.three HBZ.out
 try simp only [Exit.inBlock, Exit.then]
 refine bodyPost_ret (v := .tuple #[.agg #[.string ⟨#[]⟩, .slice none 0 0, .slice none 0 0], .bool false]) (by simp [results, Tryz.results18, go_sem, y0, y1, y2]) rfl ?_
 refine ⟨HGZ.out, none, 0, 0, none, 0, 0, ?_, ?_⟩
 ·rw [HV.out]
  rfl
 ·rw [HV.out]
  exact flAt_nil _ _ _
theorem TxtAcc.more {w0 w : World} {s : Value} {l : List ByteArray} {n n' : Nat} (h : TxtAcc w0 w s l n) (hn : n <= n') : TxtAcc w0 w s l n' := by
 obtain ⟨q, m, c, e, h1, h2, h3, h4, h5, h6⟩ := h
 exact ⟨q, m, c, e, h1, h2, h3, h4, Zn h5 hn, h6⟩
theorem filt_k {α : Type} {l : List α} {k : Nat} (hk : k < l.length) (d : α) (q : α -> Bool) : (l.take (k + 1)).filter q = (l.take k).filter q ++ (if q (l[k]?.getD d) = true then [l[k]?.getD d] else []) := by
 rw [Xi hk, List.filter_append, Zm hk]
 congr 1
 by_cases h : q l[k] <;> simp [h]
theorem refTracked_c (p : Option Addr) (n c lo hi : Nat) (l : List Pt) (w : World) (h : PtsAt w lo hi p n l) (hn : n <= 80) (hb : ∀ x ∈ l, (pMakes x).length <= 1000 /\ (pDrops x).length <= 1000) :
  Calls Tryz.prog 38 #[.slice p n c] w fun e w' => ∃ v, e = .returned v /\ w'.ownsRow w.heap.size 9 1 v (trackL l).length (scells (trackL l)) /\ w.grownBy w' none := by
 obtain ⟨i0, hi0, hz0, hz1, hz2⟩ := Yz Tryz.info9
 have H := Za h
 have HL := Za h.len
 have HB := Za hb
 clear h hb
 go_enter Tryz.func38, Tryz.ntmps38
 go_wp2
 go_loopw [3, 4, 6] (fun a b i wr => ∃ (k : Nat) (u v : Value), u = a /\ v = b /\ k <= n /\ i = .int .i64 k /\ Hid (TxtAcc w wr u (allR ltS ((l.take k).flatMap pMakes)) (k * 1000)) /\ Hid (TxtAcc w wr v (allR ltS ((l.take k).flatMap pDrops)) (k * 1000))) (fun _ _ i _ => n - (intOf i).toNat)
 case atStart => exact ⟨0, _, _, rfl, rfl, Ze _, rfl, Za (TxtAcc.nil w), Za (TxtAcc.nil w)⟩
 case round =>
 obtain ⟨k, u, v, rfl, rfl, hk, rfl, HU, HV⟩ := hrel
 by_cases hkn : k < n
 ·have k0 : (0 : Int) <= k := by omega
  have k1 : (k : Int) < n := by omega
  have HGW : Hid (w.grownBy wr none) := Za (by obtain ⟨_, _, _, _, _, _, _, _, _, h⟩ := HU.out; exact h)
  obtain ⟨b, o, rfl, _, _, _, hc⟩ := H.out.cell (by omega)
  obtain ⟨pd, nd, cd, pm, nm, cm, px, nx, cx, ph, nh, ch, _, _, c2, c3, _, hp⟩ := hc k hkn
  have HMX := Za (HB.out _ (Zr (d := pt0) (show k < l.length by rw [HL.out]; exact hkn)))
  have HFM := Za (flat_take pMakes (l := l) (k := k) (by rw [HL.out]; exact hkn) pt0)
  have HFX := Za (flat_take pDrops (l := l) (k := k) (by rw [HL.out]; exact hkn) pt0)
  clear hc
  generalize l[k]?.getD pt0 = x at *
  have HM := Za hp.makes
  have HX := Za hp.drops
  have hnm : nm <= 1000 := by rw [<- hp.makes.len]; exact HMX.out.1
  have hnx : nx <= 1000 := by rw [<- hp.drops.len]; exact HMX.out.2
  have HC2 := Za c2
  have HC3 := Za c3
  clear hp c2 c3
  have HT0 : Hid (TxtAcc w wr u (allR ltS ((l.take k).flatMap pMakes ++ (pMakes x).take 0)) (k * 1000 + 0)) := Za (by rw [List.take_zero, Xq]; exact HU.out)
  clear HU HGW
  go_wp2
  go_loopw [3, 7] (fun a i wr => ∃ (j : Nat) (u : Value), u = a /\ j <= nm /\ i = .int .i64 j /\ Hid (TxtAcc w wr u (allR ltS ((l.take k).flatMap pMakes ++ (pMakes x).take j)) (k * 1000 + j)) /\ Hid (TxtAcc w wr v (allR ltS ((l.take k).flatMap pDrops)) (k * 1000))) (fun _ i _ => nm - (intOf i).toNat)
  case atStart => exact ⟨0, _, rfl, Ze _, rfl, HT0, HV⟩
  case round =>
  clear HT0 HV
  obtain ⟨j, u, rfl, hj, rfl, HT, HV⟩ := hrel
  obtain ⟨q, m, c', rfl, hs1, hs2, hs3, hs4, hs5, hgr⟩ := HT.out
  have HST := Za hs1
  have HC := Za hs3
  have HQ := Za hs4
  have HGR := Za hgr
  clear hs1 hs3 hs4 hgr
  have a2 := Zh HGR.out HC2.out
  by_cases hjn : j < nm
  ·have j0 : (0 : Int) <= j := by omega
   have j1 : (j : Int) < nm := by omega
   obtain ⟨bm, om, rfl, _, _, _, hcm⟩ := HM.out.cell (by omega)
   have hck := Zh HGR.out (hcm j hjn)
   have HP := Za (putR_step (lt := ltS) ((l.take k).flatMap pMakes) (pMakes x) (k := j) (by rw [HM.out.len]; exact hjn) .empty)
   clear hcm
   generalize (pMakes x)[j]?.getD .empty = y at *
   go_wp2_with fail
   refine (refPutText_c q m c' 0 wr.heap.size y _ wr HST.out (by omega) hs2 HC.out HQ.out).mono ?_
   rintro e w2 ⟨q', m', c', rfl, ht, ht1, ht2, ht3, ht4, hg2⟩
   rw [HP.out] at ht
   have HT2 : Hid (TxtAcc w w2 (.slice q' m' c') (allR ltS ((l.take k).flatMap pMakes ++ (pMakes x).take (j + 1))) (k * 1000 + (j + 1))) := Za ⟨q', m', c', rfl, ht, ht1, ht2, ht3, by omega, Zb HGR.out hg2⟩
   have HV2 := Za (HV.out.calm hg2)
   clear ht ht1 ht2 ht3 ht4 hg2 a2 hck
   go_wp2
   exact ⟨⟨j + 1, _, rfl, by omega, by go_num, HT2, HV2⟩, by simp [intOf]; omega⟩
  obtain rfl : nm = j := by omega
  have j1 : ¬ ((nm : Int) < nm) := by omega
  have a3 := Zh HGR.out HC3.out
  have HU2 : Hid (TxtAcc w wr (.slice q m c') (allR ltS ((l.take (k + 1)).flatMap pMakes)) ((k + 1) * 1000)) := Za (by
   rw [HFM.out]
   have := HT.out
   rw [Yl (l := pMakes x) (by rw [HM.out.len]; exact Zc _)] at this
   exact this.more (by omega))
  have HT0 : Hid (TxtAcc w wr v (allR ltS ((l.take k).flatMap pDrops ++ (pDrops x).take 0)) (k * 1000 + 0)) := Za (by rw [List.take_zero, Xq]; exact HV.out)
  clear HT HST HC HQ HV
  go_wp2
  clear a2 a3 j1 hjn hj
  go_loopw [4, 8] (fun a i wr => ∃ (j : Nat) (v : Value), v = a /\ j <= nx /\ i = .int .i64 j /\ Hid (TxtAcc w wr v (allR ltS ((l.take k).flatMap pDrops ++ (pDrops x).take j)) (k * 1000 + j)) /\ Hid (TxtAcc w wr (.slice q m c') (allR ltS ((l.take (k + 1)).flatMap pMakes)) ((k + 1) * 1000))) (fun _ i _ => nx - (intOf i).toNat)
  case atStart => exact ⟨0, _, rfl, Ze _, rfl, HT0, HU2⟩
  case round =>
  clear HT0 HU2 HGR
  obtain ⟨j, v, rfl, hj, rfl, HT, HU2⟩ := hrel
  obtain ⟨q2, m2, c2, rfl, hs1, hs2', hs3, hs4, hs5', hgr⟩ := HT.out
  have HST := Za hs1
  have HC := Za hs3
  have HQ := Za hs4
  have HGR := Za hgr
  clear hs1 hs3 hs4 hgr
  have a3 := Zh HGR.out HC3.out
  by_cases hjn : j < nx
  ·have j0 : (0 : Int) <= j := by omega
   have j1 : (j : Int) < nx := by omega
   obtain ⟨bm, om, rfl, _, _, _, hcm⟩ := HX.out.cell (by omega)
   have hck := Zh HGR.out (hcm j hjn)
   have HP := Za (putR_step (lt := ltS) ((l.take k).flatMap pDrops) (pDrops x) (k := j) (by rw [HX.out.len]; exact hjn) .empty)
   clear hcm
   generalize (pDrops x)[j]?.getD .empty = y at *
   go_wp2_with fail
   refine (refPutText_c q2 m2 c2 0 wr.heap.size y _ wr HST.out (by omega) hs2' HC.out HQ.out).mono ?_
   rintro e w2 ⟨q', m', c'', rfl, ht, ht1, ht2, ht3, ht4, hg2⟩
   rw [HP.out] at ht
   have HT2 : Hid (TxtAcc w w2 (.slice q' m' c'') (allR ltS ((l.take k).flatMap pDrops ++ (pDrops x).take (j + 1))) (k * 1000 + (j + 1))) := Za ⟨q', m', c'', rfl, ht, ht1, ht2, ht3, by omega, Zb HGR.out hg2⟩
   have HV2 := Za (HU2.out.calm hg2)
   clear ht ht1 ht2 ht3 ht4 hg2 a3 hck
   go_wp2
   exact ⟨⟨j + 1, _, rfl, by omega, by go_num, HT2, HV2⟩, by simp [intOf]; omega⟩
  obtain rfl : nx = j := by omega
  have j1 : ¬ ((nx : Int) < nx) := by omega
  have HV2 : Hid (TxtAcc w wr (.slice q2 m2 c2) (allR ltS ((l.take (k + 1)).flatMap pDrops)) ((k + 1) * 1000)) := Za (by
   rw [HFX.out]
   have := HT.out
   rw [Yl (l := pDrops x) (by rw [HX.out.len]; exact Zc _)] at this
   exact this.more (by omega))
  clear HT HST HC HQ
  go_wp2
  exact ⟨⟨k + 1, _, _, rfl, rfl, by omega, by go_num, HU2, HV2⟩, by simp [intOf]; omega⟩
 obtain rfl : n = k := by omega
 have k1 : ¬ ((n : Int) < n) := by omega
 rw [Yl (by rw [HL.out]; exact Zc _)] at HU HV
 obtain ⟨q, m, c', rfl, hs1, hs2, hs3, hs4, hs5, hgr⟩ := HU.out
 have HON := Za hs1
 have HGW := Za hgr
 obtain ⟨q2, m2, c2, rfl, ht1, _, _, _, ht5, _⟩ := HV.out
 have HOFF := Za ht1
 clear hs1 hs3 hs4 hgr ht1 HU HV
 have HW0 : Hid (w.heap.size <= wr.heap.size) := Za HGW.out.size
 go_wp2
 generalize wr = wz at *
 go_loopw [5, 9] (fun a i wr => ∃ (j : Nat) (u : Value) (L : List ByteArray), u = a /\ j <= m /\ i = .int .i64 j /\ Hid (L = ((allR ltS (l.flatMap pMakes)).take j).filter (notIn (l.flatMap pDrops))) /\ Hid (L.length <= j) /\ Hid (wr.ownsRow wz.heap.size 9 1 u L.length (scells L)) /\ Hid (wz.grownBy wr none)) (fun _ i _ => m - (intOf i).toNat)
 case atStart => exact ⟨0, _, [], rfl, Ze _, rfl, Za rfl, Za (Zc _), Za (Yp _ _ _ _), Za (Zi _ _)⟩
 case round =>
 obtain ⟨j, u, L, rfl, hj, rfl, HE, HLE, HROW, HGZ⟩ := hrel
 by_cases hjn : j < m
 ·have j0 : (0 : Int) <= j := by omega
  have j1 : (j : Int) < m := by omega
  obtain ⟨bm, om, rfl, _, _, _, hcm⟩ := (HON.out.calm HGZ.out).cell (by omega)
  have hck := hcm j hjn
  have HF := Za (filt_k (l := allR ltS (l.flatMap pMakes)) (k := j) (by rw [HON.out.len]; exact hjn) .empty (notIn (l.flatMap pDrops)))
  clear hcm
  generalize (allR ltS (l.flatMap pMakes))[j]?.getD .empty = y at *
  obtain ⟨r, hr⟩ := Ym (y ∈ allR ltS (l.flatMap pDrops))
  have HR := Za hr
  clear hr
  go_wp2_with fail
  refine (refIn_c q2 m2 c2 _ _ _ y r wr (HOFF.out.calm HGZ.out) (by omega) HR.out).mono ?_
  rintro e w2 ⟨rfl, h9⟩
  subst h9
  cases r with
  | true =>
   have HE2 := Za (show L = ((allR ltS (l.flatMap pMakes)).take (j + 1)).filter (notIn (l.flatMap pDrops)) by
    rw [HF.out, <- HE.out, if_neg, Xq]
    have := HR.out.1 rfl
    rw [allR_mem] at this
    rw [notIn_iff]
    exact fun h => h this)
   have HLE2 := Za (Nat.le_succ_of_le HLE.out)
   go_wp2
   exact ⟨⟨j + 1, _, L, rfl, by omega, by go_num, HE2, HLE2, HROW, HGZ⟩, by simp [intOf]; omega⟩
  | false =>
   have HE2 := Za (show L ++ [y] = ((allR ltS (l.flatMap pMakes)).take (j + 1)).filter (notIn (l.flatMap pDrops)) by
    rw [HF.out, <- HE.out, if_pos]
    have : y ∉ allR ltS (l.flatMap pDrops) := fun h => by have := HR.out.2 h; cases this
    rw [allR_mem] at this
    exact notIn_iff.2 this)
   have HLE2 := Za (show (L ++ [y]).length <= j + 1 by rw [Zq]; have := HLE.out; simp; omega)
   have hll := HLE.out
   have hsz : wz.heap.size <= w2.heap.size := HGZ.out.size
   go_wp2_with (at_builtin; refine Xc _ rfl _ _ 48 rfl wz.heap.size 9 i0 (.string .empty) 1 16 Tryz.underlying48 hi0 hz0 hz1 hz2 rfl (by decide) _ _ _ rfl (HROW.out.alloc _) ⟨w2.heap.size, 0, none⟩ 1 1 [.string y] rfl rfl (cell_one_new _ _ _) (by simp [Value.oneCell']) (by unfold maxLen; omega) (by omega) (by simp; omega) ?_; intro v' w3 hown' hgrow _; have HO := Za hown'; have HG3 := Za (Xe HGZ.out HROW.out hgrow); clear hown' hgrow)
   exact ⟨⟨j + 1, _, L ++ [y], rfl, by omega, by go_num, HE2, HLE2, Za (by rw [scells_snoc, Zq]; exact HO.out), HG3⟩, by simp [intOf]; omega⟩
 obtain rfl : m = j := by omega
 have j1 : ¬ ((m : Int) < m) := by omega
 have HEE : Hid (L = trackL l) := Za (by rw [HE.out, Yl (by rw [HON.out.len]; exact Zc _)]; rfl)
 go_wp2
 go_ret
 exact ⟨_, rfl, by rw [<- HEE.out]; exact Vd HROW.out HW0.out, Zb HGW.out HGZ.out⟩
theorem insL_len (ls : List Lne) (x : Lne) : (insL ls x).length = ls.length + 1 := by
 unfold insL
 rw [Zq, Zt]
 have := congrArg List.length (List.takeWhile_append_dropWhile (p := fun y => ltLn (nID y) (nID x)) (l := ls))
 rw [Zq] at this
 omega
theorem putAdds_len (path : ByteArray) (id : Nat) (h : Hk) (n : Nat) (ls : List Lne) (k : Nat) : (putAdds path id h n ls k).length <= ls.length + k := by
 induction k with
 | zero => exact Zc _
 | succ k ih =>
  unfold putAdds
  split
  ·rw [insL_len]; omega
  ·omega
theorem putHks_len {path : ByteArray} {x : Pt} {ls : List Lne} {m : Nat} (hb : ∀ h ∈ pHunks x, (hAdds h).length <= m) : ∀ k, k <= (pHunks x).length -> (putHks path x ls k).length <= ls.length + k * m
 | 0, _ => by simp [putHks]
 | k + 1, hk => by
  have ih := putHks_len (path := path) (ls := ls) hb k (by omega)
  have h1 := putAdds_len path (pID x) ((pHunks x)[k]?.getD hk0) (addsN (pHunks x) k) (putHks path x ls k) (hAdds ((pHunks x)[k]?.getD hk0)).length
  have h2 := hb _ (Zr (d := hk0) (show k < (pHunks x).length by omega))
  show (putAdds _ _ _ _ _ _).length <= _
  rw [Nat.succ_mul]
  omega
theorem putPts_len {path : ByteArray} {l : List Pt} (hb : ∀ x ∈ l, (pHunks x).length <= 8 /\ ∀ h ∈ pHunks x, (hAdds h).length <= 50) : ∀ k, k <= l.length -> (putPts path l k).length <= k * 400
 | 0, _ => by simp [putPts]
 | k + 1, hk => by
  have ih := putPts_len (path := path) hb k (by omega)
  have hx := hb _ (Zr (d := pt0) (show k < l.length by omega))
  have h1 := putHks_len (path := path) (ls := putPts path l k) hx.2 (pHunks (l[k]?.getD pt0)).length (Zc _)
  show (putHks _ _ _ _).length <= _
  have : (pHunks (l[k]?.getD pt0)).length * 50 <= 8 * 50 := Vk _ hx.1
  omega
theorem cell_off {w : World} {b : Nat} {o : Nat} {u : Value} (h : w.cell? ⟨b, o, none⟩ = some u) {g : Nat} (hb : b ≠ g) (k : Nat) (v : Value) : (w.setCell ⟨g, k, none⟩ v).cell? ⟨b, o, none⟩ = some u := by
 rw [<- h]
 exact World.cell?_setCell_other _ _ _ _ (fun e => hb (congrArg Addr.block e).symm)
def edOK (id a b : Nat) (e : Ed) : Prop := Named e.1 id a b /\ Named e.2 id a b /\ e.1 ≠ e.2
def lnOK (id : Nat) (x : Ln) : Prop := x.1 ≠ id /\ 0 <= x.2 /\ x.2 < 40
theorem upto_all {α : Type} {l : List α} {d : α} {q : α -> Prop} {n : Nat} (hn : l.length = n) (h : ∀ j, j < n -> q (l[j]?.getD d)) : ∀ x ∈ l, q x := fun x hx => by
 obtain ⟨j, hj, e⟩ := Xx (d := d) hx
 rw [<- e]
 exact h j (by rw [<- hn]; exact hj)
theorem mk_hk {path : ByteArray} {ts : List ByteArray} {es : List Ed} {ks : List Ln} {id a na ne nk : Nat} (la : ts.length = na) (le : es.length = ne) (lk : ks.length = nk) (h1 : IsPath path) (h2 : na <= 40) (h3 : ne <= 80) (h4 : nk <= 40)
  (h5 : ∀ j, j < na -> IsLine (ts[j]?.getD .empty)) (h6 : ∀ j, j < ne -> edOK id a (a + na) (es[j]?.getD ((0, 0), (0, 0)))) (h7 : risB ltEd ((0, 0), (0, 0)) es ne = true) (h8 : ∀ j, j < nk -> lnOK id (ks[j]?.getD (0, 0))) (h9 : risB ltLn (0, 0) ks nk = true) : IsHk (path, ts, es, ks) id a where
 path := h1
 nAdds := by show ts.length <= 40; omega
 nEdges := by show es.length <= 80; omega
 nKills := by show ks.length <= 40; omega
 adds := upto_all la h5
 edges := by
  show ∀ e ∈ es, Named e.1 id a (a + ts.length) /\ Named e.2 id a (a + ts.length) /\ e.1 ≠ e.2
  rw [la]
  exact upto_all le h6
 eris := risB_all linEd (d := ((0, 0), (0, 0))) (by show risB ltEd _ es es.length = true; rw [le]; exact h7)
 kills := upto_all lk h8
 kris := risB_all linLn (d := (0, 0)) (by show risB ltLn _ ks ks.length = true; rw [lk]; exact h9)
def Ed4 (w : World) (b o : Nat) (e : Ed) : Prop := w.cell? ⟨b, o, none⟩ = some (.int .u32 (e.1.1 : Int)) /\ w.cell? ⟨b, o + 1, none⟩ = some (.int .i64 e.1.2) /\ w.cell? ⟨b, o + 2, none⟩ = some (.int .u32 (e.2.1 : Int)) /\ w.cell? ⟨b, o + 3, none⟩ = some (.int .i64 e.2.2)
theorem Ed4.calm {w w' : World} {b o : Nat} {e : Ed} (h : Ed4 w b o e) (hg : w.grownBy w' none) : Ed4 w' b o e := ⟨Zh hg h.1, Zh hg h.2.1, Zh hg h.2.2.1, Zh hg h.2.2.2⟩
def LsE (w : World) (g : Nat) (v : Value) (b o : Nat) (p : Ed) (gE : Nat) (e : Ed) : Prop := w.cell? ⟨g, 2, none⟩ = some v /\ Ed4 w b o p /\ Ed4 w gE 0 e
theorem LsE.calm {w w' : World} {g b o gE : Nat} {v : Value} {p e : Ed} (h : LsE w g v b o p gE e) (hg : w.grownBy w' none) : LsE w' g v b o p gE e := ⟨Zh hg h.1, h.2.1.calm hg, h.2.2.calm hg⟩
theorem refHunk_c (path : ByteArray) (ts : List ByteArray) (es : List Ed) (ks : List Ln) (id a : Nat) (pa : Option Addr) (na ca : Nat) (pe : Option Addr) (ne ce : Nat) (pk : Option Addr) (nk ck : Nat) (lo hi : Nat) (r : Bool) (w : World)
  (h : HkAt w lo hi pa na ca pe ne ce pk nk ck (path, ts, es, ks)) (hb : na <= 1000 /\ ne <= 1000 /\ nk <= 1000) (hp : path.size <= 1000000) (hs : ∀ s ∈ ts, s.size <= 1000000) (ha : a <= 1000000) (hr : r = true ↔ IsHk (path, ts, es, ks) id a) :
  Calls Tryz.prog 68 #[.agg #[.string path, .slice pa na ca, .slice pe ne ce, .slice pk nk ck], .int .u32 (id : Int), .int .i64 (a : Int)] w fun e w' => e = .returned (.bool r) /\ w.grownBy w' none := by
 have HR := Za hr
 have HAS := Za (show StrsAt w lo hi pa na ts from h.adds)
 have HES := Za (show EdsAt w lo hi pe ne es from h.edges)
 have HKS := Za (show LnsAt w lo hi pk nk ks from h.kills)
 have HLA := Za HAS.out.len
 have HLE := Za HES.out.len
 have HLK := Za HKS.out.len
 have HSZ := Za hs
 have HPS := Za hp
 have HB := Za (BoxV.new w [.string path, .slice pa na ca, .slice pe ne ce, .slice pk nk ck] 68)
 have HG := Za (Zd w (.cells [.string path, .slice pa na ca, .slice pe ne ce, .slice pk nk ck].toArray 68) none)
 clear hr h hs hp
 obtain ⟨rp, hrp⟩ := Ym (IsPath path)
 have HRP := Za hrp
 clear hrp
 go_enter Tryz.func68, Tryz.ntmps68
 go_upto_region 1 with fail
 generalize w.alloc _ = w1 at *
 have HA1 := Za (HAS.out.calm HG.out)
 have HE1 := Za (HES.out.calm HG.out)
 have HK1 := Za (HKS.out.calm HG.out)
 clear HAS HES HKS
 generalize w.heap.size = g at *
 obtain ⟨a0, a1, a2, a3⟩ := HB.out.four
 go_wp2_with fail
 refine (refIsPath_c path rp _ HPS.out HRP.out).mono ?_
 rintro e w2 ⟨rfl, h9⟩
 subst w2
 cases rp with
 | false =>
  obtain rfl : r = false := Zj HR.out fun h => by have := HRP.out.2 h.path; cases this
  go_wp2
  go_ret
  exact ⟨rfl, HG.out⟩
 | true =>
  have HP0 := Za (HRP.out.1 rfl)
  clear HRP
  by_cases hna : 40 < na
  ·obtain rfl : r = false := Zj HR.out fun h => by have := h.nAdds; rw [show (hAdds (path, ts, es, ks)).length = na from HLA.out] at this; omega
   have f1 : (40 : Int) < na := by omega
   go_wp2
   go_ret
   exact ⟨rfl, HG.out⟩
  ·have f1 : ¬ (40 : Int) < na := by omega
   by_cases hne : 80 < ne
   ·obtain rfl : r = false := Zj HR.out fun h => by have := h.nEdges; rw [show (hEdges (path, ts, es, ks)).length = ne from HLE.out] at this; omega
    have f2 : (80 : Int) < ne := by omega
    go_wp2
    go_ret
    exact ⟨rfl, HG.out⟩
   ·have f2 : ¬ (80 : Int) < ne := by omega
    by_cases hnk : 40 < nk
    ·obtain rfl : r = false := Zj HR.out fun h => by have := h.nKills; rw [show (hKills (path, ts, es, ks)).length = nk from HLK.out] at this; omega
     have f3 : (40 : Int) < nk := by omega
     go_wp2
     go_ret
     exact ⟨rfl, HG.out⟩
    ·have f3 : ¬ (40 : Int) < nk := by omega
     go_wp2
     clear f1 f2 f3 a0 a1 a2 a3
     go_loopw [7] (fun i wr => ∃ k : Nat, k <= na /\ i = .int .i64 k /\ Hid (∀ j, j < k -> IsLine (ts[j]?.getD .empty)) /\ Hid (w1.grownBy wr none)) (fun i _ => na - (intOf i).toNat)
     case atStart => exact ⟨0, Ze _, rfl, Za (fun j hj => absurd hj (Zy _)), Za (Zi _ _)⟩
     case round =>
      obtain ⟨k, hk, rfl, HU, HGW⟩ := hrel
      obtain ⟨a0, a1, a2, a3⟩ := (HB.out.calm HGW.out).four
      by_cases hkn : k < na
      ·have k0 : (0 : Int) <= k := by omega
       have k1 : (k : Int) < na := by omega
       obtain ⟨b, o, rfl, _, _, _, hc⟩ := (HA1.out.calm HGW.out).cell (by omega)
       have x0 := hc k hkn
       have HM := Za (Zr (d := ByteArray.empty) (show k < ts.length by rw [HLA.out]; exact hkn))
       have HS1 := Za (HSZ.out _ HM.out)
       have HU2 := Za (show IsLine (ts[k]?.getD .empty) -> ∀ j, j < k + 1 -> IsLine (ts[j]?.getD .empty) from fun h => Yk (q := fun j => IsLine (ts[j]?.getD .empty)) HU.out h)
       clear hc HU
       generalize ts[k]?.getD .empty = s at *
       have hs9 := HS1.out
       go_wp2_with fail
       refine (refLines_c s _ HS1.out).mono ?_
       rintro e w3 ⟨v, rfl, hrow, hg3⟩
       obtain ⟨p9, c9, rfl, _⟩ := strsAt_own3 rfl hrow
       have HG3 := Za (Zb HGW.out hg3)
       clear hrow hg3 a0 a1 a2 a3 x0
       by_cases h1 : (linesS s).length = 1
       ·by_cases h2 : 60 < s.size
        ·obtain rfl : r = false := Zj HR.out fun h => by have := (h.adds _ HM.out).hi; omega
         have f1 : (((linesS s).length : Int) != 1) = false := by rw [h1]; rfl
         have f2 : (60 : Int) < s.size := by omega
         clear h1
         generalize (linesS s).length = m at *
         go_wp2
         go_ret
         exact ⟨rfl, Zb HG.out HG3.out⟩
        ·have HU3 := Za (HU2.out ⟨h1, by omega⟩)
         have f1 : (((linesS s).length : Int) != 1) = false := by rw [h1]; rfl
         have f2 : ¬ (60 : Int) < s.size := by omega
         clear h1
         generalize (linesS s).length = m at *
         go_wp2
         exact ⟨⟨k + 1, by omega, by go_num, HU3, HG3⟩, by simp [intOf]; omega⟩
       ·obtain rfl : r = false := Zj HR.out fun h => h1 (h.adds _ HM.out).one
        have f1 : (((linesS s).length : Int) != 1) = true := by simp; omega
        clear h1
        generalize (linesS s).length = m at *
        go_wp2
        go_ret
        exact ⟨rfl, Zb HG.out HG3.out⟩
      ·obtain rfl : na = k := by omega
       have k1 : ¬ ((na : Int) < na) := by omega
       have HAD := HU
       obtain ⟨tt, hto⟩ : ∃ tt, tt = a + na := ⟨_, rfl⟩
       have hw : IntKind.i64.wrap ((a : Int) + na) = (tt : Int) := by rw [Zf _ (by omega)]; omega
       have HTO := Za hto
       clear hto
       go_wp2
       clear a0 a1 a2 a3 hw
       go_loopw [11] (fun i wr => ∃ k : Nat, k <= ne /\ i = .int .i64 k /\ Hid (∀ j, j < k -> edOK id a tt (es[j]?.getD ((0, 0), (0, 0)))) /\ Hid (risB ltEd ((0, 0), (0, 0)) es k = true) /\ Hid (w1.grownBy wr none)) (fun i _ => ne - (intOf i).toNat)
       case atStart => exact ⟨0, Ze _, rfl, Za (fun j hj => absurd hj (Zy _)), Za rfl, HGW⟩
       case round =>
        clear HGW HU
        obtain ⟨k, hk, rfl, HU, HS, HGW⟩ := hrel
        obtain ⟨a0, a1, a2, a3⟩ := (HB.out.calm HGW.out).four
        by_cases hkn : k < ne
        ·have k0 : (0 : Int) <= k := by omega
         have k1 : (k : Int) < ne := by omega
         obtain ⟨b, o, rfl, _, _, _, hc⟩ := (HE1.out.calm HGW.out).cell (by omega)
         obtain ⟨x1, x2, x3, x4⟩ := hc k hkn
         have HM := Za (Zr (d := ((0, 0), (0, 0))) (show k < es.length by rw [HLE.out]; exact hkn))
         have HU2 := Za (show edOK id a tt (es[k]?.getD ((0, 0), (0, 0))) -> ∀ j, j < k + 1 -> edOK id a tt (es[j]?.getD ((0, 0), (0, 0))) from fun h => Yk (q := fun j => edOK id a tt (es[j]?.getD ((0, 0), (0, 0)))) HU.out h)
         have HBAD := Za (show IsHk (path, ts, es, ks) id a -> edOK id a tt (es[k]?.getD ((0, 0), (0, 0))) from fun h => by have := h.edges _ HM.out; rw [show (hAdds (path, ts, es, ks)).length = na from HLA.out, <- HTO.out] at this; exact this)
         have HSU := Za (risB_succ (lt := ltEd) ((0, 0), (0, 0)) es k)
         rw [HS.out] at HSU
         have HRB := Za (show IsHk (path, ts, es, ks) id a -> ∀ K, K + 1 = k -> ltEd (es[K]?.getD ((0, 0), (0, 0))) (es[k]?.getD ((0, 0), (0, 0))) = true from fun h K e => by
          subst e
          cases hq : ltEd (es[K]?.getD ((0, 0), (0, 0))) (es[K + 1]?.getD ((0, 0), (0, 0))) with
          | true => rfl
          | false => exact absurd h.eris (ris_bad linEd (d := ((0, 0), (0, 0))) (by show K + 1 < es.length; rw [HLE.out]; exact hkn) hq))
         have HPC := Za (show ∀ K, K + 1 = k -> Ed4 wr b (o + K * 4) (es[K]?.getD ((0, 0), (0, 0))) from fun K e => hc K (by omega))
         clear hc HU HM HS
         have HEE := Za (rfl : es[k]?.getD ((0, 0), (0, 0)) = es[k]?.getD ((0, 0), (0, 0)))
         generalize hE : es[k]?.getD ((0, 0), (0, 0)) = E at *
         have HE := Za hE
         clear hE HEE
         obtain ⟨⟨e1, e2⟩, e3, e4⟩ := E
         simp only at x1 x2 x3 x4
         obtain ⟨r1, hr1⟩ := Ym (Named (e1, e2) id a tt)
         obtain ⟨r2, hr2⟩ := Ym (Named (e3, e4) id a tt)
         have HR1 := Za hr1
         have HR2 := Za hr2
         clear hr1 hr2
         go_upto_region 15 with fail
         have HBE := Za (BoxV.new wr [.int .u32 (e1 : Int), .int .i64 e2, .int .u32 (e3 : Int), .int .i64 e4] 70)
         have HGE := Za (Zb HGW.out (Zd wr (.cells [.int .u32 (e1 : Int), .int .i64 e2, .int .u32 (e3 : Int), .int .i64 e4].toArray 70) none))
         have HGA := Za (Zd wr (.cells [.int .u32 (e1 : Int), .int .i64 e2, .int .u32 (e3 : Int), .int .i64 e4].toArray 70) none)
         clear a0 a1 a2 a3 x1 x2 x3 x4 HGW
         generalize wr.alloc _ = w3 at *
         have HPC2 := Za (fun K e => (HPC.out K e).calm HGA.out)
         clear HPC HGA
         generalize wr.heap.size = gE at *
         obtain ⟨y1, y2, y3, y4⟩ := HBE.out.four
         go_wp2_with fail
         refine (refNamed_c (e1, e2) id a tt r1 _ HR1.out).mono ?_
         rintro e w4 ⟨rfl, hg4⟩
         have HG4 := Za (Zb HGE.out hg4)
         have HK4 := Za hg4
         obtain ⟨y1, y2, y3, y4⟩ := (HBE.out.calm hg4).four
         clear hg4
         cases r1 with
         | false =>
          obtain rfl : r = false := Zj HR.out fun h => by have := HR1.out.2 (HBAD.out h).1; cases this
          go_wp2
          go_ret
          exact ⟨rfl, Zb HG.out HG4.out⟩
         | true =>
          have HN1 := Za (HR1.out.1 rfl)
          clear HR1
          go_wp2_with fail
          refine (refNamed_c (e3, e4) id a tt r2 _ HR2.out).mono ?_
          rintro e w5 ⟨rfl, hg5⟩
          have HG5 := Za (Zb HG4.out hg5)
          have HK5 := Za (Zb HK4.out hg5)
          obtain ⟨y1, y2, y3, y4⟩ := (HBE.out.calm HK5.out).four
          clear hg5
          cases r2 with
          | false =>
           obtain rfl : r = false := Zj HR.out fun h => by have := HR2.out.2 (HBAD.out h).2.1; cases this
           go_wp2
           go_ret
           exact ⟨rfl, Zb HG.out HG5.out⟩
          | true =>
           have HN2 := Za (HR2.out.1 rfl)
           clear HR2
           have hq := ln_eql (e1 : Int) e3 e2 e4
           by_cases hee : ((e1, e2) : Ln) = (e3, e4)
           ·obtain rfl : r = false := Zj HR.out fun h => (HBAD.out h).2.2 hee
            have hb1 : ((e1 : Int) == (e3 : Int) && e2 == e4) = true := by
             simp only [Prod.mk.injEq] at hee
             obtain ⟨rfl, rfl⟩ := hee
             simp
            rw [hb1] at hq
            clear hee hb1
            go_wp2
            go_ret
            exact ⟨rfl, Zb HG.out HG5.out⟩
           ·have HU3 := Za (HU2.out ⟨HN1.out, HN2.out, hee⟩)
            have hb1 : ((e1 : Int) == (e3 : Int) && e2 == e4) = false := by
             rw [Bool.eq_false_iff]
             intro h
             simp only [Yv, beq_iff_eq] at h
             apply hee
             simp only [Prod.mk.injEq]
             omega
            rw [hb1] at hq
            clear hee hb1 HU2
            go_upto_region 17 with fail
            have a2 := (HB.out.calm HG5.out).cell (k := 2) rfl
            cases k with
            | zero =>
             have HS2 : Hid (risB ltEd ((0, 0), (0, 0)) es (0 + 1) = true) := Za (by rw [HSU.out]; rfl)
             have f0 : decide ((0 : Int) < ((0 : Nat) : Int)) = false := by decide
             have HG7 := Za (fun z => Zb HG5.out (Zo w5 z none))
             go_quiet (fail)
             go_wp2
             exact ⟨⟨0 + 1, by omega, by go_num, HU3, HS2, Za (HG7.out _)⟩, by simp [intOf]; omega⟩
            | succ K =>
             have hp4 := (HPC2.out K rfl).calm HK5.out
             have HRB2 := Za (fun h => HRB.out h K rfl)
             have HS2 := HSU
             rw [Nat.add_sub_cancel] at HS2
             have kw : IntKind.i64.wrap (((K + 1 : Nat) : Int) - 1) = (K : Int) := by rw [Zf _ (by omega)]; omega
             have kp : (0 : Int) < ((K + 1 : Nat) : Int) := by omega
             have K0 : (0 : Int) <= K := by omega
             have K1 : (K : Int) < ne := by omega
             have HEK := HE
             clear HRB HSU HPC2 HE
             generalize hP : es[K]?.getD ((0, 0), (0, 0)) = P at *
             obtain ⟨⟨p1, p2⟩, p3, p4⟩ := P
             have q0 := fun z : Later w5 => Zk a2 z
             have q1 := fun z : Later w5 => Zk hp4.1 z
             have q2 := fun z : Later w5 => Zk hp4.2.1 z
             have q3 := fun z : Later w5 => Zk hp4.2.2.1 z
             have q4 := fun z : Later w5 => Zk hp4.2.2.2 z
             have q5 := fun z : Later w5 => Zk y1 z
             have q6 := fun z : Later w5 => Zk y2 z
             have q7 := fun z : Later w5 => Zk y3 z
             have q8 := fun z : Later w5 => Zk y4 z
             have hne5 := later_one w5
             simp only at q1 q2 q3 q4
             clear hP hp4 a2 HEK y1 y2 y3 y4
             generalize hkk : K + 1 = kk at *
             have HKK := Za hkk
             clear hkk
             have f0 : decide ((0 : Int) < (kk : Int)) = true := Zg kp
             have f0' : decide (0 < kk) = true := Zg (by have := HKK.out; omega)
             cases h1 : ltLn (p1, p2) (e1, e2) with
             | true =>
              have hT := Za (fun z : Later w5 => Yy (fun w' hg => refLess_c (p1, p2) (e1, e2) true w' h1.symm) z)
              have HS3 : Hid (risB ltEd ((0, 0), (0, 0)) es (kk + 1) = true) := Za (by rw [HS2.out]; simp [ltEd, h1])
              clear h1
              refine Zz0 (by kernel_rfl) (by kernel_rfl) ?_
              repeat (go_big_quiet_step ((first | (go_at_call 48; exact hT.out _))))
              refine Ya ?_
              rintro _ ⟨z, rfl⟩
              have HG9 := Za (Zb HG5.out z.ok)
              go_wp2
              exact ⟨⟨kk + 1, by omega, by go_num, HU3, HS3, HG9⟩, by have := HKK.out; simp [intOf]; omega⟩
             | false =>
              have hT := Za (fun z : Later w5 => Yy (fun w' hg => refLess_c (p1, p2) (e1, e2) false w' h1.symm) z)
              have hq2 := ln_eql (p1 : Int) e1 p2 e2
              by_cases hpe : ((p1, p2) : Ln) = (e1, e2)
              ·have hb2 : ((p1 : Int) == (e1 : Int) && p2 == e2) = true := by
                simp only [Prod.mk.injEq] at hpe
                obtain ⟨rfl, rfl⟩ := hpe
                simp
               rw [hb2] at hq2
               cases h2 : ltLn (p3, p4) (e3, e4) with
               | true =>
                have hS := Za (fun z : Later w5 => Yy (fun w' hg => refLess_c (p3, p4) (e3, e4) true w' h2.symm) z)
                have HS3 : Hid (risB ltEd ((0, 0), (0, 0)) es (kk + 1) = true) := Za (by rw [HS2.out]; simp [ltEd, h2, hpe])
                clear h1 h2 hpe hb2
                refine Zz0 (by kernel_rfl) (by kernel_rfl) ?_
                repeat (go_big_quiet_step ((first | (go_at_call 48; first | (with_reducible exact hT.out _) | (with_reducible exact hS.out _)))))
                refine Ya ?_
                rintro _ ⟨z, rfl⟩
                have HG9 := Za (Zb HG5.out z.ok)
                go_wp2
                exact ⟨⟨kk + 1, by omega, by go_num, HU3, HS3, HG9⟩, by have := HKK.out; simp [intOf]; omega⟩
               | false =>
                have hS := Za (fun z : Later w5 => Yy (fun w' hg => refLess_c (p3, p4) (e3, e4) false w' h2.symm) z)
                obtain rfl : r = false := Zj HR.out fun h => by have := HRB2.out h; rw [show ltEd ((p1, p2), p3, p4) ((e1, e2), e3, e4) = (ltLn (p1, p2) (e1, e2) || (decide ((p1, p2) = (e1, e2)) && ltLn (p3, p4) (e3, e4))) from rfl, h1, h2, Bool.and_false] at this; cases this
                clear h1 h2 hpe hb2
                refine Zz0 (by kernel_rfl) (by kernel_rfl) ?_
                repeat (go_big_quiet_step ((first | (go_at_call 48; first | (with_reducible exact hT.out _) | (with_reducible exact hS.out _)))))
                refine Ya ?_
                rintro _ ⟨z, rfl⟩
                have HG9 := Za (Zb HG5.out z.ok)
                go_wp2
                go_ret
                exact ⟨rfl, Zb HG.out HG9.out⟩
              ·have hb2 : ((p1 : Int) == (e1 : Int) && p2 == e2) = false := by
                rw [Bool.eq_false_iff]
                intro h
                simp only [Yv, beq_iff_eq] at h
                apply hpe
                simp only [Prod.mk.injEq]
                omega
               rw [hb2] at hq2
               obtain rfl : r = false := Zj HR.out fun h => by
                have := HRB2.out h
                simp only [ltEd, Bool.or_eq_true, Yv, Yb] at this
                rcases this with this | this
                ·rw [h1] at this; cases this
                ·exact hpe this.1
               clear h1 hpe hb2
               refine Zz0 (by kernel_rfl) (by kernel_rfl) ?_
               repeat (go_big_quiet_step ((first | (go_at_call 48; exact hT.out _))))
               refine Ya ?_
               rintro _ ⟨z, rfl⟩
               have HG9 := Za (Zb HG5.out z.ok)
               go_wp2
               go_ret
               exact ⟨rfl, Zb HG.out HG9.out⟩
        ·skip
         obtain rfl : ne = k := by omega
         have k1 : ¬ ((ne : Int) < ne) := by omega
         have HED := HU
         have HER := HS
         go_wp2
         clear a0 a1 a2 a3
         go_loopw [13] (fun i wr => ∃ k : Nat, k <= nk /\ i = .int .i64 k /\ Hid (∀ j, j < k -> lnOK id (ks[j]?.getD (0, 0))) /\ Hid (risB ltLn (0, 0) ks k = true) /\ Hid (w1.grownBy wr none)) (fun i _ => nk - (intOf i).toNat)
         case atStart => exact ⟨0, Ze _, rfl, Za (fun j hj => absurd hj (Zy _)), Za rfl, HGW⟩
         case round =>
          clear HGW HU HS
          obtain ⟨k, hk, rfl, HU, HS, HGW⟩ := hrel
          have a3 := (HB.out.calm HGW.out).cell (k := 3) rfl
          by_cases hkn : k < nk
          ·have k0 : (0 : Int) <= k := by omega
           have k1 : (k : Int) < nk := by omega
           obtain ⟨b, o, rfl, _, _, _, hc⟩ := (HK1.out.calm HGW.out).cell (by omega)
           obtain ⟨x1, x2⟩ := hc k hkn
           have HM := Za (Zr (d := ((0, 0) : Ln)) (show k < ks.length by rw [HLK.out]; exact hkn))
           have HU2 := Za (show lnOK id (ks[k]?.getD (0, 0)) -> ∀ j, j < k + 1 -> lnOK id (ks[j]?.getD (0, 0)) from fun h => Yk (q := fun j => lnOK id (ks[j]?.getD (0, 0))) HU.out h)
           have HBAD := Za (show IsHk (path, ts, es, ks) id a -> lnOK id (ks[k]?.getD (0, 0)) from fun h => h.kills _ HM.out)
           have HSU := Za (risB_succ (lt := ltLn) ((0, 0) : Ln) ks k)
           rw [HS.out] at HSU
           have HRB := Za (show IsHk (path, ts, es, ks) id a -> ∀ K, K + 1 = k -> ltLn (ks[K]?.getD (0, 0)) (ks[k]?.getD (0, 0)) = true from fun h K e => by
            subst e
            cases hq : ltLn (ks[K]?.getD (0, 0)) (ks[K + 1]?.getD (0, 0)) with
            | true => rfl
            | false => exact absurd h.kris (ris_bad linLn (d := ((0, 0) : Ln)) (by show K + 1 < ks.length; rw [HLK.out]; exact hkn) hq))
           have HPC := Za (show ∀ K, K + 1 = k -> wr.cell? ⟨b, o + K * 2, none⟩ = some (.int .u32 (((ks[K]?.getD (0, 0)).1 : Nat) : Int)) /\ wr.cell? ⟨b, o + K * 2 + 1, none⟩ = some (.int .i64 (ks[K]?.getD (0, 0)).2) from fun K e => hc K (by omega))
           clear hc HU HM HS
           have HEE := Za (rfl : ks[k]?.getD (0, 0) = ks[k]?.getD (0, 0))
           generalize hE : ks[k]?.getD ((0, 0) : Ln) = E at *
           have HE := Za hE
           clear hE HEE
           obtain ⟨e1, e2⟩ := E
           simp only at x1 x2
           have q0 := fun z : Later wr => Zk a3 z
           have q1 := fun z : Later wr => Zk x1 z
           have q2 := fun z : Later wr => Zk x2 z
           have hne5 := later_one wr
           obtain ⟨r1, hr1⟩ := Ym (Named (e1, e2) id 0 0)
           have HR1 := Za hr1
           clear hr1
           go_upto_region 22 with fail
           clear a3 x1 x2
           by_cases hid : e1 = id
           ·obtain rfl : r = false := Zj HR.out fun h => (HBAD.out h).1 hid
            have hb1 : ((e1 : Int) == (id : Int)) = true := by rw [hid]; simp
            clear hid
            refine Zz0 (by kernel_rfl) (by kernel_rfl) ?_
            repeat (go_big_quiet_step (fail))
            refine Ya ?_
            rintro _ ⟨z, rfl⟩
            have HG9 := Za (Zb HGW.out z.ok)
            go_wp2
            go_ret
            exact ⟨rfl, Zb HG.out HG9.out⟩
           ·have hb1 : ((e1 : Int) == (id : Int)) = false := by simp; omega
            have hN := Za (fun z : Later wr => Yy (fun w' hg => refNamed_c (e1, e2) id 0 0 r1 w' HR1.out) z)
            have HLN := Za (show Named (e1, e2) id 0 0 ↔ lnOK id (e1, e2) from ⟨fun h => ⟨hid, h.lo, h.hi⟩, fun h => ⟨h.2.1, h.2.2, fun e => absurd e hid⟩⟩)
            clear hid
            cases r1 with
            | false =>
             obtain rfl : r = false := Zj HR.out fun h => by have := HR1.out.2 (HLN.out.2 (HBAD.out h)); cases this
             refine Zz0 (by kernel_rfl) (by kernel_rfl) ?_
             repeat (go_big_quiet_step ((first | (go_at_call 107; exact hN.out _))))
             refine Ya ?_
             rintro _ ⟨z, rfl⟩
             have HG9 := Za (Zb HGW.out z.ok)
             go_wp2
             go_ret
             exact ⟨rfl, Zb HG.out HG9.out⟩
            | true =>
             have HU3 := Za (HU2.out (HLN.out.1 (HR1.out.1 rfl)))
             clear HU2
             rcases Nat.eq_zero_or_pos k with hk0 | hk0
             ·skip
              have HS2 : Hid (risB ltLn ((0, 0) : Ln) ks (k + 1) = true) := Za (by rw [HSU.out, hk0]; rfl)
              have f0 : decide ((0 : Int) < (k : Int)) = false := Zl (by omega)
              have f0' : decide (0 < k) = false := Zl (by omega)
              clear HSU hk0
              refine Zz0 (by kernel_rfl) (by kernel_rfl) ?_
              repeat (go_big_quiet_step ((first | (go_at_call 107; exact hN.out _))))
              refine Ya ?_
              rintro _ ⟨z, rfl⟩
              have HG9 := Za (Zb HGW.out z.ok)
              go_wp2
              exact ⟨⟨k + 1, by omega, by go_num, HU3, HS2, HG9⟩, by simp [intOf]; omega⟩
             ·obtain ⟨K, rfl⟩ : ∃ K, k = K + 1 := ⟨k - 1, by omega⟩
              obtain ⟨c1, c2⟩ := HPC.out K rfl
              have HRB2 := Za (fun h => HRB.out h K rfl)
              have HS2 := HSU
              rw [Nat.add_sub_cancel] at HS2
              have kw : IntKind.i64.wrap (((K + 1 : Nat) : Int) - 1) = (K : Int) := by rw [Zf _ (by omega)]; omega
              have kp : (0 : Int) < ((K + 1 : Nat) : Int) := by omega
              have K0 : (0 : Int) <= K := by omega
              have K1 : (K : Int) < nk := by omega
              have HEK := HE
              clear HRB HSU HPC HE
              generalize hP : ks[K]?.getD ((0, 0) : Ln) = P at *
              obtain ⟨p1, p2⟩ := P
              simp only at c1 c2
              have q5 := fun z : Later wr => Zk c1 z
              have q6 := fun z : Later wr => Zk c2 z
              clear hP HEK c1 c2
              generalize hkk : K + 1 = kk at *
              have HKK := Za hkk
              clear hkk
              have f0 : decide ((0 : Int) < (kk : Int)) = true := Zg kp
              have f0' : decide (0 < kk) = true := Zg (by have := HKK.out; omega)
              cases h1 : ltLn (p1, p2) (e1, e2) with
              | true =>
               have hT := Za (fun z : Later wr => Yy (fun w' hg => refLess_c (p1, p2) (e1, e2) true w' h1.symm) z)
               have HS3 : Hid (risB ltLn ((0, 0) : Ln) ks (kk + 1) = true) := Za (by rw [HS2.out]; simp [h1])
               clear h1
               refine Zz0 (by kernel_rfl) (by kernel_rfl) ?_
               repeat (go_big_quiet_step ((first | (go_at_call 107; exact hN.out _) | (go_at_call 48; with_reducible exact hT.out _))))
               refine Ya ?_
               rintro _ ⟨z, rfl⟩
               have HG9 := Za (Zb HGW.out z.ok)
               go_wp2
               exact ⟨⟨kk + 1, by omega, by go_num, HU3, HS3, HG9⟩, by have := HKK.out; simp [intOf]; omega⟩
              | false =>
               have hT := Za (fun z : Later wr => Yy (fun w' hg => refLess_c (p1, p2) (e1, e2) false w' h1.symm) z)
               obtain rfl : r = false := Zj HR.out fun h => by have := HRB2.out h; rw [h1] at this; cases this
               clear h1
               refine Zz0 (by kernel_rfl) (by kernel_rfl) ?_
               repeat (go_big_quiet_step ((first | (go_at_call 107; exact hN.out _) | (go_at_call 48; with_reducible exact hT.out _))))
               refine Ya ?_
               rintro _ ⟨z, rfl⟩
               have HG9 := Za (Zb HGW.out z.ok)
               go_wp2
               go_ret
               exact ⟨rfl, Zb HG.out HG9.out⟩
          ·obtain rfl : nk = k := by omega
           have k1 : ¬ ((nk : Int) < nk) := by omega
           obtain rfl : r = true := HR.out.2 (mk_hk HLA.out HLE.out HLK.out HP0.out (by omega) (by omega) (by omega) HAD.out (by rw [<- HTO.out]; exact HED.out) HER.out HU.out HS.out)
           go_wp2
           go_ret
           exact ⟨rfl, Zb HG.out HGW.out⟩
theorem pathAt {l : List Hk} {j : Nat} (hj : j < l.length) : (l.map hPath)[j]?.getD .empty = hPath (l[j]?.getD hk0) := by
 rw [Xr, Zm hj]
 rfl
theorem refIs_c (id : Nat) (pd : Option Addr) (nd cd : Nat) (pm : Option Addr) (nm cm : Nat) (px : Option Addr) (nx cx : Nat) (ph : Option Addr) (nh ch : Nat) (lo hi : Nat) (p : Pt) (r : Bool) (w : World)
  (h : PtAt w lo hi id pd nd cd pm nm cm px nx cx ph nh ch p) (hb : PBig p) (hr : r = true ↔ IsPt p) :
  Calls Tryz.prog 37 #[.agg #[.int .u32 (id : Int), .slice pd nd cd, .slice pm nm cm, .slice px nx cx, .slice ph nh ch]] w fun e w' => e = .returned (.bool r) /\ w.grownBy w' none := by
 have HR := Za hr
 have HB := Za (BoxV.new w [.int .u32 (id : Int), .slice pd nd cd, .slice pm nm cm, .slice px nx cx, .slice ph nh ch] 56)
 have HG := Za (Zd w (.cells #[.int .u32 (id : Int), .slice pd nd cd, .slice pm nm cm, .slice px nx cx, .slice ph nh ch] 56) none)
 have H := Za (h.calm HG.out)
 have HBG := Za hb
 have HLD := Za h.deps.len
 have HLM := Za h.makes.len
 have HLX := Za h.drops.len
 have HLH := Za h.hunks.len
 have HNUM := Za h.num
 have hd1 : nd <= 1000 := by have := hb.deps; have := HLD.out; omega
 have hm1 : nm <= 1000 := by have := hb.makes; have := HLM.out; omega
 have hx1 : nx <= 1000 := by have := hb.drops; have := HLX.out; omega
 have hh1 : nh <= 20 := by have := hb.hunks; have := HLH.out; omega
 clear hr h hb
 go_enter Tryz.func37, Tryz.ntmps37
 go_upto_region 1 with fail
 generalize World.alloc w _ = w1 at *
 generalize w.heap.size = g at *
 obtain ⟨a0, a1, a2, a3, a4⟩ := HB.out.five
 by_cases hid : id = 0
 ·obtain rfl : r = false := Zj HR.out fun i => i.id (HNUM.out.trans hid)
  have e0 : ((id : Int) == 0) = true := by rw [hid]; rfl
  go_wp2
  go_ret
  exact ⟨rfl, HG.out⟩
 have e0 : ((id : Int) == 0) = false := by simp; omega
 have HI0 := Za hid
 clear hid
 obtain ⟨r1, hr1⟩ := Ym ((∀ d ∈ pDeps p, d ≠ 0) /\ risR ltN (pDeps p))
 have HR1 := Za hr1
 clear hr1
 go_wp2_with fail
 refine (refRising_c pd nd cd _ _ (pDeps p) r1 w1 H.out.deps (by omega) HR1.out).mono ?_
 rintro e w2 ⟨rfl, hg⟩
 have HG2 := Za (Zb HG.out hg)
 have HB2 := Za (HB.out.calm hg)
 have H2 := Za (H.out.calm hg)
 clear HG HB H hg a0 a1 a2 a3 a4
 obtain ⟨a0, a1, a2, a3, a4⟩ := HB2.out.five
 cases r1 with
 | false =>
  obtain rfl : r = false := Zj HR.out fun i => by have := HR1.out.2 ⟨i.deps, i.dris⟩; cases this
  go_wp2
  go_ret
  exact ⟨rfl, HG2.out⟩
 | true =>
 have HD1 := Za (HR1.out.1 rfl)
 clear HR1
 obtain ⟨r2, hr2⟩ := Ym (id ∈ pDeps p)
 have HR2 := Za hr2
 clear hr2
 go_wp2_with fail
 refine (refHas_c pd nd cd _ _ id (pDeps p) r2 w2 H2.out.deps (by omega) HR2.out).mono ?_
 rintro e w3 ⟨rfl, h9⟩
 subst h9
 cases r2 with
 | true =>
  obtain rfl : r = false := Zj HR.out fun i => i.own (by rw [HNUM.out]; exact HR2.out.1 rfl)
  go_wp2
  go_ret
  exact ⟨rfl, HG2.out⟩
 | false =>
 have HD2 : Hid (id ∉ pDeps p) := Za fun h => by have := HR2.out.2 h; cases this
 clear HR2
 obtain ⟨r3, hr3⟩ := Ym ((∀ s ∈ pMakes p, IsPath s) /\ risR ltS (pMakes p))
 have HR3 := Za hr3
 clear hr3
 go_wp2_with fail
 refine (refPaths0_c pm nm cm _ _ (pMakes p) r3 w3 H2.out.makes HBG.out.ms (by omega) HR3.out).mono ?_
 rintro e w4 ⟨rfl, hg⟩
 have HG3 := Za (Zb HG2.out hg)
 have HB3 := Za (HB2.out.calm hg)
 have H3 := Za (H2.out.calm hg)
 clear HG2 HB2 H2 hg a0 a1 a2 a3 a4
 obtain ⟨a0, a1, a2, a3, a4⟩ := HB3.out.five
 cases r3 with
 | false =>
  obtain rfl : r = false := Zj HR.out fun i => by have := HR3.out.2 ⟨i.makes, i.mris⟩; cases this
  go_wp2
  go_ret
  exact ⟨rfl, HG3.out⟩
 | true =>
 have HD3 := Za (HR3.out.1 rfl)
 clear HR3
 obtain ⟨r4, hr4⟩ := Ym ((∀ s ∈ pDrops p, IsPath s) /\ risR ltS (pDrops p))
 have HR4 := Za hr4
 clear hr4
 go_wp2_with fail
 refine (refPaths0_c px nx cx _ _ (pDrops p) r4 w4 H3.out.drops HBG.out.xs (by omega) HR4.out).mono ?_
 rintro e w5 ⟨rfl, hg⟩
 have HG4 := Za (Zb HG3.out hg)
 have HB4 := Za (HB3.out.calm hg)
 have H4 := Za (H3.out.calm hg)
 clear HG3 HB3 H3 hg a0 a1 a2 a3 a4
 obtain ⟨a0, a1, a2, a3, a4⟩ := HB4.out.five
 cases r4 with
 | false =>
  obtain rfl : r = false := Zj HR.out fun i => by have := HR4.out.2 ⟨i.drops, i.xris⟩; cases this
  go_wp2
  go_ret
  exact ⟨rfl, HG4.out⟩
 | true =>
 have HD4 := Za (HR4.out.1 rfl)
 clear HR4
 by_cases hnh : 6 < nh
 ·obtain rfl : r = false := Zj HR.out fun i => by have := i.nHunks; rw [HLH.out] at this; omega
  have f1 : (6 : Int) < nh := by omega
  go_wp2
  go_ret
  exact ⟨rfl, HG4.out⟩
 have f1 : ¬ (6 : Int) < nh := by omega
 by_cases hnd : 60 < nd
 ·obtain rfl : r = false := Zj HR.out fun i => by have := i.nDeps; rw [HLD.out] at this; omega
  have f2 : (60 : Int) < nd := by omega
  go_wp2
  go_ret
  exact ⟨rfl, HG4.out⟩
 have f2 : ¬ (60 : Int) < nd := by omega
 by_cases hnm : 6 < nm
 ·obtain rfl : r = false := Zj HR.out fun i => by have := i.nMakes; rw [HLM.out] at this; omega
  have f3 : (6 : Int) < nm := by omega
  go_wp2
  go_ret
  exact ⟨rfl, HG4.out⟩
 have f3 : ¬ (6 : Int) < nm := by omega
 by_cases hnx : 6 < nx
 ·obtain rfl : r = false := Zj HR.out fun i => by have := i.nDrops; rw [HLX.out] at this; omega
  have f4 : (6 : Int) < nx := by omega
  go_wp2
  go_ret
  exact ⟨rfl, HG4.out⟩
 have f4 : ¬ (6 : Int) < nx := by omega
 go_wp2
 clear f1 f2 f3 f4 a0 a1 a2 a3 a4 e0
 go_loopw [3] (fun i wr => ∃ k : Nat, k <= nm /\ i = .int .i64 k /\ Hid (∀ j, j < k -> (pMakes p)[j]?.getD .empty ∉ pDrops p) /\ Hid (w5.grownBy wr none)) (fun i _ => nm - (intOf i).toNat)
 case atStart => exact ⟨0, Ze _, rfl, Za (fun j hj => absurd hj (Zy _)), Za (Zi _ _)⟩
 case round =>
 obtain ⟨k, hk, rfl, HU, HGW⟩ := hrel
 obtain ⟨a0, a1, a2, a3, a4⟩ := (HB4.out.calm HGW.out).five
 by_cases hkn : k < nm
 ·have k0 : (0 : Int) <= k := by omega
  have k1 : (k : Int) < nm := by omega
  obtain ⟨b, o, rfl, _, _, _, hc⟩ := (H4.out.makes.calm HGW.out).cell (by omega)
  have x0 := hc k hkn
  have HM := Za (Zr (d := ByteArray.empty) (show k < (pMakes p).length by rw [HLM.out]; exact hkn))
  have HU2 := Za (show (pMakes p)[k]?.getD .empty ∉ pDrops p -> ∀ j, j < k + 1 -> (pMakes p)[j]?.getD .empty ∉ pDrops p from fun h => Yk (q := fun j => (pMakes p)[j]?.getD .empty ∉ pDrops p) HU.out h)
  clear hc HU
  generalize (pMakes p)[k]?.getD .empty = s at *
  obtain ⟨r5, hr5⟩ := Ym (s ∈ pDrops p)
  have HR5 := Za hr5
  clear hr5
  have HCI : Hid (∀ X, wr.grownBy X none -> Calls Tryz.prog 31 #[.slice px nx cx, .string s] X fun e w' => e = .returned (.bool r5) /\ X.grownBy w' none) := Za fun X hX =>
   (refIn_c px nx cx _ _ (pDrops p) s r5 X ((H4.out.drops.calm HGW.out).calm hX) (by omega) HR5.out).mono fun e w' ⟨he, hw⟩ => ⟨he, by rw [hw]; exact Zi _ _⟩
  have HS : Hid (∀ X, wr.grownBy X none -> X.cell? ⟨g, 2, none⟩ = some (.slice (some ⟨b, o, none⟩) nm cm) /\ X.cell? ⟨g, 3, none⟩ = some (.slice px nx cx) /\ X.cell? ⟨b, o + k, none⟩ = some (.string s)) := Za fun X hX => ⟨Zh hX a2, Zh hX a3, Zh hX x0⟩
  go_upto_region 6 with fail
  have henv : wr.grownBy (World.drew wr) none := Zo wr 1 none
  go_region_held3 (fun X => X.cell? ⟨g, 2, none⟩ = some (.slice (some ⟨b, o, none⟩) nm cm) /\ X.cell? ⟨g, 3, none⟩ = some (.slice px nx cx) /\ X.cell? ⟨b, o + k, none⟩ = some (.string s))
   (first | exact HS.out _ henv | go_keep)
   (first | (go_at_call 31; (with_reducible refine (HCI.out _ henv).mono ?_); rintro e w6 ⟨rfl, hg⟩; have henv := Zb henv hg))
  have HGE := Za (Zb HGW.out henv)
  clear henv HS HCI a0 a1 a2 a3 a4 x0
  cases r5 with
  | true =>
   obtain rfl : r = false := Zj HR.out fun i => i.apart s HM.out (HR5.out.1 rfl)
   go_wp2
   go_ret
   exact ⟨rfl, Zb HG4.out HGE.out⟩
  | false =>
   have HU3 := Za (HU2.out fun h => by have := HR5.out.2 h; cases this)
   go_wp2
   exact ⟨⟨k + 1, by omega, by go_num, HU3, HGE⟩, by simp [intOf]; omega⟩
 obtain rfl : nm = k := by omega
 have k1 : ¬ ((nm : Int) < nm) := by omega
 have HAP : Hid (∀ s ∈ pMakes p, s ∉ pDrops p) := Za (upto_all HLM.out HU.out)
 have HAL := Za (addsN_le (hs := pHunks p) (m := 1000) fun x hx => (HBG.out.hs x hx).1)
 clear HU
 go_wp2
 clear a0 a1 a2 a3 a4 k1 hkn hk
 go_loopw [4, 5] (fun n i wr => ∃ k : Nat, k <= nh /\ n = .int .i64 (addsN (pHunks p) k : Int) /\ i = .int .i64 k /\ Hid (∀ j, j < k -> IsHk ((pHunks p)[j]?.getD hk0) id (addsN (pHunks p) j)) /\ Hid (risB ltS .empty ((pHunks p).map hPath) k = true) /\ Hid (w5.grownBy wr none)) (fun _ i _ => nh - (intOf i).toNat)
 case atStart => exact ⟨0, Ze _, rfl, rfl, Za (fun j hj => absurd hj (Zy _)), Za rfl, HGW⟩
 case round =>
 clear HGW
 obtain ⟨k, hk, rfl, rfl, HU, HS, HGW⟩ := hrel
 obtain ⟨a0, a1, a2, a3, a4⟩ := (HB4.out.calm HGW.out).five
 by_cases hkn : k < nh
 ·have k0 : (0 : Int) <= k := by omega
  have k1 : (k : Int) < nh := by omega
  have hkl : k < (pHunks p).length := by rw [HLH.out]; exact hkn
  obtain ⟨b, o, rfl, _, _, _, hc⟩ := (H4.out.hunks.calm HGW.out).cell (by omega)
  obtain ⟨pa, na, ca, pe, ne, ce, pk, nk, ck, c0, c1, c2, c3, hh⟩ := hc k hkn
  have HM := Za (Zr (d := hk0) hkl)
  have HBH := Za (HBG.out.hs _ HM.out)
  have HA0 : Hid (addsN (pHunks p) k <= 20000) := Za (by have h1 := HAL.out k (by omega); have : k * 1000 <= 20 * 1000 := Vk _ (by omega); omega)
  have HSUC : Hid (addsN (pHunks p) (k + 1) = addsN (pHunks p) k + na) := Za (by rw [addsN_succ hkl, <- hh.adds.len, Zm hkl]; rfl)
  have HU2 := Za (show IsHk ((pHunks p)[k]?.getD hk0) id (addsN (pHunks p) k) -> ∀ j, j < k + 1 -> IsHk ((pHunks p)[j]?.getD hk0) id (addsN (pHunks p) j) from fun h => Yk (q := fun j => IsHk ((pHunks p)[j]?.getD hk0) id (addsN (pHunks p) j)) HU.out h)
  have HBAD := Za (show IsPt p -> IsHk ((pHunks p)[k]?.getD hk0) id (addsN (pHunks p) k) from fun i => by
   have := i.hunks k hkl
   rw [HNUM.out] at this
   rw [Zm hkl]
   exact this)
  have HSU := Za (risB_succ (lt := ltS) .empty ((pHunks p).map hPath) k)
  rw [HS.out] at HSU
  have HRB := Za (show IsPt p -> ∀ K, K + 1 = k -> ltS (hPath ((pHunks p)[K]?.getD hk0)) (hPath ((pHunks p)[k]?.getD hk0)) = true from fun i K e => by
   subst e
   cases hq : ltS (hPath ((pHunks p)[K]?.getD hk0)) (hPath ((pHunks p)[K + 1]?.getD hk0)) with
   | true => rfl
   | false => exact absurd i.hris (ris_bad linS (d := ByteArray.empty) (by rw [Yn]; exact hkl) (by rw [pathAt (by omega), pathAt hkl]; exact hq)))
  have HPA := Za (show ∀ K, K + 1 = k -> ltS (((pHunks p).map hPath)[K]?.getD .empty) (((pHunks p).map hPath)[k]?.getD .empty) = ltS (hPath ((pHunks p)[K]?.getD hk0)) (hPath ((pHunks p)[k]?.getD hk0)) from fun K e => by
   rw [pathAt (by omega), pathAt hkl])
  have HPC := Za (show ∀ K, K + 1 = k -> wr.cell? ⟨b, o + K * 4, none⟩ = some (.string (hPath ((pHunks p)[K]?.getD hk0))) from fun K e => by
   obtain ⟨_, _, _, _, _, _, _, _, _, c, _⟩ := hc K (by omega)
   exact c)
  have HH := Za hh
  clear hc hh HU HS HM
  obtain ⟨a, hae⟩ : ∃ n, addsN (pHunks p) k = n := ⟨_, rfl⟩
  obtain ⟨a', hae'⟩ : ∃ n, addsN (pHunks p) (k + 1) = n := ⟨_, rfl⟩
  have HA2 := Za hae'
  rw [hae'] at HSUC
  rw [hae] at HA0 HSUC HU2 HBAD ⊢
  clear hae hae'
  have hle := HA0.out
  have hna : na <= 1000 := by have := HBH.out.1; rw [HH.out.adds.len] at this; exact this
  have hw : IntKind.i64.wrap ((a : Int) + na) = (a' : Int) := by rw [Zf _ (by omega), HSUC.out]; omega
  generalize hE : (pHunks p)[k]?.getD hk0 = E at *
  have HE := Za hE
  clear hE
  obtain ⟨path, ts, es, ks⟩ := E
  replace c0 : wr.cell? ⟨b, o + k * 4, none⟩ = some (.string path) := c0
  obtain ⟨r1, hr1⟩ := Ym (IsHk (path, ts, es, ks) id a)
  have HR1 := Za hr1
  clear hr1
  have q0 := fun z : Later wr => Zk a0 z
  have q4 := fun z : Later wr => Zk a4 z
  have q5 := fun z : Later wr => Zk c0 z
  have q6 := fun z : Later wr => Zk c1 z
  have q7 := fun z : Later wr => Zk c2 z
  have q8 := fun z : Later wr => Zk c3 z
  have hT := Za (fun z : Later wr => Yy (fun w' hg => refHunk_c path ts es ks id a pa na ca pe ne ce pk nk ck _ _ r1 w' (HH.out.calm hg) ⟨hna, by rw [<- HH.out.edges.len]; exact HBH.out.2.1, by rw [<- HH.out.kills.len]; exact HBH.out.2.2.1⟩ HBH.out.2.2.2.1 HBH.out.2.2.2.2 (by omega) HR1.out) z)
  have hne5 := later_one wr
  go_upto_region 12 with fail
  clear a0 a1 a2 a3 a4 c0 c1 c2 c3
  rcases Nat.eq_zero_or_pos k with hk0' | hk0'
  ·have HS2 : Hid (risB ltS .empty ((pHunks p).map hPath) (k + 1) = true) := Za (by rw [HSU.out, hk0']; rfl)
   have f0 : decide ((0 : Int) < (k : Int)) = false := Zl (by omega)
   have f0' : decide (0 < k) = false := Zl (by omega)
   clear HSU hk0'
   cases r1 with
   | false =>
    obtain rfl : r = false := Zj HR.out fun i => by have := HR1.out.2 (HBAD.out i); cases this
    refine Zz0 (by kernel_rfl) (by kernel_rfl) ?_
    repeat (go_big_quiet_step ((go_at_call 68; exact hT.out _)))
    refine Ya ?_
    rintro _ ⟨z, rfl⟩
    have HG9 := Za (Zb HGW.out z.ok)
    go_wp2
    go_ret
    exact ⟨rfl, Zb HG4.out HG9.out⟩
   | true =>
    have HU3 := Za (HU2.out (HR1.out.1 rfl))
    refine Zz0 (by kernel_rfl) (by kernel_rfl) ?_
    repeat (go_big_quiet_step ((go_at_call 68; exact hT.out _)))
    refine Ya ?_
    rintro _ ⟨z, rfl⟩
    have HG9 := Za (Zb HGW.out z.ok)
    have y0 := q4 z
    have y1 := q6 z
    go_wp2
    exact ⟨⟨k + 1, by omega, by rw [HA2.out], by go_num, HU3, HS2, HG9⟩, by simp [intOf]; omega⟩
  ·obtain ⟨K, rfl⟩ : ∃ K, k = K + 1 := ⟨k - 1, by omega⟩
   have cp := HPC.out K rfl
   have HRB2 := Za (fun h => HRB.out h K rfl)
   have HS2 := HSU
   rw [Nat.add_sub_cancel, HPA.out K rfl] at HS2
   have kw : IntKind.i64.wrap (((K + 1 : Nat) : Int) - 1) = (K : Int) := by rw [Zf _ (by omega)]; omega
   have kp : (0 : Int) < ((K + 1 : Nat) : Int) := by omega
   have K0 : (0 : Int) <= K := by omega
   have K1 : (K : Int) < nh := by omega
   have HEK := HE
   clear HRB HSU HPC HE HPA hk0' hkl
   generalize hPath ((pHunks p)[K]?.getD hk0) = y at *
   have q9 := fun z : Later wr => Zk cp z
   clear cp HEK
   generalize hkk : K + 1 = kk at *
   have HKK := Za hkk
   clear hkk
   have f0 : decide ((0 : Int) < (kk : Int)) = true := Zg kp
   have f0' : decide (0 < kk) = true := Zg (by have := HKK.out; omega)
   cases hxy : ltS y path with
   | false =>
    obtain rfl : r = false := Zj HR.out fun h => by have := HRB2.out h; rw [show ltS y (hPath (path, ts, es, ks)) = ltS y path from rfl, hxy] at this; cases this
    by_cases hne : path = y
    ·subst hne
     have e3 : Op.bytesLess path.toList path.toList = false := less_irr _
     have e4 : (path.toList == path.toList) = true := Xz rfl
     clear hxy
     refine Zz0 (by kernel_rfl) (by kernel_rfl) ?_
     repeat (go_big_quiet_step (fail))
     refine Ya ?_
     rintro _ ⟨z, rfl⟩
     have HG9 := Za (Zb HGW.out z.ok)
     go_wp2
     go_ret
     exact ⟨rfl, Zb HG4.out HG9.out⟩
    ·have e3 : Op.bytesLess path.toList y.toList = true := (linS.tot path y hne).resolve_right (by rw [hxy]; decide)
     have e4 := Xt hne
     clear hxy hne
     refine Zz0 (by kernel_rfl) (by kernel_rfl) ?_
     repeat (go_big_quiet_step (fail))
     refine Ya ?_
     rintro _ ⟨z, rfl⟩
     have HG9 := Za (Zb HGW.out z.ok)
     go_wp2
     go_ret
     exact ⟨rfl, Zb HG4.out HG9.out⟩
   | true =>
    have e3 : Op.bytesLess path.toList y.toList = false := linS.not hxy
    have e4 : (path.toList == y.toList) = false := Xt fun e => by
     rw [e, linS.irr] at hxy
     cases hxy
    have HS3 : Hid (risB ltS .empty ((pHunks p).map hPath) (kk + 1) = true) := Za (by rw [HS2.out, show ltS y (hPath (path, ts, es, ks)) = ltS y path from rfl, hxy, Bool.or_true]; rfl)
    clear hxy
    cases r1 with
    | false =>
     obtain rfl : r = false := Zj HR.out fun i => by have := HR1.out.2 (HBAD.out i); cases this
     refine Zz0 (by kernel_rfl) (by kernel_rfl) ?_
     repeat (go_big_quiet_step ((go_at_call 68; exact hT.out _)))
     refine Ya ?_
     rintro _ ⟨z, rfl⟩
     have HG9 := Za (Zb HGW.out z.ok)
     go_wp2
     go_ret
     exact ⟨rfl, Zb HG4.out HG9.out⟩
    | true =>
     have HU3 := Za (HU2.out (HR1.out.1 rfl))
     refine Zz0 (by kernel_rfl) (by kernel_rfl) ?_
     repeat (go_big_quiet_step ((go_at_call 68; exact hT.out _)))
     refine Ya ?_
     rintro _ ⟨z, rfl⟩
     have HG9 := Za (Zb HGW.out z.ok)
     have y0 := q4 z
     have y1 := q6 z
     go_wp2
     exact ⟨⟨kk + 1, by omega, by rw [HA2.out], by go_num, HU3, HS3, HG9⟩, by have := HKK.out; simp [intOf]; omega⟩
 obtain rfl : nh = k := by omega
 have k1 : ¬ ((nh : Int) < nh) := by omega
 have HUH := HU
 have HUR := HS
 clear HU HS
 go_wp2_with fail
 refine (refNeeds_c id pd nd cd pm nm cm px nx cx ph nh ch _ _ p wr (H4.out.calm HGW.out) hh1 (fun x hx => ⟨(HBG.out.hs x hx).2.1, (HBG.out.hs x hx).2.2.1⟩)).mono ?_
 rintro e w6 ⟨q, m, c, rfl, hN, hmc, hz, hm, hg⟩
 have HG6 := Za (Zb HGW.out hg)
 have HN := Za hN
 clear hN hg hmc hz a0 a1 a2 a3 a4
 go_wp2
 clear k1
 go_loopw [7] (fun i wr => ∃ k : Nat, k <= m /\ i = .int .i64 k /\ Hid (∀ j, j < k -> (needsL p)[j]?.getD 0 ∈ pDeps p) /\ Hid (w6.grownBy wr none)) (fun i _ => m - (intOf i).toNat)
 case atStart => exact ⟨0, Ze _, rfl, Za (fun j hj => absurd hj (Zy _)), Za (Zi _ _)⟩
 case round =>
 clear HGW
 obtain ⟨k, hk, rfl, HU, HGW⟩ := hrel
 have HG7 := Za (Zb HG6.out HGW.out)
 have a1 := (HB4.out.calm HG7.out).cell (k := 1) rfl
 by_cases hkn : k < m
 ·have k0 : (0 : Int) <= k := by omega
  have k1 : (k : Int) < m := by omega
  obtain ⟨b, o, rfl, _, _, _, hc⟩ := (HN.out.calm HGW.out).cell (by omega)
  have x0 := hc k hkn
  have HM := Za (Zr (d := 0) (show k < (needsL p).length by rw [HN.out.len]; exact hkn))
  have HU2 := Za (show (needsL p)[k]?.getD 0 ∈ pDeps p -> ∀ j, j < k + 1 -> (needsL p)[j]?.getD 0 ∈ pDeps p from fun h => Yk (q := fun j => (needsL p)[j]?.getD 0 ∈ pDeps p) HU.out h)
  clear hc HU
  generalize (needsL p)[k]?.getD 0 = s at *
  obtain ⟨r5, hr5⟩ := Ym (s ∈ pDeps p)
  have HR5 := Za hr5
  clear hr5
  have HCI : Hid (∀ X, wr.grownBy X none -> Calls Tryz.prog 66 #[.slice pd nd cd, .int .u32 (s : Int)] X fun e w' => e = .returned (.bool r5) /\ X.grownBy w' none) := Za fun X hX =>
   (refHas_c pd nd cd _ _ s (pDeps p) r5 X ((H4.out.deps.calm HG7.out).calm hX) (by omega) HR5.out).mono fun e w' ⟨he, hw⟩ => ⟨he, by rw [hw]; exact Zi _ _⟩
  have HS : Hid (∀ X, wr.grownBy X none -> X.cell? ⟨g, 1, none⟩ = some (.slice pd nd cd) /\ X.cell? ⟨b, o + k, none⟩ = some (.int .u32 (s : Int))) := Za fun X hX => ⟨Zh hX a1, Zh hX x0⟩
  go_upto_region 19 with fail
  have henv : wr.grownBy (World.drew wr) none := Zo wr 1 none
  go_region_held3 (fun X => X.cell? ⟨g, 1, none⟩ = some (.slice pd nd cd) /\ X.cell? ⟨b, o + k, none⟩ = some (.int .u32 (s : Int)))
   (first | exact HS.out _ henv | go_keep)
   (first | (go_at_call 66; (with_reducible refine (HCI.out _ henv).mono ?_); rintro e w7 ⟨rfl, hg⟩; have henv := Zb henv hg))
  have HGE := Za (Zb HGW.out henv)
  clear henv HS HCI a1 x0
  cases r5 with
  | false =>
   obtain rfl : r = false := Zj HR.out fun i => by have := HR5.out.2 (i.needs s HM.out); cases this
   go_wp2
   go_ret
   exact ⟨rfl, Zb HG4.out (Zb HG6.out HGE.out)⟩
  | true =>
   have HU3 := Za (HU2.out (HR5.out.1 rfl))
   go_wp2
   exact ⟨⟨k + 1, by omega, by go_num, HU3, HGE⟩, by simp [intOf]; omega⟩
 obtain rfl : m = k := by omega
 have k1 : ¬ ((m : Int) < m) := by omega
 obtain rfl : r = true := HR.out.2 (isPt_iff.2 ⟨by rw [HNUM.out]; exact HI0.out, ⟨by rw [HLD.out]; omega, HD1.out.2, fun h0 => HD1.out.1 0 h0 rfl, by rw [HNUM.out]; exact HD2.out⟩, ⟨by rw [HLM.out]; omega, HD3.out.2, HD3.out.1⟩, ⟨by rw [HLX.out]; omega, HD4.out.2, HD4.out.1⟩, HAP.out,
  ⟨by rw [HLH.out]; omega, risB_all linS (d := ByteArray.empty) (by rw [Yn, HLH.out]; exact HUR.out), fun i hi => by
   have := HUH.out i (by rw [<- HLH.out]; exact hi)
   rw [Zm hi] at this
   rw [HNUM.out]
   exact this⟩, upto_all HN.out.len HU.out⟩)
 go_wp2
 go_ret
 exact ⟨rfl, Zb HG4.out HG7.out⟩
end Go.Proofs.YtnknejokneddbaaGreatDoor
