/- Package union: the contracts of New, Len, Copy, Same, Join. -/
import Derived.Test.YtihkjgiaajgkpaaDoorUnib
namespace Go.Proofs.YtihkjgiaajgkpaaDoor
open Go.RowKit

/-- A union whose classes have the least elements L. -/
def IsUn (w : World) (lo hi b : Nat) (L : List Nat) : Prop := ∃ p c F, IsUg 99 w lo hi b p c F ∧ downF F ∧ rootL F = L
theorem IsUn.calm {w w' : World} {lo hi b : Nat} {L : List Nat} (h : IsUn w lo hi b L) (hg : w.grownBy w' none) : IsUn w' lo hi b L := by
  obtain ⟨p, c, F, h1, h2, h3⟩ := h
  exact ⟨p, c, F, h1.calm hg, h2, h3⟩
theorem IsUn.apart {w w' : World} {lo hi lo' hi' b : Nat} {L : List Nat} (h : IsUn w lo hi b L) (hg : Kept lo' hi' w w') (hd : hi ≤ lo' ∨ hi' ≤ lo) : IsUn w' lo hi b L := by
  obtain ⟨p, c, F, h1, h2, h3⟩ := h
  exact ⟨p, c, F, h1.apart hg hd, h2, h3⟩
theorem IsUn.top {w : World} {lo hi b : Nat} {L : List Nat} (h : IsUn w lo hi b L) : lo < hi ∧ hi ≤ w.heap.size := by
  obtain ⟨p, c, F, h1, _⟩ := h
  have := h1.h1
  have := h1.h2
  exact ⟨by omega, h1.h3⟩
theorem IsUn.is {w : World} {lo hi b : Nat} {L : List Nat} (h : IsUn w lo hi b L) : isL L ∧ L.length ≤ 1000 := by
  obtain ⟨p, c, F, h1, h2, rfl⟩ := h
  exact ⟨rootL_is h2, by rw [rootL_len]; exact h1.small⟩

theorem rowI_of {w : World} {base g : Nat} {l : List Nat} (h : w.heap[g]? = some (.cells (l.map iv).toArray 3 (0, 0))) (hb : base ≤ g) (hl : l.length ≤ 1000) : RowI w base g l.length l :=
  ⟨by simp, .inr ⟨g, l.length, (l.map iv).toArray, rfl, hb, h, Nat.le_refl _, by unfold maxLen; omega, by simp, by simp [List.take_of_length_le]⟩⟩
theorem made_iv (n : Nat) : madeCells #[.int .i64 0] n = ((List.replicate n 0).map iv).toArray := by
  apply Array.ext
  · simp [madeCells]
  · intro i h1 h2
    simp [madeCells, Nat.mod_one, iv]

/-- The first k of n elements, each by itself; zeros behind. -/
def idR (n k : Nat) : List Nat := List.range k ++ List.replicate (n - k) 0
theorem idR_len {n k : Nat} (h : k ≤ n) : (idR n k).length = n := by simp [idR]; omega
theorem idR_end (n : Nat) : idR n n = List.range n := by simp [idR]
theorem idR_zero (n : Nat) : idR n 0 = List.replicate n 0 := by simp [idR]
theorem idR_succ {n k : Nat} (h : k < n) : (idR n k).set k k = idR n (k + 1) := by
  unfold idR
  have e : n - k = (n - (k + 1)) + 1 := by omega
  rw [List.set_append_right _ _ (by simp), List.length_range, Nat.sub_self, e, List.replicate_succ, List.set_cons_zero, List.range_succ, List.append_assoc, List.singleton_append]

/-- What makes a new union leaves. -/
def MadeU (L : List Nat) (w : World) (e : Ending) (w' : World) : Prop := ∃ b, e = .returned (.pointer (some ⟨b, 0, none⟩)) ∧ IsUn w' w.heap.size w'.heap.size b L ∧ w.grownBy w' none

set_option maxRecDepth 20000 in
theorem newU_start (n : Nat) (hn : n ≤ 1000) (w : World) : Hid (IsUg 99 ((w.alloc (.cells (madeCells #[.int .i64 0] n) 3)).alloc (.cells #[.slice (some ⟨w.heap.size, 0, none⟩) n n] 99)) w.heap.size (w.heap.size + 2) (w.heap.size + 1) (some ⟨w.heap.size, 0, none⟩) n (idR n 0)) ∧
    Hid (w.grownBy ((w.alloc (.cells (madeCells #[.int .i64 0] n) 3)).alloc (.cells #[.slice (some ⟨w.heap.size, 0, none⟩) n n] 99)) none) := by
  have hg := grownBy_trans (World.grownBy_alloc w (.cells (madeCells #[.int .i64 0] n) 3) none) (World.grownBy_alloc _ (.cells #[.slice (some ⟨w.heap.size, 0, none⟩) n n] 99) none)
  have h1 := heap_alloc_new w (.cells (madeCells #[.int .i64 0] n) 3)
  have h2 := heap_alloc_new (w.alloc (.cells (madeCells #[.int .i64 0] n) 3)) (.cells #[.slice (some ⟨w.heap.size, 0, none⟩) n n] 99)
  rw [World.size_alloc] at h2
  have hl := idR_len (Nat.zero_le n)
  refine ⟨Lib.hid ⟨by omega, by omega, by simp, by omega, by simp, by rw [hl]; exact h2, fun _ => ⟨w.heap.size, rfl, by omega, ?_⟩⟩, Lib.hid hg⟩
  have h3 : ((w.alloc (.cells (madeCells #[.int .i64 0] n) 3)).alloc (.cells #[.slice (some ⟨w.heap.size, 0, none⟩) n n] 99)).heap[w.heap.size]? = some (.cells ((idR n 0).map iv).toArray 3 (0, 0)) := by
    rw [heap_alloc_old _ _ (by simp), h1, made_iv, idR_zero]
  have := rowI_of h3 (Nat.le_refl _) (by omega)
  rw [hl] at this
  exact this

set_option maxRecDepth 20000 in
set_option maxHeartbeats 1000000 in
theorem newU_c (n : Nat) (w : World) (hn : n < 1000) : Calls Tryd.prog 50 #[.int .i64 n] w (MadeU (List.range n) w) := by
  have hmk := run_make_row' (P := Tryd.prog) 26 3 (.int .i64 0) 8 Tryd.underlying26 Tryd.infoZ3 rfl .i64 .i64 n (by omega) (by omega) w
  obtain ⟨HU0, HG0⟩ := newU_start n (by omega) w
  have fin : ∀ wr, IsUg 99 wr w.heap.size (w.heap.size + 2) (w.heap.size + 1) (some ⟨w.heap.size, 0, none⟩) n (idR n n) → w.grownBy wr none → MadeU (List.range n) w (.returned (.pointer (some ⟨w.heap.size + 1, 0, none⟩))) wr := by
    intro wr h hg
    rw [idR_end] at h
    exact ⟨_, rfl, ⟨_, _, _, h.wider (Nat.le_refl _) h.h3 (Nat.le_refl _), range_down n, rootL_range n⟩, hg⟩
  have FIN := Lib.hid fin
  clear fin
  rcases Nat.eq_zero_or_pos n with rfl | h0
  · have hmk0 : (Instr.makeSlice 26 (.int .i64 0) (.int .i64 0)).run Tryd.prog w = .ok (.slice (some ⟨w.heap.size, 0, none⟩) 0 0) (w.alloc (.cells (madeCells #[.int .i64 0] 0) 3)) := hmk
    clear hmk
    go_enter Tryd.func50, Tryd.ntmps50
    have hc := HU0.out.cell
    rw [idR_len (Nat.le_refl 0)] at hc
    go_wp2
    go_loopw [16] (fun i wr => i = .int .i64 0 ∧ wr = ((w.alloc (.cells (madeCells #[.int .i64 0] 0) 3)).alloc (.cells #[.slice (some ⟨w.heap.size, 0, none⟩) 0 0] 99))) (fun _ _ => 0)
    case atStart => exact ⟨rfl, rfl⟩
    case round =>
      obtain ⟨rfl, rfl⟩ := hrel
      go_wp2
      go_ret
      exact FIN.out _ HU0.out HG0.out
  · have n1 : (0 : Int) < n := by omega
    have n2 : (n : Int) < 1000 := by omega
    go_enter Tryd.func50, Tryd.ntmps50
    have hc := HU0.out.cell
    rw [idR_len (Nat.zero_le n)] at hc
    go_wp2
    generalize hgb : w.heap.size = gb at *
    have HGB := Lib.hid hgb
    clear hgb
    go_loopw [16] (fun i wr => ∃ k : Nat, k ≤ n ∧ i = .int .i64 k ∧ IsUg 99 wr gb (gb + 2) (gb + 1) (some ⟨gb, 0, none⟩) n (idR n k) ∧ w.grownBy wr none) (fun i _ => n - (intOf i).toNat)
    case atStart => exact ⟨0, Nat.zero_le _, rfl, HU0.out, HG0.out⟩
    case round =>
      obtain ⟨k, hk, rfl, hu, hgr⟩ := hrel
      clear hc
      by_cases hkn : k < n
      · have k0 : (0 : Int) ≤ k := by omega
        have k1 : (k : Int) < n := by omega
        have hc := hu.cell
        have hl := idR_len hk
        rw [hl] at hc
        obtain ⟨g, e, hgh, hrow⟩ := hu.row (by omega)
        cases e
        have hcl := hrow.cell (j := k) (nx_get (by omega))
        have hfz := hrow.free k
        have HS := Lib.hid (hu.set (by decide) (by omega) k k)
        have HST := Lib.hid (idR_succ hkn)
        have HGS := Lib.hid (grownBy_new hgr (grownBy_setCell wr ⟨gb, k, none⟩ (.int .i64 (k : Int))) (by rw [HGB.out]; exact Nat.le_refl _))
        clear hrow hgr hu HU0 HG0 hl
        generalize nx (idR n k) k = v at *
        go_wp2
        exact ⟨⟨k + 1, by omega, by go_num, by rw [← HST.out]; exact HS.out, HGS.out⟩, by simp [intOf]; omega⟩
      · obtain rfl : k = n := by omega
        have HU := Lib.hid hu
        have HG := Lib.hid hgr
        clear hu hgr
        go_wp2
        go_ret
        exact FIN.out _ HU.out HG.out

set_option maxRecDepth 20000 in
theorem rowI_news {w : World} {base g c : Nat} {l : List Nat} (h : RowI w base g c l) : ∀ j u, (l.map iv)[j]? = some u → w.cell? ((⟨g, 0, none⟩ : Addr).add j) = some u := by
  intro j u hu
  rw [List.getElem?_map, Option.map_eq_some_iff] at hu
  obtain ⟨x, hx, rfl⟩ := hu
  rw [add_blk]
  exact h.cell hx
set_option maxRecDepth 20000 in
theorem iv_one (l : List Nat) : ∀ u ∈ l.map iv, u.oneCell' = true := by
  intro u hu
  rw [List.mem_map] at hu
  obtain ⟨x, _, rfl⟩ := hu
  rfl

def CloneIPost (F : List Nat) (w : World) (e : Ending) (w' : World) : Prop := ∃ p' c', e = .returned (.slice p' F.length c') ∧ (p' = none → c' = 0) ∧ (0 < F.length → ∃ g', p' = some ⟨g', 0, none⟩ ∧ RowI w' w.heap.size g' c' F) ∧ w.grownBy w' none

set_option maxRecDepth 20000 in
set_option maxHeartbeats 1000000 in
theorem cloneI_c (lo c : Nat) (p : Option Addr) (F : List Nat) (w : World) (hs : F.length ≤ 1000) (hp : p = none → c = 0) (hr : 0 < F.length → ∃ g, p = some ⟨g, 0, none⟩ ∧ RowI w lo g c F) :
    Calls Tryd.prog 34 #[.slice p F.length c] w (CloneIPost F w) := by
  obtain ⟨i0, hi', hz0, hz1, hz2⟩ := info_parts Tryd.infoZ3
  match p, hp, hr with
  | none, hp, hr =>
    have hn0 : F.length = 0 := by
      rcases Nat.eq_zero_or_pos F.length with e | e
      · exact e
      · obtain ⟨_, e, _⟩ := hr e; cases e
    obtain rfl := hp rfl
    have hF : F = [] := List.eq_nil_of_length_eq_zero hn0
    subst hF
    clear hr hp
    have he : ∀ w : World, (binOp .eql 26 (.slice none 0 0) (.slice none 0 0)).run Tryd.prog w = .ok (.bool true) w := fun _ => rfl
    go_enter Tryd.func34, Tryd.ntmps34
    go_wp2
    go_ret
    exact ⟨none, 0, rfl, fun _ => rfl, fun h => absurd h (by simp), grownBy_refl _ _⟩
  | some ad, hp, hr =>
    have hg0 := World.grownBy_alloc w (.cells #[] 3) none
    have hnews : Hid (∀ j u, (F.map iv)[j]? = some u → (w.alloc (.cells #[] 3)).cell? (ad.add j) = some u) := Lib.hid (by
      intro j u hu
      have hj : 0 < F.length := by
        rw [List.getElem?_map, Option.map_eq_some_iff] at hu
        obtain ⟨x, hx, _⟩ := hu
        have := (List.getElem?_eq_some_iff.1 hx).1
        omega
      obtain ⟨g, e, hrow⟩ := hr hj
      cases e
      exact rowI_news (hrow.calm hg0) j u hu)
    have hown0 : Hid ((w.alloc (.cells #[] 3)).ownsRow w.heap.size 3 1 (.slice (some ⟨w.heap.size, 0, none⟩) 0 0) 0 []) := Lib.hid (World.ownsRow_made w #[] 0 (Nat.le_refl _) (by decide) (by simp))
    clear hr hp
    have he : ∀ w : World, (binOp .eql 26 (.slice (some ad) F.length c) (.slice none 0 0)).run Tryd.prog w = .ok (.bool false) w := fun _ => rfl
    go_enter Tryd.func34, Tryd.ntmps34
    go_wp2_with (at_builtin; refine wpList_append_own _ rfl _ _ 26 rfl w.heap.size 3 i0 (.int .i64 0) 1 8 Tryd.underlying26 hi' hz0 hz1 hz2 rfl (by decide) (.slice (some ⟨w.heap.size, 0, none⟩) 0 0) 0 [] rfl hown0.out ad F.length c (F.map iv) rfl (by simp) hnews.out (iv_one F) (by unfold maxLen; omega) (by omega) (by simp) ?_; intro v' w1 hown hgrow _)
    have HO := Lib.hid hown
    have HG : Hid (w.grownBy w1 none) := Lib.hid (by
      have hgrow' : (w.alloc (.cells #[] 3)).grownBy w1 (some w.heap.size) := by simpa [Value.ownBlock] using hgrow
      exact grownBy_new hg0 hgrow' (Nat.le_refl _))
    clear hown hgrow
    go_ret
    have ho : w1.ownsRow w.heap.size 3 1 v' F.length (F.map iv) := by simpa using HO.out
    rcases ho.2 with ⟨rfl, h0⟩ | ⟨g, cap, cur, rfl, h1, h2⟩
    · exact ⟨none, 0, by rw [h0]; rfl, fun _ => rfl, fun h => by omega, HG.out⟩
    · exact ⟨_, cap, rfl, by simp, fun _ => ⟨g, rfl, ho⟩, HG.out⟩

/-- Least elements of numbers. -/
def leastL (L : List Nat) (z : Int) : Int := if hasZ L.length z then (nx L z.toNat : Int) else -1
theorem leastZ_L (F : List Nat) (z : Int) : leastZ F z = leastL (rootL F) z := by
  unfold leastZ leastL
  rw [rootL_len]
  split
  · rename_i h
    have := hasZ_iff.1 h
    rw [nx_rootL (by omega)]
  · rfl
set_option maxRecDepth 20000 in
theorem leastU_c (lo hi b : Nat) (L : List Nat) (z r : Int) (w : World) (h : IsUn w lo hi b L) (hr : leastL L z = r) : Calls Tryd.prog 70 #[.pointer (some ⟨b, 0, none⟩), .int .i64 z] w fun e w' => e = .returned (.int .i64 r) ∧ w.grownBy w' none := by
  obtain ⟨p, c, F, h1, h2, rfl⟩ := h
  rw [← hr, ← leastZ_L]
  exact least_c lo hi b c p F z w h1 h2

/-- Whether two numbers are one. -/
def sameL (L : List Nat) (x y : Int) : Bool := hasZ L.length x && (hasZ L.length y && decide (nx L x.toNat = nx L y.toNat))
theorem leastL_yes {L : List Nat} {z : Int} (h : hasZ L.length z = true) : leastL L z = nx L z.toNat := by unfold leastL; rw [if_pos h]
theorem leastL_no {L : List Nat} {z : Int} (h : hasZ L.length z = false) : leastL L z = -1 := by unfold leastL; rw [h]; rfl

/-- What Join makes of least elements; whether it brings anything. -/
def joinZ (L : List Nat) (x y : Int) : List Nat := if hasZ L.length x && hasZ L.length y then joinL L x.toNat y.toNat else L
def joinUB (L : List Nat) (x y : Int) : Bool := hasZ L.length x && (hasZ L.length y && decide (nx L x.toNat ≠ nx L y.toNat))
theorem joinZ_len (L : List Nat) (x y : Int) : (joinZ L x y).length = L.length := by unfold joinZ; split <;> simp [joinL_len]
def JoinPost (lo hi b : Nat) (L : List Nat) (r : Bool) (w : World) (e : Ending) (w' : World) : Prop := e = .returned (.bool r) ∧ IsUn w' lo hi b L ∧ Kept lo hi w w'

set_option maxHeartbeats 2000000 in
theorem joinU_c (lo hi b : Nat) (L : List Nat) (x y : Int) (w : World) (h : IsUn w lo hi b L) : Calls Tryd.prog 51 #[.pointer (some ⟨b, 0, none⟩), .int .i64 x, .int .i64 y] w (JoinPost lo hi b (joinZ L x y) (joinUB L x y) w) := by
  obtain ⟨p, c, F, hu, hd, rfl⟩ := h
  have HU := Lib.hid hu
  have HD := Lib.hid hd
  have hsm := hu.small
  clear hu hd
  cases hx : hasZ F.length x
  · have HX : Hid (leastZ F x = -1) := Lib.hid (by unfold leastZ; rw [hx]; rfl)
    have HP : Hid (∀ w', w.grownBy w' none → JoinPost lo hi b (joinZ (rootL F) x y) (joinUB (rootL F) x y) w (.returned (.bool false)) w') := Lib.hid (by
      intro w' hg
      have e1 : joinZ (rootL F) x y = rootL F := by unfold joinZ; rw [rootL_len, hx]; rfl
      have e2 : joinUB (rootL F) x y = false := by unfold joinUB; rw [rootL_len, hx]; rfl
      rw [e1, e2]
      exact ⟨rfl, ⟨p, c, F, HU.out.calm hg, HD.out, rfl⟩, Kept.calm hg⟩)
    clear hx
    go_enter Tryd.func51, Tryd.ntmps51
    go_wp2_with fail
    refine (least_c lo hi b c p F x _ HU.out HD.out).mono ?_
    rintro e w1 ⟨rfl, hg⟩
    rw [HX.out]
    have HG := Lib.hid hg
    clear hg
    go_wp2_with fail
    refine (least_c lo hi b c p F y _ (HU.out.calm HG.out) HD.out).mono ?_
    rintro e w2 ⟨rfl, hg⟩
    have HG2 := Lib.hid (grownBy_trans HG.out hg)
    clear hg
    generalize leastZ F y = u at *
    go_wp2
    go_ret
    exact HP.out _ HG2.out
  · have HX : Hid (leastZ F x = root F x.toNat) := Lib.hid (by unfold leastZ; rw [if_pos hx])
    have x1 := hasZ_iff.1 hx
    cases hy : hasZ F.length y
    · have HY : Hid (leastZ F y = -1) := Lib.hid (by unfold leastZ; rw [hy]; rfl)
      have HP : Hid (∀ w', w.grownBy w' none → JoinPost lo hi b (joinZ (rootL F) x y) (joinUB (rootL F) x y) w (.returned (.bool false)) w') := Lib.hid (by
        intro w' hg
        have e1 : joinZ (rootL F) x y = rootL F := by unfold joinZ; rw [rootL_len, hx, hy]; rfl
        have e2 : joinUB (rootL F) x y = false := by unfold joinUB; rw [rootL_len, hx, hy]; rfl
        rw [e1, e2]
        exact ⟨rfl, ⟨p, c, F, HU.out.calm hg, HD.out, rfl⟩, Kept.calm hg⟩)
      clear hx hy x1
      have hn0 : ¬ ((root F x.toNat : Int) < 0) := by omega
      go_enter Tryd.func51, Tryd.ntmps51
      go_wp2_with fail
      refine (least_c lo hi b c p F x _ HU.out HD.out).mono ?_
      rintro e w1 ⟨rfl, hg⟩
      rw [HX.out]
      have HG := Lib.hid hg
      clear hg
      go_wp2_with fail
      refine (least_c lo hi b c p F y _ (HU.out.calm HG.out) HD.out).mono ?_
      rintro e w2 ⟨rfl, hg⟩
      rw [HY.out]
      have HG2 := Lib.hid (grownBy_trans HG.out hg)
      clear hg
      generalize root F x.toNat = u at *
      go_wp2
      go_ret
      exact HP.out _ HG2.out
    · have HY : Hid (leastZ F y = root F y.toNat) := Lib.hid (by unfold leastZ; rw [if_pos hy])
      have y1 := hasZ_iff.1 hy
      obtain ⟨a, rfl⟩ := Int.eq_ofNat_of_zero_le x1.1
      obtain ⟨d, rfl⟩ := Int.eq_ofNat_of_zero_le y1.1
      have ha : a < F.length := by omega
      have hb : d < F.length := by omega
      have la := root_le F a
      have lb := root_le F d
      have wa : wayZ F (a : Int) = way F a := by unfold wayZ; rw [if_pos hx]; rfl
      have HJ := Lib.hid (join_facts HD.out ha hb)
      have HP : Hid (∀ w', Kept lo hi w w' → IsUg 99 w' lo hi b p c (joinF F a d) → ∀ r, r = decide (root F a ≠ root F d) → JoinPost lo hi b (joinZ (rootL F) a d) (joinUB (rootL F) a d) w (.returned (.bool r)) w') := Lib.hid (by
        rintro w' hk hu r rfl
        have e1 : joinZ (rootL F) a d = joinL (rootL F) a d := by unfold joinZ; rw [rootL_len, hx, hy]; rfl
        have e2 : joinUB (rootL F) a d = decide (root F a ≠ root F d) := by
          unfold joinUB
          rw [rootL_len, hx, hy]
          show (true && (true && decide (nx (rootL F) a ≠ nx (rootL F) d))) = _
          rw [nx_rootL ha, nx_rootL hb]
          simp
        rw [e1, e2]
        exact ⟨rfl, ⟨p, c, _, hu, HJ.out.1, HJ.out.2⟩, hk⟩)
      have hm : ∀ m : Nat, m = min (root F a) (root F d) → Hid (joinF F a d = setL (setL F (way F a) m) (way (setL F (way F a) m) d) m) ∧ Hid (downF (setL F (way F a) m)) ∧ Hid (wayZ (setL F (way F a) m) (d : Int) = way (setL F (way F a) m) d) := by
        rintro m rfl
        refine ⟨Lib.hid rfl, Lib.hid (short_down HD.out (by omega)), Lib.hid ?_⟩
        unfold wayZ
        rw [setL_len6, if_pos hy]
        rfl
      have HWA := Lib.hid wa
      clear wa hx hy x1 y1 ha hb HJ
      have HX' : Hid (leastZ F (a : Int) = (root F a : Int)) := HX
      have HY' : Hid (leastZ F (d : Int) = (root F d : Int)) := HY
      clear HX HY
      by_cases hab : root F a < root F d
      · obtain ⟨HM1, HM2, HM3⟩ := hm (root F a) (by omega)
        have HR := Lib.hid (HP.out · · · true (by simp; omega))
        clear hm HP
        have hn0 : ¬ ((root F a : Int) < 0) := by omega
        have hn1 : ¬ ((root F d : Int) < 0) := by omega
        have hne : ((root F a : Int) != (root F d : Int)) = true := by simp; omega
        have hlt : (root F a : Int) < root F d := by omega
        generalize root F a = u at *
        generalize root F d = v at *
        go_enter Tryd.func51, Tryd.ntmps51
        go_wp2_with fail
        refine (least_c lo hi b c p F a _ HU.out HD.out).mono ?_
        rintro e w1 ⟨rfl, hg⟩
        rw [HX'.out]
        have HG := Lib.hid hg
        clear hg
        go_wp2_with fail
        refine (least_c lo hi b c p F d _ (HU.out.calm HG.out) HD.out).mono ?_
        rintro e w2 ⟨rfl, hg⟩
        rw [HY'.out]
        have HG2 := Lib.hid (grownBy_trans HG.out hg)
        clear hg
        go_wp2_with fail
        refine (shorten_c lo hi b c p F a u _ (HU.out.calm HG2.out) HD.out).mono ?_
        rintro e w3 ⟨rfl, hu3, hk3⟩
        rw [HWA.out] at hu3
        have HU3 := Lib.hid hu3
        have HK3 := Lib.hid ((Kept.calm HG2.out).trans hk3)
        clear hu3 hk3
        go_wp2_with fail
        refine (shorten_c lo hi b c p _ d u _ HU3.out HM2.out).mono ?_
        rintro e w4 ⟨rfl, hu4, hk4⟩
        rw [HM3.out, ← HM1.out] at hu4
        have HU4 := Lib.hid hu4
        have HK4 := Lib.hid (HK3.out.trans hk4)
        clear hu4 hk4
        go_wp2
        go_ret
        exact HR.out _ HK4.out HU4.out
      · by_cases hba : root F d < root F a
        · obtain ⟨HM1, HM2, HM3⟩ := hm (root F d) (by omega)
          have HR := Lib.hid (HP.out · · · true (by simp; omega))
          clear hm HP
          have hn0 : ¬ ((root F a : Int) < 0) := by omega
          have hn1 : ¬ ((root F d : Int) < 0) := by omega
          have hne : ((root F a : Int) != (root F d : Int)) = true := by simp; omega
          have hlt : (root F d : Int) < root F a := by omega
          have hlt2 : ¬ (root F a : Int) < root F d := by omega
          generalize root F a = u at *
          generalize root F d = v at *
          go_enter Tryd.func51, Tryd.ntmps51
          go_wp2_with fail
          refine (least_c lo hi b c p F a _ HU.out HD.out).mono ?_
          rintro e w1 ⟨rfl, hg⟩
          rw [HX'.out]
          have HG := Lib.hid hg
          clear hg
          go_wp2_with fail
          refine (least_c lo hi b c p F d _ (HU.out.calm HG.out) HD.out).mono ?_
          rintro e w2 ⟨rfl, hg⟩
          rw [HY'.out]
          have HG2 := Lib.hid (grownBy_trans HG.out hg)
          clear hg
          go_wp2_with fail
          refine (shorten_c lo hi b c p F a v _ (HU.out.calm HG2.out) HD.out).mono ?_
          rintro e w3 ⟨rfl, hu3, hk3⟩
          rw [HWA.out] at hu3
          have HU3 := Lib.hid hu3
          have HK3 := Lib.hid ((Kept.calm HG2.out).trans hk3)
          clear hu3 hk3
          go_wp2_with fail
          refine (shorten_c lo hi b c p _ d v _ HU3.out HM2.out).mono ?_
          rintro e w4 ⟨rfl, hu4, hk4⟩
          rw [HM3.out, ← HM1.out] at hu4
          have HU4 := Lib.hid hu4
          have HK4 := Lib.hid (HK3.out.trans hk4)
          clear hu4 hk4
          go_wp2
          go_ret
          exact HR.out _ HK4.out HU4.out
        · have heq : root F d = root F a := by omega
          rw [heq] at HY' HP hm
          obtain ⟨HM1, HM2, HM3⟩ := hm (root F a) (by omega)
          have HR := Lib.hid (HP.out · · · false (by simp))
          clear hm HP lb hab hba heq
          have hn0 : ¬ ((root F a : Int) < 0) := by omega
          have hne : ((root F a : Int) != (root F a : Int)) = false := by simp
          generalize root F a = u at *
          go_enter Tryd.func51, Tryd.ntmps51
          go_wp2_with fail
          refine (least_c lo hi b c p F a _ HU.out HD.out).mono ?_
          rintro e w1 ⟨rfl, hg⟩
          rw [HX'.out]
          have HG := Lib.hid hg
          clear hg
          go_wp2_with fail
          refine (least_c lo hi b c p F d _ (HU.out.calm HG.out) HD.out).mono ?_
          rintro e w2 ⟨rfl, hg⟩
          rw [HY'.out]
          have HG2 := Lib.hid (grownBy_trans HG.out hg)
          clear hg
          go_wp2_with fail
          refine (shorten_c lo hi b c p F a u _ (HU.out.calm HG2.out) HD.out).mono ?_
          rintro e w3 ⟨rfl, hu3, hk3⟩
          rw [HWA.out] at hu3
          have HU3 := Lib.hid hu3
          have HK3 := Lib.hid ((Kept.calm HG2.out).trans hk3)
          clear hu3 hk3
          go_wp2_with fail
          refine (shorten_c lo hi b c p _ d u _ HU3.out HM2.out).mono ?_
          rintro e w4 ⟨rfl, hu4, hk4⟩
          rw [HM3.out, ← HM1.out] at hu4
          have HU4 := Lib.hid hu4
          have HK4 := Lib.hid (HK3.out.trans hk4)
          clear hu4 hk4
          go_wp2
          go_ret
          exact HR.out _ HK4.out HU4.out

end Go.Proofs.YtihkjgiaajgkpaaDoor
