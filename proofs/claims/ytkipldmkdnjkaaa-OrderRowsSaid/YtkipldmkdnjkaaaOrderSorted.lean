/- OrderSorted: the walk. -/
import Derived.Test.YtkipldmkdnjkaaaKnow3
import Derived.Test.YtkipldmkdnjkaaaOrdQ
namespace Go.Proofs.Ytkipldmkdnjkaaa
open Go.RowKit

theorem relHas_u (lo hi p n a b : Nat) (R : Nat → Nat → Bool) (v : Bool) (w : World) (h : IsRel w lo hi p n R) (ha : a < n) (hb : b < n) (hv : R a b = v) : Calls Try.prog 25 #[.pointer (some ⟨p, 0, none⟩), .int .i64 a, .int .i64 b] w fun e w' => e = .returned (.bool v) ∧ ∃ m, w' = w.drewN m := by
  have := relHas_n lo hi p n a b R w h ha hb
  rwa [hv] at this

/-- A row of ints, whole, by a function. -/
def ZRow (w : World) (g k : Nat) (f : Nat → Int) : Prop := ∃ cur : Array Value, w.heap[g]? = some (.cells cur 3 (0, 0)) ∧ ∀ i, i < k → cur[i]? = some (.int .i64 (f i))
theorem ZRow.cell {w : World} {g k : Nat} {f : Nat → Int} (h : ZRow w g k f) {i : Nat} (hi : i < k) : w.cell? ⟨g, i, none⟩ = some (.int .i64 (f i)) := by
  obtain ⟨cur, h1, h2⟩ := h
  rw [cell_block h1]
  exact h2 i hi
theorem ZRow.free {w : World} {g k : Nat} {f : Nat → Int} (h : ZRow w g k f) (i : Nat) : w.frozen? ⟨g, i, none⟩ = false := by
  obtain ⟨cur, h1, h2⟩ := h
  exact frozen_block h1 i
theorem ZRow.lt {w : World} {g k : Nat} {f : Nat → Int} (h : ZRow w g k f) : g < w.heap.size := by
  obtain ⟨cur, h1, h2⟩ := h
  exact (Array.getElem?_eq_some_iff.1 h1).1
theorem ZRow.calm {w w' : World} {g k : Nat} {f : Nat → Int} (h : ZRow w g k f) (hg : w.grownBy w' none) : ZRow w' g k f := by
  have hl := h.lt
  obtain ⟨cur, h1, h2⟩ := h
  exact ⟨cur, (hg.block g hl (by simp)).trans h1, h2⟩
theorem ZRow.set {w : World} {g k : Nat} {f : Nat → Int} (h : ZRow w g k f) {i : Nat} (hi : i < k) (v : Int) : ZRow (w.setCell ⟨g, i, none⟩ (.int .i64 v)) g k (fun j => if j = i then v else f j) := by
  obtain ⟨cur, h1, h2⟩ := h
  refine ⟨_, heap_setCell_same w g i cur _ _ h1, fun j hj => ?_⟩
  have hl : i < cur.size := (Array.getElem?_eq_some_iff.1 (h2 i hi)).1
  by_cases e : j = i
  · subst e
    simp [hl]
  · show _ = some (Value.int .i64 (if j = i then v else f j))
    rw [if_neg e, ← h2 j hj, Array.getElem?_setIfInBounds_ne (fun e' => e e'.symm)]
theorem ZRow.congr {w : World} {g k : Nat} {f f' : Nat → Int} (h : ZRow w g k f) (e : ∀ i, i < k → f i = f' i) : ZRow w g k f' := by
  obtain ⟨cur, h1, h2⟩ := h
  exact ⟨cur, h1, fun i hi => by rw [← e i hi]; exact h2 i hi⟩
theorem zRow_made (w : World) (n : Nat) : ZRow (w.alloc (.cells (madeCells #[.int .i64 0] n) 3)) w.heap.size n (fun _ => 0) :=
  ⟨_, heap_alloc_new w _, fun _ hi => made_get _ _ _ hi⟩

/-- Where the first i of a row stand. -/
def Stand (s : List Nat) (k i : Nat) (f : Nat → Int) : Prop := ∀ x, x < k → (∀ j, j < i → s[j]? = some x → f x = j) ∧ ((∀ j, j < i → s[j]? ≠ some x) → f x = -1)
theorem Stand.step {s : List Nat} {k i : Nat} {f : Nat → Int} (h : Stand s k i f) (hn : s.Nodup) {x : Nat} (hx : s[i]? = some x) : Stand s k (i + 1) (fun y => if y = x then (i : Int) else f y) := by
  intro y hy
  by_cases e : y = x
  · subst e
    simp only [if_true]
    refine ⟨fun j hj hs => ?_, fun hno => absurd hx (hno i (by omega))⟩
    rw [nodup_inj hn hs hx]
  · simp only [if_neg e]
    refine ⟨fun j hj hs => (h y hy).1 j ?_ hs, fun hno => (h y hy).2 fun j hj => hno j (by omega)⟩
    rcases Nat.lt_or_ge j i with h1 | h1
    · exact h1
    · obtain rfl : j = i := by omega
      rw [hx] at hs
      exact absurd (Option.some.inj hs).symm e

set_option maxHeartbeats 400000 in
set_option maxRecDepth 100000 in
theorem orderSorted_out (n : Int) (p : Option Addr) (L c : Nat) (w : World) (hL : 60 < L) : Calls Try.prog 4 #[.int .u8 n, .slice p L c] w fun e w' => e = .returned (.bool true) ∧ w.grownBy w' none := by
  have hLi : (60 : Int) < L := by omega
  go_enter Try.func4, Try.ntmps4
  go_wp2_with fail
  refine (known3_c _).mono ?_
  rintro e w1 ⟨rfl, hg1⟩
  go_wp2
  go_ret
  exact ⟨rfl, hg1⟩

/-- What lies there while the places are laid. -/
structure SEnv (w0 w : World) (ag k base sg sc lo hi q : Nat) (s : List Nat) (C : Nat → Nat → Bool) (f : Nat → Int) : Prop where
  z : ZRow w ag k f
  o : RowI w base sg sc s
  q : IsRel w lo hi q k C
  g : w0.grownBy w none
theorem SEnv.calm {w0 w w' : World} {ag k base sg sc lo hi q : Nat} {s : List Nat} {C : Nat → Nat → Bool} {f : Nat → Int} (h : SEnv w0 w ag k base sg sc lo hi q s C f) (hg : w.grownBy w' none) : SEnv w0 w' ag k base sg sc lo hi q s C f :=
  ⟨h.z.calm hg, h.o.calm hg, h.q.calm hg, grownBy_trans h.g hg⟩
theorem SEnv.set {w0 w : World} {ag k base sg sc lo hi q : Nat} {s : List Nat} {C : Nat → Nat → Bool} {f : Nat → Int} (h : SEnv w0 w ag k base sg sc lo hi q s C f) (h1 : sg < ag) (h2 : hi ≤ ag) (h3 : w0.heap.size ≤ ag) {i : Nat} (hi' : i < k) (v : Int) : SEnv w0 (w.setCell ⟨ag, i, none⟩ (.int .i64 v)) ag k base sg sc lo hi q s C (fun j => if j = i then v else f j) := by
  have hg := grownBy_setCell w ⟨ag, i, none⟩ (.int .i64 v)
  refine ⟨h.z.set hi' v, h.o.kept hg (fun e => by have := Option.some.inj e; simp at this; omega), h.q.kept hg.size fun j _ h5 => hg.block j (by have := h.q.top; omega) (fun e => by have := Option.some.inj e; simp at this; omega), grownBy_new h.g hg h3⟩

set_option maxHeartbeats 1000000 in
set_option maxRecDepth 100000 in
theorem orderSorted_in (n : Nat) (p : Option Addr) (L c lo hi : Nat) (l : List (Int × Int)) (w : World) (hn : n < 256) (hl : PairsAt w lo hi p L l) (hL : L ≤ 60) : Calls Try.prog 4 #[.int .u8 n, .slice p L c] w fun e w' => e = .returned (.bool true) ∧ w.grownBy w' none := by
  have hLi : ¬ ((60 : Int) < L) := by omega
  have n0 : (0 : Int) ≤ n := by omega
  have n1 : (n : Int) < 256 := by omega
  have HL := Lib.hid hl
  clear hl
  go_enter Try.func4, Try.ntmps4
  go_wp2_with fail
  refine (known3_c _).mono ?_
  rintro e w1 ⟨rfl, hg1⟩
  have HL1 := Lib.hid (HL.out.calm hg1)
  have HG1 := Lib.hid hg1
  clear hg1 HL
  go_wp2_with fail
  refine (made_c _ p L c lo hi l _ HL1.out (by omega)).mono ?_
  rintro e w2 ⟨r, m, lo1, hi1, lo2, hi2, rfl, hr, _, _, _, hg⟩
  have HR2 := Lib.hid hr
  have HG2 := Lib.hid (grownBy_trans HG1.out hg)
  clear hr hg HL1 HG1
  generalize hk : cutK _ = k at *
  have hk40 : k ≤ 40 := by rw [← hk]; exact cutK_le _
  clear hk
  generalize hRR : ofL k l = R at *
  have HS := Lib.hid HR2.out.supp
  clear hRR
  go_wp2_with fail
  refine (sort_c _ _ r k R _ HR2.out).mono ?_
  rintro e w3 ⟨sg, sc, rfl, ho, hg3⟩
  have HO3 := Lib.hid ho
  have HR3 := Lib.hid (HR2.out.calm hg3)
  have HG3 := Lib.hid (grownBy_trans HG2.out hg3)
  clear ho hg3 HR2 HG2
  go_wp2_with fail
  refine (closure_c _ _ r k R _ HR3.out).mono ?_
  rintro e w4 ⟨q, rfl, hq, hg4⟩
  have HQ4 := Lib.hid hq
  have HO4 := Lib.hid (HO3.out.calm hg4)
  have HR4 := Lib.hid (HR3.out.calm hg4)
  have HG4 := Lib.hid (grownBy_trans HG3.out hg4)
  have HCT := Lib.hid (clo_trans HS.out)
  clear hq hg4 HR3 HG3 HO3
  have hsl := sort_length HCT.out k
  rw [hsl]
  have HSL := Lib.hid hsl
  have HND := Lib.hid (sort_nodup HCT.out k)
  have HME : Hid (∀ x, x ∈ sortL (clo k R) k ↔ x < k) := Lib.hid fun x => sort_mem HCT.out k
  have HPW := Lib.hid (sort_order HCT.out k)
  clear hsl HCT HS
  generalize clo k R = C at *
  generalize sortL C k = s at *
  go_wp2_with fail
  refine (relLen_c _ _ r k R _ HR4.out).mono ?_
  rintro e w5 ⟨rfl, hw5⟩
  subst w5
  have hmk := run_make_row' (P := Try.prog) 32 3 (.int .i64 0) 8 Try.underlying32 Try.infoI3 rfl .i64 .i64 k (by omega) (by omega)
  have HZ := Lib.hid (zRow_made w4 k)
  have hga := World.grownBy_alloc w4 (.cells (madeCells #[.int .i64 0] k) 3) none
  have HQ5 := Lib.hid (HQ4.out.calm hga)
  have HO5 := Lib.hid (HO4.out.calm hga)
  have HG5 := Lib.hid (grownBy_trans HG4.out hga)
  have HENV : Hid (SEnv w (w4.alloc (.cells (madeCells #[.int .i64 0] k) 3)) w4.heap.size k _ sg sc _ _ q s C (fun _ => 0)) := Lib.hid ⟨HZ.out, HO5.out, HQ5.out, HG5.out⟩
  have hwz : w.heap.size ≤ w4.heap.size := HG4.out.size
  have hot := HO4.out.lt.2
  have hqt := HQ4.out.top
  clear hga HQ4 HO4 HG4 HR4 HZ HQ5 HO5 HG5
  go_wp2
  clear hmk
  generalize w4.heap.size = ag at *
  go_loopw [11] (fun i wr => ∃ a : Nat, a ≤ k ∧ i = .int .i64 a ∧ SEnv w wr ag k _ sg sc _ _ q s C (fun x => if x < a then -1 else 0)) (fun i _ => k - (intOf i).toNat)
  case atStart => exact ⟨0, Nat.zero_le _, rfl, HENV.out⟩
  case round =>
    obtain ⟨a, ha, rfl, henv⟩ := hrel
    by_cases hak : a < k
    · have HE := Lib.hid (henv.set hot hqt hwz hak (-1))
      have cz := henv.z.cell hak
      have fz := henv.z.free a
      have a0 : (0 : Int) ≤ a := by omega
      have a1 : (a : Int) < k := by omega
      clear henv
      go_wp2
      refine ⟨⟨a + 1, by omega, by go_num, HE.out.z.congr fun x hx => ?_, HE.out.o, HE.out.q, HE.out.g⟩, by simp [intOf]; omega⟩
      by_cases e : x = a
      · subst e; simp
      · simp only [if_neg e]
        by_cases e2 : x < a
        · rw [if_pos e2, if_pos (by omega)]
        · rw [if_neg e2, if_neg (by omega)]
    · obtain rfl : a = k := by omega
      have HSTART : Hid (Stand s a 0 (fun x => if x < a then -1 else 0)) := Lib.hid fun x hx => ⟨fun j hj => by omega, fun _ => by simp [hx]⟩
      have HENV2 := Lib.hid henv
      clear henv HENV
      go_wp2
      go_loopw [12] (fun i wr => ∃ t : Nat, ∃ f : Nat → Int, t ≤ a ∧ i = .int .i64 t ∧ Stand s a t f ∧ SEnv w wr ag a _ sg sc _ _ q s C f) (fun i _ => a - (intOf i).toNat)
      case atStart => exact ⟨0, _, Nat.zero_le _, rfl, HSTART.out, HENV2.out⟩
      case round =>
        obtain ⟨t, f, ht, rfl, hst, henv⟩ := hrel
        by_cases hta : t < a
        · obtain ⟨x, hx⟩ : ∃ x, s[t]? = some x := ⟨_, List.getElem?_eq_getElem (by rw [HSL.out]; exact hta)⟩
          have hxk : x < a := (HME.out x).1 (List.mem_of_getElem? hx)
          have cx := henv.o.cell hx
          have hfx : f x = -1 := (hst x hxk).2 fun j hj hs => by
            have := nodup_inj HND.out hs hx
            omega
          have cz := henv.z.cell hxk
          have fz := henv.z.free x
          rw [hfx] at cz
          have HE := Lib.hid (henv.set hot hqt hwz hxk t)
          have HSS := Lib.hid (hst.step HND.out hx)
          have t0 : (0 : Int) ≤ t := by omega
          have t1 : (t : Int) < a := by omega
          have x0 : (0 : Int) ≤ x := by omega
          have x1 : (x : Int) < a := by omega
          clear henv hst hx hfx
          go_wp2
          exact ⟨⟨t + 1, _, by omega, by go_num, HSS.out, HE.out⟩, by simp [intOf]; omega⟩
        · obtain rfl : t = a := by omega
          have HST := Lib.hid hst
          have HENV3 := Lib.hid henv
          clear hst henv HSTART HENV2
          have HLE : Hid (∀ u v, u < t → v < t → C u v = true → C v u = false → ¬ f v < f u) := Lib.hid fun u v hu hv h1 h2 hlt => by
            obtain ⟨iu, hiu⟩ := List.getElem?_of_mem ((HME.out u).2 hu)
            obtain ⟨iv', hiv⟩ := List.getElem?_of_mem ((HME.out v).2 hv)
            obtain ⟨p1, p2⟩ := List.getElem?_eq_some_iff.1 hiu
            obtain ⟨p3, p4⟩ := List.getElem?_eq_some_iff.1 hiv
            rw [(HST.out u hu).1 iu (by rw [← HSL.out]; exact p1) hiu, (HST.out v hv).1 iv' (by rw [← HSL.out]; exact p3) hiv] at hlt
            have := List.pairwise_iff_getElem.1 HPW.out iv' iu p3 p1 (by omega)
            rw [p2, p4] at this
            exact this ⟨h1, h2⟩
          clear HST HME HND HPW
          go_wp2
          go_loopw [13] (fun i wr => ∃ u : Nat, u ≤ t ∧ i = .int .i64 u ∧ SEnv w wr ag t _ sg sc _ _ q s C f) (fun i _ => t - (intOf i).toNat)
          case atStart => exact ⟨0, Nat.zero_le _, rfl, HENV3.out⟩
          case round =>
            obtain ⟨u, hu, rfl, henv⟩ := hrel
            by_cases hut : u < t
            · have u0 : (0 : Int) ≤ u := by omega
              have u1 : (u : Int) < t := by omega
              go_wp2
              go_loopw [14] (fun i wr => ∃ v : Nat, v ≤ t ∧ i = .int .i64 v ∧ SEnv w wr ag t _ sg sc _ _ q s C f) (fun i _ => t - (intOf i).toNat)
              case atStart => exact ⟨0, Nat.zero_le _, rfl, henv⟩
              case round =>
                obtain ⟨v, hv, rfl, henv⟩ := hrel
                by_cases hvt : v < t
                · have v0 : (0 : Int) ≤ v := by omega
                  have v1 : (v : Int) < t := by omega
                  have cu := henv.z.cell hut
                  have cv := henv.z.cell hvt
                  have HE := Lib.hid henv
                  have HQ := Lib.hid henv.q
                  have HUT := Lib.hid hut
                  have HVT := Lib.hid hvt
                  clear henv
                  cases huv : C u v
                  · have HUV := Lib.hid huv
                    clear huv
                    go_wp2
                    go_quiet ((go_at_call 25; exact Calls.quiet_of (relHas_u _ _ q t u v C false _ (by exact HQ.out.calm (grownBy_drewN _ _ none)) HUT.out HVT.out HUV.out)))
                    go_wp2
                    exact ⟨⟨v + 1, by omega, by go_num, HE.out.calm (grownBy_drewN _ _ none)⟩, by simp [intOf]; omega⟩
                  · cases hvu : C v u
                    · have hle := HLE.out u v hut hvt huv hvu
                      have HUV := Lib.hid huv
                      have HVU := Lib.hid hvu
                      clear huv hvu
                      have hld : decide (f v < f u) = false := by simpa using hle
                      go_wp2
                      go_quiet ((go_at_call 25; exact Calls.quiet_of (relHas_u _ _ q t _ _ C _ _ (by exact HQ.out.calm (grownBy_drewN _ _ none)) (by first | exact HUT.out | exact HVT.out) (by first | exact HVT.out | exact HUT.out) (by first | exact HUV.out | exact HVU.out))))
                      go_wp2
                      exact ⟨⟨v + 1, by omega, by go_num, HE.out.calm (grownBy_drewN _ _ none)⟩, by simp [intOf]; omega⟩
                    · have HUV := Lib.hid huv
                      have HVU := Lib.hid hvu
                      clear huv hvu
                      go_wp2
                      go_quiet ((go_at_call 25; exact Calls.quiet_of (relHas_u _ _ q t _ _ C _ _ (by exact HQ.out.calm (grownBy_drewN _ _ none)) (by first | exact HUT.out | exact HVT.out) (by first | exact HVT.out | exact HUT.out) (by first | exact HUV.out | exact HVU.out))))
                      go_wp2
                      exact ⟨⟨v + 1, by omega, by go_num, HE.out.calm (grownBy_drewN _ _ none)⟩, by simp [intOf]; omega⟩
                · obtain rfl : v = t := by omega
                  go_wp2
                  exact ⟨⟨u + 1, by omega, by go_num, henv⟩, by simp [intOf]; omega⟩
            · obtain rfl : u = t := by omega
              have HE := Lib.hid henv
              clear henv
              go_wp2
              go_ret
              exact ⟨by simp, HE.out.g⟩

end Go.Proofs.Ytkipldmkdnjkaaa
