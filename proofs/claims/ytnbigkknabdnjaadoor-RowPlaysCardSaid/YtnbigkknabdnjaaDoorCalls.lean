/- The contracts of package bits as a caller uses them: each answer by a name of the caller's own, each world told by what may have turned in it; and what the statements' own small functions do: known. Condition: the table of the lowest places is in memory. -/
import Derived.Test.YtnbigkknabdnjaaDoorAll
namespace Go.Proofs.YtnbigkknabdnjaaDoor
open Go.RowKit

theorem has_b (b wb n : Nat) (i : Int) (S : Nat → Bool) (r : Bool) (w : World) (h : IsSet w b wb n S) (hr : hasS S n i = r) : Calls Tryd.prog 15 #[.pointer (some ⟨b, 0, none⟩), .int .i64 i] w fun e w' => e = .returned (.bool r) ∧ w.grownBy w' none := by
  refine (has_c b wb n i S w h).mono ?_
  rintro e w' ⟨rfl, m, rfl⟩
  exact ⟨by rw [hr], grownBy_drewN w m none⟩

theorem count_b (b wb n c : Nat) (S : Nat → Bool) (w : World) (h : IsSet w b wb n S) (hc : (onL S n).length = c) : Calls Tryd.prog 18 #[.pointer (some ⟨b, 0, none⟩)] w fun e w' => e = .returned (.int .i64 c) ∧ w.grownBy w' none := by
  refine (count_c b wb n S w h).mono ?_
  rintro e w' ⟨rfl, rfl⟩
  exact ⟨by rw [hc], grownBy_refl _ none⟩

theorem len_b (b wb n : Nat) (S : Nat → Bool) (w : World) (h : IsSet w b wb n S) : Calls Tryd.prog 19 #[.pointer (some ⟨b, 0, none⟩)] w fun e w' => e = .returned (.int .i64 n) ∧ w.grownBy w' none := by
  refine (lenS_c b wb n S w h).mono ?_
  rintro e w' ⟨rfl, rfl⟩
  exact ⟨rfl, grownBy_refl _ none⟩

theorem same_b (b wb n b2 wb2 m : Nat) (S T : Nat → Bool) (r : Bool) (w : World) (h1 : IsSet w b wb n S) (h2 : IsSet w b2 wb2 m T) (hr : sameS n m S T = r) : Calls Tryd.prog 16 #[.pointer (some ⟨b, 0, none⟩), .pointer (some ⟨b2, 0, none⟩)] w fun e w' => e = .returned (.bool r) ∧ w.grownBy w' none := by
  refine (same_c b wb n m _ S T w h1 (.inr ⟨b2, wb2, rfl, h2⟩)).mono ?_
  rintro e w' ⟨rfl, q, rfl⟩
  exact ⟨by rw [hr], grownBy_drewN w q none⟩

theorem sameNil_b (b wb n : Nat) (S : Nat → Bool) (r : Bool) (w : World) (h1 : IsSet w b wb n S) (hr : decide (n = 0) = r) : Calls Tryd.prog 16 #[.pointer (some ⟨b, 0, none⟩), .pointer none] w fun e w' => e = .returned (.bool r) ∧ w.grownBy w' none := by
  obtain ⟨ws, h, _⟩ := h1
  refine (same_nil b n w h.c0).mono ?_
  rintro e w' ⟨rfl, q, rfl⟩
  exact ⟨by rw [hr], grownBy_drewN w q none⟩

theorem orNil_b (b wb n : Nat) (S : Nat → Bool) (w : World) (h : IsSet w b wb n S) : Calls Tryd.prog 12 #[.pointer (some ⟨b, 0, none⟩), .pointer none] w (OrPost b wb n false S w) := by
  have hb : grewS n S (fun _ => false) = false := by unfold grewS; simp
  refine (or_c b wb n 0 none S (fun _ => false) w h (.inl ⟨rfl, fun _ => rfl, rfl⟩)).mono ?_
  rintro e w' ⟨rfl, h2, h3⟩
  exact ⟨by rw [hb], h2.congr fun i => by simp, h3⟩

/-- A slice's first cell. -/
theorem all_cell {w : World} {base : Nat} {v : Value} {x : Int} {xs : List Int} (h : w.ownsRow base 3 1 v (x :: xs).length ((x :: xs).map (Value.int .i64))) :
    ∃ g cap, v = .slice (some ⟨g, 0, none⟩) (xs.length + 1) cap ∧ base ≤ g ∧ g < w.heap.size ∧ w.cell? ⟨g, 0, none⟩ = some (.int .i64 x) := by
  rcases h.2 with ⟨_, h0⟩ | ⟨g, cap, cur, rfl, hb, hh, h1, h2, h3, h4⟩
  · simp at h0
  · refine ⟨g, cap, rfl, hb, (Array.getElem?_eq_some_iff.1 hh).1, ?_⟩
    have e : cur.toList[0]? = some (.int .i64 x) := by
      have := congrArg (fun l : List Value => l[0]?) h4
      simp only [List.map_cons, List.getElem?_cons_zero] at this
      rw [List.getElem?_take_of_lt (by simp)] at this
      exact this
    rw [Array.getElem?_toList] at e
    simp only [World.cell?, hh]
    exact e

/-- The row that known makes. -/
def s3 : Nat → Bool := putS (putS (fun _ => false) 5 3 true) 5 9 true

set_option maxHeartbeats 2000000 in
theorem known_c (w : World) (ht : Tab w) : Calls Tryd.prog 7 #[] w fun e w' => e = .returned (.bool true) ∧ w.grownBy w' none := by
  have HT := Lib.hid ht
  clear ht
  go_enter Tryd.func7, Tryd.ntmps7
  go_wp2_with fail
  refine (new_c 5 _).mono ?_
  rintro e w1 ⟨b, wb, rfl, hb, hwb, hs, hg⟩
  have hg1 := Lib.hid hg
  have hs1 : IsSet w1 b wb 5 (fun _ => false) := hs
  clear hs hg
  go_wp2_with fail
  refine (put_c b wb 5 3 true _ _ hs1).mono ?_
  rintro e w2 ⟨⟨v2, rfl⟩, hs2, hgw2⟩
  have hg2 := Lib.hid (grownBy_new hg1.out hgw2 hwb)
  clear hs1 hgw2 hg1
  go_wp2_with fail
  refine (put_c b wb 5 9 true _ _ hs2).mono ?_
  rintro e w3 ⟨⟨v3, rfl⟩, hs3, hgw3⟩
  have hg3 := Lib.hid (grownBy_new hg2.out hgw3 hwb)
  clear hs2 hgw3 hg2
  have hs3' : IsSet w3 b wb 5 s3 := hs3
  clear hs3
  go_wp2_with fail
  refine (all_c b wb 5 s3 w3 hs3' (HT.out.grown hg3.out (by simp))).mono ?_
  rintro e w4 ⟨v, rfl, hrow, hvn, hg4'⟩
  have hl : ints (onL s3 5) = [3] := by decide
  rw [hl] at hrow
  obtain ⟨g, cap, rfl, hgb, hgs, hc0⟩ := all_cell hrow
  have hg4 := Lib.hid (grownBy_trans hg3.out hg4')
  have hs4 := hs3'.grown hg4' (by simp) (by simp)
  clear hrow hvn hl hg4' hs3' hg3
  go_wp2_with fail
  refine (len_b b wb 5 s3 _ hs4).mono ?_
  rintro e w5 ⟨rfl, hg5'⟩
  have hg5 := Lib.hid (grownBy_trans hg4.out hg5')
  have hs5 := hs4.grown hg5' (by simp) (by simp)
  have hc5 : w5.cell? ⟨g, 0, none⟩ = some (.int .i64 3) := (World.cell?_of_block (a := ⟨g, 0, none⟩) (hg5'.block g hgs (by simp))).trans hc0
  have hgs5 : g < w5.heap.size := Nat.lt_of_lt_of_le hgs hg5'.size
  clear hc0 hgs hg5' hs4 hg4
  go_wp2_with fail
  refine (has_b b wb 5 3 s3 true _ hs5 (by decide)).mono ?_
  rintro e w6 ⟨rfl, hg6'⟩
  have hg6 := Lib.hid (grownBy_trans hg5.out hg6')
  have hs6 := hs5.grown hg6' (by simp) (by simp)
  have hc6 : w6.cell? ⟨g, 0, none⟩ = some (.int .i64 3) := (World.cell?_of_block (a := ⟨g, 0, none⟩) (hg6'.block g hgs5 (by simp))).trans hc5
  have hgs6 : g < w6.heap.size := Nat.lt_of_lt_of_le hgs5 hg6'.size
  clear hc5 hgs5 hg6' hs5 hg5
  go_wp2_with fail
  refine (has_b b wb 5 9 s3 false _ hs6 (by decide)).mono ?_
  rintro e w7 ⟨rfl, hg7'⟩
  have hg7 := Lib.hid (grownBy_trans hg6.out hg7')
  have hs7 := hs6.grown hg7' (by simp) (by simp)
  have hc7 : w7.cell? ⟨g, 0, none⟩ = some (.int .i64 3) := (World.cell?_of_block (a := ⟨g, 0, none⟩) (hg7'.block g hgs6 (by simp))).trans hc6
  have hgs7 : g < w7.heap.size := Nat.lt_of_lt_of_le hgs6 hg7'.size
  clear hc6 hgs6 hg7' hs6 hg6
  go_wp2_with fail
  refine (count_b b wb 5 1 s3 _ hs7 (by decide)).mono ?_
  rintro e w8 ⟨rfl, hg8'⟩
  have hg8 := Lib.hid (grownBy_trans hg7.out hg8')
  have hs8 := hs7.grown hg8' (by simp) (by simp)
  have hc8 : w8.cell? ⟨g, 0, none⟩ = some (.int .i64 3) := (World.cell?_of_block (a := ⟨g, 0, none⟩) (hg8'.block g hgs7 (by simp))).trans hc7
  have hgs8 : g < w8.heap.size := Nat.lt_of_lt_of_le hgs7 hg8'.size
  clear hc7 hgs7 hg8' hs7 hg7
  go_wp2_with fail
  refine (new_c 5 _).mono ?_
  rintro e w9 ⟨b2, wb2, rfl, hb2, hwb2, hsn, hg9'⟩
  have hsn9 : IsSet w9 b2 wb2 5 (fun _ => false) := hsn
  have hg9 := Lib.hid (grownBy_trans hg8.out hg9')
  have hs9 := hs8.grown hg9' (by simp) (by simp)
  clear hc8 hgs8 hg9' hs8 hg8 hsn
  go_wp2_with fail
  refine (same_b b wb 5 b2 wb2 5 s3 (fun _ => false) false _ hs9 hsn9 (by decide)).mono ?_
  rintro e w10 ⟨rfl, hg10'⟩
  have hg10 := Lib.hid (grownBy_trans hg9.out hg10')
  have hs10 := hs9.grown hg10' (by simp) (by simp)
  clear hg10' hs9 hg9 hsn9
  go_wp2_with fail
  refine (new_c 0 _).mono ?_
  rintro e w11 ⟨b3, wb3, rfl, hb3, hwb3, hsn, hg11'⟩
  have hsn11 : IsSet w11 b3 wb3 0 (fun _ => false) := hsn
  have hg11 := Lib.hid (grownBy_trans hg10.out hg11')
  have hs11 := hs10.grown hg11' (by simp) (by simp)
  clear hg11' hs10 hg10 hsn
  go_wp2_with fail
  refine (sameNil_b b3 wb3 0 (fun _ => false) true _ hsn11 (by decide)).mono ?_
  rintro e w12 ⟨rfl, hg12'⟩
  have hg12 := Lib.hid (grownBy_trans hg11.out hg12')
  have hs12 := hs11.grown hg12' (by simp) (by simp)
  clear hg12' hs11 hg11 hsn11
  go_wp2_with fail
  refine (orNil_b b wb 5 s3 _ hs12).mono ?_
  rintro e w13 ⟨rfl, hs13, hg13'⟩
  have hg13 := Lib.hid (grownBy_new hg12.out hg13' hwb)
  clear hg13' hs12 hg12 hs13
  go_wp2
  go_ret
  exact ⟨rfl, hg13.out⟩

end Go.Proofs.YtnbigkknabdnjaaDoor
