/- centolaw10's known. -/
import Derived.Test.YtgmdkghggomloaaSplK
import Derived.Test.YtgmdkghggomloaaSplB
namespace Go.Proofs.Ytgmdkghggomloaa
open Go.RowKit

def sA : ByteArray := ⟨#[97, 10, 98]⟩
theorem lines_sA : linesS sA = [⟨#[97, 10]⟩, ⟨#[98]⟩] := by rfl
theorem lines_s0 : linesS ⟨#[]⟩ = [] := by rfl
theorem fits_a : fitsS ⟨#[97]⟩ = true := by rfl
theorem is_sA : isS [⟨#[97, 10]⟩, ⟨#[98]⟩] = true := by rfl
theorem is_no : isS [⟨#[98]⟩, ⟨#[97, 10]⟩] = false := by rfl
theorem join_sA : joinS [⟨#[97, 10]⟩, ⟨#[98]⟩] = ⟨#[97, 10, 98]⟩ := by rfl

theorem small_sA : ∀ x ∈ ([⟨#[97, 10]⟩, ⟨#[98]⟩] : List ByteArray), x.size ≤ 1000000 := by
  intro x hx
  simp only [List.mem_cons, List.not_mem_nil, or_false] at hx
  rcases hx with rfl | rfl <;> decide
theorem small_no : ∀ x ∈ ([⟨#[98]⟩, ⟨#[97, 10]⟩] : List ByteArray), x.size ≤ 1000000 := by
  intro x hx
  simp only [List.mem_cons, List.not_mem_nil, or_false] at hx
  rcases hx with rfl | rfl <;> decide

theorem strs_two_new (w : World) (x y : ByteArray) : StrsAt (w.alloc (.cells #[.string x, .string y] 9)) w.heap.size (w.heap.size + 1) (some ⟨w.heap.size, 0, none⟩) 2 [x, y] := by
  refine ⟨rfl, fun _ => ⟨w.heap.size, 0, rfl, Nat.le_refl _, Nat.lt_succ_self _, by simp, fun k hk => ?_⟩⟩
  have := cell_two_new w (.string x) (.string y) 9 k
  rw [add_off] at this
  match k, hk with
  | 0, _ => exact this _ rfl
  | 1, _ => exact this _ rfl

set_option maxHeartbeats 4000000 in
theorem known10_c (w : World) : Calls Try.prog 7 #[] w fun e w' => e = .returned (.bool true) ∧ w.grownBy w' none := by
  go_enter Try.func7, Try.ntmps7
  go_wp2_with fail
  refine (lines_c ⟨#[97, 10, 98]⟩ _ (by decide)).mono ?_
  rintro e w1 ⟨v, rfl, hown, hg⟩
  rw [show linesS ⟨#[97, 10, 98]⟩ = [⟨#[97, 10]⟩, ⟨#[98]⟩] from lines_sA] at hown
  obtain ⟨p, c, rfl, hat, hpc, hcc⟩ := strsAt_ownC hown
  have H1 := Lib.hid hat
  have HG1 := Lib.hid hg
  have HCC := Lib.hid (show 2 ≤ c from hcc)
  have hlen : ([⟨#[97, 10]⟩, ⟨#[98]⟩] : List ByteArray).length = 2 := rfl
  obtain ⟨b, off, rfl, q1, q2, q3, hcs⟩ := hat.cell (by decide)
  have c0 : w1.cell? ⟨b, off, none⟩ = some (.string ⟨#[97, 10]⟩) := hcs 0 (by decide)
  have c1 : w1.cell? ⟨b, off + 1, none⟩ = some (.string ⟨#[98]⟩) := hcs 1 (by decide)
  clear hown hat hg hpc hcc hcs hlen q1 q2 q3
  go_wp2_with fail
  refine (splitJoin_c _ 2 c _ _ [⟨#[97, 10]⟩, ⟨#[98]⟩] ⟨#[97, 10, 98]⟩ _ H1.out HCC.out (by decide) join_sA (by decide)).mono ?_
  rintro e w2 ⟨rfl, hg2⟩
  have H2 := Lib.hid (H1.out.calm hg2)
  have HG2 := Lib.hid (grownBy_trans HG1.out hg2)
  clear hg2 c0 c1
  go_wp2_with fail
  refine (is_split_c _ 2 c _ _ [⟨#[97, 10]⟩, ⟨#[98]⟩] true _ H2.out (by decide) small_sA is_sA).mono ?_
  rintro e w3 ⟨rfl, h9⟩
  subst w3
  go_wp2_with fail
  refine (is_split_c _ 2 2 _ _ [⟨#[98]⟩, ⟨#[97, 10]⟩] false _ (strs_two_new w2 _ _) (by decide) small_no is_no).mono ?_
  rintro e w4 ⟨rfl, h9⟩
  subst w4
  have HG4 := Lib.hid (grownBy_trans HG2.out (World.grownBy_alloc w2 (.cells #[.string ⟨#[98]⟩, .string ⟨#[97, 10]⟩] 9) none))
  go_wp2_with fail
  refine (fits_c ⟨#[97]⟩ true _ (by decide) fits_a).mono ?_
  rintro e w5 ⟨rfl, hg5⟩
  have HG5 := Lib.hid (grownBy_trans HG4.out hg5)
  clear hg5
  go_wp2_with fail
  refine (lines_c ⟨#[]⟩ _ (by decide)).mono ?_
  rintro e w6 ⟨v6, rfl, hown6, hg6⟩
  rw [lines_s0] at hown6
  obtain ⟨p6, c6, rfl, _⟩ := strsAt_ownC hown6
  have HG6 := Lib.hid (grownBy_trans HG5.out hg6)
  clear hg6 hown6
  go_wp2
  go_ret
  exact ⟨rfl, HG6.out⟩

/-- Lines, in one form for its callers. -/
theorem linesAt_c (s : ByteArray) (l : List ByteArray) (n : Nat) (w : World) (hs : s.size ≤ 1000000) (hl : linesS s = l) (hn : l.length = n) :
    Calls Try.prog 9 #[.string s] w fun e w' => ∃ p c, e = .returned (.slice p n c) ∧ StrsAt w' w.heap.size w'.heap.size p n l ∧ (p = none → c = 0) ∧ n ≤ c ∧ w.grownBy w' none := by
  subst hl
  subst hn
  refine (lines_c s w hs).mono ?_
  rintro e w' ⟨v, rfl, hown, hg⟩
  obtain ⟨p, c, rfl, h1, h2, h3⟩ := strsAt_ownC hown
  exact ⟨p, c, rfl, h1, h2, h3, hg⟩
theorem refLinesAt_c (s : ByteArray) (l : List ByteArray) (n : Nat) (w : World) (hs : s.size ≤ 1000000) (hl : linesS s = l) (hn : l.length = n) :
    Calls Try.prog 10 #[.string s] w fun e w' => ∃ p c, e = .returned (.slice p n c) ∧ StrsAt w' w.heap.size w'.heap.size p n l ∧ (p = none → c = 0) ∧ n ≤ c ∧ w.grownBy w' none := by
  subst hl
  subst hn
  refine (refLines_c s w hs).mono ?_
  rintro e w' ⟨v, rfl, hown, hg⟩
  obtain ⟨p, c, rfl, h1, h2, h3⟩ := strsAt_ownC hown
  exact ⟨p, c, rfl, h1, h2, h3, hg⟩

end Go.Proofs.Ytgmdkghggomloaa
