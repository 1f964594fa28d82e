/- Contracts of the statement's own functions of and told: a row put together of a list of numbers; a row held against marks beside it. -/
import Derived.Test.YtnbigkknabdnjaaDoorCalls
import Derived.Test.YtnbigkknabdnjaaDoorPlaces
namespace Go.Proofs.YtnbigkknabdnjaaDoor
open Go.RowKit

/-- A slice of ints that reads as xs. -/
structure Its (w : World) (p : Option Addr) (n : Nat) (xs : List Int) : Prop where
  len : xs.length = n
  cell : 0 < n → ∃ b off, p = some ⟨b, off, none⟩ ∧ b < w.heap.size ∧ ∀ k, k < n → w.cell? ⟨b, off + k, none⟩ = some (.int .i64 (xs[k]?.getD 0))

theorem Its.grown {w w' : World} {p : Option Addr} {n : Nat} {xs : List Int} (h : Its w p n xs) (hg : w.grownBy w' none) : Its w' p n xs := by
  refine ⟨h.len, fun hn => ?_⟩
  obtain ⟨b, off, hp, hb, hc⟩ := h.cell hn
  exact ⟨b, off, hp, Nat.lt_of_lt_of_le hb hg.size, fun k hk => (World.cell?_of_block (a := ⟨b, off + k, none⟩) (hg.block b hb (by simp))).trans (hc k hk)⟩

/-- The places below m that the first k numbers name. -/
def ofS (m : Nat) (xs : List Int) (k j : Nat) : Bool := decide (j < m) && (xs.take k).any fun x => x == (j : Int)

theorem ofS_zero (m : Nat) (xs : List Int) (j : Nat) : ofS m xs 0 j = false := by simp [ofS]

theorem ofS_put (m : Nat) (xs : List Int) (k j : Nat) (hk : k < xs.length) : putS (ofS m xs k) m (xs[k]?.getD 0) true j = ofS m xs (k + 1) j := by
  unfold putS ofS
  rw [List.take_succ_eq_append_getElem hk, List.any_append, List.getElem?_eq_getElem hk]
  simp only [Option.getD_some, List.any_cons, List.any_nil, Bool.or_false]
  by_cases e : (j : Int) = xs[k] ∧ j < m
  · rw [if_pos e]
    have h1 : (xs[k] == (j : Int)) = true := by simp [e.1]
    rw [h1]
    simp [e.2]
  · rw [if_neg e]
    by_cases hj : j < m
    · have h1 : (xs[k] == (j : Int)) = false := by simp; omega
      rw [h1, Bool.or_false]
    · simp [hj]

set_option maxHeartbeats 1000000 in
theorem of_zero (m : Int) (p : Option Addr) (c : Nat) (w : World) : Calls Tryd.prog 10 #[.int .i64 m, .slice p 0 c] w (NewPost (clampN m) w) := by
  go_enter Tryd.func10, Tryd.ntmps10
  go_wp2_with fail
  refine (new_c m _).mono ?_
  rintro e w1 ⟨b, wb, rfl, hb, hwb, hs, hg⟩
  have HG := Lib.hid hg
  have HS := Lib.hid hs
  clear hg hs
  go_wp2_with fail
  go_loopw [6] (fun i wr => i = .int .i64 0 ∧ wr = w1) (fun _ _ => 0)
  case atStart => exact ⟨rfl, rfl⟩
  case round =>
    obtain ⟨rfl, h9⟩ := hrel
    subst wr
    go_wp2
    go_ret
    exact ⟨b, wb, rfl, hb, hwb, HS.out, HG.out⟩

/-- What of leaves. -/
def OfPost (n : Nat) (S : Nat → Bool) (w : World) (e : Ending) (w' : World) : Prop :=
  ∃ b wb, e = .returned (.pointer (some ⟨b, 0, none⟩)) ∧ w.heap.size ≤ b ∧ w.heap.size ≤ wb ∧ IsSet w' b wb n S ∧ w.grownBy w' none

set_option maxHeartbeats 1000000 in
theorem of_some (m : Int) (B off n c : Nat) (xs : List Int) (w : World) (hB : B < w.heap.size) (hc : ∀ k, k < n → w.cell? ⟨B, off + k, none⟩ = some (.int .i64 (xs[k]?.getD 0))) (hl : xs.length = n) (hn : n ≤ 40) :
    Calls Tryd.prog 10 #[.int .i64 m, .slice (some ⟨B, off, none⟩) n c] w (OfPost (clampN m) (ofS (clampN m) xs n) w) := by
  have HC := Lib.hid hc
  have HL := Lib.hid hl
  clear hc hl
  go_enter Tryd.func10, Tryd.ntmps10
  go_wp2_with fail
  refine (new_c m _).mono ?_
  rintro e w1 ⟨b, wb, rfl, hb, hwb, hs, hg⟩
  have HG := Lib.hid hg
  have HS := Lib.hid (hs.congr (fun j => (ofS_zero (clampN m) xs j).symm))
  clear hg hs
  generalize clampN m = M at *
  go_wp2_with fail
  go_loopw [6] (fun i wr => ∃ k : Nat, k ≤ n ∧ i = .int .i64 k ∧ IsSet wr b wb M (ofS M xs k) ∧ w.grownBy wr none) (fun i _ => n - (intOf i).toNat)
  case atStart => exact ⟨0, Nat.zero_le _, rfl, HS.out, HG.out⟩
  case round =>
    obtain ⟨k, hk, rfl, hs, hg⟩ := hrel
    by_cases hkn : k < n
    · have hcell := (World.cell?_of_block (a := ⟨B, off + k, none⟩) (hg.block B hB (by simp))).trans (HC.out k hkn)
      have HP := Lib.hid (ofS_put M xs k)
      have HS' := Lib.hid hs
      have HG' := Lib.hid hg
      clear hs hg
      generalize xs[k]?.getD 0 = x at *
      go_wp2_with fail
      refine (put_c b wb M _ true _ _ HS'.out).mono ?_
      rintro e w3 ⟨⟨v3, rfl⟩, hs3, hg3⟩
      have hs3 := hs3.congr (fun j => HP.out j (by rw [HL.out]; exact hkn))
      have hg3 := grownBy_new HG'.out hg3 hwb
      go_wp2_with fail
      go_roundw
      case rel => exact ⟨k + 1, by omega, by go_num, hs3, hg3⟩
      case measure => simp [intOf]; omega
    · obtain rfl : k = n := by omega
      have HS' := Lib.hid hs
      have HG' := Lib.hid hg
      clear hs hg
      go_wp2
      go_ret
      exact ⟨b, wb, rfl, hb, hwb, HS'.out, HG'.out⟩

theorem of_c (m : Int) (p : Option Addr) (n c : Nat) (xs : List Int) (w : World) (h : Its w p n xs) (hn : n ≤ 40) : Calls Tryd.prog 10 #[.int .i64 m, .slice p n c] w (OfPost (clampN m) (ofS (clampN m) xs n) w) := by
  by_cases h0 : n = 0
  · subst h0
    refine (of_zero m p c w).mono ?_
    rintro e w' ⟨b, wb, he, h1, h2, h3, h4⟩
    exact ⟨b, wb, he, h1, h2, h3.congr (fun j => (ofS_zero _ xs j).symm), h4⟩
  · obtain ⟨b, off, rfl, hb, hc⟩ := h.cell (by omega)
    exact of_some m b off n c xs w hb hc h.len hn

/-- Marks in block g. -/
structure Marks (w : World) (g n : Nat) (S : Nat → Bool) : Prop where
  lt : g < w.heap.size
  cell : ∀ j, j < n → w.cell? ⟨g, j, none⟩ = some (.bool (S j))
  free : ∀ j, j < n → w.frozen? ⟨g, j, none⟩ = false

theorem Marks.kept {w w' : World} {g n : Nat} {S : Nat → Bool} (h : Marks w g n S) (hs : w.heap.size ≤ w'.heap.size) (e : w'.heap[g]? = w.heap[g]?) : Marks w' g n S :=
  ⟨Nat.lt_of_lt_of_le h.lt hs, fun j hj => (World.cell?_of_block (a := ⟨g, j, none⟩) e).trans (h.cell j hj), fun j hj => (World.frozen?_of_block (a := ⟨g, j, none⟩) e).trans (h.free j hj)⟩
theorem Marks.grown {w w' : World} {g n : Nat} {S : Nat → Bool} {row : Option Nat} (h : Marks w g n S) (hg : w.grownBy w' row) (hr : some g ≠ row) : Marks w' g n S :=
  h.kept hg.size (hg.block g h.lt hr)
theorem Marks.congr {w : World} {g n : Nat} {S T : Nat → Bool} (h : Marks w g n S) (e : ∀ j, j < n → S j = T j) : Marks w g n T :=
  ⟨h.lt, fun j hj => by rw [← e j hj]; exact h.cell j hj, h.free⟩
theorem Marks.set {w : World} {g n : Nat} {S : Nat → Bool} (h : Marks w g n S) {k : Nat} (hk : k < n) (v : Bool) : Marks (w.setCell ⟨g, k, none⟩ (.bool v)) g n (updS S k v) := by
  refine ⟨Nat.lt_of_lt_of_le h.lt (grownBy_setCell w ⟨g, k, none⟩ (.bool v)).size, fun j hj => ?_, fun j hj => ?_⟩
  · by_cases e : j = k
    · subst e
      rw [updS_same]
      exact World.cell?_setCell_same' _ _ _ (by rw [h.cell j hj]; rfl)
    · rw [updS_other _ _ _ _ e, ← h.cell j hj]
      apply World.cell?_setCell_other
      intro e'
      cases e'
      exact e rfl
  · rw [World.frozen?_setCell]
    exact h.free j hj

/-- The element that stands where it should. -/
theorem onL_at (S : Nat → Bool) (n i : Nat) (hi : i < n) (hs : S i = true) : (onL S n)[(onL S i).length]? = some i := by
  unfold onL
  rw [show n = i + (1 + (n - i - 1)) from by omega, List.range_add, List.filter_append, List.getElem?_append_right (Nat.le_refl _), Nat.sub_self, show 1 + (n - i - 1) = (n - i - 1) + 1 from by omega, List.range_succ_eq_map, List.map_cons, List.filter_cons, if_pos (by rw [Nat.add_zero]; exact hs)]
  simp

theorem onL_succ_on (S : Nat → Bool) (i : Nat) (h : S i = true) : (onL S (i + 1)).length = (onL S i).length + 1 := by
  unfold onL; rw [List.range_succ, List.filter_append]; simp [h]
theorem onL_succ_off (S : Nat → Bool) (i : Nat) (h : S i = false) : (onL S (i + 1)).length = (onL S i).length := by
  unfold onL; rw [List.range_succ, List.filter_append]; simp [h]
theorem onL_mono (S : Nat → Bool) (i n : Nat) (h : i ≤ n) : (onL S i).length ≤ (onL S n).length := by
  unfold onL
  rw [show n = i + (n - i) from by omega, List.range_add, List.filter_append, List.length_append]
  omega

/-- A slice of All's, cell by cell. -/
theorem all_cells {w : World} {base : Nat} {v : Value} {xs : List Int} (h : w.ownsRow base 3 1 v xs.length (xs.map (Value.int .i64))) (hv : v ≠ .slice none 0 0) :
    ∃ g cap, v = .slice (some ⟨g, 0, none⟩) xs.length cap ∧ base ≤ g ∧ g < w.heap.size ∧ ∀ k x, xs[k]? = some x → w.cell? ⟨g, k, none⟩ = some (.int .i64 x) := by
  rcases h.2 with ⟨h0, _⟩ | ⟨g, cap, cur, rfl, hb, hh, h1, h2, h3, h4⟩
  · exact absurd h0 hv
  · refine ⟨g, cap, rfl, hb, (Array.getElem?_eq_some_iff.1 hh).1, fun k x hx => ?_⟩
    have hk : k < xs.length := (List.getElem?_eq_some_iff.1 hx).1
    have e : cur.toList[k]? = some (.int .i64 x) := by
      have := congrArg (fun l : List Value => l[k]?) h4
      rw [List.getElem?_take_of_lt (by omega), List.getElem?_map, hx] at this
      exact this
    rw [Array.getElem?_toList] at e
    simp only [World.cell?, hh]
    exact e

set_option maxHeartbeats 2000000 in
theorem told_c (b wb n g c : Nat) (S : Nat → Bool) (w : World) (h : IsSet w b wb n S) (hm : Marks w g n S) (hn : n ≤ 1000) (ht : Tab w) :
    Calls Tryd.prog 14 #[.pointer (some ⟨b, 0, none⟩), .slice (some ⟨g, 0, none⟩) n c] w fun e w' => e = .returned (.bool true) ∧ w.grownBy w' none := by
  have H := Lib.hid h
  have HM := Lib.hid hm
  have HT := Lib.hid ht
  clear h hm ht
  go_enter Tryd.func14, Tryd.ntmps14
  go_wp2_with fail
  refine (all_c b wb n S w H.out HT.out).mono ?_
  rintro e w1 ⟨v, rfl, hrow, hvn, hg⟩
  obtain ⟨a, cap, rfl, hab, has, hcl⟩ := all_cells hrow hvn
  have hlen : (ints (onL S n)).length = (onL S n).length := by unfold ints; rw [List.length_map]
  rw [hlen]
  have h1 := Lib.hid (H.out.grown hg (by simp) (by simp))
  have hm1 := Lib.hid (HM.out.grown hg (by simp))
  have hg1 := Lib.hid hg
  have HCL := Lib.hid hcl
  have hN := onL_le S n
  obtain ⟨N, HNe⟩ : ∃ N, Hid ((onL S n).length = N) := ⟨_, rfl⟩
  rw [HNe.out] at hN ⊢
  clear hrow hvn hg hcl hlen H HM HT
  go_wp2_with fail
  go_loop [6, 7] (fun kk ii => ∃ i : Nat, i ≤ n ∧ ii = .int .i64 i ∧ kk = .int .i64 ((onL S i).length : Nat)) (fun _ ii => n - (intOf ii).toNat)
  case atStart => exact ⟨0, Nat.zero_le _, rfl, rfl⟩
  case round =>
    obtain ⟨i, hi, rfl, rfl⟩ := hrel
    have hmono := onL_mono S i n hi
    rw [HNe.out] at hmono
    by_cases hin : i < n
    · have hcell := hm1.out.cell i hin
      cases hs : S i
      · rw [hs] at hcell
        have HE := Lib.hid (onL_succ_off S i hs)
        clear hs
        generalize hK : (onL S i).length = K at *
        clear hK
        go_wp2
        go_round
        case rel => exact ⟨i + 1, by omega, by go_num, by rw [HE.out]⟩
        case measure => simp [intOf]; omega
      · rw [hs] at hcell
        have hat := onL_at S n i hin hs
        have hacell := HCL.out ((onL S i).length) (i : Int) (by unfold ints; rw [List.getElem?_map, hat]; rfl)
        have HE := Lib.hid (onL_succ_on S i hs)
        have hKN : (onL S i).length < N := by
          have h1 := onL_mono S (i + 1) n hin
          rw [HE.out, HNe.out] at h1
          omega
        clear hs hat
        generalize hK : (onL S i).length = K at *
        clear hK
        have hb1 : decide (N ≤ K) = false := by simp; omega
        go_wp2
        go_round
        case rel => exact ⟨i + 1, by omega, by go_num, by rw [HE.out]; go_num⟩
        case measure => simp [intOf]; omega
    · obtain rfl : i = n := by omega
      rw [HNe.out]
      go_wp2_with fail
      refine (count_b b wb i N S _ h1.out HNe.out).mono ?_
      rintro e w2 ⟨rfl, hg2⟩
      have h2 := Lib.hid (h1.out.grown hg2 (by simp) (by simp))
      have hg2' := Lib.hid (grownBy_trans hg1.out hg2)
      clear hg2
      go_wp2_with fail
      refine (len_b b wb i S _ h2.out).mono ?_
      rintro e w3 ⟨rfl, hg3⟩
      have hg3' := Lib.hid (grownBy_trans hg2'.out hg3)
      clear hg3
      go_wp2
      go_ret
      exact ⟨rfl, hg3'.out⟩

end Go.Proofs.YtnbigkknabdnjaaDoor
