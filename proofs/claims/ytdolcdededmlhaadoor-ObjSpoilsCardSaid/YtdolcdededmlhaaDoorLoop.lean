/- Contracts of Count, Same, Copy, Or, And of package bits, and of slices.Equal and slices.Clone at []uint64. -/
import Derived.Deep.LoopGhost
import Derived.Deep.DeepCutAuto
import Derived.Deep.RegionHeld3
import Derived.Test.YtdolcdededmlhaaDoorMem
namespace Go.Proofs.YtdolcdededmlhaaDoor
open Go.RowKit

/-- How many places are on in the words ahead of k. -/
def cntW (ws : List Nat) (k : Nat) : Nat := (onL (onB ws) (64 * k)).length
theorem cntW_succ (ws : List Nat) (k : Nat) : cntW ws (k + 1) = cntW ws k + Bw.pcn 64 (ws[k]?.getD 0) := by
  unfold cntW; rw [onL_word, List.length_append, Bw.lsf_length]
theorem cntW_le (ws : List Nat) (k : Nat) : cntW ws k ≤ 64 * k := onL_le _ _

set_option maxHeartbeats 400000 in
theorem countW_c (b wb n : Nat) (ws : List Nat) (w : World) (h : RowW w b wb n ws) : Calls Tryd.prog 31 #[.pointer (some ⟨b, 0, none⟩)] w fun e w' => e = .returned (.int .i64 (cntW ws ws.length : Nat)) ∧ w' = w := by
  obtain ⟨cap, hc1⟩ := h.c1
  have hl : ws.length ≤ 16 := by have := h.words.len; have := h.small; omega
  have hmem := Lib.hid h.mem.cell
  have hlt := Lib.hid h.words.lt
  have hz : cntW ws 0 = 0 := rfl
  have HZ := Lib.hid hz
  clear h hz
  generalize hN : ws.length = len at *
  clear hN
  go_enter Tryd.func31, Tryd.ntmps31
  go_wp2
  go_loop [3, 11] (fun c i => ∃ k : Nat, k ≤ len ∧ i = .int .i64 k ∧ c = .int .i64 (cntW ws k : Nat)) (fun _ i => len - (intOf i).toNat)
  case atStart => exact ⟨0, Nat.zero_le _, rfl, by rw [HZ.out]; rfl⟩
  case round =>
    obtain ⟨k, hk, rfl, rfl⟩ := hrel
    have hb := cntW_le ws k
    by_cases hkl : k < len
    · have hcell := hmem.out k hkl
      have hx := hlt.out k
      have hs := Lib.hid (cntW_succ ws k)
      generalize ws[k]?.getD 0 = x at *
      have hp := Bw.pcn_le 64 x
      generalize hP : Bw.pcn 64 x = p at *
      have HP := Lib.hid hP
      clear hP
      go_wp2_with (go_at_call 52; refine (ones_c _ _ (by exact hx)).mono ?_; rintro e w' ⟨rfl, h9⟩; subst w'; rw [HP.out])
      go_round
      case rel => exact ⟨k + 1, by omega, by go_num, by rw [hs.out]; go_num⟩
      case measure => simp [intOf]; omega
    · obtain rfl : k = len := by omega
      go_wp2
      go_ret
      exact ⟨rfl, rfl⟩

theorem cnt_set {w : World} {b wb n : Nat} {S : Nat → Bool} {ws : List Nat} (hr : RowW w b wb n ws) (ho : ∀ i, onB ws i = S i) : cntW ws ws.length = (onL S n).length := by
  unfold cntW
  rw [words_onL hr.words, onL_congr (fun i _ => ho i)]

theorem count_c (b wb n : Nat) (S : Nat → Bool) (w : World) (h : IsSet w b wb n S) : Calls Tryd.prog 31 #[.pointer (some ⟨b, 0, none⟩)] w fun e w' => e = .returned (.int .i64 ((onL S n).length : Nat)) ∧ w' = w := by
  obtain ⟨ws, hr, ho⟩ := h
  rw [← cnt_set hr ho]
  exact countW_c b wb n ws w hr

theorem heap_new (w : World) (o : Obj) : (w.alloc o).heap[w.heap.size]? = some o := by
  show (w.heap.push o)[w.heap.size]? = some o
  simp

/-- A block's cells, the first of which are the words xs. -/
theorem holds_of_block {w : World} {g : Nat} {cur : Array Value} {t : TypeId} {xs : List Nat} (h : w.heap[g]? = some (.cells cur t (0, 0))) (hc : cur.toList.take xs.length = xs.map fun x : Nat => Value.int .u64 (x : Int)) : Holds64 w g xs := by
  constructor
  · intro k hk
    have h1 : (cur.toList.take xs.length)[k]? = some (.int .u64 (xs[k]?.getD 0 : Nat)) := by
      rw [hc, List.getElem?_map, List.getElem?_eq_getElem hk]; rfl
    rw [List.getElem?_take_of_lt hk, Array.getElem?_toList] at h1
    simp only [World.cell?, h]
    exact h1
  · intro k _
    simp [World.frozen?, h]

set_option maxHeartbeats 400000 in
theorem clone_c (wb len cap : Nat) (xs : List Nat) (w : World) (h : Holds64 w wb xs) (hwb : wb < w.heap.size) (hl : xs.length = len) (hs : len ≤ 16) :
    Calls Tryd.prog 68 #[.slice (some ⟨wb, 0, none⟩) len cap] w fun e w' => ∃ v c, e = .returned (.slice (some ⟨v, 0, none⟩) len c) ∧ w.heap.size ≤ v ∧ v < w'.heap.size ∧ Holds64 w' v xs ∧ w.grownBy w' none := by
  have hnil := fun w => Lib.run_eql_slice_nil (P := Tryd.prog) w 81 84 (some ⟨wb, 0, none⟩) len cap 0 0 Tryd.underlying81
  obtain ⟨i0, hi, hz0, hz1, hz2⟩ := info_parts Tryd.info84
  have hown : (w.alloc (.cells #[] 84)).ownsRow w.heap.size 84 1 (.slice (some ⟨w.heap.size, 0, none⟩) 0 0) 0 [] :=
    ⟨rfl, .inr ⟨w.heap.size, 0, #[], rfl, Nat.le_refl _, heap_new w _, Nat.le_refl _, Nat.zero_le _, rfl, rfl⟩⟩
  have hnews : ∀ j u, (xs.map fun x : Nat => Value.int .u64 (x : Int))[j]? = some u → (w.alloc (.cells #[] 84)).cell? ((⟨wb, 0, none⟩ : Addr).add j) = some u := by
    intro j u hj
    rw [List.getElem?_map] at hj
    obtain ⟨x, hx, rfl⟩ := Option.map_eq_some_iff.1 hj
    have hjl : j < xs.length := (List.getElem?_eq_some_iff.1 hx).1
    have hc := h.cell j hjl
    rw [hx] at hc
    have ha : (⟨wb, 0, none⟩ : Addr).add j = ⟨wb, j, none⟩ := by unfold Addr.add; split <;> simp_all
    rw [ha, World.cell?_alloc_past _ _ _ hwb]
    exact hc
  have HO := Lib.hid hown
  have HW := Lib.hid hnews
  clear hown hnews
  go_enter Tryd.func68, Tryd.ntmps68
  go_wp2_with (at_builtin; refine wpList_append_own _ rfl _ _ 81 rfl w.heap.size 84 i0 (.int .u64 0) 1 8 Tryd.underlying81 hi hz0 hz1 hz2 rfl (by decide) _ 0 [] rfl HO.out ⟨wb, 0, none⟩ len cap (xs.map fun x : Nat => Value.int .u64 (x : Int)) rfl (by simp [hl]) HW.out (by simp [Value.oneCell']) (by unfold maxLen; omega) (by omega) (by simp) ?_; intro v' w1 hown' hgrow hnn)
  obtain ⟨hlen, hv | ⟨g, c, cur, rfl, hg1, hg2, hg3, hg4, hg5, hg6⟩⟩ := hown'
  · exact absurd (hnn.1 hv.1).1 (by intro e; cases e)
  · have hgs : g < w1.heap.size := (Array.getElem?_eq_some_iff.1 hg2).1
    have hh : Holds64 w1 g xs := holds_of_block hg2 (by rw [hl]; simpa using hg6)
    have hgr : w.grownBy w1 none := grownBy_new (World.grownBy_alloc w _ none) hgrow (Nat.le_refl _)
    clear hlen hnn hgrow hg2 hg5 hg6
    rw [Nat.zero_add]
    go_wp2
    go_ret
    exact ⟨g, c, rfl, hg1, hgs, hh, hgr⟩

/-- What Copy leaves: another row of the same places, in blocks of its own. -/
def CopyPost (n : Nat) (S : Nat → Bool) (w : World) (e : Ending) (w' : World) : Prop :=
  ∃ b wb, e = .returned (.pointer (some ⟨b, 0, none⟩)) ∧ w.heap.size ≤ b ∧ w.heap.size ≤ wb ∧ IsSet w' b wb n S ∧ w.grownBy w' none

/-- What Clone leaves, beside two cells that stay. -/
def ClonePost (len b : Nat) (xs : List Nat) (v0 v1 : Value) (w : World) (e : Ending) (w' : World) : Prop :=
  ∃ v c, e = .returned (.slice (some ⟨v, 0, none⟩) len c) ∧ w.heap.size ≤ v ∧ v < w'.heap.size ∧ Holds64 w' v xs ∧ w.grownBy w' none ∧ w'.cell? ⟨b, 0, none⟩ = some v0 ∧ w'.cell? ⟨b, 1, none⟩ = some v1

theorem clone_k (wb len cap b : Nat) (xs : List Nat) (v0 v1 : Value) (w : World) (h : Holds64 w wb xs) (hwb : wb < w.heap.size) (hl : xs.length = len) (hs : len ≤ 16) (hb : b < w.heap.size) (h0 : w.cell? ⟨b, 0, none⟩ = some v0) (h1 : w.cell? ⟨b, 1, none⟩ = some v1) :
    Calls Tryd.prog 68 #[.slice (some ⟨wb, 0, none⟩) len cap] w (ClonePost len b xs v0 v1 w) :=
  (clone_c wb len cap xs w h hwb hl hs).mono fun _ w' ⟨v, c, he, k1, k2, k3, k4⟩ =>
    ⟨v, c, he, k1, k2, k3, k4, (World.cell?_of_block (w' := w') (a := ⟨b, 0, none⟩) (k4.block b hb (by simp))).trans h0, (World.cell?_of_block (w' := w') (a := ⟨b, 1, none⟩) (k4.block b hb (by simp))).trans h1⟩

theorem copy_row {w1 : World} {n len g c : Nat} {ws : List Nat} (hn : n ≤ 1000) (hw : Words n ws) (hl : ws.length = len) (hg : g < w1.heap.size) (hh : Holds64 w1 g ws) :
    RowW (w1.alloc (.cells #[.int .i64 n, .slice (some ⟨g, 0, none⟩) len c] 83)) w1.heap.size g n ws := by
  refine ⟨by simp, by simp; omega, by omega, ?_, ⟨c, ?_⟩, hh.kept (Below.heap_alloc _ _ _ hg), hw, hn⟩
  · simp
  · rw [hl]; simp

set_option maxHeartbeats 1000000 in
theorem copy_c (b wb n : Nat) (S : Nat → Bool) (w : World) (h : IsSet w b wb n S) : Calls Tryd.prog 63 #[.pointer (some ⟨b, 0, none⟩)] w (CopyPost n S w) := by
  obtain ⟨ws, hr, ho⟩ := h
  obtain ⟨cap, hc1⟩ := hr.c1
  have hc := hr.c0
  have hl : ws.length ≤ 16 := by have := hr.words.len; have := hr.small; omega
  have hb := hr.hb
  have hw := hr.hw
  have hmem := Lib.hid hr.mem
  have hwords := Lib.hid hr.words
  have hn := hr.small
  have HO := Lib.hid ho
  clear hr ho
  generalize hN : ws.length = len at *
  have HN := Lib.hid hN
  clear hN
  go_enter Tryd.func63, Tryd.ntmps63
  go_wp2
  go_region_held3 (fun w' => w'.cell? ⟨b, 0, none⟩ = some (.int .i64 n) ∧ w'.cell? ⟨b, 1, none⟩ = some (.slice (some ⟨wb, 0, none⟩) len cap)) (first | exact ⟨hk0, hk1⟩ | go_keep)
    (first | (go_at_call 68; refine (clone_k _ _ _ b ws (.int .i64 n) (.slice (some ⟨wb, 0, none⟩) len cap) _ (by exact hmem.out.kept rfl) (by exact hw) HN.out hl (by exact hb) (by simpa using hc) (by simpa using hc1)).mono ?_; rintro e w1 ⟨g, c, rfl, hg1, hg2, hg3, hg4, hk0, hk1⟩))
  all_goals go_wp2
  go_ret
  refine ⟨_, g, rfl, hg4.size, hg1, ⟨ws, copy_row hn hwords.out HN.out hg2 hg3, HO.out⟩, ?_⟩
  exact grownBy_trans (grownBy_trans (grownBy_drewN w 1 none) hg4) (World.grownBy_alloc _ _ none)

/-- The other row of Same, Or, And: nil, or a row that shares nothing with block wb. -/
def Other (w : World) (p : Option Addr) (wb m : Nat) (vs : List Nat) : Prop :=
  (p = none ∧ vs = [] ∧ m = 0) ∨ ∃ b2 wb2, p = some ⟨b2, 0, none⟩ ∧ b2 ≠ wb ∧ wb2 ≠ wb ∧ RowW w b2 wb2 m vs

theorem Other.words {w : World} {p : Option Addr} {wb m : Nat} {vs : List Nat} (h : Other w p wb m vs) : Words m vs := by
  rcases h with ⟨_, rfl, rfl⟩ | ⟨b2, wb2, _, _, _, hr⟩
  · exact ⟨rfl, fun k => by simp, fun i _ => by simp [onB]⟩
  · exact hr.words

theorem Other.grown {w w' : World} {p : Option Addr} {wb m : Nat} {vs : List Nat} (h : Other w p wb m vs) (hg : w.grownBy w' (some wb)) : Other w' p wb m vs := by
  rcases h with h | ⟨b2, wb2, hp, h1, h2, hr⟩
  · exact .inl h
  · exact .inr ⟨b2, wb2, hp, h1, h2, hr.grown hg (fun e => h1 (by simpa using e)) (fun e => h2 (by simpa using e))⟩

theorem word_o (p : Option Addr) (wb m k : Nat) (vs : List Nat) (w : World) (h : Other w p wb m vs) : Calls Tryd.prog 69 #[.pointer p, .int .i64 k] w fun e w' => e = .returned (.int .u64 (vs[k]?.getD 0 : Nat)) ∧ w' = w := by
  rcases h with ⟨rfl, rfl, _⟩ | ⟨b2, wb2, rfl, _, _, hr⟩
  · exact word_nil k w
  · exact word_c b2 wb2 m k vs w hr

/-- The other row as a set. -/
def OtherS (w : World) (p : Option Addr) (wb m : Nat) (T : Nat → Bool) : Prop :=
  (p = none ∧ (∀ i, T i = false) ∧ m = 0) ∨ ∃ b2 wb2, p = some ⟨b2, 0, none⟩ ∧ b2 ≠ wb ∧ wb2 ≠ wb ∧ IsSet w b2 wb2 m T

theorem OtherS.other {w : World} {p : Option Addr} {wb m : Nat} {T : Nat → Bool} (h : OtherS w p wb m T) : ∃ vs, Other w p wb m vs ∧ ∀ i, onB vs i = T i := by
  rcases h with ⟨hp, ht, hm⟩ | ⟨b2, wb2, hp, h1, h2, vs, hr, ho⟩
  · exact ⟨[], .inl ⟨hp, rfl, hm⟩, fun i => by rw [ht]; simp [onB]⟩
  · exact ⟨vs, .inr ⟨b2, wb2, hp, h1, h2, hr⟩, ho⟩

/-- Whether two rows are the same. -/
def sameS (n m : Nat) (S T : Nat → Bool) : Bool := decide (n = m) && (List.range n).all fun i => S i == T i

end Go.Proofs.YtdolcdededmlhaaDoor
