/- The contracts of fresh, Copy, Make, Same of package obj. -/
import Derived.Laws.AppendOwnNone
import Derived.Test.YtdolcdededmlhaaDoorRead
namespace Go.Proofs.YtdolcdededmlhaaDoor
open Go.RowKit

theorem Tryd.info9 : (Tryd.prog.info? 9).map (fun i => (i.zero, i.size, i.bytes)) = some (some (.string .empty), 1, 16) := by kernel_rfl

/-- The cells of strings. -/
def scells (l : List ByteArray) : List Value := l.map .string
theorem scells_get {l : List ByteArray} {k : Nat} (hk : k < l.length) : (scells l)[k]? = some (.string (l[k]?.getD .empty)) := by
  unfold scells
  rw [List.getElem?_map, List.getElem?_eq_getElem hk]
  rfl
theorem scells_one (l : List ByteArray) : ∀ u ∈ scells l, u.oneCell' = true := by
  intro u hu
  unfold scells at hu
  rw [List.mem_map] at hu
  obtain ⟨x, _, rfl⟩ := hu
  rfl
theorem pcells_one' (l : List (Int × Int)) : ∀ u ∈ pcells l, u.oneCell' = true := by
  intro u hu
  unfold pcells at hu
  rw [List.mem_flatMap] at hu
  obtain ⟨x, _, hx⟩ := hu
  simp only [List.mem_cons, List.not_mem_nil, or_false] at hx
  rcases hx with rfl | rfl <;> rfl

theorem add_off (b off j : Nat) : (⟨b, off, none⟩ : Addr).add j = ⟨b, off + j, none⟩ := by unfold Addr.add; split <;> simp_all

theorem strsAt_own {w : World} {base : Nat} {v : Value} {l : List ByteArray} (h : w.ownsRow base 9 1 v l.length (scells l)) :
    ∃ p c, v = .slice p l.length c ∧ StrsAt w base w.heap.size p l.length l := by
  rcases h.2 with ⟨rfl, h0⟩ | ⟨g, cap, cur, rfl, hb, hg, _⟩
  · rw [h0]; exact ⟨none, 0, rfl, h0, fun h => absurd h (by omega)⟩
  · refine ⟨_, cap, rfl, rfl, fun hn => ⟨g, 0, rfl, hb, (Array.getElem?_eq_some_iff.1 hg).1, Nat.le_refl _, fun k hk => ?_⟩⟩
    have hc := h.cells (g := g) rfl k _ (scells_get hk)
    rw [add_off] at hc
    exact hc

theorem strs_news {w : World} {lo hi n : Nat} {ad : Addr} {l : List ByteArray} (h : StrsAt w lo hi (some ad) n l) : ∀ j u, (scells l)[j]? = some u → w.cell? (ad.add j) = some u := by
  intro j u hu
  have hj : j < l.length := by
    rcases Nat.lt_or_ge j l.length with h | h
    · exact h
    · rw [List.getElem?_eq_none (by unfold scells; simpa using h)] at hu; cases hu
  rw [scells_get hj] at hu
  cases hu
  have hl := h.len
  obtain ⟨b', off', e, _, _, _, hc⟩ := h.cell (by omega)
  cases e
  rw [add_off]
  exact hc j (by omega)

theorem pairs_news {w : World} {lo hi n : Nat} {ad : Addr} {l : List (Int × Int)} (h : PairsAt w lo hi (some ad) n l) : ∀ j u, (pcells l)[j]? = some u → w.cell? (ad.add j) = some u := by
  intro j u hu
  have hj : j < l.length * 2 := by
    rcases Nat.lt_or_ge j (l.length * 2) with h | h
    · exact h
    · rw [List.getElem?_eq_none (by rw [pcells_len]; exact h)] at hu; cases hu
  have hl := h.len
  obtain ⟨b', off', e, _, _, _, hc⟩ := h.cell (by omega)
  cases e
  rw [add_off]
  have hk := pcells_get l (j / 2) (by omega)
  have hk2 := hc (j / 2) (by omega)
  rcases Nat.mod_two_eq_zero_or_one j with e | e
  · have ej : j = j / 2 * 2 := by omega
    rw [← ej] at hk
    rw [hk.1] at hu
    cases hu
    rw [← ej] at hk2
    exact hk2.1
  · have ej : j = j / 2 * 2 + 1 := by omega
    have h2 := hk.2
    rw [← ej] at h2
    rw [h2] at hu
    cases hu
    have h3 := hk2.2
    rw [Nat.add_assoc, ← ej] at h3
    exact h3

/-- What hands back a new slice of strings. -/
def StrsPost (l : List ByteArray) (w : World) (e : Ending) (w' : World) : Prop :=
  ∃ v, e = .returned v ∧ w'.ownsRow w.heap.size 9 1 v l.length (scells l) ∧ w.grownBy w' none

set_option maxHeartbeats 1000000 in
theorem freshS_c (p : Option Addr) (n c lo hi : Nat) (L : List ByteArray) (w : World) (h : StrsAt w lo hi p n L) (hn : n ≤ 1000000) (hc : p = none → c = 0) :
    Calls Tryd.prog 38 #[.slice p n c] w (StrsPost L w) := by
  obtain ⟨i0, hi', hz0, hz1, hz2⟩ := info_parts Tryd.info9
  have HLEN := Lib.hid h.len
  match p, h, hc with
  | none, h, hc =>
    have hn0 : n = 0 := by
      rcases Nat.eq_zero_or_pos n with e | e
      · exact e
      · obtain ⟨_, _, e, _⟩ := h.cell e; cases e
    obtain rfl := hc rfl
    subst hn0
    have hL : L = [] := List.eq_nil_of_length_eq_zero HLEN.out
    subst hL
    clear h hc HLEN
    go_enter Tryd.func38, Tryd.ntmps38
    go_wp2_with (at_builtin; refine wpList_append_own_none rfl _ _ 22 rfl w.heap.size 9 i0 1 Tryd.underlying22 hi' (.slice none 0 0) 0 [] rfl (World.ownsRow_nil _ _ _ _) rfl ?_)
    go_ret
    exact ⟨_, rfl, World.ownsRow_nil _ _ _ _, grownBy_refl _ _⟩
  | some ad, h, _ =>
    have hnews := Lib.hid (strs_news h)
    obtain rfl : L.length = n := HLEN.out
    clear h HLEN
    go_enter Tryd.func38, Tryd.ntmps38
    go_wp2_with (at_builtin; refine wpList_append_own _ rfl _ _ 22 rfl w.heap.size 9 i0 (.string .empty) 1 16 Tryd.underlying22 hi' hz0 hz1 hz2 rfl (by decide) (.slice none 0 0) 0 [] rfl (World.ownsRow_nil _ _ _ _) ad L.length c (scells L) rfl (by simp [scells]) hnews.out (scells_one L) (by unfold maxLen; omega) (by omega) (Nat.le_refl _) ?_; intro v' w1 hown hgrow _)
    have HO := Lib.hid hown
    have HG := Lib.hid hgrow
    clear hown hgrow
    go_ret
    exact ⟨_, rfl, by simpa using HO.out, by simpa [Value.ownBlock] using HG.out⟩

set_option maxHeartbeats 1000000 in
theorem freshP_c (p : Option Addr) (n c lo hi : Nat) (P : List (Int × Int)) (w : World) (h : PairsAt w lo hi p n P) (hn : n ≤ 1000000) (hc : p = none → c = 0) :
    Calls Tryd.prog 39 #[.slice p n c] w (PairsPostO P w) := by
  obtain ⟨i0, hi', hz0, hz1, hz2⟩ := info_parts Tryd.info38
  have HLEN := Lib.hid h.len
  match p, h, hc with
  | none, h, hc =>
    have hn0 : n = 0 := by
      rcases Nat.eq_zero_or_pos n with e | e
      · exact e
      · obtain ⟨_, _, e, _⟩ := h.cell e; cases e
    obtain rfl := hc rfl
    subst hn0
    have hL : P = [] := List.eq_nil_of_length_eq_zero HLEN.out
    subst hL
    clear h hc HLEN
    go_enter Tryd.func39, Tryd.ntmps39
    go_wp2_with (at_builtin; refine wpList_append_own_none rfl _ _ 23 rfl w.heap.size 38 i0 2 Tryd.underlying23 hi' (.slice none 0 0) 0 [] rfl (World.ownsRow_nil _ _ _ _) rfl ?_)
    go_ret
    exact ⟨_, rfl, World.ownsRow_nil _ _ _ _, grownBy_refl _ _⟩
  | some ad, h, _ =>
    have hnews := Lib.hid (pairs_news h)
    obtain rfl : P.length = n := HLEN.out
    clear h HLEN
    go_enter Tryd.func39, Tryd.ntmps39
    go_wp2_with (at_builtin; refine wpList_append_own _ rfl _ _ 23 rfl w.heap.size 38 i0 (.agg #[.int .i64 0, .int .i64 0]) 2 16 Tryd.underlying23 hi' hz0 hz1 hz2 rfl (by decide) (.slice none 0 0) 0 [] rfl (World.ownsRow_nil _ _ _ _) ad P.length c (pcells P) rfl (pcells_len P) hnews.out (pcells_one' P) (by unfold maxLen; omega) (by omega) (Nat.le_refl _) ?_; intro v' w1 hown hgrow _)
    have HO := Lib.hid hown
    have HG := Lib.hid hgrow
    clear hown hgrow
    go_ret
    exact ⟨_, rfl, by simpa using HO.out, by simpa [Value.ownBlock] using HG.out⟩

end Go.Proofs.YtdolcdededmlhaaDoor
