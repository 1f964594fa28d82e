/- Slices of strings in memory; the contract of checkLabels of package obj: whether there are too many labels, or one that is too long. -/
import Derived.Test.YtdolcdededmlhaaDoorKnow2
import Derived.Test.YtdolcdededmlhaaDoorSome
namespace Go.Proofs.YtdolcdededmlhaaDoor
open Go.RowKit

/-- A slice of strings that reads as l, in a block from lo to hi. -/
structure StrsAt (w : World) (lo hi : Nat) (p : Option Addr) (n : Nat) (l : List ByteArray) : Prop where
  len : l.length = n
  cell : 0 < n → ∃ b off, p = some ⟨b, off, none⟩ ∧ lo ≤ b ∧ b < hi ∧ hi ≤ w.heap.size ∧ ∀ k, k < n → w.cell? ⟨b, off + k, none⟩ = some (.string (l[k]?.getD .empty))

theorem StrsAt.calm {w w' : World} {lo hi : Nat} {p : Option Addr} {n : Nat} {l : List ByteArray} (h : StrsAt w lo hi p n l) (hg : w.grownBy w' none) : StrsAt w' lo hi p n l := by
  refine ⟨h.len, fun hn => ?_⟩
  obtain ⟨b, off, hp, h1, h2, h3, hc⟩ := h.cell hn
  have hb : w'.heap[b]? = w.heap[b]? := hg.block b (by omega) (by simp)
  exact ⟨b, off, hp, h1, h2, Nat.le_trans h3 hg.size, fun k hk => (World.cell?_of_block (a := ⟨b, off + k, none⟩) hb).trans (hc k hk)⟩

theorem StrsAt.apart {w w' : World} {lo hi lo' hi' : Nat} {p : Option Addr} {n : Nat} {l : List ByteArray} (h : StrsAt w lo hi p n l) (hg : Kept lo' hi' w w') (hd : hi ≤ lo' ∨ hi' ≤ lo) : StrsAt w' lo hi p n l := by
  refine ⟨h.len, fun hn => ?_⟩
  obtain ⟨b, off, hp, h1, h2, h3, hc⟩ := h.cell hn
  have hb : w'.heap[b]? = w.heap[b]? := hg.block b (by omega) (by omega)
  exact ⟨b, off, hp, h1, h2, Nat.le_trans h3 hg.size, fun k hk => (World.cell?_of_block (a := ⟨b, off + k, none⟩) hb).trans (hc k hk)⟩

theorem strsAt_nil (w : World) (lo hi : Nat) : StrsAt w lo hi none 0 [] := ⟨rfl, fun h => absurd h (by omega)⟩

/-- A label isn't too long. -/
def okS (s : ByteArray) : Bool := decide (s.size ≤ 60)
/-- What checkLabels answers. -/
def labErr (L : List ByteArray) : Int := if 40 < L.length then 11 else if L.all okS then 0 else 10

theorem all_take {L : List ByteArray} {k : Nat} (f : ByteArray → Bool) (hk : k < L.length) : (L.take (k + 1)).all f = ((L.take k).all f && f (L[k]?.getD .empty)) := by
  rw [List.take_succ_eq_append_getElem hk, List.getElem?_eq_getElem hk]
  simp only [List.all_append, List.all_cons, List.all_nil, Bool.and_true, Option.getD_some]

theorem all_out {L : List ByteArray} {k : Nat} (f : ByteArray → Bool) (hk : k < L.length) (h : f (L[k]?.getD .empty) = false) : L.all f = false := by
  rw [List.getElem?_eq_getElem hk] at h
  rw [Bool.eq_false_iff]
  intro e
  have := List.all_eq_true.1 e _ (List.getElem_mem hk)
  rw [show f L[k] = false from h] at this
  cases this

set_option maxHeartbeats 1000000 in
theorem checkLabels_c (p : Option Addr) (n c lo hi : Nat) (L : List ByteArray) (k9 : Int) (w : World) (h : StrsAt w lo hi p n L) (hk9 : labErr L = k9) :
    Calls Tryd.prog 42 #[.slice p n c] w fun e w' => e = .returned (.int .i64 k9) ∧ w' = w := by
  by_cases hn : 40 < n
  · have he : k9 = 11 := by rw [← hk9]; unfold labErr; rw [h.len, if_pos hn]
    subst he
    have h40 : (40 : Int) < n := by omega
    clear h hk9
    go_enter Tryd.func42, Tryd.ntmps42
    go_wp2
    go_ret
    exact ⟨rfl, rfl⟩
  · have h40 : (n : Int) ≤ 40 := by omega
    have HK : Hid ((if L.all okS then (0 : Int) else 10) = k9) := by
      refine Lib.hid ?_
      rw [← hk9]; unfold labErr; rw [h.len, if_neg hn]
    have H := Lib.hid h
    have HLEN := Lib.hid h.len
    clear h hk9
    go_enter Tryd.func42, Tryd.ntmps42
    go_wp2
    go_loop [10] (fun i => ∃ k : Nat, k ≤ n ∧ i = .int .i64 k ∧ Hid ((L.take k).all okS = true)) (fun i => n - (intOf i).toNat)
    case atStart => exact ⟨0, Nat.zero_le _, rfl, Lib.hid rfl⟩
    case round =>
      obtain ⟨k, hk, rfl, HA⟩ := hrel
      by_cases hkn : k < n
      · obtain ⟨b, off, rfl, q1, q2, q3, hc⟩ := H.out.cell (by omega)
        have hck := hc k hkn
        clear hc
        have HS := Lib.hid (all_take okS (L := L) (k := k) (by rw [HLEN.out]; exact hkn))
        have HO := Lib.hid (fun h => all_out okS (L := L) (k := k) (by rw [HLEN.out]; exact hkn) h)
        generalize L[k]?.getD .empty = s at *
        by_cases hs : s.size ≤ 60
        · have hs' : (s.size : Int) ≤ 60 := by omega
          have HN : Hid ((L.take (k + 1)).all okS = true) := Lib.hid (by rw [HS.out, HA.out]; simpa [okS] using hs)
          go_wp2
          go_round
          case rel => exact ⟨k + 1, by omega, by go_num, HN⟩
          case measure => simp [intOf]; omega
        · have hs' : (60 : Int) < s.size := by omega
          have hf : k9 = 10 := by
            rw [← HK.out, HO.out (by unfold okS; simpa using hs)]
            rfl
          subst hf
          go_wp2
          go_ret
          exact ⟨rfl, rfl⟩
      · obtain rfl : k = n := by omega
        have hf : k9 = 0 := by
          have := HA.out
          rw [List.take_of_length_le (by rw [HLEN.out]; exact Nat.le_refl _)] at this
          rw [← HK.out, this]
          rfl
        subst hf
        go_wp2
        go_ret
        exact ⟨rfl, rfl⟩

end Go.Proofs.YtdolcdededmlhaaDoor
