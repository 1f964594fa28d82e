/- Package obj: labels and pairs in memory, the contracts of all its functions. -/
import Derived.Test.YtcfhnfnhdhloiaaGreatRelb
import Derived.Test.YtcfhnfnhdhloiaaGreatMats
import Derived.OrdersIn
import Derived.RegionIn
import Derived.Stop.RegionWithIn
import Derived.Laws.AppendOwnNone
/-! Slices of strings in memory; the contract of checkLabels of package obj: whether there are too many labels, or one that is too long. -/
namespace Go.Proofs.YtcfhnfnhdhloiaaGreat
open Go.RowKit

/-- A slice of strings that reads as l, in a block from lo to hi. -/
structure StrsAt (w : World) (lo hi : Nat) (p : Option Addr) (n : Nat) (l : List ByteArray) : Prop where
  len : l.length = n
  cell : 0 < n → ∃ b off, p = some ⟨b, off, none⟩ ∧ lo ≤ b ∧ b < hi ∧ hi ≤ w.heap.size ∧ ∀ k, k < n → w.cell? ⟨b, off + k, none⟩ = some (.string (l[k]?.getD .empty))

theorem StrsAt.calm {w w' : World} {lo hi : Nat} {p : Option Addr} {n : Nat} {l : List ByteArray} (h : StrsAt w lo hi p n l) (hg : w.grownBy w' none) : StrsAt w' lo hi p n l := by
  refine ⟨h.len, fun hn => ?_⟩
  obtain ⟨b, off, hp, h1, h2, h3, hc⟩ := h.cell hn
  have hb : w'.heap[b]? = w.heap[b]? := hg.block b (by omega) (by simp)
  exact ⟨b, off, hp, h1, h2, Nat.le_trans h3 hg.size, fun k hk => (World.cell?_of_block (a := ⟨b, off + k, none⟩) hb).trans (hc k hk)⟩

theorem StrsAt.apart {w w' : World} {lo hi lo' hi' : Nat} {p : Option Addr} {n : Nat} {l : List ByteArray} (h : StrsAt w lo hi p n l) (hg : Kept lo' hi' w w') (hd : hi ≤ lo' ∨ hi' ≤ lo) : StrsAt w' lo hi p n l := by
  refine ⟨h.len, fun hn => ?_⟩
  obtain ⟨b, off, hp, h1, h2, h3, hc⟩ := h.cell hn
  have hb : w'.heap[b]? = w.heap[b]? := hg.block b (by omega) (by omega)
  exact ⟨b, off, hp, h1, h2, Nat.le_trans h3 hg.size, fun k hk => (World.cell?_of_block (a := ⟨b, off + k, none⟩) hb).trans (hc k hk)⟩

theorem strsAt_nil (w : World) (lo hi : Nat) : StrsAt w lo hi none 0 [] := ⟨rfl, fun h => absurd h (by omega)⟩

/-- A label isn't too long. -/
def okS (s : ByteArray) : Bool := decide (s.size ≤ 60)
/-- What checkLabels answers. -/
def labErr (L : List ByteArray) : Int := if 40 < L.length then 11 else if L.all okS then 0 else 10

theorem all_take {L : List ByteArray} {k : Nat} (f : ByteArray → Bool) (hk : k < L.length) : (L.take (k + 1)).all f = ((L.take k).all f && f (L[k]?.getD .empty)) := by
  rw [List.take_succ_eq_append_getElem hk, List.getElem?_eq_getElem hk]
  simp only [List.all_append, List.all_cons, List.all_nil, Bool.and_true, Option.getD_some]

theorem all_out {L : List ByteArray} {k : Nat} (f : ByteArray → Bool) (hk : k < L.length) (h : f (L[k]?.getD .empty) = false) : L.all f = false := by
  rw [List.getElem?_eq_getElem hk] at h
  rw [Bool.eq_false_iff]
  intro e
  have := List.all_eq_true.1 e _ (List.getElem_mem hk)
  rw [show f L[k] = false from h] at this
  cases this

end Go.Proofs.YtcfhnfnhdhloiaaGreat
/-! The contract of the iterator neighbours of package obj, which hands over each pair with the one behind it. -/
namespace Go.Proofs.YtcfhnfnhdhloiaaGreat
open Go.RowKit Go.Shelf
attribute [local go_sem] Oper.semAt_some

abbrev PP := (Int × Int) × (Int × Int)
/-- Pairs with the ones behind them, the first k - 1 of them. -/
def nbr (l : List (Int × Int)) (k : Nat) : List PP := (List.range (k - 1)).map fun i => (l[i]?.getD (0, 0), l[i + 1]?.getD (0, 0))
def ltP (x : PP) : Bool := decide (x.1.1 < x.2.1) || (decide (x.1.1 = x.2.1) && decide (x.1.2 < x.2.2))
/-- Whether pairs rise. -/
def risesB (l : List (Int × Int)) : Bool := (nbr l l.length).all ltP
def encN (x : PP) : Array Value := #[.agg #[.int .i64 x.1.1, .int .i64 x.1.2], .agg #[.int .i64 x.2.1, .int .i64 x.2.2]]

theorem nbr_succ (l : List (Int × Int)) (k : Nat) : nbr l (k + 1 + 1) = nbr l (k + 1) ++ [(l[k]?.getD (0, 0), l[k + 1]?.getD (0, 0))] := by
  unfold nbr
  rw [Nat.add_sub_cancel, Nat.add_sub_cancel, List.range_succ, List.map_append]
  rfl
theorem nbr_split (l : List (Int × Int)) {k m : Nat} (hk : k + 1 < m) : ∃ rest, nbr l m = nbr l (k + 1) ++ ([(l[k]?.getD (0, 0), l[k + 1]?.getD (0, 0))] ++ rest) := by
  have h : ∃ r, nbr l m = nbr l (k + 1 + 1) ++ r := by
    unfold nbr
    refine ⟨((List.range (m - 1 - (k + 1))).map fun x => (k + 1) + x).map fun i => (l[i]?.getD (0, 0), l[i + 1]?.getD (0, 0)), ?_⟩
    rw [Nat.add_sub_cancel, ← List.map_append, ← List.range_add]
    congr 2
    omega
  obtain ⟨r, h⟩ := h
  exact ⟨r, by rw [h, nbr_succ, List.append_assoc]⟩

/-- A body's two ways, in one. -/
theorem yieldOr {e : Ending} {A B : Prop} (h : (e = .returned (.bool true) ∧ A) ∨ (e = .returned (.bool false) ∧ B)) : ∃ r : Bool, e = .returned (.bool r) ∧ ((r = true ∧ A) ∨ (r = false ∧ B)) := by
  rcases h with ⟨h, k⟩ | ⟨h, k⟩
  · exact ⟨true, h, .inl ⟨rfl, k⟩⟩
  · exact ⟨false, h, .inr ⟨rfl, k⟩⟩

end Go.Proofs.YtcfhnfnhdhloiaaGreat
/-! The contract of rises of package obj: whether pairs rise. -/
namespace Go.Proofs.YtcfhnfnhdhloiaaGreat
open Go.RowKit Go.Shelf
attribute [local go_sem] Oper.semAt_some

/-- So far all rise. -/
def upB (pre : List PP) : Bool := pre.all ltP
theorem upB_snoc (pre : List PP) (x : PP) : upB (pre ++ [x]) = (upB pre && ltP x) := by simp [upB]
theorem upB_not {pre l : List PP} (h : upB pre = false) (hp : pre <+: l) : upB l = false := by
  obtain ⟨t, rfl⟩ := hp
  unfold upB at *
  rw [List.all_append, h]
  rfl

end Go.Proofs.YtcfhnfnhdhloiaaGreat
/-! The contracts of read, Check, Is, Rel of package obj. -/
namespace Go.Proofs.YtcfhnfnhdhloiaaGreat
open Go.RowKit

/-- Labels and pairs in memory. -/
structure ObjAt (w : World) (lo hi : Nat) (p : Option Addr) (n : Nat) (q : Option Addr) (m : Nat) (L : List ByteArray) (P : List (Int × Int)) : Prop where
  ls : StrsAt w lo hi p n L
  ps : PairsAt w lo hi q m P
theorem ObjAt.calm {w w' : World} {lo hi : Nat} {p : Option Addr} {n : Nat} {q : Option Addr} {m : Nat} {L : List ByteArray} {P : List (Int × Int)} (h : ObjAt w lo hi p n q m L P) (hg : w.grownBy w' none) : ObjAt w' lo hi p n q m L P := ⟨h.ls.calm hg, h.ps.calm hg⟩

/-- Whether labels and pairs are an object: what Check answers. -/
def chk (L : List ByteArray) (P : List (Int × Int)) : Int := if labErr L ≠ 0 then labErr L else if risesB P && (allIn L.length P && !grewC L.length (ofL L.length P) L.length) then 0 else 10

theorem box2 {w w1 : World} {x y : Value} {t : TypeId} (hg : (w.alloc (.cells #[x, y] t)).grownBy w1 none) : w1.cell? ⟨w.heap.size, 0, none⟩ = some x ∧ w1.cell? ⟨w.heap.size, 1, none⟩ = some y ∧ w.grownBy w1 none := by
  have hb : w1.heap[w.heap.size]? = (w.alloc (.cells #[x, y] t)).heap[w.heap.size]? := hg.block _ (by simp) (by simp)
  refine ⟨(World.cell?_of_block (a := ⟨w.heap.size, 0, none⟩) hb).trans ?_, (World.cell?_of_block (a := ⟨w.heap.size, 1, none⟩) hb).trans ?_, grownBy_trans (World.grownBy_alloc w _ none) hg⟩
  · simp
  · simp

theorem chk_lab {L : List ByteArray} {P : List (Int × Int)} {k : Int} (h : labErr L = k) (hk : k ≠ 0) : chk L P = k := by unfold chk; rw [h, if_pos hk]
theorem chk_no {L : List ByteArray} {P : List (Int × Int)} (h : labErr L = 0) (hk : (risesB P && (allIn L.length P && !grewC L.length (ofL L.length P) L.length)) = false) : chk L P = 10 := by unfold chk; rw [h, if_neg (by simp), hk]; rfl
theorem chk_ok {L : List ByteArray} {P : List (Int × Int)} (h : labErr L = 0) (hk : (risesB P && (allIn L.length P && !grewC L.length (ofL L.length P) L.length)) = true) : chk L P = 0 := by unfold chk; rw [h, if_neg (by simp), hk]; rfl
theorem lab_small {L : List ByteArray} (h : labErr L = 0) : L.length ≤ 40 := by
  unfold labErr at h
  by_cases e : 40 < L.length
  · rw [if_pos e] at h; cases h
  · omega

def ReadPost (L : List ByteArray) (P : List (Int × Int)) (w : World) (e : Ending) (w' : World) : Prop :=
  w.grownBy w' none ∧ ((chk L P = 0 ∧ ∃ r, e = .returned (.tuple #[.pointer (some ⟨r, 0, none⟩), .int .i64 0]) ∧ IsRel w' w.heap.size w'.heap.size r L.length (ofL L.length P)) ∨
    (chk L P ≠ 0 ∧ e = .returned (.tuple #[.pointer none, .int .i64 (chk L P)])))

/-- The object's elements, its relation. -/
def objN (L : List ByteArray) (P : List (Int × Int)) : Nat := if chk L P = 0 then L.length else 0
def objR (L : List ByteArray) (P : List (Int × Int)) : Nat → Nat → Bool := if chk L P = 0 then ofL L.length P else fun _ _ => false

end Go.Proofs.YtcfhnfnhdhloiaaGreat
/-! The contracts of fresh, Copy, Make, Same of package obj. -/
namespace Go.Proofs.YtcfhnfnhdhloiaaGreat
open Go.RowKit

theorem Tryz.info9 : (Tryz.prog.info? 9).map (fun i => (i.zero, i.size, i.bytes)) = some (some (.string .empty), 1, 16) := by kernel_rfl

/-- The cells of strings. -/
def scells (l : List ByteArray) : List Value := l.map .string
theorem scells_get {l : List ByteArray} {k : Nat} (hk : k < l.length) : (scells l)[k]? = some (.string (l[k]?.getD .empty)) := by
  unfold scells
  rw [List.getElem?_map, List.getElem?_eq_getElem hk]
  rfl
theorem scells_one (l : List ByteArray) : ∀ u ∈ scells l, u.oneCell' = true := by
  intro u hu
  unfold scells at hu
  rw [List.mem_map] at hu
  obtain ⟨x, _, rfl⟩ := hu
  rfl
theorem pcells_one' (l : List (Int × Int)) : ∀ u ∈ pcells l, u.oneCell' = true := by
  intro u hu
  unfold pcells at hu
  rw [List.mem_flatMap] at hu
  obtain ⟨x, _, hx⟩ := hu
  simp only [List.mem_cons, List.not_mem_nil, or_false] at hx
  rcases hx with rfl | rfl <;> rfl

theorem add_off (b off j : Nat) : (⟨b, off, none⟩ : Addr).add j = ⟨b, off + j, none⟩ := by unfold Addr.add; split <;> simp_all

theorem strsAt_own {w : World} {base : Nat} {v : Value} {l : List ByteArray} (h : w.ownsRow base 9 1 v l.length (scells l)) :
    ∃ p c, v = .slice p l.length c ∧ StrsAt w base w.heap.size p l.length l := by
  rcases h.2 with ⟨rfl, h0⟩ | ⟨g, cap, cur, rfl, hb, hg, _⟩
  · rw [h0]; exact ⟨none, 0, rfl, h0, fun h => absurd h (by omega)⟩
  · refine ⟨_, cap, rfl, rfl, fun hn => ⟨g, 0, rfl, hb, (Array.getElem?_eq_some_iff.1 hg).1, Nat.le_refl _, fun k hk => ?_⟩⟩
    have hc := h.cells (g := g) rfl k _ (scells_get hk)
    rw [add_off] at hc
    exact hc

theorem strs_news {w : World} {lo hi n : Nat} {ad : Addr} {l : List ByteArray} (h : StrsAt w lo hi (some ad) n l) : ∀ j u, (scells l)[j]? = some u → w.cell? (ad.add j) = some u := by
  intro j u hu
  have hj : j < l.length := by
    rcases Nat.lt_or_ge j l.length with h | h
    · exact h
    · rw [List.getElem?_eq_none (by unfold scells; simpa using h)] at hu; cases hu
  rw [scells_get hj] at hu
  cases hu
  have hl := h.len
  obtain ⟨b', off', e, _, _, _, hc⟩ := h.cell (by omega)
  cases e
  rw [add_off]
  exact hc j (by omega)

theorem pairs_news {w : World} {lo hi n : Nat} {ad : Addr} {l : List (Int × Int)} (h : PairsAt w lo hi (some ad) n l) : ∀ j u, (pcells l)[j]? = some u → w.cell? (ad.add j) = some u := by
  intro j u hu
  have hj : j < l.length * 2 := by
    rcases Nat.lt_or_ge j (l.length * 2) with h | h
    · exact h
    · rw [List.getElem?_eq_none (by rw [pcells_len]; exact h)] at hu; cases hu
  have hl := h.len
  obtain ⟨b', off', e, _, _, _, hc⟩ := h.cell (by omega)
  cases e
  rw [add_off]
  have hk := pcells_get l (j / 2) (by omega)
  have hk2 := hc (j / 2) (by omega)
  rcases Nat.mod_two_eq_zero_or_one j with e | e
  · have ej : j = j / 2 * 2 := by omega
    rw [← ej] at hk
    rw [hk.1] at hu
    cases hu
    rw [← ej] at hk2
    exact hk2.1
  · have ej : j = j / 2 * 2 + 1 := by omega
    have h2 := hk.2
    rw [← ej] at h2
    rw [h2] at hu
    cases hu
    have h3 := hk2.2
    rw [Nat.add_assoc, ← ej] at h3
    exact h3

/-- What hands back a new slice of strings. -/
def StrsPost (l : List ByteArray) (w : World) (e : Ending) (w' : World) : Prop :=
  ∃ v, e = .returned v ∧ w'.ownsRow w.heap.size 9 1 v l.length (scells l) ∧ w.grownBy w' none

end Go.Proofs.YtcfhnfnhdhloiaaGreat
/-! The contracts of slices.Equal over strings and pairs, Same of package obj. -/
namespace Go.Proofs.YtcfhnfnhdhloiaaGreat
open Go.RowKit

theorem str_eq {a b : ByteArray} : (a.toList == b.toList) = decide (a = b) := by
  by_cases h : a = b
  · rw [h]; simp
  · rw [decide_eq_false h]
    rw [beq_eq_false_iff_ne]
    intro e
    rw [ByteArray.toList_eq, ByteArray.toList_eq] at e
    exact h (by cases a; cases b; simp at e; rw [e])

theorem take_eqS {l1 l2 : List ByteArray} {k : Nat} (h1 : k < l1.length) (h2 : k < l2.length) (h : l1.take k = l2.take k) (e : l1[k]?.getD .empty = l2[k]?.getD .empty) : l1.take (k + 1) = l2.take (k + 1) := by
  rw [List.getElem?_eq_getElem h1, List.getElem?_eq_getElem h2] at e
  simp only [Option.getD_some] at e
  rw [List.take_succ_eq_append_getElem h1, List.take_succ_eq_append_getElem h2, h, e]

set_option maxHeartbeats 1000000 in
theorem eqS_r (p1 p2 : Option Addr) (n1 n2 c1 c2 lo1 hi1 lo2 hi2 : Nat) (l1 l2 : List ByteArray) (r : Bool) (w : World) (h1 : StrsAt w lo1 hi1 p1 n1 l1) (h2 : StrsAt w lo2 hi2 p2 n2 l2) (hs : n1 ≤ 1000000) (hr : decide (l1 = l2) = r) :
    Calls Tryz.prog 43 #[.slice p1 n1 c1, .slice p2 n2 c2] w fun e w' => e = .returned (.bool r) ∧ w.grownBy w' none := by
  by_cases hl : n1 = n2
  · obtain rfl : n1 = n2 := hl
    have hb : ((n1 : Int) != (n1 : Int)) = false := by simp
    have H1 := Lib.hid h1
    have H2 := Lib.hid h2
    have HR := Lib.hid hr
    clear h1 h2 hr
    go_enter Tryz.func43, Tryz.ntmps43
    go_wp2
    go_loopw [13] (fun i wr => ∃ k : Nat, k ≤ n1 ∧ i = .int .i64 k ∧ Hid (l1.take k = l2.take k) ∧ w.grownBy wr none) (fun i _ => n1 - (intOf i).toNat)
    case atStart => exact ⟨0, Nat.zero_le _, rfl, Lib.hid rfl, grownBy_refl _ _⟩
    case round =>
      obtain ⟨k, hk, rfl, HT, hgr⟩ := hrel
      by_cases hkn : k < n1
      · obtain ⟨b1, o1, rfl, q1, q2, q3, hc1⟩ := (H1.out.calm hgr).cell (by omega)
        obtain ⟨b2, o2, rfl, r1, r2, r3, hc2⟩ := (H2.out.calm hgr).cell (by omega)
        have x1 := hc1 k hkn
        have y1 := hc2 k hkn
        clear hc1 hc2
        have k0 : (0 : Int) ≤ k := by omega
        have k1 : (k : Int) < n1 := by omega
        by_cases heq : l1[k]?.getD .empty = l2[k]?.getD .empty
        · have HT2 := Lib.hid (take_eqS (by rw [H1.out.len]; exact hkn) (by rw [H2.out.len]; exact hkn) HT.out heq)
          have hN : ((l1[k]?.getD .empty).toList == (l2[k]?.getD .empty).toList) = true := by rw [str_eq]; simpa using heq
          clear heq
          generalize l1[k]?.getD .empty = u at *
          generalize l2[k]?.getD .empty = v at *
          go_wp2
          go_quiet (fail)
          go_wp2
          exact ⟨⟨k + 1, by omega, by go_num, HT2, grownBy_trans hgr (grownBy_drewN _ _ none)⟩, by simp [intOf]; omega⟩
        · have hN : ((l1[k]?.getD .empty).toList == (l2[k]?.getD .empty).toList) = false := by rw [str_eq]; simpa using heq
          have hrf : r = false := by
            rw [← HR.out, decide_eq_false_iff_not]
            intro e
            exact heq (by rw [e])
          subst hrf
          clear heq
          generalize l1[k]?.getD .empty = u at *
          generalize l2[k]?.getD .empty = v at *
          go_wp2
          go_quiet (fail)
          go_wp2
          go_ret
          exact ⟨rfl, grownBy_trans hgr (grownBy_drewN _ _ none)⟩
      · obtain rfl : k = n1 := by omega
        have hrt : r = true := by
          have := HT.out
          rw [List.take_of_length_le (by rw [H1.out.len]; exact Nat.le_refl _), List.take_of_length_le (by rw [H2.out.len]; exact Nat.le_refl _)] at this
          rw [← HR.out]
          simpa using this
        subst hrt
        go_wp2
        go_ret
        exact ⟨rfl, hgr⟩
  · have hb : ((n1 : Int) != (n2 : Int)) = true := by simp; omega
    have hrf : r = false := by
      rw [← hr, decide_eq_false_iff_not]
      intro e
      exact hl (by rw [← h1.len, ← h2.len, e])
    subst hrf
    clear h1 h2 hl hr
    go_enter Tryz.func43, Tryz.ntmps43
    go_wp2
    go_ret
    exact ⟨rfl, grownBy_refl _ _⟩

/-- Two boxes laid by a call's beginning. -/
theorem box22 {w w1 : World} {x y x' y' : Value} {t : TypeId} (hg : ((w.alloc (.cells #[x, y] t)).alloc (.cells #[x', y'] t)).grownBy w1 none) :
    (w1.cell? ⟨w.heap.size, 0, none⟩ = some x ∧ w1.cell? ⟨w.heap.size, 1, none⟩ = some y) ∧ (w1.cell? ⟨w.heap.size + 1, 0, none⟩ = some x' ∧ w1.cell? ⟨w.heap.size + 1, 1, none⟩ = some y') ∧ w.grownBy w1 none := by
  have h2 := box2 hg
  have h1 := box2 h2.2.2
  rw [World.size_alloc] at h2
  exact ⟨⟨h1.1, h1.2.1⟩, ⟨h2.1, h2.2.1⟩, h1.2.2⟩

end Go.Proofs.YtcfhnfnhdhloiaaGreat
/-! The contracts of Copy and Make of package obj. -/
namespace Go.Proofs.YtcfhnfnhdhloiaaGreat
open Go.RowKit

theorem ownsRow_calm {w w' : World} {base : Nat} {e : TypeId} {size n : Nat} {v : Value} {xs : List Value} (h : w.ownsRow base e size v n xs) (hg : w.grownBy w' none) : w'.ownsRow base e size v n xs := by
  refine ⟨h.1, ?_⟩
  rcases h.2 with ⟨rfl, h0⟩ | ⟨g, cap, cur, rfl, hb, hh, h1, h2, h3, h4⟩
  · exact .inl ⟨rfl, h0⟩
  · exact .inr ⟨g, cap, cur, rfl, hb, (hg.block g (Array.getElem?_eq_some_iff.1 hh).1 (by simp)).trans hh, h1, h2, h3, h4⟩
theorem ownsRow_down {w : World} {base base' : Nat} {e : TypeId} {size n : Nat} {v : Value} {xs : List Value} (h : w.ownsRow base e size v n xs) (hb' : base' ≤ base) : w.ownsRow base' e size v n xs := by
  refine ⟨h.1, ?_⟩
  rcases h.2 with ⟨rfl, h0⟩ | ⟨g, cap, cur, rfl, hb, hh, h1, h2, h3, h4⟩
  · exact .inl ⟨rfl, h0⟩
  · exact .inr ⟨g, cap, cur, rfl, Nat.le_trans hb' hb, hh, h1, h2, h3, h4⟩

/-- The last block, laid by a call's beginning, can still be written. -/
theorem box2f {w w1 : World} {x y : Value} {t : TypeId} (hg : (w.alloc (.cells #[x, y] t)).grownBy w1 none) : w1.frozen? ⟨w.heap.size, 0, none⟩ = false ∧ w1.frozen? ⟨w.heap.size, 1, none⟩ = false := by
  have hb : w1.heap[w.heap.size]? = (w.alloc (.cells #[x, y] t)).heap[w.heap.size]? := hg.block _ (by simp) (by simp)
  refine ⟨(World.frozen?_of_block (a := ⟨w.heap.size, 0, none⟩) hb).trans ?_, (World.frozen?_of_block (a := ⟨w.heap.size, 1, none⟩) hb).trans ?_⟩
  · simp
  · simp

theorem grownBy_setCell_new {w w1 : World} {p : Addr} (v : Value) (hg : w.grownBy w1 none) (hp : w.heap.size ≤ p.block) : w.grownBy (w1.setCell p v) none := grownBy_new hg (grownBy_setCell w1 p v) hp

def nilObj : Value := .agg #[.slice none 0 0, .slice none 0 0]

end Go.Proofs.YtcfhnfnhdhloiaaGreat
