/- Package arrow: maps (slices of ints) in memory, the contracts of all its functions but Injective. -/
import Derived.Test.YtemnbkenihldgaaDoorObja
import Derived.Laws.CopyOwn
import Derived.Deep.AppendLies
/-! Package arrow: maps in memory, the contracts of has, Then, Identity, Same. -/
namespace Go.Proofs.YtemnbkenihldgaaDoor
open Go.RowKit

/-- A slice of ints that reads as l, in a block from lo to hi. -/
structure ZsAt (w : World) (lo hi : Nat) (p : Option Addr) (n : Nat) (l : List Int) : Prop where
  len : l.length = n
  cell : 0 < n → ∃ b off, p = some ⟨b, off, none⟩ ∧ lo ≤ b ∧ b < hi ∧ hi ≤ w.heap.size ∧ ∀ k, k < n → w.cell? ⟨b, off + k, none⟩ = some (.int .i64 (l[k]?.getD 0))

theorem ZsAt.calm {w w' : World} {lo hi : Nat} {p : Option Addr} {n : Nat} {l : List Int} (h : ZsAt w lo hi p n l) (hg : w.grownBy w' none) : ZsAt w' lo hi p n l := by
  refine ⟨h.len, fun hn => ?_⟩
  obtain ⟨b, off, hp, h1, h2, h3, hc⟩ := h.cell hn
  have hb : w'.heap[b]? = w.heap[b]? := hg.block b (by omega) (by simp)
  exact ⟨b, off, hp, h1, h2, Nat.le_trans h3 hg.size, fun k hk => (World.cell?_of_block (a := ⟨b, off + k, none⟩) hb).trans (hc k hk)⟩
theorem ZsAt.apart {w w' : World} {lo hi lo' hi' : Nat} {p : Option Addr} {n : Nat} {l : List Int} (h : ZsAt w lo hi p n l) (hg : Kept lo' hi' w w') (hd : hi ≤ lo' ∨ hi' ≤ lo) : ZsAt w' lo hi p n l := by
  refine ⟨h.len, fun hn => ?_⟩
  obtain ⟨b, off, hp, h1, h2, h3, hc⟩ := h.cell hn
  have hb : w'.heap[b]? = w.heap[b]? := hg.block b (by omega) (by omega)
  exact ⟨b, off, hp, h1, h2, Nat.le_trans h3 hg.size, fun k hk => (World.cell?_of_block (a := ⟨b, off + k, none⟩) hb).trans (hc k hk)⟩
theorem ZsAt.wider {w : World} {lo hi : Nat} {p : Option Addr} {n : Nat} {l : List Int} (h : ZsAt w lo hi p n l) {lo' hi' : Nat} (h1 : lo' ≤ lo) (h2 : hi ≤ hi') (h3 : hi' ≤ w.heap.size) : ZsAt w lo' hi' p n l :=
  ⟨h.len, fun hn => by
    obtain ⟨b, off, hp, k1, k2, k3, hc⟩ := h.cell hn
    exact ⟨b, off, hp, by omega, by omega, h3, hc⟩⟩
theorem zsAt_nil (w : World) (lo hi : Nat) : ZsAt w lo hi none 0 [] := ⟨rfl, fun h => absurd h (by omega)⟩

theorem Tryd.infoZ3 : (Tryd.prog.info? 3).map (fun i => (i.zero, i.size, i.bytes)) = some (some (.int .i64 0), 1, 8) := by kernel_rfl

/-- The cells of ints. -/
def zcells (l : List Int) : List Value := l.map (.int .i64)
theorem zcells_len (l : List Int) : (zcells l).length = l.length := by simp [zcells]
theorem zcells_get {l : List Int} {k : Nat} (hk : k < l.length) : (zcells l)[k]? = some (.int .i64 (l[k]?.getD 0)) := by
  unfold zcells
  rw [List.getElem?_map, List.getElem?_eq_getElem hk]
  rfl
theorem zcells_one (l : List Int) : ∀ u ∈ zcells l, u.oneCell' = true := by
  intro u hu
  unfold zcells at hu
  rw [List.mem_map] at hu
  obtain ⟨x, _, rfl⟩ := hu
  rfl
theorem zcells_snoc (l : List Int) (x : Int) : zcells (l ++ [x]) = zcells l ++ [.int .i64 x] := by simp [zcells]

theorem zsAt_own {w : World} {base : Nat} {v : Value} {l : List Int} (h : w.ownsRow base 3 1 v l.length (zcells l)) :
    ∃ p c, v = .slice p l.length c ∧ ZsAt w base w.heap.size p l.length l := by
  rcases h.2 with ⟨rfl, h0⟩ | ⟨g, cap, cur, rfl, hb, hg, _⟩
  · rw [h0]; exact ⟨none, 0, rfl, h0, fun h => absurd h (by omega)⟩
  · refine ⟨_, cap, rfl, rfl, fun hn => ⟨g, 0, rfl, hb, (Array.getElem?_eq_some_iff.1 hg).1, Nat.le_refl _, fun k hk => ?_⟩⟩
    have hc := h.cells (g := g) rfl k _ (zcells_get hk)
    rw [add_off] at hc
    exact hc
theorem zs_news {w : World} {lo hi n : Nat} {ad : Addr} {l : List Int} (h : ZsAt w lo hi (some ad) n l) : ∀ j u, (zcells l)[j]? = some u → w.cell? (ad.add j) = some u := by
  intro j u hu
  have hj : j < l.length := by
    rcases Nat.lt_or_ge j l.length with h | h
    · exact h
    · rw [List.getElem?_eq_none (by unfold zcells; simpa using h)] at hu; cases hu
  rw [zcells_get hj] at hu
  cases hu
  have hl := h.len
  obtain ⟨b', off', e, _, _, _, hc⟩ := h.cell (by omega)
  cases e
  rw [add_off]
  exact hc j (by omega)

/-- A row of ints that is known whole. -/
def RowZ (w : World) (g : Nat) (l : List Int) : Prop := w.heap[g]? = some (.cells (zcells l).toArray 3 (0, 0))
theorem RowZ.lt {w : World} {g : Nat} {l : List Int} (h : RowZ w g l) : g < w.heap.size := (Array.getElem?_eq_some_iff.1 h).1
theorem RowZ.cell {w : World} {g : Nat} {l : List Int} (h : RowZ w g l) {k : Nat} (hk : k < l.length) : w.cell? ⟨g, k, none⟩ = some (.int .i64 (l[k]?.getD 0)) := by
  have h' : w.heap[g]? = some (.cells (zcells l).toArray 3 (0, 0)) := h
  simp only [World.cell?, h', List.getElem?_toArray]
  exact zcells_get hk
theorem RowZ.free {w : World} {g : Nat} {l : List Int} (h : RowZ w g l) (k : Nat) : w.frozen? ⟨g, k, none⟩ = false := by
  have h' : w.heap[g]? = some (.cells (zcells l).toArray 3 (0, 0)) := h
  simp [World.frozen?, h']
theorem RowZ.calm {w w' : World} {g : Nat} {l : List Int} (h : RowZ w g l) (hg : w.grownBy w' none) : RowZ w' g l := (hg.block g h.lt (by simp)).trans h
theorem RowZ.other {w w' : World} {g r : Nat} {l : List Int} (h : RowZ w g l) (hg : w.grownBy w' (some r)) (hr : r ≠ g) : RowZ w' g l := (hg.block g h.lt (by simpa using fun e => hr e.symm)).trans h
theorem RowZ.at {w : World} {g : Nat} {l : List Int} (h : RowZ w g l) {lo : Nat} (hl : lo ≤ g) : ZsAt w lo w.heap.size (some ⟨g, 0, none⟩) l.length l :=
  ⟨rfl, fun _ => ⟨g, 0, rfl, hl, h.lt, Nat.le_refl _, fun k hk => by rw [Nat.zero_add]; exact h.cell hk⟩⟩
theorem RowZ.at1 {w : World} {g : Nat} {l : List Int} (h : RowZ w g l) : ZsAt w g (g + 1) (some ⟨g, 0, none⟩) l.length l :=
  ⟨rfl, fun _ => ⟨g, 0, rfl, Nat.le_refl _, by omega, h.lt, fun k hk => by rw [Nat.zero_add]; exact h.cell hk⟩⟩
theorem RowZ.set {w : World} {g : Nat} {l : List Int} (h : RowZ w g l) {k : Nat} (z : Int) : RowZ (w.setCell ⟨g, k, none⟩ (.int .i64 z)) g (l.set k z) := by
  have h' : w.heap[g]? = some (.cells (zcells l).toArray 3 (0, 0)) := h
  have h2 := heap_setCell_same w g k _ _ (.int .i64 z) h'
  rw [List.setIfInBounds_toArray] at h2
  unfold RowZ
  rw [h2]
  simp [zcells, List.map_set]
theorem rowZ_made (w : World) (n : Nat) : RowZ (w.alloc (.cells (madeCells #[.int .i64 0] n) 3)) w.heap.size (List.replicate n 0) := by
  have h := World.alloc_heap_new w (.cells (madeCells #[.int .i64 0] n) 3)
  have e : madeCells #[.int .i64 0] n = (zcells (List.replicate n 0)).toArray := by
    apply Array.ext
    · simp [madeCells, zcells]
    · intro i h1 h2
      simp [madeCells, zcells, Nat.mod_one]
  rw [e] at h
  rw [e]
  exact h

/-- Whether there is such a place among n. -/
def hasZ (n : Nat) (z : Int) : Bool := decide (0 ≤ z) && decide (z < n)
theorem hasZ_iff {n : Nat} {z : Int} : hasZ n z = true ↔ 0 ≤ z ∧ z < n := by simp [hasZ]
theorem hasZ_not {n : Nat} {z : Int} : hasZ n z = false ↔ z < 0 ∨ (n : Int) ≤ z := by
  rw [← Bool.not_eq_true, hasZ_iff]; omega

theorem aHas_r (n : Nat) (z : Int) (r : Bool) (w : World) (hr : hasZ n z = r) : Calls Tryd.prog 52 #[.int .i64 n, .int .i64 z] w fun e w' => e = .returned (.bool r) ∧ w' = w := by
  by_cases h0 : z < 0
  · obtain rfl : r = false := by rw [← hr, hasZ_not]; exact .inl h0
    clear hr
    go_enter Tryd.func52, Tryd.ntmps52
    go_wp2
    go_ret
    exact ⟨rfl, rfl⟩
  · have h1 : 0 ≤ z := by omega
    by_cases h2 : z < n
    · obtain rfl : r = true := by rw [← hr, hasZ_iff]; exact ⟨h1, h2⟩
      clear hr
      go_enter Tryd.func52, Tryd.ntmps52
      go_wp2
      go_ret
      exact ⟨rfl, rfl⟩
    · obtain rfl : r = false := by rw [← hr, hasZ_not]; exact .inr (by omega)
      have h3 : decide (z < n) = false := by simp; omega
      clear hr
      go_enter Tryd.func52, Tryd.ntmps52
      go_wp2
      go_ret
      exact ⟨rfl, rfl⟩

theorem take_eqZ {l1 l2 : List Int} {k : Nat} (h1 : k < l1.length) (h2 : k < l2.length) (h : l1.take k = l2.take k) (e : l1[k]?.getD 0 = l2[k]?.getD 0) : l1.take (k + 1) = l2.take (k + 1) := by
  rw [List.getElem?_eq_getElem h1, List.getElem?_eq_getElem h2] at e
  simp only [Option.getD_some] at e
  rw [List.take_succ_eq_append_getElem h1, List.take_succ_eq_append_getElem h2, h, e]

set_option maxHeartbeats 1000000 in
theorem eqZ_r (p1 p2 : Option Addr) (n1 n2 c1 c2 lo1 hi1 lo2 hi2 : Nat) (l1 l2 : List Int) (r : Bool) (w : World) (h1 : ZsAt w lo1 hi1 p1 n1 l1) (h2 : ZsAt w lo2 hi2 p2 n2 l2) (hs : n1 ≤ 1000000) (hr : decide (l1 = l2) = r) :
    Calls Tryd.prog 53 #[.slice p1 n1 c1, .slice p2 n2 c2] w fun e w' => e = .returned (.bool r) ∧ w.grownBy w' none := by
  by_cases hl : n1 = n2
  · obtain rfl : n1 = n2 := hl
    have hb : ((n1 : Int) != (n1 : Int)) = false := by simp
    have H1 := Lib.hid h1
    have H2 := Lib.hid h2
    have HR := Lib.hid hr
    clear h1 h2 hr
    go_enter Tryd.func53, Tryd.ntmps53
    go_wp2
    go_loopw [13] (fun i wr => ∃ k : Nat, k ≤ n1 ∧ i = .int .i64 k ∧ Hid (l1.take k = l2.take k) ∧ w.grownBy wr none) (fun i _ => n1 - (intOf i).toNat)
    case atStart => exact ⟨0, Nat.zero_le _, rfl, Lib.hid rfl, grownBy_refl _ _⟩
    case round =>
      obtain ⟨k, hk, rfl, HT, hgr⟩ := hrel
      by_cases hkn : k < n1
      · obtain ⟨b1, o1, rfl, q1, q2, q3, hc1⟩ := (H1.out.calm hgr).cell (by omega)
        obtain ⟨b2, o2, rfl, r1, r2, r3, hc2⟩ := (H2.out.calm hgr).cell (by omega)
        have x1 := hc1 k hkn
        have y1 := hc2 k hkn
        clear hc1 hc2
        have k0 : (0 : Int) ≤ k := by omega
        have k1 : (k : Int) < n1 := by omega
        by_cases heq : l1[k]?.getD 0 = l2[k]?.getD 0
        · have HT2 := Lib.hid (take_eqZ (by rw [H1.out.len]; exact hkn) (by rw [H2.out.len]; exact hkn) HT.out heq)
          have hN : (l1[k]?.getD 0 != l2[k]?.getD 0) = false := by rw [heq]; simp
          clear heq
          generalize l1[k]?.getD 0 = u at *
          generalize l2[k]?.getD 0 = v at *
          go_wp2
          go_quiet (fail)
          go_wp2
          exact ⟨⟨k + 1, by omega, by go_num, HT2, grownBy_trans hgr (grownBy_drewN _ _ none)⟩, by simp [intOf]; omega⟩
        · have hN : (l1[k]?.getD 0 != l2[k]?.getD 0) = true := by simpa using heq
          have hrf : r = false := by
            rw [← HR.out, decide_eq_false_iff_not]
            intro e
            exact heq (by rw [e])
          subst hrf
          clear heq
          generalize l1[k]?.getD 0 = u at *
          generalize l2[k]?.getD 0 = v at *
          go_wp2
          go_quiet (fail)
          go_wp2
          go_ret
          exact ⟨rfl, grownBy_trans hgr (grownBy_drewN _ _ none)⟩
      · obtain rfl : k = n1 := by omega
        have hrt : r = true := by
          have := HT.out
          rw [List.take_of_length_le (by rw [H1.out.len]; exact Nat.le_refl _), List.take_of_length_le (by rw [H2.out.len]; exact Nat.le_refl _)] at this
          rw [← HR.out]
          simpa using this
        subst hrt
        go_wp2
        go_ret
        exact ⟨rfl, hgr⟩
  · have hb : ((n1 : Int) != (n2 : Int)) = true := by simp; omega
    have hrf : r = false := by
      rw [← hr, decide_eq_false_iff_not]
      intro e
      exact hl (by rw [← h1.len, ← h2.len, e])
    subst hrf
    clear h1 h2 hl hr
    go_enter Tryd.func53, Tryd.ntmps53
    go_wp2
    go_ret
    exact ⟨rfl, grownBy_refl _ _⟩

theorem arSame_r (p1 p2 : Option Addr) (n1 n2 c1 c2 lo1 hi1 lo2 hi2 : Nat) (l1 l2 : List Int) (r : Bool) (w : World) (h1 : ZsAt w lo1 hi1 p1 n1 l1) (h2 : ZsAt w lo2 hi2 p2 n2 l2) (hs : n1 ≤ 1000000) (hr : decide (l1 = l2) = r) :
    Calls Tryd.prog 34 #[.slice p1 n1 c1, .slice p2 n2 c2] w fun e w' => e = .returned (.bool r) ∧ w.grownBy w' none := by
  have H1 := Lib.hid h1
  have H2 := Lib.hid h2
  have HR := Lib.hid hr
  clear h1 h2 hr
  go_enter Tryd.func34, Tryd.ntmps34
  go_wp2_with fail
  refine (eqZ_r _ _ _ _ _ _ _ _ _ _ l1 l2 r _ H1.out H2.out hs HR.out).mono ?_
  rintro e w1 ⟨rfl, hg⟩
  have HG := Lib.hid hg
  clear hg
  go_wp2
  go_ret
  exact ⟨rfl, HG.out⟩

/-- g behind f. -/
def thenL (f g : List Int) : List Int := f.map fun z => g[z.toNat]?.getD 0
def thenB (f : List Int) (n : Nat) : Bool := f.all (hasZ n)
theorem thenL_len (f g : List Int) : (thenL f g).length = f.length := by simp [thenL]
theorem all_takeZ {l : List Int} {k : Nat} (f : Int → Bool) (hk : k < l.length) : (l.take (k + 1)).all f = ((l.take k).all f && f (l[k]?.getD 0)) := by
  rw [List.take_succ_eq_append_getElem hk, List.getElem?_eq_getElem hk]
  simp only [List.all_append, List.all_cons, List.all_nil, Bool.and_true, Option.getD_some]
theorem all_outZ {l : List Int} {k : Nat} (f : Int → Bool) (hk : k < l.length) (h : f (l[k]?.getD 0) = false) : l.all f = false := by
  rw [List.getElem?_eq_getElem hk] at h
  rw [Bool.eq_false_iff]
  intro e
  have := List.all_eq_true.1 e _ (List.getElem_mem hk)
  rw [show f l[k] = false from h] at this
  cases this

/-- Half way: the first k places are g's, the others f's. -/
def thenK (f g : List Int) (k : Nat) : List Int := thenL (f.take k) g ++ f.drop k
theorem thenK_len (f g : List Int) (k : Nat) : (thenK f g k).length = f.length := by
  unfold thenK; rw [List.length_append, thenL_len, List.length_take, List.length_drop]; omega
theorem thenK_zero (f g : List Int) : thenK f g 0 = f := by simp [thenK, thenL]
theorem thenK_end (f g : List Int) : thenK f g f.length = thenL f g := by simp [thenK]
theorem thenK_get {f g : List Int} {k : Nat} (hk : k < f.length) : (thenK f g k)[k]?.getD 0 = f[k]?.getD 0 := by
  unfold thenK
  rw [List.getElem?_append_right (by rw [thenL_len, List.length_take]; omega), thenL_len, List.length_take, List.getElem?_drop]
  congr 2; omega
theorem thenK_succ {f g : List Int} {k : Nat} (hk : k < f.length) : (thenK f g k).set k (g[(f[k]?.getD 0).toNat]?.getD 0) = thenK f g (k + 1) := by
  unfold thenK
  have e : (thenL (f.take k) g).length = k := by rw [thenL_len, List.length_take]; omega
  rw [List.set_append_right _ _ (by omega), e, Nat.sub_self, List.drop_eq_getElem_cons hk, List.set_cons_zero, List.take_succ_eq_append_getElem hk, List.getElem?_eq_getElem hk]
  simp only [thenL, List.map_append, List.map_cons, List.map_nil, Option.getD_some, List.append_assoc, List.singleton_append]

theorem grown_of_below {a b : World} (k : Below a.heap.size a b) : a.grownBy b none := ⟨k.os, k.tape, k.output, k.size, fun i hi _ => k.block i hi⟩
theorem Tryd.sizeZ3 : (Tryd.prog.info? 3).map (·.size) = some 1 := by kernel_rfl

set_option maxRecDepth 20000 in
/-- All of a map goes over into a new row. -/
theorem copy_run (w : World) (p : Option Addr) (n c lo hi : Nat) (f : List Int) (hf : ZsAt w lo hi p n f) :
    ∃ w2, (Builtin.copy_ #[28, 28] 3 #[.slice (some ⟨w.heap.size, 0, none⟩) n n, .slice p n c]).run Tryd.prog (w.alloc (.cells (madeCells #[.int .i64 0] n) 3)) = .ok (.int .i64 n) w2 ∧ Hid (RowZ w2 w.heap.size f) ∧ Hid (w.grownBy w2 none) := by
  have hga := World.grownBy_alloc w (.cells (madeCells #[.int .i64 0] n) 3) none
  have hrow := rowZ_made w n
  have hlen := hf.len
  by_cases h0 : n = 0
  · subst h0
    have hr := run_copy_none (P := Tryd.prog) (w.alloc (.cells (madeCells #[.int .i64 0] 0) 3)) 28 28 3 3 (some ⟨w.heap.size, 0, none⟩) p 0 0 0 c Tryd.underlying28 Tryd.sizeZ3 rfl
    obtain rfl : f = [] := List.eq_nil_of_length_eq_zero hlen
    exact ⟨_, hr, Lib.hid hrow, Lib.hid hga⟩
  · have ha := hf.calm hga
    obtain ⟨b, off, rfl, _⟩ := ha.cell (by omega)
    have hr := run_copy_row (P := Tryd.prog) (w.alloc (.cells (madeCells #[.int .i64 0] n) 3)) 28 28 3 3 w.heap.size 0 n n ⟨b, off, none⟩ n c _ _ (zcells f) Tryd.underlying28 Tryd.sizeZ3 hrow (by rw [zcells_len, hlen]; exact (Nat.min_self n).symm) (zs_news ha) (by simp [zcells, hlen]) (zcells_one f)
    rw [zcells_len, hlen] at hr
    refine ⟨_, hr, Lib.hid ?_, Lib.hid ?_⟩
    · have h2 := setRow_heap (w.alloc (.cells (madeCells #[.int .i64 0] n) 3)) w.heap.size _ (((zcells (List.replicate n 0)).toArray.toList.take 0 ++ zcells f ++ (zcells (List.replicate n 0)).toArray.toList.drop (0 + n)).toArray) 3 (0, 0) hrow
      unfold RowZ
      rw [h2]
      congr 2
      rw [List.take_zero, List.nil_append, Nat.zero_add, List.drop_eq_nil_of_le (by simp [zcells]), List.append_nil]
    · exact grown_of_below (below_setRow (grownBy_below hga) (Nat.le_refl _) _)

/-- What Then leaves: a row of its own, or nothing. -/
def ThenPost (f g : List Int) (w : World) (e : Ending) (w' : World) : Prop :=
  w.grownBy w' none ∧ ((thenB f g.length = true ∧ ∃ b, e = .returned (.tuple #[.slice (some ⟨b, 0, none⟩) f.length f.length, .bool true]) ∧ w.heap.size ≤ b ∧ RowZ w' b (thenL f g)) ∨
    (thenB f g.length = false ∧ e = .returned (.tuple #[.slice none 0 0, .bool false])))

set_option maxRecDepth 20000 in
set_option maxHeartbeats 1000000 in
theorem then_c (p q : Option Addr) (n c m d lo hi lo' hi' : Nat) (f g : List Int) (w : World) (hf : ZsAt w lo hi p n f) (hg : ZsAt w lo' hi' q m g) (hn : n ≤ 1000000) :
    Calls Tryd.prog 33 #[.slice p n c, .slice q m d] w (ThenPost f g w) := by
  have hmk := run_make_row' (P := Tryd.prog) 28 3 (.int .i64 0) 8 Tryd.underlying28 Tryd.infoZ3 rfl .i64 .i64 n (by omega) (by omega)
  obtain ⟨w2, hcp, HF2, HGR⟩ := copy_run w p n c lo hi f hf
  have HR2 : Hid (RowZ w2 w.heap.size (thenK f g 0)) := Lib.hid (by rw [thenK_zero]; exact HF2.out)
  have H1 := Lib.hid hf
  have H2 := Lib.hid hg
  have HM := Lib.hid hg.len
  have HN := Lib.hid hf.len
  clear hf hg HF2
  go_enter Tryd.func33, Tryd.ntmps33
  go_wp2
  generalize hgb : w.heap.size = gb at *
  have HGB := Lib.hid hgb
  clear hgb
  go_loopw [17] (fun i wr => ∃ k : Nat, k ≤ n ∧ i = .int .i64 k ∧ RowZ wr gb (thenK f g k) ∧ Hid ((f.take k).all (hasZ m) = true) ∧ w.grownBy wr none) (fun i _ => n - (intOf i).toNat)
  case atStart => exact ⟨0, Nat.zero_le _, rfl, HR2.out, Lib.hid rfl, HGR.out⟩
  case round =>
    obtain ⟨k, hk, rfl, hrow, HA, hgr⟩ := hrel
    by_cases hkn : k < n
    · have k0 : (0 : Int) ≤ k := by omega
      have k1 : (k : Int) < n := by omega
      have hc := hrow.cell (k := k) (by rw [thenK_len, HN.out]; exact hkn)
      have hfz := hrow.free k
      rw [thenK_get (by rw [HN.out]; exact hkn)] at hc
      have HS := Lib.hid (all_takeZ (hasZ m) (l := f) (k := k) (by rw [HN.out]; exact hkn))
      have HO := Lib.hid (fun h => all_outZ (hasZ m) (l := f) (k := k) (by rw [HN.out]; exact hkn) h)
      have HST := Lib.hid (thenK_succ (f := f) (g := g) (k := k) (by rw [HN.out]; exact hkn))
      have HROW := Lib.hid hrow
      have H3 := Lib.hid (H2.out.calm hgr)
      have HG3 := Lib.hid hgr
      clear hrow hgr HR2 HGR
      generalize f[k]?.getD 0 = z at *
      cases hz : hasZ m z
      · have HZ := Lib.hid hz
        clear hz
        go_wp2_with fail
        refine (aHas_r m z false _ HZ.out).mono ?_
        rintro e w3 ⟨rfl, h9⟩
        subst w3
        go_wp2
        go_ret2
        exact ⟨HG3.out, .inr ⟨by rw [HM.out]; exact HO.out HZ.out, rfl⟩⟩
      · obtain ⟨z0, z1⟩ := hasZ_iff.1 hz
        obtain ⟨y, rfl⟩ := Int.eq_ofNat_of_zero_le z0
        have hy : y < m := by omega
        obtain ⟨b2, o2, rfl, r1, r2, r3, hc2⟩ := H3.out.cell (by omega)
        have y1 := hc2 y hy
        have HZ := Lib.hid hz
        clear hc2 hz
        go_wp2_with fail
        refine (aHas_r m y true _ HZ.out).mono ?_
        rintro e w3 ⟨rfl, h9⟩
        subst w3
        have HSET := Lib.hid (HROW.out.set (k := k) (g[y]?.getD 0))
        have HGS := Lib.hid (grownBy_new HG3.out (grownBy_setCell wr ⟨gb, k, none⟩ (.int .i64 (g[y]?.getD 0))) (by rw [HGB.out]; exact Nat.le_refl _))
        have HST2 : Hid ((thenK f g k).set k (g[y]?.getD 0) = thenK f g (k + 1)) := Lib.hid HST.out
        generalize g[y]?.getD 0 = v at *
        go_wp2
        exact ⟨⟨k + 1, by omega, by go_num, by rw [← HST2.out]; exact HSET.out, Lib.hid (by rw [HS.out, HA.out, HZ.out]; rfl), HGS.out⟩, by simp [intOf]; omega⟩
    · obtain rfl : k = n := by omega
      have HROW := Lib.hid hrow
      have HGR := Lib.hid hgr
      clear hrow hgr
      go_wp2
      go_ret2
      refine ⟨HGR.out, .inl ⟨?_, gb, by rw [HN.out]; rfl, by rw [HGB.out]; exact Nat.le_refl _, ?_⟩⟩
      · have := HA.out
        rw [List.take_of_length_le (by rw [HN.out]; exact Nat.le_refl _)] at this
        unfold thenB
        rw [HM.out]
        exact this
      · have := HROW.out
        rw [← HN.out, thenK_end] at this
        exact this

/-- What moves nothing. -/
def idL (n : Nat) : List Int := (List.range n).map fun i : Nat => (i : Int)
theorem idL_len (n : Nat) : (idL n).length = n := by simp [idL]
theorem idL_succ (n : Nat) : idL (n + 1) = idL n ++ [(n : Int)] := by simp [idL, List.range_succ]
def idK (n k : Nat) : List Int := idL k ++ List.replicate (n - k) 0
theorem idK_len {n k : Nat} (h : k ≤ n) : (idK n k).length = n := by simp [idK, idL_len]; omega
theorem idK_end (n : Nat) : idK n n = idL n := by simp [idK]
theorem idK_succ {n k : Nat} (h : k < n) : (idK n k).set k (k : Int) = idK n (k + 1) := by
  unfold idK
  have e : n - k = (n - (k + 1)) + 1 := by omega
  rw [List.set_append_right _ _ (by rw [idL_len]; omega), idL_len, Nat.sub_self, e, List.replicate_succ, List.set_cons_zero, idL_succ, List.append_assoc, List.singleton_append]

/-- A row of ints of its own. -/
def RowPost (l : List Int) (w : World) (e : Ending) (w' : World) : Prop := ∃ b, e = .returned (.slice (some ⟨b, 0, none⟩) l.length l.length) ∧ w.heap.size ≤ b ∧ RowZ w' b l ∧ w.grownBy w' none
/-- How many places an identity of z has. -/
def idN (z : Int) : Nat := (min (max z 0) 40).toNat

theorem ident_end (n : Nat) (w : World) : Hid (RowZ (w.alloc (.cells (madeCells #[.int .i64 0] n) 3)) w.heap.size (idK n 0)) ∧ Hid (w.grownBy (w.alloc (.cells (madeCells #[.int .i64 0] n) 3)) none) :=
  ⟨Lib.hid (by have := rowZ_made w n; simpa [idK, idL] using this), Lib.hid (World.grownBy_alloc _ _ _)⟩

theorem idN_nat {n : Nat} (h : n ≤ 40) : idN n = n := by unfold idN; omega

end Go.Proofs.YtemnbkenihldgaaDoor
/-! Package arrow: the contracts of keepsLabels, keepsPairs, Is, movesNothing, Inverse. -/
namespace Go.Proofs.YtemnbkenihldgaaDoor
open Go.RowKit

/-- The i-th element goes to one with the same label. -/
def lab1 (L L' : List ByteArray) (f : List Int) (i : Nat) : Bool := hasZ L'.length (f[i]?.getD 0) && decide (L[i]?.getD .empty = L'[(f[i]?.getD 0).toNat]?.getD .empty)
def labK (L L' : List ByteArray) (f : List Int) (k : Nat) : Bool := (List.range k).all (lab1 L L' f)
def labB (L L' : List ByteArray) (f : List Int) : Bool := decide (f.length = L.length) && labK L L' f f.length
theorem labK_succ (L L' : List ByteArray) (f : List Int) (k : Nat) : labK L L' f (k + 1) = (labK L L' f k && lab1 L L' f k) := by simp [labK, List.range_succ]
theorem labK_not {L L' : List ByteArray} {f : List Int} {k m : Nat} (hk : k < m) (h : lab1 L L' f k = false) : labK L L' f m = false := by
  rw [Bool.eq_false_iff]
  intro e
  have := List.all_eq_true.1 e k (List.mem_range.2 hk)
  rw [h] at this
  cases this
/-- A pair stays one. -/
def pr1 (N : Nat) (R : Nat → Nat → Bool) (f : List Int) (x : Int × Int) : Bool := hasI N R (f[x.1.toNat]?.getD 0) (f[x.2.toNat]?.getD 0)
def prB (N : Nat) (R : Nat → Nat → Bool) (P : List (Int × Int)) (f : List Int) : Bool := P.all (pr1 N R f)
theorem prB_succ {N : Nat} {R : Nat → Nat → Bool} {P : List (Int × Int)} {f : List Int} {k : Nat} (hk : k < P.length) : prB N R (P.take (k + 1)) f = (prB N R (P.take k) f && pr1 N R f (P[k]?.getD (0, 0))) := by
  unfold prB
  rw [List.take_succ_eq_append_getElem hk, List.getElem?_eq_getElem hk]
  simp only [List.all_append, List.all_cons, List.all_nil, Bool.and_true, Option.getD_some]
theorem prB_not {N : Nat} {R : Nat → Nat → Bool} {P : List (Int × Int)} {f : List Int} {k : Nat} (hk : k < P.length) (h : pr1 N R f (P[k]?.getD (0, 0)) = false) : prB N R P f = false := by
  rw [List.getElem?_eq_getElem hk] at h
  rw [Bool.eq_false_iff]
  intro e
  have := List.all_eq_true.1 e _ (List.getElem_mem hk)
  rw [show pr1 N R f P[k] = false from h] at this
  cases this
/-- Whether f is an arrow. -/
def arB (L : List ByteArray) (P : List (Int × Int)) (L' : List ByteArray) (P' : List (Int × Int)) (f : List Int) : Bool :=
  (chk L P == 0) && ((chk L' P' == 0) && (labB L L' f && prB (objN L' P') (objR L' P') P f))

set_option maxRecDepth 20000 in
set_option maxHeartbeats 1000000 in
theorem keepsLab_r (p q p' q' pf : Option Addr) (n c m d n' c' m' d' nf cf lo hi lo' hi' lof hif : Nat) (L L' : List ByteArray) (P P' : List (Int × Int)) (f : List Int) (r : Bool) (w : World) (h : ObjAt w lo hi p n q m L P) (h' : ObjAt w lo' hi' p' n' q' m' L' P') (hf : ZsAt w lof hif pf nf f) (hn : nf ≤ 1000000)
    (hr : labB L L' f = r) :
    Calls Tryd.prog 50 #[.agg #[.slice p n c, .slice q m d], .agg #[.slice p' n' c', .slice q' m' d'], .slice pf nf cf] w fun e w' => e = .returned (.bool r) ∧ w.grownBy w' none := by
  have hg0 := grownBy_trans (World.grownBy_alloc w (.cells #[.slice p n c, .slice q m d] 25) none) (World.grownBy_alloc _ (.cells #[.slice p' n' c', .slice q' m' d'] 25) none)
  have HG0 := Lib.hid hg0
  by_cases hl : nf = n
  · subst hl
    have hb : ((nf : Int) != (nf : Int)) = false := by simp
    have H1 := Lib.hid (h.calm hg0)
    have H2 := Lib.hid (h'.calm hg0)
    have HF := Lib.hid (hf.calm hg0)
    have HLF := Lib.hid hf.len
    have HLL := Lib.hid h.ls.len
    have HLL' := Lib.hid h'.ls.len
    have HR : Hid (labK L L' f nf = r) := Lib.hid (by rw [← hr]; unfold labB; rw [hf.len, h.ls.len]; simp)
    clear h h' hf hr hg0
    go_enter Tryd.func50, Tryd.ntmps50
    go_wp2
    go_loopw [17] (fun i wr => ∃ k : Nat, k ≤ nf ∧ i = .int .i64 k ∧ Hid (labK L L' f k = true) ∧ ((w.alloc (.cells #[.slice p nf c, .slice q m d] 25)).alloc (.cells #[.slice p' n' c', .slice q' m' d'] 25)).grownBy wr none) (fun i _ => nf - (intOf i).toNat)
    case atStart => exact ⟨0, Nat.zero_le _, rfl, Lib.hid rfl, grownBy_refl _ _⟩
    case round =>
      obtain ⟨k, hk, rfl, HT, hgr⟩ := hrel
      obtain ⟨⟨b0, _⟩, ⟨b2, _⟩, hg1⟩ := box22 hgr
      have HG1 := Lib.hid hg1
      have HGR := Lib.hid hgr
      clear hg1
      by_cases hkn : k < nf
      · obtain ⟨bf, of', rfl, q1, q2, q3, hcf⟩ := (HF.out.calm hgr).cell (by omega)
        have xf := hcf k hkn
        have HSC := Lib.hid (labK_succ L L' f k)
        have HNT := Lib.hid (fun h => labK_not (L := L) (L' := L') (f := f) hkn h)
        have H2b := Lib.hid (H2.out.ls.calm hgr)
        obtain ⟨b1, o1, rfl, s1, s2, s3, hc1⟩ := (H1.out.ls.calm hgr).cell (by omega)
        have x1 := hc1 k hkn
        clear hcf hc1 hgr
        have k0 : (0 : Int) ≤ k := by omega
        have k1 : (k : Int) < nf := by omega
        have HL1 : Hid (lab1 L L' f k = (hasZ n' (f[k]?.getD 0) && decide (L[k]?.getD .empty = L'[(f[k]?.getD 0).toNat]?.getD .empty))) := Lib.hid (by unfold lab1; rw [HLL'.out])
        generalize f[k]?.getD 0 = z at *
        generalize L[k]?.getD .empty = u at *
        cases hz : hasZ n' z
        · have HZ := Lib.hid hz
          obtain rfl : r = false := by rw [← HR.out]; exact HNT.out (by rw [HL1.out, hz]; rfl)
          clear hz
          go_wp2
          go_quiet ((go_at_call 52; exact Calls.quiet_of_same (aHas_r n' z false _ HZ.out)))
          go_wp2
          go_ret
          exact ⟨rfl, grownBy_trans HG1.out (grownBy_drewN _ _ none)⟩
        · obtain ⟨z0, z1⟩ := hasZ_iff.1 hz
          obtain ⟨y, rfl⟩ := Int.eq_ofNat_of_zero_le z0
          have hy : y < n' := by omega
          obtain ⟨b2', o2, rfl, r1, r2, r3, hc2⟩ := H2b.out.cell (by omega)
          have y1 := hc2 y hy
          have HZ := Lib.hid hz
          have HL2 : Hid (lab1 L L' f k = decide (u = L'[y]?.getD .empty)) := Lib.hid (by rw [HL1.out, hz, Int.toNat_natCast]; rfl)
          clear hc2 hz HL1
          generalize L'[y]?.getD .empty = v at *
          by_cases he : u = v
          · have hN : (u.toList == v.toList) = true := by rw [str_eq]; simpa using he
            have HNX : Hid (labK L L' f (k + 1) = true) := Lib.hid (by rw [HSC.out, HT.out, HL2.out]; simpa using he)
            clear he
            go_wp2
            go_quiet ((go_at_call 52; exact Calls.quiet_of_same (aHas_r n' y true _ HZ.out)))
            go_wp2
            exact ⟨⟨k + 1, by omega, by go_num, HNX, grownBy_trans HGR.out (grownBy_drewN _ _ none)⟩, by simp [intOf]; omega⟩
          · have hN : (u.toList == v.toList) = false := by rw [str_eq]; simpa using he
            obtain rfl : r = false := by rw [← HR.out]; exact HNT.out (by rw [HL2.out]; simpa using he)
            clear he
            go_wp2
            go_quiet ((go_at_call 52; exact Calls.quiet_of_same (aHas_r n' y true _ HZ.out)))
            go_wp2
            go_ret
            exact ⟨rfl, grownBy_trans HG1.out (grownBy_drewN _ _ none)⟩
      · obtain rfl : k = nf := by omega
        obtain rfl : r = true := by rw [← HR.out, HT.out]
        clear hgr
        go_wp2
        go_ret
        exact ⟨rfl, HG1.out⟩
  · have hb : ((nf : Int) != (n : Int)) = true := by simp; omega
    have hrf : r = false := by
      rw [← hr]
      unfold labB
      rw [hf.len, h.ls.len, decide_eq_false hl]
      rfl
    subst hrf
    clear h h' hf hl hr hg0
    go_enter Tryd.func50, Tryd.ntmps50
    go_wp2
    go_ret
    exact ⟨rfl, HG0.out⟩

theorem relHas_z (lo hi p n : Nat) (a b : Int) (R : Nat → Nat → Bool) (r : Bool) (w : World) (h : IsRel w lo hi p n R) (hr : hasI n R a b = r) : Calls Tryd.prog 62 #[.pointer (some ⟨p, 0, none⟩), .int .i64 a, .int .i64 b] w fun e w' => e = .returned (.bool r) ∧ ∃ m, w' = w.drewN m := by
  rw [← hr]
  exact relHas_c lo hi p n a b R w h

theorem inI_of_all {n : Nat} {P : List (Int × Int)} {k : Nat} (h : allIn n P = true) (hk : k < P.length) : inI n (P[k]?.getD (0, 0)).1 (P[k]?.getD (0, 0)).2 := by
  rw [List.getElem?_eq_getElem hk, Option.getD_some]
  have := List.all_eq_true.1 h _ (List.getElem_mem hk)
  exact of_decide_eq_true this

set_option maxRecDepth 20000 in
set_option maxHeartbeats 1000000 in
theorem keepsPr_r (p q p' q' pf : Option Addr) (n c m d n' c' m' d' nf cf lo hi lo' hi' lof hif : Nat) (L L' : List ByteArray) (P P' : List (Int × Int)) (f : List Int) (r : Bool) (w : World) (h : ObjAt w lo hi p n q m L P) (h' : ObjAt w lo' hi' p' n' q' m' L' P') (hf : ZsAt w lof hif pf nf f) (hm : m ≤ 1000000) (hm' : m' ≤ 1000000) (hin : allIn nf P = true)
    (hr : prB (objN L' P') (objR L' P') P f = r) :
    Calls Tryd.prog 51 #[.agg #[.slice p n c, .slice q m d], .agg #[.slice p' n' c', .slice q' m' d'], .slice pf nf cf] w fun e w' => e = .returned (.bool r) ∧ w.grownBy w' none := by
  have hg0 := grownBy_trans (World.grownBy_alloc w (.cells #[.slice p n c, .slice q m d] 25) none) (World.grownBy_alloc _ (.cells #[.slice p' n' c', .slice q' m' d'] 25) none)
  have H1 := Lib.hid (h.calm hg0)
  have H2 := Lib.hid (h'.calm hg0)
  have HF := Lib.hid (hf.calm hg0)
  have HIN := Lib.hid hin
  have HR := Lib.hid hr
  have HPL := Lib.hid h.ps.len
  clear h h' hf hr hg0 hin
  generalize hN : objN L' P' = N at *
  generalize hRR : objR L' P' = R at *
  have HNN := Lib.hid hN
  have HRR := Lib.hid hRR
  clear hN hRR
  go_enter Tryd.func51, Tryd.ntmps51
  go_wp2_with fail
  refine (objRel_c _ _ _ _ _ _ _ _ L' P' _ (by exact H2.out) hm').mono ?_
  rw [HNN.out, HRR.out]
  rintro e w1 ⟨t, rfl, hrel, hg1⟩
  obtain ⟨⟨b0, b1⟩, _, hgw⟩ := box22 hg1
  have HREL := Lib.hid hrel
  have HGW := Lib.hid hgw
  have H1b := Lib.hid (H1.out.ps.calm hg1)
  have HFb := Lib.hid (HF.out.calm hg1)
  clear hg1 hgw hrel
  go_wp2
  go_loopw [15] (fun i wr => ∃ k : Nat, k ≤ m ∧ i = .int .i64 k ∧ Hid (prB N R (P.take k) f = true) ∧ w1.grownBy wr none) (fun i _ => m - (intOf i).toNat)
  case atStart => exact ⟨0, Nat.zero_le _, rfl, Lib.hid rfl, grownBy_refl _ _⟩
  case round =>
    obtain ⟨k, hk, rfl, HT, hgr⟩ := hrel
    have HGR := Lib.hid hgr
    by_cases hkn : k < m
    · have k0 : (0 : Int) ≤ k := by omega
      have k1 : (k : Int) < m := by omega
      obtain ⟨bp, op, rfl, q1, q2, q3, hcp⟩ := (H1b.out.calm hgr).cell (by omega)
      obtain ⟨c0, c1⟩ := hcp k hkn
      have HI := Lib.hid (inI_of_all (k := k) HIN.out (by rw [HPL.out]; exact hkn))
      have HSC := Lib.hid (prB_succ (N := N) (R := R) (f := f) (P := P) (k := k) (by rw [HPL.out]; exact hkn))
      have HNT := Lib.hid (fun h => prB_not (N := N) (R := R) (f := f) (P := P) (k := k) (by rw [HPL.out]; exact hkn) h)
      have HREL2 := Lib.hid (HREL.out.calm hgr)
      have HF2 := Lib.hid (HFb.out.calm hgr)
      clear hcp hgr
      obtain ⟨x, hx⟩ : ∃ x, x = P[k]?.getD (0, 0) := ⟨_, rfl⟩
      rw [← hx] at c0 c1 HI HSC HNT
      clear hx
      obtain ⟨xa, xb⟩ := x
      obtain ⟨a0, a1, a2, a3⟩ : 0 ≤ xa ∧ xa < nf ∧ 0 ≤ xb ∧ xb < nf := by have := HI.out; unfold inI at this; simp only at this; omega
      obtain ⟨ya, rfl⟩ := Int.eq_ofNat_of_zero_le a0
      obtain ⟨yb, rfl⟩ := Int.eq_ofNat_of_zero_le a2
      have hgA := World.grownBy_alloc wr (.cells #[.int .i64 (ya : Int), .int .i64 (yb : Int)] 74) none
      obtain ⟨bf, of', rfl, s1, s2, s3, hcf⟩ := (HF2.out.calm hgA).cell (by omega)
      have fa := hcf ya (by omega)
      have fb := hcf yb (by omega)
      have HREL3 := Lib.hid (HREL2.out.calm hgA)
      have HGA := Lib.hid hgA
      have HP1 : Hid (pr1 N R f ((ya : Int), (yb : Int)) = hasI N R (f[ya]?.getD 0) (f[yb]?.getD 0)) := Lib.hid (by simp [pr1])
      clear hcf hgA
      simp only at c0 c1
      generalize f[ya]?.getD 0 = u at *
      generalize f[yb]?.getD 0 = v at *
      cases hh : hasI N R u v
      · have HH := Lib.hid hh
        obtain rfl : r = false := by rw [← HR.out]; exact HNT.out (by rw [HP1.out, hh])
        clear hh
        go_wp2
        go_quiet ((go_at_call 62; exact Calls.quiet_of (relHas_z _ _ t N u v R false _ (by exact HREL3.out.calm (grownBy_drewN _ _ none)) HH.out)))
        go_wp2
        go_ret
        exact ⟨rfl, grownBy_trans HGW.out (grownBy_trans HGR.out (grownBy_trans HGA.out (grownBy_drewN _ _ none)))⟩
      · have HH := Lib.hid hh
        have HNX : Hid (prB N R (P.take (k + 1)) f = true) := Lib.hid (by rw [HSC.out, HT.out, HP1.out, hh]; rfl)
        clear hh
        go_wp2
        go_quiet ((go_at_call 62; exact Calls.quiet_of (relHas_z _ _ t N u v R true _ (by exact HREL3.out.calm (grownBy_drewN _ _ none)) HH.out)))
        go_wp2
        exact ⟨⟨k + 1, by omega, by go_num, HNX, grownBy_trans HGR.out (grownBy_trans HGA.out (grownBy_drewN _ _ none))⟩, by simp [intOf]; omega⟩
    · obtain rfl : k = m := by omega
      obtain rfl : r = true := by
        have := HT.out
        rw [List.take_of_length_le (by rw [HPL.out]; exact Nat.le_refl _)] at this
        rw [← HR.out, this]
      clear hgr
      go_wp2
      go_ret
      exact ⟨rfl, grownBy_trans HGW.out HGR.out⟩

theorem chk_in {L : List ByteArray} {P : List (Int × Int)} (h : chk L P = 0) : labErr L = 0 ∧ risesB P = true ∧ allIn L.length P = true ∧ grewC L.length (ofL L.length P) L.length = false := by
  unfold chk at h
  split at h
  · rename_i h1; exact absurd h h1
  · rename_i h1
    split at h
    · rename_i h2
      simp only [Bool.and_eq_true, Bool.not_eq_true'] at h2
      exact ⟨by simpa using h1, h2.1, h2.2.1, h2.2.2⟩
    · cases h

set_option maxRecDepth 20000 in
set_option maxHeartbeats 1000000 in
theorem arIs_r (p q p' q' pf : Option Addr) (n c m d n' c' m' d' nf cf lo hi lo' hi' lof hif : Nat) (L L' : List ByteArray) (P P' : List (Int × Int)) (f : List Int) (r : Bool) (w : World) (h : ObjAt w lo hi p n q m L P) (h' : ObjAt w lo' hi' p' n' q' m' L' P') (hf : ZsAt w lof hif pf nf f) (hn : nf ≤ 1000000) (hm : m ≤ 1000000) (hm' : m' ≤ 1000000)
    (hr : arB L P L' P' f = r) :
    Calls Tryd.prog 32 #[.agg #[.slice p n c, .slice q m d], .agg #[.slice p' n' c', .slice q' m' d'], .slice pf nf cf] w fun e w' => e = .returned (.bool r) ∧ w.grownBy w' none := by
  have hg0 := grownBy_trans (World.grownBy_alloc w (.cells #[.slice p n c, .slice q m d] 25) none) (World.grownBy_alloc _ (.cells #[.slice p' n' c', .slice q' m' d'] 25) none)
  have H1 := Lib.hid (h.calm hg0)
  have H2 := Lib.hid (h'.calm hg0)
  have HF := Lib.hid (hf.calm hg0)
  have HLF := Lib.hid hf.len
  have HLL := Lib.hid h.ls.len
  have HR := Lib.hid hr
  clear h h' hf hr hg0
  cases ha : chk L P == 0
  · have HA := Lib.hid ha
    obtain rfl : r = false := by rw [← HR.out]; unfold arB; rw [ha]; rfl
    clear ha
    go_enter Tryd.func32, Tryd.ntmps32
    go_wp2_with fail
    refine (is_c _ _ _ _ _ _ _ _ L P false _ (by exact H1.out) hm HA.out).mono ?_
    rintro e w1 ⟨rfl, hg⟩
    have HG := Lib.hid (box22 hg).2.2
    clear hg
    go_wp2
    go_ret
    exact ⟨rfl, HG.out⟩
  · have HA := Lib.hid ha
    clear ha
    go_enter Tryd.func32, Tryd.ntmps32
    go_wp2_with fail
    refine (is_c _ _ _ _ _ _ _ _ L P true _ (by exact H1.out) hm HA.out).mono ?_
    rintro e w1 ⟨rfl, hg⟩
    obtain ⟨⟨b0, b1⟩, ⟨b2, b3⟩, hg1⟩ := box22 hg
    have HG1 := Lib.hid hg
    have H3 := Lib.hid (H2.out.calm hg)
    clear hg hg1
    cases hb : chk L' P' == 0
    · have HB := Lib.hid hb
      obtain rfl : r = false := by rw [← HR.out]; unfold arB; rw [hb, HA.out]; rfl
      clear hb
      go_wp2_with fail
      refine (is_c _ _ _ _ _ _ _ _ L' P' false _ (by exact H3.out) hm' HB.out).mono ?_
      rintro e w2 ⟨rfl, hg2⟩
      have HG := Lib.hid (box22 (grownBy_trans HG1.out hg2)).2.2
      clear hg2
      go_wp2
      go_ret
      exact ⟨rfl, HG.out⟩
    · have HB := Lib.hid hb
      clear hb
      go_wp2_with fail
      refine (is_c _ _ _ _ _ _ _ _ L' P' true _ (by exact H3.out) hm' HB.out).mono ?_
      rintro e w2 ⟨rfl, hg2⟩
      have hg3 := grownBy_trans HG1.out hg2
      clear b0 b1 b2 b3 hg2
      obtain ⟨⟨b0, b1⟩, ⟨b2, b3⟩, hg4⟩ := box22 hg3
      have HG3 := Lib.hid hg3
      have H4 := Lib.hid (H1.out.calm hg3)
      have H5 := Lib.hid (H2.out.calm hg3)
      have HF2 := Lib.hid (HF.out.calm hg3)
      clear hg3 hg4
      cases hl : labB L L' f
      · have HL := Lib.hid hl
        obtain rfl : r = false := by rw [← HR.out]; unfold arB; rw [HB.out, HA.out, hl]; rfl
        clear hl
        go_wp2_with fail
        refine (keepsLab_r _ _ _ _ _ _ _ _ _ _ _ _ _ _ _ _ _ _ _ _ _ L L' P P' f false _ (by exact H4.out) (by exact H5.out) (by exact HF2.out) hn HL.out).mono ?_
        rintro e w3 ⟨rfl, hg5⟩
        have HG := Lib.hid (box22 (grownBy_trans HG3.out hg5)).2.2
        clear hg5
        go_wp2
        go_ret
        exact ⟨rfl, HG.out⟩
      · have HL := Lib.hid hl
        have HPB : Hid (prB (objN L' P') (objR L' P') P f = r) := Lib.hid (by rw [← HR.out]; unfold arB; rw [HB.out, HA.out, hl]; rfl)
        have HIN : Hid (allIn nf P = true) := Lib.hid (by
          have e1 := (chk_in (by simpa using HA.out)).2.2.1
          unfold labB at hl
          simp only [Bool.and_eq_true, decide_eq_true_eq] at hl
          rw [← HLF.out, hl.1]
          exact e1)
        clear hl
        go_wp2_with fail
        refine (keepsLab_r _ _ _ _ _ _ _ _ _ _ _ _ _ _ _ _ _ _ _ _ _ L L' P P' f true _ (by exact H4.out) (by exact H5.out) (by exact HF2.out) hn HL.out).mono ?_
        rintro e w3 ⟨rfl, hg5⟩
        have hg6 := grownBy_trans HG3.out hg5
        clear b0 b1 b2 b3 hg5
        obtain ⟨⟨b0, b1⟩, ⟨b2, b3⟩, hg7⟩ := box22 hg6
        have HG6 := Lib.hid hg6
        have H6 := Lib.hid (H1.out.calm hg6)
        have H7 := Lib.hid (H2.out.calm hg6)
        have HF3 := Lib.hid (HF.out.calm hg6)
        clear hg6 hg7
        go_wp2_with fail
        refine (keepsPr_r _ _ _ _ _ _ _ _ _ _ _ _ _ _ _ _ _ _ _ _ _ L L' P P' f r _ (by exact H6.out) (by exact H7.out) (by exact HF3.out) hm hm' HIN.out HPB.out).mono ?_
        rintro e w4 ⟨rfl, hg8⟩
        have HG := Lib.hid (box22 (grownBy_trans HG6.out hg8)).2.2
        clear hg8
        go_wp2
        go_ret
        exact ⟨rfl, HG.out⟩

/-- Both, one behind the other, move nothing. -/
def stillB (f g : List Int) : Bool := thenB f g.length && decide (thenL f g = idL (idN f.length))

/-- Whether both are arrows, there and back, that move nothing. -/
def invB (L : List ByteArray) (P : List (Int × Int)) (L' : List ByteArray) (P' : List (Int × Int)) (f g : List Int) : Bool :=
  arB L P L' P' f && (arB L' P' L P g && (stillB f g && stillB g f))

end Go.Proofs.YtemnbkenihldgaaDoor
