/- Package patch: Copy: the three lists' clones. -/
import Derived.Test.YtcfhnfnhdhloiaaGreatPun
namespace Go.Proofs.YtcfhnfnhdhloiaaGreat
open Go.RowKit Go.Shelf

/-- Three that may come up. -/
theorem held_threeP {P : Program} {Q : Exit → Act → World → Prop} {S : World → Prop} {ops : Array Oper} {fuel : Nat} {listed : Array Bool} {a : Act} {w : World} (i k m : Nat) (hr : Region.ready .any ops listed = [i, k, m]) {o o' o'' : Oper} (ho : ops[i]? = some o) (ho' : ops[k]? = some o') (ho'' : ops[m]? = some o'')
    (h : ∀ K : Act → World → Prop, (∀ a' w', S w' → wpAnyH P .any ops Q S fuel (listed.setIfInBounds i true) a' w' → K a' w') → if Region.wanted o (yielded ops a.tmps) = true then Oper.wp P o a w K Q else K (a.put o.dst undef) w)
    (h' : ∀ K : Act → World → Prop, (∀ a' w', S w' → wpAnyH P .any ops Q S fuel (listed.setIfInBounds k true) a' w' → K a' w') → if Region.wanted o' (yielded ops a.tmps) = true then Oper.wp P o' a w K Q else K (a.put o'.dst undef) w)
    (h'' : ∀ K : Act → World → Prop, (∀ a' w', S w' → wpAnyH P .any ops Q S fuel (listed.setIfInBounds m true) a' w' → K a' w') → if Region.wanted o'' (yielded ops a.tmps) = true then Oper.wp P o'' a w K Q else K (a.put o''.dst undef) w) : wpAnyH P .any ops Q S (fuel + 1) listed a w := by
  refine wpAnyH_all hr (by simp) fun j hj => ?_
  rcases (by simpa using hj : j = i ∨ j = k ∨ j = m) with rfl | rfl | rfl
  · exact wpOp_step ho (fun K hK => h K fun a' w' h1 h2 => hK a' w' ⟨h1, h2⟩)
  · exact wpOp_step ho' (fun K hK => h' K fun a' w' h1 h2 => hK a' w' ⟨h1, h2⟩)
  · exact wpOp_step ho'' (fun K hK => h'' K fun a' w' h1 h2 => hK a' w' ⟨h1, h2⟩)

/-- A list in a block of its own from lo on, or nil: its first cells are these. -/
def OwnB (w : World) (lo : Nat) (t : TypeId) (size : Nat) (p : Option Addr) (n c : Nat) (cs : List Value) : Prop :=
  (p = none ∧ n = 0 ∧ c = 0) ∨ ∃ (g : Nat) (cur : Array Value), p = some ⟨g, 0, none⟩ ∧ lo ≤ g ∧ w.heap[g]? = some (.cells cur t (0, 0)) ∧ (cur.size = c * size ∧ c ≤ maxLen) ∧ n ≤ c ∧ ∀ (j : Nat) (u : Value), cs[j]? = some u → cur[j]? = some u
theorem ownB_of {w : World} {base : Nat} {e : TypeId} {size n : Nat} {v : Value} {xs : List Value} (h : w.ownsRow base e size v n xs) : ∃ p c, v = .slice p n c ∧ OwnB w base e size p n c xs := by
  rcases h.2 with ⟨rfl, h0⟩ | ⟨g, cap, cur, rfl, hb, hg, hle, h2, h3, h4⟩
  · exact ⟨none, 0, by rw [h0], .inl ⟨rfl, h0, rfl⟩⟩
  · refine ⟨_, cap, rfl, .inr ⟨g, cur, rfl, hb, hg, ⟨h3, h2⟩, hle, fun j u hj => ?_⟩⟩
    · have hc := h.cells (g := g) rfl j u hj
      rw [add_off, Nat.zero_add] at hc
      simpa [World.cell?, hg] using hc
theorem OwnB.calm {w w' : World} {lo : Nat} {t : TypeId} {size n c : Nat} {p : Option Addr} {cs : List Value} (h : OwnB w lo t size p n c cs) (hg : w.grownBy w' none) : OwnB w' lo t size p n c cs := by
  rcases h with h | ⟨g, cur, h1, h2, h3, h4, h5⟩
  · exact .inl h
  · exact .inr ⟨g, cur, h1, h2, (hg.block g (Array.getElem?_eq_some_iff.1 h3).1 (by simp)).trans h3, h4, h5⟩
theorem OwnB.low {w : World} {lo lo' : Nat} {t : TypeId} {size n c : Nat} {p : Option Addr} {cs : List Value} (h : OwnB w lo t size p n c cs) (hl : lo' ≤ lo) : OwnB w lo' t size p n c cs := by
  rcases h with h | ⟨g, cur, h1, h2, h3, h4, h5⟩
  · exact .inl h
  · exact .inr ⟨g, cur, h1, Nat.le_trans hl h2, h3, h4, h5⟩
theorem heap_set_ne (w : World) (b o : Nat) (v : Value) {g : Nat} (h : g ≠ b) : (w.setCell ⟨b, o, none⟩ v).heap[g]? = w.heap[g]? := by
  unfold World.setCell
  simp only [Array.getElem?_modify]
  rw [if_neg (fun e => h e.symm)]
theorem OwnB.set {w : World} {lo : Nat} {t : TypeId} {size n c : Nat} {p : Option Addr} {cs : List Value} (h : OwnB w lo t size p n c cs) {b : Nat} (hb : b < lo) (o : Nat) (v : Value) : OwnB (w.setCell ⟨b, o, none⟩ v) lo t size p n c cs := by
  rcases h with h | ⟨g, cur, h1, h2, h3, h4, h5⟩
  · exact .inl h
  · exact .inr ⟨g, cur, h1, h2, (heap_set_ne w b o v (by omega)).trans h3, h4, h5⟩
theorem BoxV.keepSet {w : World} {g : Nat} {vs : List Value} {t : TypeId} (h : BoxV w g vs t) {b : Nat} (hb : g ≠ b) (o : Nat) (v : Value) : BoxV (w.setCell ⟨b, o, none⟩ v) g vs t := (heap_set_ne w b o v hb).trans h
theorem grownBy_setNew {w0 w : World} (h : w0.grownBy w none) {b : Nat} (hb : w0.heap.size ≤ b) (o : Nat) (v : Value) : w0.grownBy (w.setCell ⟨b, o, none⟩ v) none :=
  grownBy_new h (grownBy_setCell _ _ _) hb
/-- What a clone hands back. -/
theorem ClnPost.own {t : TypeId} {size n : Nat} {cs : List Value} {w w' : World} {e : Ending} (h : ClnPost t size n cs w e w') : ∃ p c, e = .returned (.slice p n c) ∧ OwnB w' w.heap.size t size p n c cs ∧ w.grownBy w' none := by
  obtain ⟨v, rfl, h1, h2⟩ := h
  obtain ⟨p, c, rfl, h3⟩ := ownB_of h1
  exact ⟨p, c, rfl, h3, h2⟩
theorem strs_newsP {w : World} {lo hi n c : Nat} {p : Option Addr} {l : List ByteArray} (h : StrsAt w lo hi p n l) (hp : p = none → c = 0) : (p = none ∧ n = 0 ∧ c = 0) ∨ ∃ ad, p = some ad ∧ ∀ j u, (scells l)[j]? = some u → w.cell? (ad.add j) = some u := src_strs h hp
theorem nums_src {k : IntKind} {w : World} {lo hi n c : Nat} {p : Option Addr} {l : List Nat} (h : NsAt k w lo hi p n l) (hp : p = none → c = 0) : (p = none ∧ n = 0 ∧ c = 0) ∨ ∃ ad, p = some ad ∧ ∀ j u, (ncells k l)[j]? = some u → w.cell? (ad.add j) = some u := by
  have := src_front (k := n) h hp (Nat.le_refl _)
  rwa [List.take_of_length_le (by rw [h.len]; exact Nat.le_refl _)] at this

/-- A hunk's row: path and three slices. -/
abbrev HRw := ByteArray × Value × Value × Value
def hkc (r : HRw) : List Value := [.string r.1, r.2.1, r.2.2.1, r.2.2.2]
def hkcs (f : Nat → HRw) (n : Nat) : List Value := (List.range n).flatMap fun i => hkc (f i)
theorem hkcs_len (f : Nat → HRw) (n : Nat) : (hkcs f n).length = n * 4 := by
  induction n with
  | zero => rfl
  | succ n ih => unfold hkcs at ih ⊢; rw [List.range_succ, List.flatMap_append, List.length_append, ih]; simp [hkc]; omega
theorem hkcs_get (f : Nat → HRw) {n i j : Nat} {u : Value} (hi : i < n) (hj : (hkc (f i))[j]? = some u) : (hkcs f n)[i * 4 + j]? = some u := by
  induction n with
  | zero => exact absurd hi (Nat.not_lt_zero _)
  | succ n ih =>
    have hj4 : j < 4 := (List.getElem?_eq_some_iff.1 hj).1
    have hl := hkcs_len f n
    unfold hkcs at ih hl ⊢
    rw [List.range_succ, List.flatMap_append]
    by_cases e : i < n
    · rw [List.getElem?_append_left (by rw [hl]; omega)]
      exact ih e
    · obtain rfl : i = n := by omega
      rw [List.getElem?_append_right (by rw [hl]; omega), hl, show i * 4 + j - i * 4 = j by omega]
      simpa using hj
theorem hkcs_at (f : Nat → HRw) {n k : Nat} {u : Value} (h : (hkcs f n)[k]? = some u) : k / 4 < n ∧ (hkc (f (k / 4)))[k % 4]? = some u := by
  have hk := (List.getElem?_eq_some_iff.1 h).1
  rw [hkcs_len] at hk
  have hlt : k / 4 < n := by omega
  refine ⟨hlt, ?_⟩
  have hl : k % 4 < (hkc (f (k / 4))).length := by show k % 4 < 4; omega
  have := hkcs_get f hlt (List.getElem?_eq_getElem hl)
  rw [show k / 4 * 4 + k % 4 = k by omega, h] at this
  rw [List.getElem?_eq_getElem hl]
  exact this.symm
theorem hkcs_one (f : Nat → HRw) (n : Nat) (hf : ∀ i, i < n → ∀ u ∈ hkc (f i), u.oneCell' = true) : ∀ u ∈ hkcs f n, u.oneCell' = true := by
  intro u hu
  unfold hkcs at hu
  obtain ⟨i, hi, hx⟩ := List.mem_flatMap.1 hu
  exact hf i (List.mem_range.1 hi) u hx
/-- Edges' cells. -/
def ecells (l : List Ed) : List Value := l.flatMap fun x => [Value.int .u32 ((x.1.1 : Nat) : Int), Value.int .i64 x.1.2, Value.int .u32 ((x.2.1 : Nat) : Int), Value.int .i64 x.2.2]
theorem ecells_len (l : List Ed) : (ecells l).length = l.length * 4 := by
  induction l with
  | nil => rfl
  | cons x l ih => unfold ecells at ih ⊢; rw [List.flatMap_cons, List.length_append, ih, List.length_cons]; simp; omega
theorem ecells_get : ∀ {l : List Ed} {i : Nat}, i < l.length → (ecells l)[i * 4]? = some (.int .u32 (((l[i]?.getD ((0, 0), (0, 0))).1.1 : Nat) : Int)) ∧ (ecells l)[i * 4 + 1]? = some (.int .i64 (l[i]?.getD ((0, 0), (0, 0))).1.2) ∧
    (ecells l)[i * 4 + 2]? = some (.int .u32 (((l[i]?.getD ((0, 0), (0, 0))).2.1 : Nat) : Int)) ∧ (ecells l)[i * 4 + 3]? = some (.int .i64 (l[i]?.getD ((0, 0), (0, 0))).2.2)
  | [], i, h => by simp at h
  | x :: l, 0, _ => by simp [ecells]
  | x :: l, i + 1, h => by
    have ih := ecells_get (l := l) (i := i) (by simpa using h)
    have e : ecells (x :: l) = .int .u32 ((x.1.1 : Nat) : Int) :: .int .i64 x.1.2 :: .int .u32 ((x.2.1 : Nat) : Int) :: .int .i64 x.2.2 :: ecells l := rfl
    rw [e, show (i + 1) * 4 = i * 4 + 1 + 1 + 1 + 1 by omega]
    simpa only [List.getElem?_cons_succ] using ih
theorem ecells_one (l : List Ed) : ∀ u ∈ ecells l, u.oneCell' = true := by
  intro u hu
  unfold ecells at hu
  rw [List.mem_flatMap] at hu
  obtain ⟨x, _, hx⟩ := hu
  simp only [List.mem_cons, List.not_mem_nil, or_false] at hx
  rcases hx with rfl | rfl | rfl | rfl <;> rfl
theorem eds_src {w : World} {lo hi n c : Nat} {p : Option Addr} {l : List Ed} (h : EdsAt w lo hi p n l) (hp : p = none → c = 0) : (p = none ∧ n = 0 ∧ c = 0) ∨ ∃ ad, p = some ad ∧ ∀ j u, (ecells l)[j]? = some u → w.cell? (ad.add j) = some u := by
  cases p with
  | none =>
    refine .inl ⟨rfl, ?_, hp rfl⟩
    rcases Nat.eq_zero_or_pos n with e | e
    · exact e
    · obtain ⟨_, _, e2, _⟩ := h.cell e; cases e2
  | some ad =>
    refine .inr ⟨ad, rfl, fun j u hj => ?_⟩
    have hjl := (List.getElem?_eq_some_iff.1 hj).1
    rw [ecells_len, h.len] at hjl
    obtain ⟨b, off, e, _, _, _, hc⟩ := h.cell (by omega)
    cases e
    obtain ⟨m, hm⟩ : ∃ m, j / 4 = m := ⟨_, rfl⟩
    obtain ⟨c0, c1, c2, c3⟩ := hc m (by omega)
    obtain ⟨g0, g1, g2, g3⟩ := ecells_get (l := l) (i := m) (by rw [h.len]; omega)
    rw [add_off]
    have h4 : j = m * 4 ∨ j = m * 4 + 1 ∨ j = m * 4 + 2 ∨ j = m * 4 + 3 := by omega
    rcases h4 with rfl | rfl | rfl | rfl
    · rw [g0] at hj; cases hj; exact c0
    · rw [g1] at hj; cases hj; exact c1
    · rw [g2] at hj; cases hj; exact c2
    · rw [g3] at hj; cases hj; exact c3
/-- Hunks' cells, whatever their slices are. -/
theorem hks_raw {w : World} {lo hi n c : Nat} {p : Option Addr} {l : List Hk} (h : HksAt w lo hi p n l) (hp : p = none → c = 0) : ∃ f : Nat → HRw, ((p = none ∧ n = 0 ∧ c = 0) ∨ ∃ ad, p = some ad ∧ ∀ j u, (hkcs f n)[j]? = some u → w.cell? (ad.add j) = some u) ∧
    ∀ i, i < n → ∃ pa na ca pe ne ce pk nk ck, f i = (hPath (l[i]?.getD hk0), .slice pa na ca, .slice pe ne ce, .slice pk nk ck) ∧ HkAt w lo hi pa na ca pe ne ce pk nk ck (l[i]?.getD hk0) := by
  rcases Nat.eq_zero_or_pos n with e | e
  · subst e
    refine ⟨fun _ => (.empty, .slice none 0 0, .slice none 0 0, .slice none 0 0), ?_, fun i hi => absurd hi (Nat.not_lt_zero _)⟩
    cases p with
    | none => exact .inl ⟨rfl, rfl, hp rfl⟩
    | some ad => exact .inr ⟨ad, rfl, fun j u hj => by simp [hkcs] at hj⟩
  · obtain ⟨b, off, rfl, _, _, _, hc⟩ := h.cell e
    have hq : ∀ i, ∃ r : HRw, i < n → (∀ j u, (hkc r)[j]? = some u → w.cell? ⟨b, off + i * 4 + j, none⟩ = some u) ∧ ∃ pa na ca pe ne ce pk nk ck, r = (hPath (l[i]?.getD hk0), .slice pa na ca, .slice pe ne ce, .slice pk nk ck) ∧ HkAt w lo hi pa na ca pe ne ce pk nk ck (l[i]?.getD hk0) := fun i => by
      by_cases hi : i < n
      · obtain ⟨pa, na, ca, pe, ne, ce, pk, nk, ck, c0, c1, c2, c3, hh⟩ := hc i hi
        refine ⟨(hPath (l[i]?.getD hk0), .slice pa na ca, .slice pe ne ce, .slice pk nk ck), fun _ => ⟨fun j u hj => ?_, pa, na, ca, pe, ne, ce, pk, nk, ck, rfl, hh⟩⟩
        match j, hj with
        | 0, hj => cases hj; exact c0
        | 1, hj => cases hj; exact c1
        | 2, hj => cases hj; exact c2
        | 3, hj => cases hj; exact c3
        | j + 4, hj => simp [hkc] at hj
      · exact ⟨(.empty, .slice none 0 0, .slice none 0 0, .slice none 0 0), fun h => absurd h hi⟩
    refine ⟨fun i => Classical.choose (hq i), .inr ⟨_, rfl, fun j u hj => ?_⟩, fun i hi => (Classical.choose_spec (hq i) hi).2⟩
    obtain ⟨h1, h2⟩ := hkcs_at _ hj
    have := (Classical.choose_spec (hq (j / 4)) h1).1 (j % 4) u h2
    rw [add_off, show off + j = off + j / 4 * 4 + j % 4 by omega]
    exact this
/-- A row of hunks in a block of its own. -/
def HRow (w : World) (g n : Nat) (f : Nat → HRw) : Prop := ∃ cur : Array Value, w.heap[g]? = some (.cells cur 50 (0, 0)) ∧ n * 4 ≤ cur.size ∧ ∀ i, i < n → ∀ (j : Nat) (u : Value), (hkc (f i))[j]? = some u → cur[i * 4 + j]? = some u
theorem HRow.calm {w w' : World} {g n : Nat} {f : Nat → HRw} (h : HRow w g n f) (hg : w.grownBy w' none) : HRow w' g n f := by
  obtain ⟨cur, h1, h2, h3⟩ := h
  exact ⟨cur, (hg.block g (Array.getElem?_eq_some_iff.1 h1).1 (by simp)).trans h1, h2, h3⟩
theorem HRow.cell {w : World} {g n : Nat} {f : Nat → HRw} (h : HRow w g n f) {i j : Nat} {u : Value} (hi : i < n) (hu : (hkc (f i))[j]? = some u) : w.cell? ⟨g, i * 4 + j, none⟩ = some u := by
  obtain ⟨cur, h1, _, h3⟩ := h
  simpa [World.cell?, h1] using h3 i hi j u hu
theorem HRow.free {w : World} {g n : Nat} {f : Nat → HRw} (h : HRow w g n f) (o : Nat) : w.frozen? ⟨g, o, none⟩ = false := by
  obtain ⟨cur, h1, _, _⟩ := h
  simp [World.frozen?, h1]
theorem HRow.lt {w : World} {g n : Nat} {f : Nat → HRw} (h : HRow w g n f) : g < w.heap.size := by
  obtain ⟨cur, h1, _, _⟩ := h
  exact (Array.getElem?_eq_some_iff.1 h1).1
theorem heap_set_same (w : World) (g o : Nat) (v : Value) {cur : Array Value} {t : TypeId} (h : w.heap[g]? = some (.cells cur t (0, 0))) : (w.setCell ⟨g, o, none⟩ v).heap[g]? = some (.cells (cur.setIfInBounds o v) t (0, 0)) := heap_setCell_same w g o cur t v h
theorem HRow.put {w : World} {g n : Nat} {f : Nat → HRw} (h : HRow w g n f) {i : Nat} (hi : i < n) (r : HRw) :
    HRow ((((w.setCell ⟨g, i * 4, none⟩ (.string r.1)).setCell ⟨g, i * 4 + 1, none⟩ r.2.1).setCell ⟨g, i * 4 + 2, none⟩ r.2.2.1).setCell ⟨g, i * 4 + 3, none⟩ r.2.2.2) g n (fun j => if j = i then r else f j) := by
  obtain ⟨cur, h1, h2, h3⟩ := h
  refine ⟨_, heap_set_same _ _ _ _ (heap_set_same _ _ _ _ (heap_set_same _ _ _ _ (heap_set_same _ _ _ _ h1))), by simpa using h2, fun k hk j u hj => ?_⟩
  have hj4 : j < 4 := (List.getElem?_eq_some_iff.1 hj).1
  simp only [Array.getElem?_setIfInBounds, Array.size_setIfInBounds]
  by_cases e : k = i
  · subst e
    have hj : (hkc r)[j]? = some u := by simpa using hj
    have hs : k * 4 + 3 < cur.size := by omega
    match j, hj, hj4 with
    | 0, hj, _ => cases hj; simp; omega
    | 1, hj, _ => cases hj; simp; omega
    | 2, hj, _ => cases hj; simp; omega
    | 3, hj, _ => cases hj; simp; omega
  · have hj : (hkc (f k))[j]? = some u := by simpa [e] using hj
    rw [if_neg (by omega), if_neg (by omega), if_neg (by omega), if_neg (by omega)]
    exact h3 k hk j u hj
theorem HRow.keep {w : World} {g n : Nat} {f : Nat → HRw} (h : HRow w g n f) {b : Nat} (hb : g ≠ b) (o : Nat) (v : Value) : HRow (w.setCell ⟨b, o, none⟩ v) g n f := by
  obtain ⟨cur, h1, h2, h3⟩ := h
  exact ⟨cur, (heap_set_ne w b o v hb).trans h1, h2, h3⟩
theorem HRow.congr {w : World} {g n : Nat} {f f' : Nat → HRw} (h : HRow w g n f) (e : ∀ i, i < n → f' i = f i) : HRow w g n f' := by
  obtain ⟨cur, h1, h2, h3⟩ := h
  exact ⟨cur, h1, h2, fun i hi j u hj => h3 i hi j u (by rw [← e i hi]; exact hj)⟩
theorem hrow_own {w : World} {lo n c : Nat} {p : Option Addr} {f : Nat → HRw} (h : OwnB w lo 50 4 p n c (hkcs f n)) (hn : 0 < n) : ∃ g, p = some ⟨g, 0, none⟩ ∧ lo ≤ g ∧ n ≤ c ∧ HRow w g n f := by
  rcases h with ⟨_, h0, _⟩ | ⟨g, cur, rfl, h2, h3, h4, h5, h6⟩
  · omega
  · exact ⟨g, rfl, h2, h5, cur, h3, by have := h4.1; omega, fun i hi j u hj => h6 _ u (hkcs_get f hi hj)⟩
theorem HRow.four {w : World} {g n : Nat} {f : Nat → HRw} (h : HRow w g n f) {i : Nat} (hi : i < n) {s : ByteArray} {a b c : Value} (e : f i = (s, a, b, c)) :
    w.cell? ⟨g, i * 4, none⟩ = some (.string s) ∧ w.cell? ⟨g, i * 4 + 1, none⟩ = some a ∧ w.cell? ⟨g, i * 4 + 2, none⟩ = some b ∧ w.cell? ⟨g, i * 4 + 3, none⟩ = some c :=
  ⟨h.cell (j := 0) hi (by rw [e]; rfl), h.cell (j := 1) hi (by rw [e]; rfl), h.cell (j := 2) hi (by rw [e]; rfl), h.cell (j := 3) hi (by rw [e]; rfl)⟩
/-- A copied hunk. -/
def CpH (w : World) (lo : Nat) (r : HRw) (h : Hk) : Prop := ∃ (pa : Option Addr) (na ca : Nat) (pe : Option Addr) (ne ce : Nat) (pk : Option Addr) (nk ck : Nat), r = (hPath h, .slice pa na ca, .slice pe ne ce, .slice pk nk ck) ∧ (hAdds h).length = na ∧ (hEdges h).length = ne ∧ (hKills h).length = nk ∧
  OwnB w lo 9 1 pa na ca (scells (hAdds h)) ∧ OwnB w lo 46 4 pe ne ce (ecells (hEdges h)) ∧ OwnB w lo 44 2 pk nk ck (lcells (hKills h))
theorem CpH.calm {w w' : World} {lo : Nat} {r : HRw} {h : Hk} (c : CpH w lo r h) (hg : w.grownBy w' none) : CpH w' lo r h := by
  obtain ⟨pa, na, ca, pe, ne, ce, pk, nk, ck, e, l1, l2, l3, h1, h2, h3⟩ := c
  exact ⟨pa, na, ca, pe, ne, ce, pk, nk, ck, e, l1, l2, l3, h1.calm hg, h2.calm hg, h3.calm hg⟩
theorem OwnB.keep {w : World} {lo : Nat} {t : TypeId} {size n c : Nat} {p : Option Addr} {cs : List Value} (h : OwnB w lo t size p n c cs) {b : Nat} {cur : Array Value} {t' : TypeId} (hb : w.heap[b]? = some (.cells cur t' (0, 0))) (ht : t ≠ t') (o : Nat) (v : Value) : OwnB (w.setCell ⟨b, o, none⟩ v) lo t size p n c cs := by
  rcases h with h | ⟨g, cur', h1, h2, h3, h4, h5⟩
  · exact .inl h
  · refine .inr ⟨g, cur', h1, h2, (heap_set_ne w b o v fun e => ?_).trans h3, h4, h5⟩
    subst e
    rw [h3] at hb
    cases hb
    exact ht rfl
theorem CpH.keep {w : World} {lo : Nat} {r : HRw} {h : Hk} (c : CpH w lo r h) {b : Nat} {cur : Array Value} (hb : w.heap[b]? = some (.cells cur 50 (0, 0))) (o : Nat) (v : Value) : CpH (w.setCell ⟨b, o, none⟩ v) lo r h := by
  obtain ⟨pa, na, ca, pe, ne, ce, pk, nk, ck, e, l1, l2, l3, h1, h2, h3⟩ := c
  exact ⟨pa, na, ca, pe, ne, ce, pk, nk, ck, e, l1, l2, l3, h1.keep hb (by decide) o v, h2.keep hb (by decide) o v, h3.keep hb (by decide) o v⟩

/-- Behind the first statement. -/
structure CpI (w : World) (id : Nat) (deps : List Nat) (makes drops : List ByteArray) (nd nm nx : Nat) (ph : Option Addr) (nh ch : Nat) (w' : World) : Prop where
  ex : ∃ (p1 p2 p3 : Option Addr) (c1 c2 c3 : Nat), BoxV w' w.heap.size [.int .u32 (id : Int), .slice p1 nd c1, .slice p2 nm c2, .slice p3 nx c3, .slice ph nh ch] 27 ∧
    OwnB w' (w.heap.size + 2) 22 1 p1 nd c1 (ncells .u32 deps) ∧ OwnB w' (w.heap.size + 2) 9 1 p2 nm c2 (scells makes) ∧ OwnB w' (w.heap.size + 2) 9 1 p3 nx c3 (scells drops)
  res : BoxV w' (w.heap.size + 1) [.int .u32 0, .slice none 0 0, .slice none 0 0, .slice none 0 0, .slice none 0 0] 27
  gr : w.grownBy w' none

/-- What lies while the hunks are copied, the first k of them. -/
structure CpL (w0 wr : World) (b0 id : Nat) (p : Pt) (nd nm nx nh : Nat) (p1 p2 p3 p4 : Option Addr) (c1 c2 c3 c4 g4 : Nat) (f : Nat → HRw) (k : Nat) (f' : Nat → HRw) : Prop where
  bx : BoxV wr b0 [.int .u32 (id : Int), .slice p1 nd c1, .slice p2 nm c2, .slice p3 nx c3, .slice p4 nh c4] 27
  res : BoxV wr (b0 + 1) [.int .u32 0, .slice none 0 0, .slice none 0 0, .slice none 0 0, .slice none 0 0] 27
  d : OwnB wr (b0 + 2) 22 1 p1 nd c1 (ncells .u32 (pDeps p))
  m : OwnB wr (b0 + 2) 9 1 p2 nm c2 (scells (pMakes p))
  x : OwnB wr (b0 + 2) 9 1 p3 nx c3 (scells (pDrops p))
  row : 0 < nh → p4 = some ⟨g4, 0, none⟩ ∧ b0 + 2 ≤ g4 ∧ nh ≤ c4 ∧ HRow wr g4 nh f'
  same : ∀ i, k ≤ i → i < nh → f' i = f i
  done : ∀ i, i < k → CpH wr (b0 + 2) (f' i) ((pHunks p)[i]?.getD hk0)
  gr : w0.grownBy wr none
theorem CpL.calm {w0 wr w' : World} {b0 id : Nat} {p : Pt} {nd nm nx nh : Nat} {p1 p2 p3 p4 : Option Addr} {c1 c2 c3 c4 g4 : Nat} {f : Nat → HRw} {k : Nat} {f' : Nat → HRw} (h : CpL w0 wr b0 id p nd nm nx nh p1 p2 p3 p4 c1 c2 c3 c4 g4 f k f') (hg : wr.grownBy w' none) :
    CpL w0 w' b0 id p nd nm nx nh p1 p2 p3 p4 c1 c2 c3 c4 g4 f k f' :=
  ⟨h.bx.calm hg, h.res.calm hg, h.d.calm hg, h.m.calm hg, h.x.calm hg, fun hn => ⟨(h.row hn).1, (h.row hn).2.1, (h.row hn).2.2.1, (h.row hn).2.2.2.calm hg⟩, h.same, fun i hi => (h.done i hi).calm hg, grownBy_trans h.gr hg⟩
/-- What stays while a cell of the hunks' row is turned. -/
structure CpE (w0 wr : World) (b0 : Nat) (vs : List Value) (g4 : Nat) (us : List Value) (p : Pt) (nd nm nx : Nat) (p1 p2 p3 : Option Addr) (c1 c2 c3 : Nat) (D : Hk → HRw → Prop) : Prop where
  bx : BoxV wr b0 vs 27
  res : BoxV wr (b0 + 1) us 27
  d : OwnB wr (b0 + 2) 22 1 p1 nd c1 (ncells .u32 (pDeps p))
  m : OwnB wr (b0 + 2) 9 1 p2 nm c2 (scells (pMakes p))
  x : OwnB wr (b0 + 2) 9 1 p3 nx c3 (scells (pDrops p))
  blk : ∃ cur : Array Value, wr.heap[g4]? = some (.cells cur 50 (0, 0))
  hks : ∀ h r, D h r → CpH wr (b0 + 2) r h
  gr : w0.grownBy wr none
theorem CpE.set {w0 wr : World} {b0 g4 : Nat} {vs us : List Value} {p : Pt} {nd nm nx : Nat} {p1 p2 p3 : Option Addr} {c1 c2 c3 : Nat} {D : Hk → HRw → Prop} (h : CpE w0 wr b0 vs g4 us p nd nm nx p1 p2 p3 c1 c2 c3 D) (hg : b0 + 2 ≤ g4) (hb : w0.heap.size ≤ b0) (o : Nat) (v : Value) :
    CpE w0 (wr.setCell ⟨g4, o, none⟩ v) b0 vs g4 us p nd nm nx p1 p2 p3 c1 c2 c3 D := by
  obtain ⟨cur, hc⟩ := h.blk
  exact ⟨h.bx.keepSet (by omega) o v, h.res.keepSet (by omega) o v, h.d.keep hc (by decide) o v, h.m.keep hc (by decide) o v, h.x.keep hc (by decide) o v, ⟨_, heap_set_same _ _ _ _ hc⟩, fun a r ha => (h.hks a r ha).keep hc o v, grownBy_setNew h.gr (by omega) o v⟩
theorem CpL.put {w0 wr : World} {b0 id : Nat} {p : Pt} {nd nm nx nh : Nat} {p1 p2 p3 p4 : Option Addr} {c1 c2 c3 c4 g4 : Nat} {f : Nat → HRw} {k : Nat} {f' : Nat → HRw} {r : HRw} (h : CpL w0 wr b0 id p nd nm nx nh p1 p2 p3 p4 c1 c2 c3 c4 g4 f k f') (hk : k < nh) (hb : w0.heap.size ≤ b0) (hr : CpH wr (b0 + 2) r ((pHunks p)[k]?.getD hk0)) :
    CpL w0 ((((wr.setCell ⟨g4, k * 4, none⟩ (.string r.1)).setCell ⟨g4, k * 4 + 1, none⟩ r.2.1).setCell ⟨g4, k * 4 + 2, none⟩ r.2.2.1).setCell ⟨g4, k * 4 + 3, none⟩ r.2.2.2) b0 id p nd nm nx nh p1 p2 p3 p4 c1 c2 c3 c4 g4 f (k + 1) (fun j => if j = k then r else f' j) := by
  obtain ⟨e1, hg, e2, hrow⟩ := h.row (by omega)
  obtain ⟨cur, hc, hrow2⟩ := hrow
  have E : CpE w0 wr b0 _ g4 _ p nd nm nx p1 p2 p3 c1 c2 c3 (fun a q => CpH wr (b0 + 2) q a) := ⟨h.bx, h.res, h.d, h.m, h.x, ⟨cur, hc⟩, fun _ _ h => h, h.gr⟩
  have E4 := (((E.set hg hb (k * 4) (.string r.1)).set hg hb (k * 4 + 1) r.2.1).set hg hb (k * 4 + 2) r.2.2.1).set hg hb (k * 4 + 3) r.2.2.2
  refine ⟨E4.bx, E4.res, E4.d, E4.m, E4.x, fun _ => ⟨e1, hg, e2, HRow.put ⟨cur, hc, hrow2⟩ hk r⟩, fun i h1 h2 => ?_, fun i hi => ?_, E4.gr⟩
  · show (if i = k then r else f' i) = f i
    rw [if_neg (by omega)]
    exact h.same i (by omega) h2
  · show CpH _ _ (if i = k then r else f' i) _
    by_cases e : i = k
    · subst e
      rw [if_pos rfl]
      exact E4.hks _ _ hr
    · rw [if_neg e]
      exact E4.hks _ _ (h.done i (by omega))
/-- A patch in memory of its own, from lo on: every list in a block that may be written. -/
structure CopyAt (w : World) (lo : Nat) (p : Pt) (nd nm nx nh : Nat) (p1 : Option Addr) (c1 : Nat) (p2 : Option Addr) (c2 : Nat) (p3 : Option Addr) (c3 : Nat) (p4 : Option Addr) (c4 : Nat) : Prop where
  d : OwnB w lo 22 1 p1 nd c1 (ncells .u32 (pDeps p))
  m : OwnB w lo 9 1 p2 nm c2 (scells (pMakes p))
  x : OwnB w lo 9 1 p3 nx c3 (scells (pDrops p))
  hs : 0 < nh → ∃ g f, p4 = some ⟨g, 0, none⟩ ∧ lo ≤ g ∧ HRow w g nh f ∧ ∀ i, i < nh → CpH w lo (f i) ((pHunks p)[i]?.getD hk0)
  z4 : p4 = none → c4 = 0
  l4 : nh ≤ c4
theorem CpH.set {w : World} {lo : Nat} {r : HRw} {h : Hk} (c : CpH w lo r h) {b : Nat} (hb : b < lo) (o : Nat) (v : Value) : CpH (w.setCell ⟨b, o, none⟩ v) lo r h := by
  obtain ⟨pa, na, ca, pe, ne, ce, pk, nk, ck, e, l1, l2, l3, h1, h2, h3⟩ := c
  exact ⟨pa, na, ca, pe, ne, ce, pk, nk, ck, e, l1, l2, l3, h1.set hb o v, h2.set hb o v, h3.set hb o v⟩
theorem CopyAt.set {w : World} {lo : Nat} {p : Pt} {nd nm nx nh : Nat} {p1 : Option Addr} {c1 : Nat} {p2 : Option Addr} {c2 : Nat} {p3 : Option Addr} {c3 : Nat} {p4 : Option Addr} {c4 : Nat} (h : CopyAt w lo p nd nm nx nh p1 c1 p2 c2 p3 c3 p4 c4) {b : Nat} (hb : b < lo) (o : Nat) (v : Value) :
    CopyAt (w.setCell ⟨b, o, none⟩ v) lo p nd nm nx nh p1 c1 p2 c2 p3 c3 p4 c4 :=
  ⟨h.d.set hb o v, h.m.set hb o v, h.x.set hb o v, fun hn => by
    obtain ⟨g, f, h1, h2, h3, h4⟩ := h.hs hn
    exact ⟨g, f, h1, h2, h3.keep (by omega) o v, fun i hi => (h4 i hi).set hb o v⟩, h.z4, h.l4⟩
theorem CpL.finish {w0 wr : World} {b0 id : Nat} {p : Pt} {nd nm nx nh : Nat} {p1 p2 p3 p4 : Option Addr} {c1 c2 c3 c4 g4 : Nat} {f : Nat → HRw} {f' : Nat → HRw} (h : CpL w0 wr b0 id p nd nm nx nh p1 p2 p3 p4 c1 c2 c3 c4 g4 f nh f') (v0 v1 v2 v3 v4 : Value) (hb : w0.heap.size ≤ b0) (h4 : (p4 = none → c4 = 0) ∧ nh ≤ c4) :
    CopyAt (((((wr.setCell ⟨b0 + 1, 0, none⟩ v0).setCell ⟨b0 + 1, 1, none⟩ v1).setCell ⟨b0 + 1, 2, none⟩ v2).setCell ⟨b0 + 1, 3, none⟩ v3).setCell ⟨b0 + 1, 4, none⟩ v4) (b0 + 2) p nd nm nx nh p1 c1 p2 c2 p3 c3 p4 c4 ∧
    w0.grownBy (((((wr.setCell ⟨b0 + 1, 0, none⟩ v0).setCell ⟨b0 + 1, 1, none⟩ v1).setCell ⟨b0 + 1, 2, none⟩ v2).setCell ⟨b0 + 1, 3, none⟩ v3).setCell ⟨b0 + 1, 4, none⟩ v4) none := by
  have C : CopyAt wr (b0 + 2) p nd nm nx nh p1 c1 p2 c2 p3 c3 p4 c4 := ⟨h.d, h.m, h.x, fun hn => by
    obtain ⟨e1, e2, e3, e4⟩ := h.row hn
    exact ⟨g4, f', e1, e2, e4, h.done⟩, h4.1, h4.2⟩
  have hl : b0 + 1 < b0 + 2 := by omega
  exact ⟨((((C.set hl 0 v0).set hl 1 v1).set hl 2 v2).set hl 3 v3).set hl 4 v4, grownBy_setNew (grownBy_setNew (grownBy_setNew (grownBy_setNew (grownBy_setNew h.gr (by omega) 0 v0) (by omega) 1 v1) (by omega) 2 v2) (by omega) 3 v3) (by omega) 4 v4⟩
/-- What Copy hands back. -/
def PcpPost (id nd nm nx nh : Nat) (p : Pt) (w : World) (e : Ending) (w' : World) : Prop := ∃ p1 c1 p2 c2 p3 c3 p4 c4, e = .returned (.agg #[.int .u32 (id : Int), .slice p1 nd c1, .slice p2 nm c2, .slice p3 nx c3, .slice p4 nh c4]) ∧
  CopyAt w' (w.heap.size + 2) p nd nm nx nh p1 c1 p2 c2 p3 c3 p4 c4 ∧ w.grownBy w' none

set_option maxRecDepth 10000 in
set_option maxHeartbeats 64000000 in
theorem patCopy_c (id : Nat) (pd : Option Addr) (nd cd : Nat) (pm : Option Addr) (nm cm : Nat) (px : Option Addr) (nx cx : Nat) (ph : Option Addr) (nh ch : Nat) (lo hi : Nat) (p : Pt) (w : World)
    (h : PtAt w lo hi id pd nd cd pm nm cm px nx cx ph nh ch p) (hb : PBig p) :
    Calls Tryz.prog 23 #[.agg #[.int .u32 (id : Int), .slice pd nd cd, .slice pm nm cm, .slice px nx cx, .slice ph nh ch]] w (PcpPost id nd nm nx nh p w) := by
  have HG2 := Lib.hid (grownBy_trans (World.grownBy_alloc w (.cells #[.int .u32 (id : Int), .slice pd nd cd, .slice pm nm cm, .slice px nx cx, .slice ph nh ch] 27) none) (World.grownBy_alloc _ (.cells #[.int .u32 0, .slice none 0 0, .slice none 0 0, .slice none 0 0, .slice none 0 0] 27) none))
  have HB1' := Lib.hid (BoxV.new w [.int .u32 (id : Int), .slice pd nd cd, .slice pm nm cm, .slice px nx cx, .slice ph nh ch] 27)
  have HB2 := Lib.hid (BoxV.second w [.int .u32 (id : Int), .slice pd nd cd, .slice pm nm cm, .slice px nx cx, .slice ph nh ch] [.int .u32 0, .slice none 0 0, .slice none 0 0, .slice none 0 0, .slice none 0 0] 27 27)
  have HGB := Lib.hid (World.grownBy_alloc (w.alloc (.cells #[.int .u32 (id : Int), .slice pd nd cd, .slice pm nm cm, .slice px nx cx, .slice ph nh ch] 27)) (.cells #[.int .u32 0, .slice none 0 0, .slice none 0 0, .slice none 0 0, .slice none 0 0] 27) none)
  have HSZ : Hid (((w.alloc (.cells #[.int .u32 (id : Int), .slice pd nd cd, .slice pm nm cm, .slice px nx cx, .slice ph nh ch] 27)).alloc (.cells #[.int .u32 0, .slice none 0 0, .slice none 0 0, .slice none 0 0, .slice none 0 0] 27)).heap.size = w.heap.size + 2) := Lib.hid (by simp)
  have H := Lib.hid (h.calm HG2.out)
  have hd1 : nd ≤ 100000 := by have := hb.deps; have := h.deps.len; omega
  have hm1 : nm ≤ 100000 := by have := hb.makes; have := h.makes.len; omega
  have hx1 : nx ≤ 100000 := by have := hb.drops; have := h.drops.len; omega
  have hh1 : nh ≤ 1000 := by have := hb.hunks; have := h.hunks.len; omega
  have HLD := Lib.hid h.deps.len
  have HLM := Lib.hid h.makes.len
  have HLX := Lib.hid h.drops.len
  go_enter Tryz.func23, Tryz.ntmps23
  go_upto_region 1 with fail
  have HC0 := Lib.hid (HB1'.out.calm HGB.out)
  generalize w.alloc _ = w1 at *
  generalize w1.alloc _ = w2 at *
  generalize hb0 : w.heap.size = b0 at *
  have HB0 := Lib.hid (Nat.le_of_eq hb0)
  have HB1 : Hid (b0 < b0 + 2) := Lib.hid (by omega)
  have HEND : Hid (∀ (W : World) (p1 p2 p3 : Option Addr) (c1 c2 c3 : Nat), BoxV W b0 [.int .u32 (id : Int), .slice p1 nd c1, .slice p2 nm c2, .slice p3 nx c3, .slice ph nh ch] 27 →
      OwnB W (b0 + 2) 22 1 p1 nd c1 (ncells .u32 (pDeps p)) → OwnB W (b0 + 2) 9 1 p2 nm c2 (scells (pMakes p)) → OwnB W (b0 + 2) 9 1 p3 nx c3 (scells (pDrops p)) →
      BoxV W (b0 + 1) [.int .u32 0, .slice none 0 0, .slice none 0 0, .slice none 0 0, .slice none 0 0] 27 → w.grownBy W none → CpI w id (pDeps p) (pMakes p) (pDrops p) nd nm nx ph nh ch W) := Lib.hid fun W p1 p2 p3 c1 c2 c3 h1 h2 h3 h4 h5 h6 => by subst hb0; exact ⟨⟨p1, p2, p3, c1, c2, c3, h1, h2, h3, h4⟩, h5, h6⟩
  have HBZ := Lib.hid hb0
  have H0 := Lib.hid h
  clear HB1' HGB hb0 h
  have HCD : Hid (∀ W, w2.grownBy W none → Calls Tryz.prog 48 #[.slice pd nd cd] W fun e w' => ∃ p' c, e = .returned (.slice p' nd c) ∧ OwnB w' (b0 + 2) 22 1 p' nd c (ncells .u32 (pDeps p)) ∧ W.grownBy w' none) := Lib.hid fun W hg =>
    (cloneU_c pd nd cd (ncells .u32 (pDeps p)) W (by rw [ncells_len, HLD.out, Nat.mul_one]) (ncells_one _ _) (nums_src (H.out.calm hg).deps H.out.zd) hd1).mono fun e w' h => by
      obtain ⟨p', c, e1, h2, h3⟩ := h.own
      exact ⟨p', c, e1, h2.low (by rw [← HSZ.out]; exact hg.size), h3⟩
  have HCM : Hid (∀ W, w2.grownBy W none → Calls Tryz.prog 49 #[.slice pm nm cm] W fun e w' => ∃ p' c, e = .returned (.slice p' nm c) ∧ OwnB w' (b0 + 2) 9 1 p' nm c (scells (pMakes p)) ∧ W.grownBy w' none) := Lib.hid fun W hg =>
    (cloneS_c pm nm cm (scells (pMakes p)) W (by rw [scells_lenP, HLM.out, Nat.mul_one]) (scells_oneP _) (src_strs (H.out.calm hg).makes H.out.zm) hm1).mono fun e w' h => by
      obtain ⟨p', c, e1, h2, h3⟩ := h.own
      exact ⟨p', c, e1, h2.low (by rw [← HSZ.out]; exact hg.size), h3⟩
  have HCX : Hid (∀ W, w2.grownBy W none → Calls Tryz.prog 49 #[.slice px nx cx] W fun e w' => ∃ p' c, e = .returned (.slice p' nx c) ∧ OwnB w' (b0 + 2) 9 1 p' nx c (scells (pDrops p)) ∧ W.grownBy w' none) := Lib.hid fun W hg =>
    (cloneS_c px nx cx (scells (pDrops p)) W (by rw [scells_lenP, HLX.out, Nat.mul_one]) (scells_oneP _) (src_strs (H.out.calm hg).drops H.out.zx) hx1).mono fun e w' h => by
      obtain ⟨p', c, e1, h2, h3⟩ := h.own
      exact ⟨p', c, e1, h2.low (by rw [← HSZ.out]; exact hg.size), h3⟩
  go_cut [] from 5 to 17 (fun wx => CpI w id (pDeps p) (pMakes p) (pDrops p) nd nm nx ph nh ch wx)
  case first =>
    refine wp_region_held (S := fun _ => True) (by kernel_rfl) ?_
    change wpAnyH _ _ _ _ _ _ _ _ w2.drew
    have hgr : w2.grownBy w2.drew none := grownBy_drewN w2 1 none
    have henv := HC0.out.calm hgr
    have hres := HB2.out.calm hgr
    have q1 := henv.cell (k := 1) rfl
    have q2 := henv.cell (k := 2) rfl
    have q3 := henv.cell (k := 3) rfl
    have hf := henv.free 1
    refine wpAnyH_take (i := 0) (v := .pointer (some ⟨b0, 1, none⟩)) rfl (by kernel_rfl) (by kernel_rfl) (by kernel_rfl) (fun _ _ _ h => h) (.inl ⟨by rfl, ?_⟩) trivial ?_
    · rintro w' -
      go_simp
    simp only [Act.put, List.getElem_toArray, List.getElem_cons_zero, List.setIfInBounds_toArray, List.set_cons_zero, List.set_cons_succ]
    refine wpAnyH_take (i := 3) (v := .pointer (some ⟨b0, 2, none⟩)) rfl (by kernel_rfl) (by kernel_rfl) (by kernel_rfl) (fun _ _ _ h => h) (.inl ⟨by rfl, ?_⟩) trivial ?_
    · rintro w' -
      go_simp
    simp only [Act.put, List.getElem_toArray, List.getElem_cons_succ, List.getElem_cons_zero, List.setIfInBounds_toArray, List.set_cons_zero, List.set_cons_succ]
    refine wpAnyH_take (i := 6) (v := .pointer (some ⟨b0, 3, none⟩)) rfl (by kernel_rfl) (by kernel_rfl) (by kernel_rfl) (fun _ _ _ h => h) (.inl ⟨by rfl, ?_⟩) trivial ?_
    · rintro w' -
      go_simp
    simp only [Act.put, List.getElem_toArray, List.getElem_cons_succ, List.getElem_cons_zero, List.setIfInBounds_toArray, List.set_cons_zero, List.set_cons_succ]
    refine held_threeP 1 4 7 (by kernel_rfl) rfl rfl rfl (fun KK hKK => ?_) (fun KK hKK => ?_) (fun KK hKK => ?_)
    · skip
      go_simp
      refine hKK _ _ trivial ?_
      clear hKK KK
      refine held_threeP 2 4 7 (by kernel_rfl) rfl rfl rfl (fun KK hKK => ?_) (fun KK hKK => ?_) (fun KK hKK => ?_)
      · skip
        go_simp
        refine (HCD.out _ hgr).mono ?_
        rintro e W0 ⟨p1, c1, rfl, hown, hg5⟩
        have hgr := grownBy_trans hgr hg5
        have henv := henv.calm hg5
        have hres := hres.calm hg5
        have q1 := henv.cell (k := 1) rfl
        have q2 := henv.cell (k := 2) rfl
        have q3 := henv.cell (k := 3) rfl
        have hf := henv.free 1
        have hD := hown
        clear hown hg5
        refine hKK _ _ trivial ?_
        clear hKK KK
        refine held_two 4 7 (by kernel_rfl) rfl rfl (fun KK hKK => ?_) (fun KK hKK => ?_)
        · skip
          go_simp
          refine hKK _ _ trivial ?_
          clear hKK KK
          refine held_two 5 7 (by kernel_rfl) rfl rfl (fun KK hKK => ?_) (fun KK hKK => ?_)
          · skip
            go_simp
            refine (HCM.out _ hgr).mono ?_
            rintro e W1 ⟨p2, c2, rfl, hown, hg5⟩
            have hgr := grownBy_trans hgr hg5
            have henv := henv.calm hg5
            have hres := hres.calm hg5
            have q1 := henv.cell (k := 1) rfl
            have q2 := henv.cell (k := 2) rfl
            have q3 := henv.cell (k := 3) rfl
            have hf := henv.free 1
            have hD := hD.calm hg5
            have hM := hown
            clear hown hg5
            refine hKK _ _ trivial ?_
            clear hKK KK
            refine held_next 7 (by kernel_rfl) rfl ?_
            intro KK hKK
            go_simp
            refine hKK _ _ trivial ?_
            clear hKK KK
            refine wpAnyH_take (i := 9) (v := .pointer (some ⟨b0, 1, none⟩)) rfl (by kernel_rfl) (by kernel_rfl) (by kernel_rfl) (fun _ _ _ h => h) (.inl ⟨by rfl, ?_⟩) trivial ?_
            · rintro w' -
              go_simp
            simp only [Act.put, List.getElem_toArray, List.getElem_cons_succ, List.getElem_cons_zero, List.setIfInBounds_toArray, List.set_cons_zero, List.set_cons_succ]
            refine held_next 8 (by kernel_rfl) rfl ?_
            intro KK hKK
            go_simp
            refine (HCX.out _ hgr).mono ?_
            rintro e W2 ⟨p3, c3, rfl, hown, hg5⟩
            have hgr := grownBy_trans hgr hg5
            have henv := henv.calm hg5
            have hres := hres.calm hg5
            have q1 := henv.cell (k := 1) rfl
            have q2 := henv.cell (k := 2) rfl
            have q3 := henv.cell (k := 3) rfl
            have hf := henv.free 1
            have hD := hD.calm hg5
            have hM := hM.calm hg5
            have hX := hown
            clear hown hg5
            refine hKK _ _ trivial ?_
            clear hKK KK
            clear q1 q2 q3 hf
            have hgr := grownBy_trans HG2.out hgr
            refine held_next 10 (by kernel_rfl) rfl ?_
            intro KK hKK
            have q1 := henv.cell (k := 1) rfl
            have f1 := henv.free 1
            go_simp
            have henv := henv.set 1 (.slice p1 nd c1)
            have hres := hres.keepSet (b := b0) (by omega) 1 (.slice p1 nd c1)
            have hgr := grownBy_setNew hgr HB0.out 1 (.slice p1 nd c1)
            have hD := hD.set HB1.out 1 (.slice p1 nd c1)
            have hM := hM.set HB1.out 1 (.slice p1 nd c1)
            have hX := hX.set HB1.out 1 (.slice p1 nd c1)
            clear q1 f1
            generalize World.setCell _ ⟨b0, 1, none⟩ _ = V0 at *
            refine hKK _ _ trivial ?_
            clear hKK KK
            refine wpAnyH_take (i := 11) (v := .pointer (some ⟨b0, 2, none⟩)) rfl (by kernel_rfl) (by kernel_rfl) (by kernel_rfl) (fun _ _ _ h => h) (.inl ⟨by rfl, ?_⟩) trivial ?_
            · rintro w' -
              go_simp
            simp only [Act.put, List.getElem_toArray, List.getElem_cons_succ, List.getElem_cons_zero, List.setIfInBounds_toArray, List.set_cons_zero, List.set_cons_succ]
            refine held_next 12 (by kernel_rfl) rfl ?_
            intro KK hKK
            have q1 := henv.cell (k := 2) rfl
            have f1 := henv.free 2
            go_simp
            have henv := henv.set 2 (.slice p2 nm c2)
            have hres := hres.keepSet (b := b0) (by omega) 2 (.slice p2 nm c2)
            have hgr := grownBy_setNew hgr HB0.out 2 (.slice p2 nm c2)
            have hD := hD.set HB1.out 2 (.slice p2 nm c2)
            have hM := hM.set HB1.out 2 (.slice p2 nm c2)
            have hX := hX.set HB1.out 2 (.slice p2 nm c2)
            clear q1 f1
            generalize World.setCell _ ⟨b0, 2, none⟩ _ = V1 at *
            refine hKK _ _ trivial ?_
            clear hKK KK
            refine wpAnyH_take (i := 13) (v := .pointer (some ⟨b0, 3, none⟩)) rfl (by kernel_rfl) (by kernel_rfl) (by kernel_rfl) (fun _ _ _ h => h) (.inl ⟨by rfl, ?_⟩) trivial ?_
            · rintro w' -
              go_simp
            simp only [Act.put, List.getElem_toArray, List.getElem_cons_succ, List.getElem_cons_zero, List.setIfInBounds_toArray, List.set_cons_zero, List.set_cons_succ]
            refine held_next 14 (by kernel_rfl) rfl ?_
            intro KK hKK
            have q1 := henv.cell (k := 3) rfl
            have f1 := henv.free 3
            go_simp
            have henv := henv.set 3 (.slice p3 nx c3)
            have hres := hres.keepSet (b := b0) (by omega) 3 (.slice p3 nx c3)
            have hgr := grownBy_setNew hgr HB0.out 3 (.slice p3 nx c3)
            have hD := hD.set HB1.out 3 (.slice p3 nx c3)
            have hM := hM.set HB1.out 3 (.slice p3 nx c3)
            have hX := hX.set HB1.out 3 (.slice p3 nx c3)
            clear q1 f1
            generalize World.setCell _ ⟨b0, 3, none⟩ _ = V2 at *
            refine hKK _ _ trivial ?_
            clear hKK KK
            refine wpAnyH_done (by kernel_rfl) ?_ _
            go_wp2
            go_meet
            exact HEND.out _ p1 p2 p3 c1 c2 c3 henv hD hM hX hres hgr
          · skip
            go_simp
            refine hKK _ _ trivial ?_
            clear hKK KK
            refine wpAnyH_take (i := 9) (v := .pointer (some ⟨b0, 1, none⟩)) rfl (by kernel_rfl) (by kernel_rfl) (by kernel_rfl) (fun _ _ _ h => h) (.inl ⟨by rfl, ?_⟩) trivial ?_
            · rintro w' -
              go_simp
            simp only [Act.put, List.getElem_toArray, List.getElem_cons_succ, List.getElem_cons_zero, List.setIfInBounds_toArray, List.set_cons_zero, List.set_cons_succ]
            refine held_next 5 (by kernel_rfl) rfl ?_
            intro KK hKK
            go_simp
            refine (HCM.out _ hgr).mono ?_
            rintro e W1 ⟨p2, c2, rfl, hown, hg5⟩
            have hgr := grownBy_trans hgr hg5
            have henv := henv.calm hg5
            have hres := hres.calm hg5
            have q1 := henv.cell (k := 1) rfl
            have q2 := henv.cell (k := 2) rfl
            have q3 := henv.cell (k := 3) rfl
            have hf := henv.free 1
            have hD := hD.calm hg5
            have hM := hown
            clear hown hg5
            refine hKK _ _ trivial ?_
            clear hKK KK
            refine held_next 8 (by kernel_rfl) rfl ?_
            intro KK hKK
            go_simp
            refine (HCX.out _ hgr).mono ?_
            rintro e W2 ⟨p3, c3, rfl, hown, hg5⟩
            have hgr := grownBy_trans hgr hg5
            have henv := henv.calm hg5
            have hres := hres.calm hg5
            have q1 := henv.cell (k := 1) rfl
            have q2 := henv.cell (k := 2) rfl
            have q3 := henv.cell (k := 3) rfl
            have hf := henv.free 1
            have hD := hD.calm hg5
            have hM := hM.calm hg5
            have hX := hown
            clear hown hg5
            refine hKK _ _ trivial ?_
            clear hKK KK
            clear q1 q2 q3 hf
            have hgr := grownBy_trans HG2.out hgr
            refine held_next 10 (by kernel_rfl) rfl ?_
            intro KK hKK
            have q1 := henv.cell (k := 1) rfl
            have f1 := henv.free 1
            go_simp
            have henv := henv.set 1 (.slice p1 nd c1)
            have hres := hres.keepSet (b := b0) (by omega) 1 (.slice p1 nd c1)
            have hgr := grownBy_setNew hgr HB0.out 1 (.slice p1 nd c1)
            have hD := hD.set HB1.out 1 (.slice p1 nd c1)
            have hM := hM.set HB1.out 1 (.slice p1 nd c1)
            have hX := hX.set HB1.out 1 (.slice p1 nd c1)
            clear q1 f1
            generalize World.setCell _ ⟨b0, 1, none⟩ _ = V0 at *
            refine hKK _ _ trivial ?_
            clear hKK KK
            refine wpAnyH_take (i := 11) (v := .pointer (some ⟨b0, 2, none⟩)) rfl (by kernel_rfl) (by kernel_rfl) (by kernel_rfl) (fun _ _ _ h => h) (.inl ⟨by rfl, ?_⟩) trivial ?_
            · rintro w' -
              go_simp
            simp only [Act.put, List.getElem_toArray, List.getElem_cons_succ, List.getElem_cons_zero, List.setIfInBounds_toArray, List.set_cons_zero, List.set_cons_succ]
            refine held_next 12 (by kernel_rfl) rfl ?_
            intro KK hKK
            have q1 := henv.cell (k := 2) rfl
            have f1 := henv.free 2
            go_simp
            have henv := henv.set 2 (.slice p2 nm c2)
            have hres := hres.keepSet (b := b0) (by omega) 2 (.slice p2 nm c2)
            have hgr := grownBy_setNew hgr HB0.out 2 (.slice p2 nm c2)
            have hD := hD.set HB1.out 2 (.slice p2 nm c2)
            have hM := hM.set HB1.out 2 (.slice p2 nm c2)
            have hX := hX.set HB1.out 2 (.slice p2 nm c2)
            clear q1 f1
            generalize World.setCell _ ⟨b0, 2, none⟩ _ = V1 at *
            refine hKK _ _ trivial ?_
            clear hKK KK
            refine wpAnyH_take (i := 13) (v := .pointer (some ⟨b0, 3, none⟩)) rfl (by kernel_rfl) (by kernel_rfl) (by kernel_rfl) (fun _ _ _ h => h) (.inl ⟨by rfl, ?_⟩) trivial ?_
            · rintro w' -
              go_simp
            simp only [Act.put, List.getElem_toArray, List.getElem_cons_succ, List.getElem_cons_zero, List.setIfInBounds_toArray, List.set_cons_zero, List.set_cons_succ]
            refine held_next 14 (by kernel_rfl) rfl ?_
            intro KK hKK
            have q1 := henv.cell (k := 3) rfl
            have f1 := henv.free 3
            go_simp
            have henv := henv.set 3 (.slice p3 nx c3)
            have hres := hres.keepSet (b := b0) (by omega) 3 (.slice p3 nx c3)
            have hgr := grownBy_setNew hgr HB0.out 3 (.slice p3 nx c3)
            have hD := hD.set HB1.out 3 (.slice p3 nx c3)
            have hM := hM.set HB1.out 3 (.slice p3 nx c3)
            have hX := hX.set HB1.out 3 (.slice p3 nx c3)
            clear q1 f1
            generalize World.setCell _ ⟨b0, 3, none⟩ _ = V2 at *
            refine hKK _ _ trivial ?_
            clear hKK KK
            refine wpAnyH_done (by kernel_rfl) ?_ _
            go_wp2
            go_meet
            exact HEND.out _ p1 p2 p3 c1 c2 c3 henv hD hM hX hres hgr
        · skip
          go_simp
          refine hKK _ _ trivial ?_
          clear hKK KK
          refine held_next 4 (by kernel_rfl) rfl ?_
          intro KK hKK
          go_simp
          refine hKK _ _ trivial ?_
          clear hKK KK
          refine wpAnyH_take (i := 9) (v := .pointer (some ⟨b0, 1, none⟩)) rfl (by kernel_rfl) (by kernel_rfl) (by kernel_rfl) (fun _ _ _ h => h) (.inl ⟨by rfl, ?_⟩) trivial ?_
          · rintro w' -
            go_simp
          simp only [Act.put, List.getElem_toArray, List.getElem_cons_succ, List.getElem_cons_zero, List.setIfInBounds_toArray, List.set_cons_zero, List.set_cons_succ]
          refine held_next 5 (by kernel_rfl) rfl ?_
          intro KK hKK
          go_simp
          refine (HCM.out _ hgr).mono ?_
          rintro e W1 ⟨p2, c2, rfl, hown, hg5⟩
          have hgr := grownBy_trans hgr hg5
          have henv := henv.calm hg5
          have hres := hres.calm hg5
          have q1 := henv.cell (k := 1) rfl
          have q2 := henv.cell (k := 2) rfl
          have q3 := henv.cell (k := 3) rfl
          have hf := henv.free 1
          have hD := hD.calm hg5
          have hM := hown
          clear hown hg5
          refine hKK _ _ trivial ?_
          clear hKK KK
          refine held_next 8 (by kernel_rfl) rfl ?_
          intro KK hKK
          go_simp
          refine (HCX.out _ hgr).mono ?_
          rintro e W2 ⟨p3, c3, rfl, hown, hg5⟩
          have hgr := grownBy_trans hgr hg5
          have henv := henv.calm hg5
          have hres := hres.calm hg5
          have q1 := henv.cell (k := 1) rfl
          have q2 := henv.cell (k := 2) rfl
          have q3 := henv.cell (k := 3) rfl
          have hf := henv.free 1
          have hD := hD.calm hg5
          have hM := hM.calm hg5
          have hX := hown
          clear hown hg5
          refine hKK _ _ trivial ?_
          clear hKK KK
          clear q1 q2 q3 hf
          have hgr := grownBy_trans HG2.out hgr
          refine held_next 10 (by kernel_rfl) rfl ?_
          intro KK hKK
          have q1 := henv.cell (k := 1) rfl
          have f1 := henv.free 1
          go_simp
          have henv := henv.set 1 (.slice p1 nd c1)
          have hres := hres.keepSet (b := b0) (by omega) 1 (.slice p1 nd c1)
          have hgr := grownBy_setNew hgr HB0.out 1 (.slice p1 nd c1)
          have hD := hD.set HB1.out 1 (.slice p1 nd c1)
          have hM := hM.set HB1.out 1 (.slice p1 nd c1)
          have hX := hX.set HB1.out 1 (.slice p1 nd c1)
          clear q1 f1
          generalize World.setCell _ ⟨b0, 1, none⟩ _ = V0 at *
          refine hKK _ _ trivial ?_
          clear hKK KK
          refine wpAnyH_take (i := 11) (v := .pointer (some ⟨b0, 2, none⟩)) rfl (by kernel_rfl) (by kernel_rfl) (by kernel_rfl) (fun _ _ _ h => h) (.inl ⟨by rfl, ?_⟩) trivial ?_
          · rintro w' -
            go_simp
          simp only [Act.put, List.getElem_toArray, List.getElem_cons_succ, List.getElem_cons_zero, List.setIfInBounds_toArray, List.set_cons_zero, List.set_cons_succ]
          refine held_next 12 (by kernel_rfl) rfl ?_
          intro KK hKK
          have q1 := henv.cell (k := 2) rfl
          have f1 := henv.free 2
          go_simp
          have henv := henv.set 2 (.slice p2 nm c2)
          have hres := hres.keepSet (b := b0) (by omega) 2 (.slice p2 nm c2)
          have hgr := grownBy_setNew hgr HB0.out 2 (.slice p2 nm c2)
          have hD := hD.set HB1.out 2 (.slice p2 nm c2)
          have hM := hM.set HB1.out 2 (.slice p2 nm c2)
          have hX := hX.set HB1.out 2 (.slice p2 nm c2)
          clear q1 f1
          generalize World.setCell _ ⟨b0, 2, none⟩ _ = V1 at *
          refine hKK _ _ trivial ?_
          clear hKK KK
          refine wpAnyH_take (i := 13) (v := .pointer (some ⟨b0, 3, none⟩)) rfl (by kernel_rfl) (by kernel_rfl) (by kernel_rfl) (fun _ _ _ h => h) (.inl ⟨by rfl, ?_⟩) trivial ?_
          · rintro w' -
            go_simp
          simp only [Act.put, List.getElem_toArray, List.getElem_cons_succ, List.getElem_cons_zero, List.setIfInBounds_toArray, List.set_cons_zero, List.set_cons_succ]
          refine held_next 14 (by kernel_rfl) rfl ?_
          intro KK hKK
          have q1 := henv.cell (k := 3) rfl
          have f1 := henv.free 3
          go_simp
          have henv := henv.set 3 (.slice p3 nx c3)
          have hres := hres.keepSet (b := b0) (by omega) 3 (.slice p3 nx c3)
          have hgr := grownBy_setNew hgr HB0.out 3 (.slice p3 nx c3)
          have hD := hD.set HB1.out 3 (.slice p3 nx c3)
          have hM := hM.set HB1.out 3 (.slice p3 nx c3)
          have hX := hX.set HB1.out 3 (.slice p3 nx c3)
          clear q1 f1
          generalize World.setCell _ ⟨b0, 3, none⟩ _ = V2 at *
          refine hKK _ _ trivial ?_
          clear hKK KK
          refine wpAnyH_done (by kernel_rfl) ?_ _
          go_wp2
          go_meet
          exact HEND.out _ p1 p2 p3 c1 c2 c3 henv hD hM hX hres hgr
      · skip
        go_simp
        refine hKK _ _ trivial ?_
        clear hKK KK
        refine held_two 2 7 (by kernel_rfl) rfl rfl (fun KK hKK => ?_) (fun KK hKK => ?_)
        · skip
          go_simp
          refine (HCD.out _ hgr).mono ?_
          rintro e W0 ⟨p1, c1, rfl, hown, hg5⟩
          have hgr := grownBy_trans hgr hg5
          have henv := henv.calm hg5
          have hres := hres.calm hg5
          have q1 := henv.cell (k := 1) rfl
          have q2 := henv.cell (k := 2) rfl
          have q3 := henv.cell (k := 3) rfl
          have hf := henv.free 1
          have hD := hown
          clear hown hg5
          refine hKK _ _ trivial ?_
          clear hKK KK
          refine held_two 5 7 (by kernel_rfl) rfl rfl (fun KK hKK => ?_) (fun KK hKK => ?_)
          · skip
            go_simp
            refine (HCM.out _ hgr).mono ?_
            rintro e W1 ⟨p2, c2, rfl, hown, hg5⟩
            have hgr := grownBy_trans hgr hg5
            have henv := henv.calm hg5
            have hres := hres.calm hg5
            have q1 := henv.cell (k := 1) rfl
            have q2 := henv.cell (k := 2) rfl
            have q3 := henv.cell (k := 3) rfl
            have hf := henv.free 1
            have hD := hD.calm hg5
            have hM := hown
            clear hown hg5
            refine hKK _ _ trivial ?_
            clear hKK KK
            refine held_next 7 (by kernel_rfl) rfl ?_
            intro KK hKK
            go_simp
            refine hKK _ _ trivial ?_
            clear hKK KK
            refine wpAnyH_take (i := 9) (v := .pointer (some ⟨b0, 1, none⟩)) rfl (by kernel_rfl) (by kernel_rfl) (by kernel_rfl) (fun _ _ _ h => h) (.inl ⟨by rfl, ?_⟩) trivial ?_
            · rintro w' -
              go_simp
            simp only [Act.put, List.getElem_toArray, List.getElem_cons_succ, List.getElem_cons_zero, List.setIfInBounds_toArray, List.set_cons_zero, List.set_cons_succ]
            refine held_next 8 (by kernel_rfl) rfl ?_
            intro KK hKK
            go_simp
            refine (HCX.out _ hgr).mono ?_
            rintro e W2 ⟨p3, c3, rfl, hown, hg5⟩
            have hgr := grownBy_trans hgr hg5
            have henv := henv.calm hg5
            have hres := hres.calm hg5
            have q1 := henv.cell (k := 1) rfl
            have q2 := henv.cell (k := 2) rfl
            have q3 := henv.cell (k := 3) rfl
            have hf := henv.free 1
            have hD := hD.calm hg5
            have hM := hM.calm hg5
            have hX := hown
            clear hown hg5
            refine hKK _ _ trivial ?_
            clear hKK KK
            clear q1 q2 q3 hf
            have hgr := grownBy_trans HG2.out hgr
            refine held_next 10 (by kernel_rfl) rfl ?_
            intro KK hKK
            have q1 := henv.cell (k := 1) rfl
            have f1 := henv.free 1
            go_simp
            have henv := henv.set 1 (.slice p1 nd c1)
            have hres := hres.keepSet (b := b0) (by omega) 1 (.slice p1 nd c1)
            have hgr := grownBy_setNew hgr HB0.out 1 (.slice p1 nd c1)
            have hD := hD.set HB1.out 1 (.slice p1 nd c1)
            have hM := hM.set HB1.out 1 (.slice p1 nd c1)
            have hX := hX.set HB1.out 1 (.slice p1 nd c1)
            clear q1 f1
            generalize World.setCell _ ⟨b0, 1, none⟩ _ = V0 at *
            refine hKK _ _ trivial ?_
            clear hKK KK
            refine wpAnyH_take (i := 11) (v := .pointer (some ⟨b0, 2, none⟩)) rfl (by kernel_rfl) (by kernel_rfl) (by kernel_rfl) (fun _ _ _ h => h) (.inl ⟨by rfl, ?_⟩) trivial ?_
            · rintro w' -
              go_simp
            simp only [Act.put, List.getElem_toArray, List.getElem_cons_succ, List.getElem_cons_zero, List.setIfInBounds_toArray, List.set_cons_zero, List.set_cons_succ]
            refine held_next 12 (by kernel_rfl) rfl ?_
            intro KK hKK
            have q1 := henv.cell (k := 2) rfl
            have f1 := henv.free 2
            go_simp
            have henv := henv.set 2 (.slice p2 nm c2)
            have hres := hres.keepSet (b := b0) (by omega) 2 (.slice p2 nm c2)
            have hgr := grownBy_setNew hgr HB0.out 2 (.slice p2 nm c2)
            have hD := hD.set HB1.out 2 (.slice p2 nm c2)
            have hM := hM.set HB1.out 2 (.slice p2 nm c2)
            have hX := hX.set HB1.out 2 (.slice p2 nm c2)
            clear q1 f1
            generalize World.setCell _ ⟨b0, 2, none⟩ _ = V1 at *
            refine hKK _ _ trivial ?_
            clear hKK KK
            refine wpAnyH_take (i := 13) (v := .pointer (some ⟨b0, 3, none⟩)) rfl (by kernel_rfl) (by kernel_rfl) (by kernel_rfl) (fun _ _ _ h => h) (.inl ⟨by rfl, ?_⟩) trivial ?_
            · rintro w' -
              go_simp
            simp only [Act.put, List.getElem_toArray, List.getElem_cons_succ, List.getElem_cons_zero, List.setIfInBounds_toArray, List.set_cons_zero, List.set_cons_succ]
            refine held_next 14 (by kernel_rfl) rfl ?_
            intro KK hKK
            have q1 := henv.cell (k := 3) rfl
            have f1 := henv.free 3
            go_simp
            have henv := henv.set 3 (.slice p3 nx c3)
            have hres := hres.keepSet (b := b0) (by omega) 3 (.slice p3 nx c3)
            have hgr := grownBy_setNew hgr HB0.out 3 (.slice p3 nx c3)
            have hD := hD.set HB1.out 3 (.slice p3 nx c3)
            have hM := hM.set HB1.out 3 (.slice p3 nx c3)
            have hX := hX.set HB1.out 3 (.slice p3 nx c3)
            clear q1 f1
            generalize World.setCell _ ⟨b0, 3, none⟩ _ = V2 at *
            refine hKK _ _ trivial ?_
            clear hKK KK
            refine wpAnyH_done (by kernel_rfl) ?_ _
            go_wp2
            go_meet
            exact HEND.out _ p1 p2 p3 c1 c2 c3 henv hD hM hX hres hgr
          · skip
            go_simp
            refine hKK _ _ trivial ?_
            clear hKK KK
            refine wpAnyH_take (i := 9) (v := .pointer (some ⟨b0, 1, none⟩)) rfl (by kernel_rfl) (by kernel_rfl) (by kernel_rfl) (fun _ _ _ h => h) (.inl ⟨by rfl, ?_⟩) trivial ?_
            · rintro w' -
              go_simp
            simp only [Act.put, List.getElem_toArray, List.getElem_cons_succ, List.getElem_cons_zero, List.setIfInBounds_toArray, List.set_cons_zero, List.set_cons_succ]
            refine held_next 5 (by kernel_rfl) rfl ?_
            intro KK hKK
            go_simp
            refine (HCM.out _ hgr).mono ?_
            rintro e W1 ⟨p2, c2, rfl, hown, hg5⟩
            have hgr := grownBy_trans hgr hg5
            have henv := henv.calm hg5
            have hres := hres.calm hg5
            have q1 := henv.cell (k := 1) rfl
            have q2 := henv.cell (k := 2) rfl
            have q3 := henv.cell (k := 3) rfl
            have hf := henv.free 1
            have hD := hD.calm hg5
            have hM := hown
            clear hown hg5
            refine hKK _ _ trivial ?_
            clear hKK KK
            refine held_next 8 (by kernel_rfl) rfl ?_
            intro KK hKK
            go_simp
            refine (HCX.out _ hgr).mono ?_
            rintro e W2 ⟨p3, c3, rfl, hown, hg5⟩
            have hgr := grownBy_trans hgr hg5
            have henv := henv.calm hg5
            have hres := hres.calm hg5
            have q1 := henv.cell (k := 1) rfl
            have q2 := henv.cell (k := 2) rfl
            have q3 := henv.cell (k := 3) rfl
            have hf := henv.free 1
            have hD := hD.calm hg5
            have hM := hM.calm hg5
            have hX := hown
            clear hown hg5
            refine hKK _ _ trivial ?_
            clear hKK KK
            clear q1 q2 q3 hf
            have hgr := grownBy_trans HG2.out hgr
            refine held_next 10 (by kernel_rfl) rfl ?_
            intro KK hKK
            have q1 := henv.cell (k := 1) rfl
            have f1 := henv.free 1
            go_simp
            have henv := henv.set 1 (.slice p1 nd c1)
            have hres := hres.keepSet (b := b0) (by omega) 1 (.slice p1 nd c1)
            have hgr := grownBy_setNew hgr HB0.out 1 (.slice p1 nd c1)
            have hD := hD.set HB1.out 1 (.slice p1 nd c1)
            have hM := hM.set HB1.out 1 (.slice p1 nd c1)
            have hX := hX.set HB1.out 1 (.slice p1 nd c1)
            clear q1 f1
            generalize World.setCell _ ⟨b0, 1, none⟩ _ = V0 at *
            refine hKK _ _ trivial ?_
            clear hKK KK
            refine wpAnyH_take (i := 11) (v := .pointer (some ⟨b0, 2, none⟩)) rfl (by kernel_rfl) (by kernel_rfl) (by kernel_rfl) (fun _ _ _ h => h) (.inl ⟨by rfl, ?_⟩) trivial ?_
            · rintro w' -
              go_simp
            simp only [Act.put, List.getElem_toArray, List.getElem_cons_succ, List.getElem_cons_zero, List.setIfInBounds_toArray, List.set_cons_zero, List.set_cons_succ]
            refine held_next 12 (by kernel_rfl) rfl ?_
            intro KK hKK
            have q1 := henv.cell (k := 2) rfl
            have f1 := henv.free 2
            go_simp
            have henv := henv.set 2 (.slice p2 nm c2)
            have hres := hres.keepSet (b := b0) (by omega) 2 (.slice p2 nm c2)
            have hgr := grownBy_setNew hgr HB0.out 2 (.slice p2 nm c2)
            have hD := hD.set HB1.out 2 (.slice p2 nm c2)
            have hM := hM.set HB1.out 2 (.slice p2 nm c2)
            have hX := hX.set HB1.out 2 (.slice p2 nm c2)
            clear q1 f1
            generalize World.setCell _ ⟨b0, 2, none⟩ _ = V1 at *
            refine hKK _ _ trivial ?_
            clear hKK KK
            refine wpAnyH_take (i := 13) (v := .pointer (some ⟨b0, 3, none⟩)) rfl (by kernel_rfl) (by kernel_rfl) (by kernel_rfl) (fun _ _ _ h => h) (.inl ⟨by rfl, ?_⟩) trivial ?_
            · rintro w' -
              go_simp
            simp only [Act.put, List.getElem_toArray, List.getElem_cons_succ, List.getElem_cons_zero, List.setIfInBounds_toArray, List.set_cons_zero, List.set_cons_succ]
            refine held_next 14 (by kernel_rfl) rfl ?_
            intro KK hKK
            have q1 := henv.cell (k := 3) rfl
            have f1 := henv.free 3
            go_simp
            have henv := henv.set 3 (.slice p3 nx c3)
            have hres := hres.keepSet (b := b0) (by omega) 3 (.slice p3 nx c3)
            have hgr := grownBy_setNew hgr HB0.out 3 (.slice p3 nx c3)
            have hD := hD.set HB1.out 3 (.slice p3 nx c3)
            have hM := hM.set HB1.out 3 (.slice p3 nx c3)
            have hX := hX.set HB1.out 3 (.slice p3 nx c3)
            clear q1 f1
            generalize World.setCell _ ⟨b0, 3, none⟩ _ = V2 at *
            refine hKK _ _ trivial ?_
            clear hKK KK
            refine wpAnyH_done (by kernel_rfl) ?_ _
            go_wp2
            go_meet
            exact HEND.out _ p1 p2 p3 c1 c2 c3 henv hD hM hX hres hgr
        · skip
          go_simp
          refine hKK _ _ trivial ?_
          clear hKK KK
          refine held_next 2 (by kernel_rfl) rfl ?_
          intro KK hKK
          go_simp
          refine (HCD.out _ hgr).mono ?_
          rintro e W0 ⟨p1, c1, rfl, hown, hg5⟩
          have hgr := grownBy_trans hgr hg5
          have henv := henv.calm hg5
          have hres := hres.calm hg5
          have q1 := henv.cell (k := 1) rfl
          have q2 := henv.cell (k := 2) rfl
          have q3 := henv.cell (k := 3) rfl
          have hf := henv.free 1
          have hD := hown
          clear hown hg5
          refine hKK _ _ trivial ?_
          clear hKK KK
          refine wpAnyH_take (i := 9) (v := .pointer (some ⟨b0, 1, none⟩)) rfl (by kernel_rfl) (by kernel_rfl) (by kernel_rfl) (fun _ _ _ h => h) (.inl ⟨by rfl, ?_⟩) trivial ?_
          · rintro w' -
            go_simp
          simp only [Act.put, List.getElem_toArray, List.getElem_cons_succ, List.getElem_cons_zero, List.setIfInBounds_toArray, List.set_cons_zero, List.set_cons_succ]
          refine held_next 5 (by kernel_rfl) rfl ?_
          intro KK hKK
          go_simp
          refine (HCM.out _ hgr).mono ?_
          rintro e W1 ⟨p2, c2, rfl, hown, hg5⟩
          have hgr := grownBy_trans hgr hg5
          have henv := henv.calm hg5
          have hres := hres.calm hg5
          have q1 := henv.cell (k := 1) rfl
          have q2 := henv.cell (k := 2) rfl
          have q3 := henv.cell (k := 3) rfl
          have hf := henv.free 1
          have hD := hD.calm hg5
          have hM := hown
          clear hown hg5
          refine hKK _ _ trivial ?_
          clear hKK KK
          refine held_next 8 (by kernel_rfl) rfl ?_
          intro KK hKK
          go_simp
          refine (HCX.out _ hgr).mono ?_
          rintro e W2 ⟨p3, c3, rfl, hown, hg5⟩
          have hgr := grownBy_trans hgr hg5
          have henv := henv.calm hg5
          have hres := hres.calm hg5
          have q1 := henv.cell (k := 1) rfl
          have q2 := henv.cell (k := 2) rfl
          have q3 := henv.cell (k := 3) rfl
          have hf := henv.free 1
          have hD := hD.calm hg5
          have hM := hM.calm hg5
          have hX := hown
          clear hown hg5
          refine hKK _ _ trivial ?_
          clear hKK KK
          clear q1 q2 q3 hf
          have hgr := grownBy_trans HG2.out hgr
          refine held_next 10 (by kernel_rfl) rfl ?_
          intro KK hKK
          have q1 := henv.cell (k := 1) rfl
          have f1 := henv.free 1
          go_simp
          have henv := henv.set 1 (.slice p1 nd c1)
          have hres := hres.keepSet (b := b0) (by omega) 1 (.slice p1 nd c1)
          have hgr := grownBy_setNew hgr HB0.out 1 (.slice p1 nd c1)
          have hD := hD.set HB1.out 1 (.slice p1 nd c1)
          have hM := hM.set HB1.out 1 (.slice p1 nd c1)
          have hX := hX.set HB1.out 1 (.slice p1 nd c1)
          clear q1 f1
          generalize World.setCell _ ⟨b0, 1, none⟩ _ = V0 at *
          refine hKK _ _ trivial ?_
          clear hKK KK
          refine wpAnyH_take (i := 11) (v := .pointer (some ⟨b0, 2, none⟩)) rfl (by kernel_rfl) (by kernel_rfl) (by kernel_rfl) (fun _ _ _ h => h) (.inl ⟨by rfl, ?_⟩) trivial ?_
          · rintro w' -
            go_simp
          simp only [Act.put, List.getElem_toArray, List.getElem_cons_succ, List.getElem_cons_zero, List.setIfInBounds_toArray, List.set_cons_zero, List.set_cons_succ]
          refine held_next 12 (by kernel_rfl) rfl ?_
          intro KK hKK
          have q1 := henv.cell (k := 2) rfl
          have f1 := henv.free 2
          go_simp
          have henv := henv.set 2 (.slice p2 nm c2)
          have hres := hres.keepSet (b := b0) (by omega) 2 (.slice p2 nm c2)
          have hgr := grownBy_setNew hgr HB0.out 2 (.slice p2 nm c2)
          have hD := hD.set HB1.out 2 (.slice p2 nm c2)
          have hM := hM.set HB1.out 2 (.slice p2 nm c2)
          have hX := hX.set HB1.out 2 (.slice p2 nm c2)
          clear q1 f1
          generalize World.setCell _ ⟨b0, 2, none⟩ _ = V1 at *
          refine hKK _ _ trivial ?_
          clear hKK KK
          refine wpAnyH_take (i := 13) (v := .pointer (some ⟨b0, 3, none⟩)) rfl (by kernel_rfl) (by kernel_rfl) (by kernel_rfl) (fun _ _ _ h => h) (.inl ⟨by rfl, ?_⟩) trivial ?_
          · rintro w' -
            go_simp
          simp only [Act.put, List.getElem_toArray, List.getElem_cons_succ, List.getElem_cons_zero, List.setIfInBounds_toArray, List.set_cons_zero, List.set_cons_succ]
          refine held_next 14 (by kernel_rfl) rfl ?_
          intro KK hKK
          have q1 := henv.cell (k := 3) rfl
          have f1 := henv.free 3
          go_simp
          have henv := henv.set 3 (.slice p3 nx c3)
          have hres := hres.keepSet (b := b0) (by omega) 3 (.slice p3 nx c3)
          have hgr := grownBy_setNew hgr HB0.out 3 (.slice p3 nx c3)
          have hD := hD.set HB1.out 3 (.slice p3 nx c3)
          have hM := hM.set HB1.out 3 (.slice p3 nx c3)
          have hX := hX.set HB1.out 3 (.slice p3 nx c3)
          clear q1 f1
          generalize World.setCell _ ⟨b0, 3, none⟩ _ = V2 at *
          refine hKK _ _ trivial ?_
          clear hKK KK
          refine wpAnyH_done (by kernel_rfl) ?_ _
          go_wp2
          go_meet
          exact HEND.out _ p1 p2 p3 c1 c2 c3 henv hD hM hX hres hgr
      · skip
        go_simp
        refine hKK _ _ trivial ?_
        clear hKK KK
        refine held_two 2 4 (by kernel_rfl) rfl rfl (fun KK hKK => ?_) (fun KK hKK => ?_)
        · skip
          go_simp
          refine (HCD.out _ hgr).mono ?_
          rintro e W0 ⟨p1, c1, rfl, hown, hg5⟩
          have hgr := grownBy_trans hgr hg5
          have henv := henv.calm hg5
          have hres := hres.calm hg5
          have q1 := henv.cell (k := 1) rfl
          have q2 := henv.cell (k := 2) rfl
          have q3 := henv.cell (k := 3) rfl
          have hf := henv.free 1
          have hD := hown
          clear hown hg5
          refine hKK _ _ trivial ?_
          clear hKK KK
          refine held_next 4 (by kernel_rfl) rfl ?_
          intro KK hKK
          go_simp
          refine hKK _ _ trivial ?_
          clear hKK KK
          refine wpAnyH_take (i := 9) (v := .pointer (some ⟨b0, 1, none⟩)) rfl (by kernel_rfl) (by kernel_rfl) (by kernel_rfl) (fun _ _ _ h => h) (.inl ⟨by rfl, ?_⟩) trivial ?_
          · rintro w' -
            go_simp
          simp only [Act.put, List.getElem_toArray, List.getElem_cons_succ, List.getElem_cons_zero, List.setIfInBounds_toArray, List.set_cons_zero, List.set_cons_succ]
          refine held_next 5 (by kernel_rfl) rfl ?_
          intro KK hKK
          go_simp
          refine (HCM.out _ hgr).mono ?_
          rintro e W1 ⟨p2, c2, rfl, hown, hg5⟩
          have hgr := grownBy_trans hgr hg5
          have henv := henv.calm hg5
          have hres := hres.calm hg5
          have q1 := henv.cell (k := 1) rfl
          have q2 := henv.cell (k := 2) rfl
          have q3 := henv.cell (k := 3) rfl
          have hf := henv.free 1
          have hD := hD.calm hg5
          have hM := hown
          clear hown hg5
          refine hKK _ _ trivial ?_
          clear hKK KK
          refine held_next 8 (by kernel_rfl) rfl ?_
          intro KK hKK
          go_simp
          refine (HCX.out _ hgr).mono ?_
          rintro e W2 ⟨p3, c3, rfl, hown, hg5⟩
          have hgr := grownBy_trans hgr hg5
          have henv := henv.calm hg5
          have hres := hres.calm hg5
          have q1 := henv.cell (k := 1) rfl
          have q2 := henv.cell (k := 2) rfl
          have q3 := henv.cell (k := 3) rfl
          have hf := henv.free 1
          have hD := hD.calm hg5
          have hM := hM.calm hg5
          have hX := hown
          clear hown hg5
          refine hKK _ _ trivial ?_
          clear hKK KK
          clear q1 q2 q3 hf
          have hgr := grownBy_trans HG2.out hgr
          refine held_next 10 (by kernel_rfl) rfl ?_
          intro KK hKK
          have q1 := henv.cell (k := 1) rfl
          have f1 := henv.free 1
          go_simp
          have henv := henv.set 1 (.slice p1 nd c1)
          have hres := hres.keepSet (b := b0) (by omega) 1 (.slice p1 nd c1)
          have hgr := grownBy_setNew hgr HB0.out 1 (.slice p1 nd c1)
          have hD := hD.set HB1.out 1 (.slice p1 nd c1)
          have hM := hM.set HB1.out 1 (.slice p1 nd c1)
          have hX := hX.set HB1.out 1 (.slice p1 nd c1)
          clear q1 f1
          generalize World.setCell _ ⟨b0, 1, none⟩ _ = V0 at *
          refine hKK _ _ trivial ?_
          clear hKK KK
          refine wpAnyH_take (i := 11) (v := .pointer (some ⟨b0, 2, none⟩)) rfl (by kernel_rfl) (by kernel_rfl) (by kernel_rfl) (fun _ _ _ h => h) (.inl ⟨by rfl, ?_⟩) trivial ?_
          · rintro w' -
            go_simp
          simp only [Act.put, List.getElem_toArray, List.getElem_cons_succ, List.getElem_cons_zero, List.setIfInBounds_toArray, List.set_cons_zero, List.set_cons_succ]
          refine held_next 12 (by kernel_rfl) rfl ?_
          intro KK hKK
          have q1 := henv.cell (k := 2) rfl
          have f1 := henv.free 2
          go_simp
          have henv := henv.set 2 (.slice p2 nm c2)
          have hres := hres.keepSet (b := b0) (by omega) 2 (.slice p2 nm c2)
          have hgr := grownBy_setNew hgr HB0.out 2 (.slice p2 nm c2)
          have hD := hD.set HB1.out 2 (.slice p2 nm c2)
          have hM := hM.set HB1.out 2 (.slice p2 nm c2)
          have hX := hX.set HB1.out 2 (.slice p2 nm c2)
          clear q1 f1
          generalize World.setCell _ ⟨b0, 2, none⟩ _ = V1 at *
          refine hKK _ _ trivial ?_
          clear hKK KK
          refine wpAnyH_take (i := 13) (v := .pointer (some ⟨b0, 3, none⟩)) rfl (by kernel_rfl) (by kernel_rfl) (by kernel_rfl) (fun _ _ _ h => h) (.inl ⟨by rfl, ?_⟩) trivial ?_
          · rintro w' -
            go_simp
          simp only [Act.put, List.getElem_toArray, List.getElem_cons_succ, List.getElem_cons_zero, List.setIfInBounds_toArray, List.set_cons_zero, List.set_cons_succ]
          refine held_next 14 (by kernel_rfl) rfl ?_
          intro KK hKK
          have q1 := henv.cell (k := 3) rfl
          have f1 := henv.free 3
          go_simp
          have henv := henv.set 3 (.slice p3 nx c3)
          have hres := hres.keepSet (b := b0) (by omega) 3 (.slice p3 nx c3)
          have hgr := grownBy_setNew hgr HB0.out 3 (.slice p3 nx c3)
          have hD := hD.set HB1.out 3 (.slice p3 nx c3)
          have hM := hM.set HB1.out 3 (.slice p3 nx c3)
          have hX := hX.set HB1.out 3 (.slice p3 nx c3)
          clear q1 f1
          generalize World.setCell _ ⟨b0, 3, none⟩ _ = V2 at *
          refine hKK _ _ trivial ?_
          clear hKK KK
          refine wpAnyH_done (by kernel_rfl) ?_ _
          go_wp2
          go_meet
          exact HEND.out _ p1 p2 p3 c1 c2 c3 henv hD hM hX hres hgr
        · skip
          go_simp
          refine hKK _ _ trivial ?_
          clear hKK KK
          refine held_next 2 (by kernel_rfl) rfl ?_
          intro KK hKK
          go_simp
          refine (HCD.out _ hgr).mono ?_
          rintro e W0 ⟨p1, c1, rfl, hown, hg5⟩
          have hgr := grownBy_trans hgr hg5
          have henv := henv.calm hg5
          have hres := hres.calm hg5
          have q1 := henv.cell (k := 1) rfl
          have q2 := henv.cell (k := 2) rfl
          have q3 := henv.cell (k := 3) rfl
          have hf := henv.free 1
          have hD := hown
          clear hown hg5
          refine hKK _ _ trivial ?_
          clear hKK KK
          refine wpAnyH_take (i := 9) (v := .pointer (some ⟨b0, 1, none⟩)) rfl (by kernel_rfl) (by kernel_rfl) (by kernel_rfl) (fun _ _ _ h => h) (.inl ⟨by rfl, ?_⟩) trivial ?_
          · rintro w' -
            go_simp
          simp only [Act.put, List.getElem_toArray, List.getElem_cons_succ, List.getElem_cons_zero, List.setIfInBounds_toArray, List.set_cons_zero, List.set_cons_succ]
          refine held_next 5 (by kernel_rfl) rfl ?_
          intro KK hKK
          go_simp
          refine (HCM.out _ hgr).mono ?_
          rintro e W1 ⟨p2, c2, rfl, hown, hg5⟩
          have hgr := grownBy_trans hgr hg5
          have henv := henv.calm hg5
          have hres := hres.calm hg5
          have q1 := henv.cell (k := 1) rfl
          have q2 := henv.cell (k := 2) rfl
          have q3 := henv.cell (k := 3) rfl
          have hf := henv.free 1
          have hD := hD.calm hg5
          have hM := hown
          clear hown hg5
          refine hKK _ _ trivial ?_
          clear hKK KK
          refine held_next 8 (by kernel_rfl) rfl ?_
          intro KK hKK
          go_simp
          refine (HCX.out _ hgr).mono ?_
          rintro e W2 ⟨p3, c3, rfl, hown, hg5⟩
          have hgr := grownBy_trans hgr hg5
          have henv := henv.calm hg5
          have hres := hres.calm hg5
          have q1 := henv.cell (k := 1) rfl
          have q2 := henv.cell (k := 2) rfl
          have q3 := henv.cell (k := 3) rfl
          have hf := henv.free 1
          have hD := hD.calm hg5
          have hM := hM.calm hg5
          have hX := hown
          clear hown hg5
          refine hKK _ _ trivial ?_
          clear hKK KK
          clear q1 q2 q3 hf
          have hgr := grownBy_trans HG2.out hgr
          refine held_next 10 (by kernel_rfl) rfl ?_
          intro KK hKK
          have q1 := henv.cell (k := 1) rfl
          have f1 := henv.free 1
          go_simp
          have henv := henv.set 1 (.slice p1 nd c1)
          have hres := hres.keepSet (b := b0) (by omega) 1 (.slice p1 nd c1)
          have hgr := grownBy_setNew hgr HB0.out 1 (.slice p1 nd c1)
          have hD := hD.set HB1.out 1 (.slice p1 nd c1)
          have hM := hM.set HB1.out 1 (.slice p1 nd c1)
          have hX := hX.set HB1.out 1 (.slice p1 nd c1)
          clear q1 f1
          generalize World.setCell _ ⟨b0, 1, none⟩ _ = V0 at *
          refine hKK _ _ trivial ?_
          clear hKK KK
          refine wpAnyH_take (i := 11) (v := .pointer (some ⟨b0, 2, none⟩)) rfl (by kernel_rfl) (by kernel_rfl) (by kernel_rfl) (fun _ _ _ h => h) (.inl ⟨by rfl, ?_⟩) trivial ?_
          · rintro w' -
            go_simp
          simp only [Act.put, List.getElem_toArray, List.getElem_cons_succ, List.getElem_cons_zero, List.setIfInBounds_toArray, List.set_cons_zero, List.set_cons_succ]
          refine held_next 12 (by kernel_rfl) rfl ?_
          intro KK hKK
          have q1 := henv.cell (k := 2) rfl
          have f1 := henv.free 2
          go_simp
          have henv := henv.set 2 (.slice p2 nm c2)
          have hres := hres.keepSet (b := b0) (by omega) 2 (.slice p2 nm c2)
          have hgr := grownBy_setNew hgr HB0.out 2 (.slice p2 nm c2)
          have hD := hD.set HB1.out 2 (.slice p2 nm c2)
          have hM := hM.set HB1.out 2 (.slice p2 nm c2)
          have hX := hX.set HB1.out 2 (.slice p2 nm c2)
          clear q1 f1
          generalize World.setCell _ ⟨b0, 2, none⟩ _ = V1 at *
          refine hKK _ _ trivial ?_
          clear hKK KK
          refine wpAnyH_take (i := 13) (v := .pointer (some ⟨b0, 3, none⟩)) rfl (by kernel_rfl) (by kernel_rfl) (by kernel_rfl) (fun _ _ _ h => h) (.inl ⟨by rfl, ?_⟩) trivial ?_
          · rintro w' -
            go_simp
          simp only [Act.put, List.getElem_toArray, List.getElem_cons_succ, List.getElem_cons_zero, List.setIfInBounds_toArray, List.set_cons_zero, List.set_cons_succ]
          refine held_next 14 (by kernel_rfl) rfl ?_
          intro KK hKK
          have q1 := henv.cell (k := 3) rfl
          have f1 := henv.free 3
          go_simp
          have henv := henv.set 3 (.slice p3 nx c3)
          have hres := hres.keepSet (b := b0) (by omega) 3 (.slice p3 nx c3)
          have hgr := grownBy_setNew hgr HB0.out 3 (.slice p3 nx c3)
          have hD := hD.set HB1.out 3 (.slice p3 nx c3)
          have hM := hM.set HB1.out 3 (.slice p3 nx c3)
          have hX := hX.set HB1.out 3 (.slice p3 nx c3)
          clear q1 f1
          generalize World.setCell _ ⟨b0, 3, none⟩ _ = V2 at *
          refine hKK _ _ trivial ?_
          clear hKK KK
          refine wpAnyH_done (by kernel_rfl) ?_ _
          go_wp2
          go_meet
          exact HEND.out _ p1 p2 p3 c1 c2 c3 henv hD hM hX hres hgr
    · skip
      go_simp
      refine hKK _ _ trivial ?_
      clear hKK KK
      refine held_two 1 7 (by kernel_rfl) rfl rfl (fun KK hKK => ?_) (fun KK hKK => ?_)
      · skip
        go_simp
        refine hKK _ _ trivial ?_
        clear hKK KK
        refine held_two 2 7 (by kernel_rfl) rfl rfl (fun KK hKK => ?_) (fun KK hKK => ?_)
        · skip
          go_simp
          refine (HCD.out _ hgr).mono ?_
          rintro e W0 ⟨p1, c1, rfl, hown, hg5⟩
          have hgr := grownBy_trans hgr hg5
          have henv := henv.calm hg5
          have hres := hres.calm hg5
          have q1 := henv.cell (k := 1) rfl
          have q2 := henv.cell (k := 2) rfl
          have q3 := henv.cell (k := 3) rfl
          have hf := henv.free 1
          have hD := hown
          clear hown hg5
          refine hKK _ _ trivial ?_
          clear hKK KK
          refine held_two 5 7 (by kernel_rfl) rfl rfl (fun KK hKK => ?_) (fun KK hKK => ?_)
          · skip
            go_simp
            refine (HCM.out _ hgr).mono ?_
            rintro e W1 ⟨p2, c2, rfl, hown, hg5⟩
            have hgr := grownBy_trans hgr hg5
            have henv := henv.calm hg5
            have hres := hres.calm hg5
            have q1 := henv.cell (k := 1) rfl
            have q2 := henv.cell (k := 2) rfl
            have q3 := henv.cell (k := 3) rfl
            have hf := henv.free 1
            have hD := hD.calm hg5
            have hM := hown
            clear hown hg5
            refine hKK _ _ trivial ?_
            clear hKK KK
            refine held_next 7 (by kernel_rfl) rfl ?_
            intro KK hKK
            go_simp
            refine hKK _ _ trivial ?_
            clear hKK KK
            refine wpAnyH_take (i := 9) (v := .pointer (some ⟨b0, 1, none⟩)) rfl (by kernel_rfl) (by kernel_rfl) (by kernel_rfl) (fun _ _ _ h => h) (.inl ⟨by rfl, ?_⟩) trivial ?_
            · rintro w' -
              go_simp
            simp only [Act.put, List.getElem_toArray, List.getElem_cons_succ, List.getElem_cons_zero, List.setIfInBounds_toArray, List.set_cons_zero, List.set_cons_succ]
            refine held_next 8 (by kernel_rfl) rfl ?_
            intro KK hKK
            go_simp
            refine (HCX.out _ hgr).mono ?_
            rintro e W2 ⟨p3, c3, rfl, hown, hg5⟩
            have hgr := grownBy_trans hgr hg5
            have henv := henv.calm hg5
            have hres := hres.calm hg5
            have q1 := henv.cell (k := 1) rfl
            have q2 := henv.cell (k := 2) rfl
            have q3 := henv.cell (k := 3) rfl
            have hf := henv.free 1
            have hD := hD.calm hg5
            have hM := hM.calm hg5
            have hX := hown
            clear hown hg5
            refine hKK _ _ trivial ?_
            clear hKK KK
            clear q1 q2 q3 hf
            have hgr := grownBy_trans HG2.out hgr
            refine held_next 10 (by kernel_rfl) rfl ?_
            intro KK hKK
            have q1 := henv.cell (k := 1) rfl
            have f1 := henv.free 1
            go_simp
            have henv := henv.set 1 (.slice p1 nd c1)
            have hres := hres.keepSet (b := b0) (by omega) 1 (.slice p1 nd c1)
            have hgr := grownBy_setNew hgr HB0.out 1 (.slice p1 nd c1)
            have hD := hD.set HB1.out 1 (.slice p1 nd c1)
            have hM := hM.set HB1.out 1 (.slice p1 nd c1)
            have hX := hX.set HB1.out 1 (.slice p1 nd c1)
            clear q1 f1
            generalize World.setCell _ ⟨b0, 1, none⟩ _ = V0 at *
            refine hKK _ _ trivial ?_
            clear hKK KK
            refine wpAnyH_take (i := 11) (v := .pointer (some ⟨b0, 2, none⟩)) rfl (by kernel_rfl) (by kernel_rfl) (by kernel_rfl) (fun _ _ _ h => h) (.inl ⟨by rfl, ?_⟩) trivial ?_
            · rintro w' -
              go_simp
            simp only [Act.put, List.getElem_toArray, List.getElem_cons_succ, List.getElem_cons_zero, List.setIfInBounds_toArray, List.set_cons_zero, List.set_cons_succ]
            refine held_next 12 (by kernel_rfl) rfl ?_
            intro KK hKK
            have q1 := henv.cell (k := 2) rfl
            have f1 := henv.free 2
            go_simp
            have henv := henv.set 2 (.slice p2 nm c2)
            have hres := hres.keepSet (b := b0) (by omega) 2 (.slice p2 nm c2)
            have hgr := grownBy_setNew hgr HB0.out 2 (.slice p2 nm c2)
            have hD := hD.set HB1.out 2 (.slice p2 nm c2)
            have hM := hM.set HB1.out 2 (.slice p2 nm c2)
            have hX := hX.set HB1.out 2 (.slice p2 nm c2)
            clear q1 f1
            generalize World.setCell _ ⟨b0, 2, none⟩ _ = V1 at *
            refine hKK _ _ trivial ?_
            clear hKK KK
            refine wpAnyH_take (i := 13) (v := .pointer (some ⟨b0, 3, none⟩)) rfl (by kernel_rfl) (by kernel_rfl) (by kernel_rfl) (fun _ _ _ h => h) (.inl ⟨by rfl, ?_⟩) trivial ?_
            · rintro w' -
              go_simp
            simp only [Act.put, List.getElem_toArray, List.getElem_cons_succ, List.getElem_cons_zero, List.setIfInBounds_toArray, List.set_cons_zero, List.set_cons_succ]
            refine held_next 14 (by kernel_rfl) rfl ?_
            intro KK hKK
            have q1 := henv.cell (k := 3) rfl
            have f1 := henv.free 3
            go_simp
            have henv := henv.set 3 (.slice p3 nx c3)
            have hres := hres.keepSet (b := b0) (by omega) 3 (.slice p3 nx c3)
            have hgr := grownBy_setNew hgr HB0.out 3 (.slice p3 nx c3)
            have hD := hD.set HB1.out 3 (.slice p3 nx c3)
            have hM := hM.set HB1.out 3 (.slice p3 nx c3)
            have hX := hX.set HB1.out 3 (.slice p3 nx c3)
            clear q1 f1
            generalize World.setCell _ ⟨b0, 3, none⟩ _ = V2 at *
            refine hKK _ _ trivial ?_
            clear hKK KK
            refine wpAnyH_done (by kernel_rfl) ?_ _
            go_wp2
            go_meet
            exact HEND.out _ p1 p2 p3 c1 c2 c3 henv hD hM hX hres hgr
          · skip
            go_simp
            refine hKK _ _ trivial ?_
            clear hKK KK
            refine wpAnyH_take (i := 9) (v := .pointer (some ⟨b0, 1, none⟩)) rfl (by kernel_rfl) (by kernel_rfl) (by kernel_rfl) (fun _ _ _ h => h) (.inl ⟨by rfl, ?_⟩) trivial ?_
            · rintro w' -
              go_simp
            simp only [Act.put, List.getElem_toArray, List.getElem_cons_succ, List.getElem_cons_zero, List.setIfInBounds_toArray, List.set_cons_zero, List.set_cons_succ]
            refine held_next 5 (by kernel_rfl) rfl ?_
            intro KK hKK
            go_simp
            refine (HCM.out _ hgr).mono ?_
            rintro e W1 ⟨p2, c2, rfl, hown, hg5⟩
            have hgr := grownBy_trans hgr hg5
            have henv := henv.calm hg5
            have hres := hres.calm hg5
            have q1 := henv.cell (k := 1) rfl
            have q2 := henv.cell (k := 2) rfl
            have q3 := henv.cell (k := 3) rfl
            have hf := henv.free 1
            have hD := hD.calm hg5
            have hM := hown
            clear hown hg5
            refine hKK _ _ trivial ?_
            clear hKK KK
            refine held_next 8 (by kernel_rfl) rfl ?_
            intro KK hKK
            go_simp
            refine (HCX.out _ hgr).mono ?_
            rintro e W2 ⟨p3, c3, rfl, hown, hg5⟩
            have hgr := grownBy_trans hgr hg5
            have henv := henv.calm hg5
            have hres := hres.calm hg5
            have q1 := henv.cell (k := 1) rfl
            have q2 := henv.cell (k := 2) rfl
            have q3 := henv.cell (k := 3) rfl
            have hf := henv.free 1
            have hD := hD.calm hg5
            have hM := hM.calm hg5
            have hX := hown
            clear hown hg5
            refine hKK _ _ trivial ?_
            clear hKK KK
            clear q1 q2 q3 hf
            have hgr := grownBy_trans HG2.out hgr
            refine held_next 10 (by kernel_rfl) rfl ?_
            intro KK hKK
            have q1 := henv.cell (k := 1) rfl
            have f1 := henv.free 1
            go_simp
            have henv := henv.set 1 (.slice p1 nd c1)
            have hres := hres.keepSet (b := b0) (by omega) 1 (.slice p1 nd c1)
            have hgr := grownBy_setNew hgr HB0.out 1 (.slice p1 nd c1)
            have hD := hD.set HB1.out 1 (.slice p1 nd c1)
            have hM := hM.set HB1.out 1 (.slice p1 nd c1)
            have hX := hX.set HB1.out 1 (.slice p1 nd c1)
            clear q1 f1
            generalize World.setCell _ ⟨b0, 1, none⟩ _ = V0 at *
            refine hKK _ _ trivial ?_
            clear hKK KK
            refine wpAnyH_take (i := 11) (v := .pointer (some ⟨b0, 2, none⟩)) rfl (by kernel_rfl) (by kernel_rfl) (by kernel_rfl) (fun _ _ _ h => h) (.inl ⟨by rfl, ?_⟩) trivial ?_
            · rintro w' -
              go_simp
            simp only [Act.put, List.getElem_toArray, List.getElem_cons_succ, List.getElem_cons_zero, List.setIfInBounds_toArray, List.set_cons_zero, List.set_cons_succ]
            refine held_next 12 (by kernel_rfl) rfl ?_
            intro KK hKK
            have q1 := henv.cell (k := 2) rfl
            have f1 := henv.free 2
            go_simp
            have henv := henv.set 2 (.slice p2 nm c2)
            have hres := hres.keepSet (b := b0) (by omega) 2 (.slice p2 nm c2)
            have hgr := grownBy_setNew hgr HB0.out 2 (.slice p2 nm c2)
            have hD := hD.set HB1.out 2 (.slice p2 nm c2)
            have hM := hM.set HB1.out 2 (.slice p2 nm c2)
            have hX := hX.set HB1.out 2 (.slice p2 nm c2)
            clear q1 f1
            generalize World.setCell _ ⟨b0, 2, none⟩ _ = V1 at *
            refine hKK _ _ trivial ?_
            clear hKK KK
            refine wpAnyH_take (i := 13) (v := .pointer (some ⟨b0, 3, none⟩)) rfl (by kernel_rfl) (by kernel_rfl) (by kernel_rfl) (fun _ _ _ h => h) (.inl ⟨by rfl, ?_⟩) trivial ?_
            · rintro w' -
              go_simp
            simp only [Act.put, List.getElem_toArray, List.getElem_cons_succ, List.getElem_cons_zero, List.setIfInBounds_toArray, List.set_cons_zero, List.set_cons_succ]
            refine held_next 14 (by kernel_rfl) rfl ?_
            intro KK hKK
            have q1 := henv.cell (k := 3) rfl
            have f1 := henv.free 3
            go_simp
            have henv := henv.set 3 (.slice p3 nx c3)
            have hres := hres.keepSet (b := b0) (by omega) 3 (.slice p3 nx c3)
            have hgr := grownBy_setNew hgr HB0.out 3 (.slice p3 nx c3)
            have hD := hD.set HB1.out 3 (.slice p3 nx c3)
            have hM := hM.set HB1.out 3 (.slice p3 nx c3)
            have hX := hX.set HB1.out 3 (.slice p3 nx c3)
            clear q1 f1
            generalize World.setCell _ ⟨b0, 3, none⟩ _ = V2 at *
            refine hKK _ _ trivial ?_
            clear hKK KK
            refine wpAnyH_done (by kernel_rfl) ?_ _
            go_wp2
            go_meet
            exact HEND.out _ p1 p2 p3 c1 c2 c3 henv hD hM hX hres hgr
        · skip
          go_simp
          refine hKK _ _ trivial ?_
          clear hKK KK
          refine held_next 2 (by kernel_rfl) rfl ?_
          intro KK hKK
          go_simp
          refine (HCD.out _ hgr).mono ?_
          rintro e W0 ⟨p1, c1, rfl, hown, hg5⟩
          have hgr := grownBy_trans hgr hg5
          have henv := henv.calm hg5
          have hres := hres.calm hg5
          have q1 := henv.cell (k := 1) rfl
          have q2 := henv.cell (k := 2) rfl
          have q3 := henv.cell (k := 3) rfl
          have hf := henv.free 1
          have hD := hown
          clear hown hg5
          refine hKK _ _ trivial ?_
          clear hKK KK
          refine wpAnyH_take (i := 9) (v := .pointer (some ⟨b0, 1, none⟩)) rfl (by kernel_rfl) (by kernel_rfl) (by kernel_rfl) (fun _ _ _ h => h) (.inl ⟨by rfl, ?_⟩) trivial ?_
          · rintro w' -
            go_simp
          simp only [Act.put, List.getElem_toArray, List.getElem_cons_succ, List.getElem_cons_zero, List.setIfInBounds_toArray, List.set_cons_zero, List.set_cons_succ]
          refine held_next 5 (by kernel_rfl) rfl ?_
          intro KK hKK
          go_simp
          refine (HCM.out _ hgr).mono ?_
          rintro e W1 ⟨p2, c2, rfl, hown, hg5⟩
          have hgr := grownBy_trans hgr hg5
          have henv := henv.calm hg5
          have hres := hres.calm hg5
          have q1 := henv.cell (k := 1) rfl
          have q2 := henv.cell (k := 2) rfl
          have q3 := henv.cell (k := 3) rfl
          have hf := henv.free 1
          have hD := hD.calm hg5
          have hM := hown
          clear hown hg5
          refine hKK _ _ trivial ?_
          clear hKK KK
          refine held_next 8 (by kernel_rfl) rfl ?_
          intro KK hKK
          go_simp
          refine (HCX.out _ hgr).mono ?_
          rintro e W2 ⟨p3, c3, rfl, hown, hg5⟩
          have hgr := grownBy_trans hgr hg5
          have henv := henv.calm hg5
          have hres := hres.calm hg5
          have q1 := henv.cell (k := 1) rfl
          have q2 := henv.cell (k := 2) rfl
          have q3 := henv.cell (k := 3) rfl
          have hf := henv.free 1
          have hD := hD.calm hg5
          have hM := hM.calm hg5
          have hX := hown
          clear hown hg5
          refine hKK _ _ trivial ?_
          clear hKK KK
          clear q1 q2 q3 hf
          have hgr := grownBy_trans HG2.out hgr
          refine held_next 10 (by kernel_rfl) rfl ?_
          intro KK hKK
          have q1 := henv.cell (k := 1) rfl
          have f1 := henv.free 1
          go_simp
          have henv := henv.set 1 (.slice p1 nd c1)
          have hres := hres.keepSet (b := b0) (by omega) 1 (.slice p1 nd c1)
          have hgr := grownBy_setNew hgr HB0.out 1 (.slice p1 nd c1)
          have hD := hD.set HB1.out 1 (.slice p1 nd c1)
          have hM := hM.set HB1.out 1 (.slice p1 nd c1)
          have hX := hX.set HB1.out 1 (.slice p1 nd c1)
          clear q1 f1
          generalize World.setCell _ ⟨b0, 1, none⟩ _ = V0 at *
          refine hKK _ _ trivial ?_
          clear hKK KK
          refine wpAnyH_take (i := 11) (v := .pointer (some ⟨b0, 2, none⟩)) rfl (by kernel_rfl) (by kernel_rfl) (by kernel_rfl) (fun _ _ _ h => h) (.inl ⟨by rfl, ?_⟩) trivial ?_
          · rintro w' -
            go_simp
          simp only [Act.put, List.getElem_toArray, List.getElem_cons_succ, List.getElem_cons_zero, List.setIfInBounds_toArray, List.set_cons_zero, List.set_cons_succ]
          refine held_next 12 (by kernel_rfl) rfl ?_
          intro KK hKK
          have q1 := henv.cell (k := 2) rfl
          have f1 := henv.free 2
          go_simp
          have henv := henv.set 2 (.slice p2 nm c2)
          have hres := hres.keepSet (b := b0) (by omega) 2 (.slice p2 nm c2)
          have hgr := grownBy_setNew hgr HB0.out 2 (.slice p2 nm c2)
          have hD := hD.set HB1.out 2 (.slice p2 nm c2)
          have hM := hM.set HB1.out 2 (.slice p2 nm c2)
          have hX := hX.set HB1.out 2 (.slice p2 nm c2)
          clear q1 f1
          generalize World.setCell _ ⟨b0, 2, none⟩ _ = V1 at *
          refine hKK _ _ trivial ?_
          clear hKK KK
          refine wpAnyH_take (i := 13) (v := .pointer (some ⟨b0, 3, none⟩)) rfl (by kernel_rfl) (by kernel_rfl) (by kernel_rfl) (fun _ _ _ h => h) (.inl ⟨by rfl, ?_⟩) trivial ?_
          · rintro w' -
            go_simp
          simp only [Act.put, List.getElem_toArray, List.getElem_cons_succ, List.getElem_cons_zero, List.setIfInBounds_toArray, List.set_cons_zero, List.set_cons_succ]
          refine held_next 14 (by kernel_rfl) rfl ?_
          intro KK hKK
          have q1 := henv.cell (k := 3) rfl
          have f1 := henv.free 3
          go_simp
          have henv := henv.set 3 (.slice p3 nx c3)
          have hres := hres.keepSet (b := b0) (by omega) 3 (.slice p3 nx c3)
          have hgr := grownBy_setNew hgr HB0.out 3 (.slice p3 nx c3)
          have hD := hD.set HB1.out 3 (.slice p3 nx c3)
          have hM := hM.set HB1.out 3 (.slice p3 nx c3)
          have hX := hX.set HB1.out 3 (.slice p3 nx c3)
          clear q1 f1
          generalize World.setCell _ ⟨b0, 3, none⟩ _ = V2 at *
          refine hKK _ _ trivial ?_
          clear hKK KK
          refine wpAnyH_done (by kernel_rfl) ?_ _
          go_wp2
          go_meet
          exact HEND.out _ p1 p2 p3 c1 c2 c3 henv hD hM hX hres hgr
      · skip
        go_simp
        refine hKK _ _ trivial ?_
        clear hKK KK
        refine held_next 1 (by kernel_rfl) rfl ?_
        intro KK hKK
        go_simp
        refine hKK _ _ trivial ?_
        clear hKK KK
        refine held_next 2 (by kernel_rfl) rfl ?_
        intro KK hKK
        go_simp
        refine (HCD.out _ hgr).mono ?_
        rintro e W0 ⟨p1, c1, rfl, hown, hg5⟩
        have hgr := grownBy_trans hgr hg5
        have henv := henv.calm hg5
        have hres := hres.calm hg5
        have q1 := henv.cell (k := 1) rfl
        have q2 := henv.cell (k := 2) rfl
        have q3 := henv.cell (k := 3) rfl
        have hf := henv.free 1
        have hD := hown
        clear hown hg5
        refine hKK _ _ trivial ?_
        clear hKK KK
        refine wpAnyH_take (i := 9) (v := .pointer (some ⟨b0, 1, none⟩)) rfl (by kernel_rfl) (by kernel_rfl) (by kernel_rfl) (fun _ _ _ h => h) (.inl ⟨by rfl, ?_⟩) trivial ?_
        · rintro w' -
          go_simp
        simp only [Act.put, List.getElem_toArray, List.getElem_cons_succ, List.getElem_cons_zero, List.setIfInBounds_toArray, List.set_cons_zero, List.set_cons_succ]
        refine held_next 5 (by kernel_rfl) rfl ?_
        intro KK hKK
        go_simp
        refine (HCM.out _ hgr).mono ?_
        rintro e W1 ⟨p2, c2, rfl, hown, hg5⟩
        have hgr := grownBy_trans hgr hg5
        have henv := henv.calm hg5
        have hres := hres.calm hg5
        have q1 := henv.cell (k := 1) rfl
        have q2 := henv.cell (k := 2) rfl
        have q3 := henv.cell (k := 3) rfl
        have hf := henv.free 1
        have hD := hD.calm hg5
        have hM := hown
        clear hown hg5
        refine hKK _ _ trivial ?_
        clear hKK KK
        refine held_next 8 (by kernel_rfl) rfl ?_
        intro KK hKK
        go_simp
        refine (HCX.out _ hgr).mono ?_
        rintro e W2 ⟨p3, c3, rfl, hown, hg5⟩
        have hgr := grownBy_trans hgr hg5
        have henv := henv.calm hg5
        have hres := hres.calm hg5
        have q1 := henv.cell (k := 1) rfl
        have q2 := henv.cell (k := 2) rfl
        have q3 := henv.cell (k := 3) rfl
        have hf := henv.free 1
        have hD := hD.calm hg5
        have hM := hM.calm hg5
        have hX := hown
        clear hown hg5
        refine hKK _ _ trivial ?_
        clear hKK KK
        clear q1 q2 q3 hf
        have hgr := grownBy_trans HG2.out hgr
        refine held_next 10 (by kernel_rfl) rfl ?_
        intro KK hKK
        have q1 := henv.cell (k := 1) rfl
        have f1 := henv.free 1
        go_simp
        have henv := henv.set 1 (.slice p1 nd c1)
        have hres := hres.keepSet (b := b0) (by omega) 1 (.slice p1 nd c1)
        have hgr := grownBy_setNew hgr HB0.out 1 (.slice p1 nd c1)
        have hD := hD.set HB1.out 1 (.slice p1 nd c1)
        have hM := hM.set HB1.out 1 (.slice p1 nd c1)
        have hX := hX.set HB1.out 1 (.slice p1 nd c1)
        clear q1 f1
        generalize World.setCell _ ⟨b0, 1, none⟩ _ = V0 at *
        refine hKK _ _ trivial ?_
        clear hKK KK
        refine wpAnyH_take (i := 11) (v := .pointer (some ⟨b0, 2, none⟩)) rfl (by kernel_rfl) (by kernel_rfl) (by kernel_rfl) (fun _ _ _ h => h) (.inl ⟨by rfl, ?_⟩) trivial ?_
        · rintro w' -
          go_simp
        simp only [Act.put, List.getElem_toArray, List.getElem_cons_succ, List.getElem_cons_zero, List.setIfInBounds_toArray, List.set_cons_zero, List.set_cons_succ]
        refine held_next 12 (by kernel_rfl) rfl ?_
        intro KK hKK
        have q1 := henv.cell (k := 2) rfl
        have f1 := henv.free 2
        go_simp
        have henv := henv.set 2 (.slice p2 nm c2)
        have hres := hres.keepSet (b := b0) (by omega) 2 (.slice p2 nm c2)
        have hgr := grownBy_setNew hgr HB0.out 2 (.slice p2 nm c2)
        have hD := hD.set HB1.out 2 (.slice p2 nm c2)
        have hM := hM.set HB1.out 2 (.slice p2 nm c2)
        have hX := hX.set HB1.out 2 (.slice p2 nm c2)
        clear q1 f1
        generalize World.setCell _ ⟨b0, 2, none⟩ _ = V1 at *
        refine hKK _ _ trivial ?_
        clear hKK KK
        refine wpAnyH_take (i := 13) (v := .pointer (some ⟨b0, 3, none⟩)) rfl (by kernel_rfl) (by kernel_rfl) (by kernel_rfl) (fun _ _ _ h => h) (.inl ⟨by rfl, ?_⟩) trivial ?_
        · rintro w' -
          go_simp
        simp only [Act.put, List.getElem_toArray, List.getElem_cons_succ, List.getElem_cons_zero, List.setIfInBounds_toArray, List.set_cons_zero, List.set_cons_succ]
        refine held_next 14 (by kernel_rfl) rfl ?_
        intro KK hKK
        have q1 := henv.cell (k := 3) rfl
        have f1 := henv.free 3
        go_simp
        have henv := henv.set 3 (.slice p3 nx c3)
        have hres := hres.keepSet (b := b0) (by omega) 3 (.slice p3 nx c3)
        have hgr := grownBy_setNew hgr HB0.out 3 (.slice p3 nx c3)
        have hD := hD.set HB1.out 3 (.slice p3 nx c3)
        have hM := hM.set HB1.out 3 (.slice p3 nx c3)
        have hX := hX.set HB1.out 3 (.slice p3 nx c3)
        clear q1 f1
        generalize World.setCell _ ⟨b0, 3, none⟩ _ = V2 at *
        refine hKK _ _ trivial ?_
        clear hKK KK
        refine wpAnyH_done (by kernel_rfl) ?_ _
        go_wp2
        go_meet
        exact HEND.out _ p1 p2 p3 c1 c2 c3 henv hD hM hX hres hgr
    · skip
      go_simp
      refine hKK _ _ trivial ?_
      clear hKK KK
      refine held_two 1 4 (by kernel_rfl) rfl rfl (fun KK hKK => ?_) (fun KK hKK => ?_)
      · skip
        go_simp
        refine hKK _ _ trivial ?_
        clear hKK KK
        refine held_two 2 4 (by kernel_rfl) rfl rfl (fun KK hKK => ?_) (fun KK hKK => ?_)
        · skip
          go_simp
          refine (HCD.out _ hgr).mono ?_
          rintro e W0 ⟨p1, c1, rfl, hown, hg5⟩
          have hgr := grownBy_trans hgr hg5
          have henv := henv.calm hg5
          have hres := hres.calm hg5
          have q1 := henv.cell (k := 1) rfl
          have q2 := henv.cell (k := 2) rfl
          have q3 := henv.cell (k := 3) rfl
          have hf := henv.free 1
          have hD := hown
          clear hown hg5
          refine hKK _ _ trivial ?_
          clear hKK KK
          refine held_next 4 (by kernel_rfl) rfl ?_
          intro KK hKK
          go_simp
          refine hKK _ _ trivial ?_
          clear hKK KK
          refine wpAnyH_take (i := 9) (v := .pointer (some ⟨b0, 1, none⟩)) rfl (by kernel_rfl) (by kernel_rfl) (by kernel_rfl) (fun _ _ _ h => h) (.inl ⟨by rfl, ?_⟩) trivial ?_
          · rintro w' -
            go_simp
          simp only [Act.put, List.getElem_toArray, List.getElem_cons_succ, List.getElem_cons_zero, List.setIfInBounds_toArray, List.set_cons_zero, List.set_cons_succ]
          refine held_next 5 (by kernel_rfl) rfl ?_
          intro KK hKK
          go_simp
          refine (HCM.out _ hgr).mono ?_
          rintro e W1 ⟨p2, c2, rfl, hown, hg5⟩
          have hgr := grownBy_trans hgr hg5
          have henv := henv.calm hg5
          have hres := hres.calm hg5
          have q1 := henv.cell (k := 1) rfl
          have q2 := henv.cell (k := 2) rfl
          have q3 := henv.cell (k := 3) rfl
          have hf := henv.free 1
          have hD := hD.calm hg5
          have hM := hown
          clear hown hg5
          refine hKK _ _ trivial ?_
          clear hKK KK
          refine held_next 8 (by kernel_rfl) rfl ?_
          intro KK hKK
          go_simp
          refine (HCX.out _ hgr).mono ?_
          rintro e W2 ⟨p3, c3, rfl, hown, hg5⟩
          have hgr := grownBy_trans hgr hg5
          have henv := henv.calm hg5
          have hres := hres.calm hg5
          have q1 := henv.cell (k := 1) rfl
          have q2 := henv.cell (k := 2) rfl
          have q3 := henv.cell (k := 3) rfl
          have hf := henv.free 1
          have hD := hD.calm hg5
          have hM := hM.calm hg5
          have hX := hown
          clear hown hg5
          refine hKK _ _ trivial ?_
          clear hKK KK
          clear q1 q2 q3 hf
          have hgr := grownBy_trans HG2.out hgr
          refine held_next 10 (by kernel_rfl) rfl ?_
          intro KK hKK
          have q1 := henv.cell (k := 1) rfl
          have f1 := henv.free 1
          go_simp
          have henv := henv.set 1 (.slice p1 nd c1)
          have hres := hres.keepSet (b := b0) (by omega) 1 (.slice p1 nd c1)
          have hgr := grownBy_setNew hgr HB0.out 1 (.slice p1 nd c1)
          have hD := hD.set HB1.out 1 (.slice p1 nd c1)
          have hM := hM.set HB1.out 1 (.slice p1 nd c1)
          have hX := hX.set HB1.out 1 (.slice p1 nd c1)
          clear q1 f1
          generalize World.setCell _ ⟨b0, 1, none⟩ _ = V0 at *
          refine hKK _ _ trivial ?_
          clear hKK KK
          refine wpAnyH_take (i := 11) (v := .pointer (some ⟨b0, 2, none⟩)) rfl (by kernel_rfl) (by kernel_rfl) (by kernel_rfl) (fun _ _ _ h => h) (.inl ⟨by rfl, ?_⟩) trivial ?_
          · rintro w' -
            go_simp
          simp only [Act.put, List.getElem_toArray, List.getElem_cons_succ, List.getElem_cons_zero, List.setIfInBounds_toArray, List.set_cons_zero, List.set_cons_succ]
          refine held_next 12 (by kernel_rfl) rfl ?_
          intro KK hKK
          have q1 := henv.cell (k := 2) rfl
          have f1 := henv.free 2
          go_simp
          have henv := henv.set 2 (.slice p2 nm c2)
          have hres := hres.keepSet (b := b0) (by omega) 2 (.slice p2 nm c2)
          have hgr := grownBy_setNew hgr HB0.out 2 (.slice p2 nm c2)
          have hD := hD.set HB1.out 2 (.slice p2 nm c2)
          have hM := hM.set HB1.out 2 (.slice p2 nm c2)
          have hX := hX.set HB1.out 2 (.slice p2 nm c2)
          clear q1 f1
          generalize World.setCell _ ⟨b0, 2, none⟩ _ = V1 at *
          refine hKK _ _ trivial ?_
          clear hKK KK
          refine wpAnyH_take (i := 13) (v := .pointer (some ⟨b0, 3, none⟩)) rfl (by kernel_rfl) (by kernel_rfl) (by kernel_rfl) (fun _ _ _ h => h) (.inl ⟨by rfl, ?_⟩) trivial ?_
          · rintro w' -
            go_simp
          simp only [Act.put, List.getElem_toArray, List.getElem_cons_succ, List.getElem_cons_zero, List.setIfInBounds_toArray, List.set_cons_zero, List.set_cons_succ]
          refine held_next 14 (by kernel_rfl) rfl ?_
          intro KK hKK
          have q1 := henv.cell (k := 3) rfl
          have f1 := henv.free 3
          go_simp
          have henv := henv.set 3 (.slice p3 nx c3)
          have hres := hres.keepSet (b := b0) (by omega) 3 (.slice p3 nx c3)
          have hgr := grownBy_setNew hgr HB0.out 3 (.slice p3 nx c3)
          have hD := hD.set HB1.out 3 (.slice p3 nx c3)
          have hM := hM.set HB1.out 3 (.slice p3 nx c3)
          have hX := hX.set HB1.out 3 (.slice p3 nx c3)
          clear q1 f1
          generalize World.setCell _ ⟨b0, 3, none⟩ _ = V2 at *
          refine hKK _ _ trivial ?_
          clear hKK KK
          refine wpAnyH_done (by kernel_rfl) ?_ _
          go_wp2
          go_meet
          exact HEND.out _ p1 p2 p3 c1 c2 c3 henv hD hM hX hres hgr
        · skip
          go_simp
          refine hKK _ _ trivial ?_
          clear hKK KK
          refine held_next 2 (by kernel_rfl) rfl ?_
          intro KK hKK
          go_simp
          refine (HCD.out _ hgr).mono ?_
          rintro e W0 ⟨p1, c1, rfl, hown, hg5⟩
          have hgr := grownBy_trans hgr hg5
          have henv := henv.calm hg5
          have hres := hres.calm hg5
          have q1 := henv.cell (k := 1) rfl
          have q2 := henv.cell (k := 2) rfl
          have q3 := henv.cell (k := 3) rfl
          have hf := henv.free 1
          have hD := hown
          clear hown hg5
          refine hKK _ _ trivial ?_
          clear hKK KK
          refine wpAnyH_take (i := 9) (v := .pointer (some ⟨b0, 1, none⟩)) rfl (by kernel_rfl) (by kernel_rfl) (by kernel_rfl) (fun _ _ _ h => h) (.inl ⟨by rfl, ?_⟩) trivial ?_
          · rintro w' -
            go_simp
          simp only [Act.put, List.getElem_toArray, List.getElem_cons_succ, List.getElem_cons_zero, List.setIfInBounds_toArray, List.set_cons_zero, List.set_cons_succ]
          refine held_next 5 (by kernel_rfl) rfl ?_
          intro KK hKK
          go_simp
          refine (HCM.out _ hgr).mono ?_
          rintro e W1 ⟨p2, c2, rfl, hown, hg5⟩
          have hgr := grownBy_trans hgr hg5
          have henv := henv.calm hg5
          have hres := hres.calm hg5
          have q1 := henv.cell (k := 1) rfl
          have q2 := henv.cell (k := 2) rfl
          have q3 := henv.cell (k := 3) rfl
          have hf := henv.free 1
          have hD := hD.calm hg5
          have hM := hown
          clear hown hg5
          refine hKK _ _ trivial ?_
          clear hKK KK
          refine held_next 8 (by kernel_rfl) rfl ?_
          intro KK hKK
          go_simp
          refine (HCX.out _ hgr).mono ?_
          rintro e W2 ⟨p3, c3, rfl, hown, hg5⟩
          have hgr := grownBy_trans hgr hg5
          have henv := henv.calm hg5
          have hres := hres.calm hg5
          have q1 := henv.cell (k := 1) rfl
          have q2 := henv.cell (k := 2) rfl
          have q3 := henv.cell (k := 3) rfl
          have hf := henv.free 1
          have hD := hD.calm hg5
          have hM := hM.calm hg5
          have hX := hown
          clear hown hg5
          refine hKK _ _ trivial ?_
          clear hKK KK
          clear q1 q2 q3 hf
          have hgr := grownBy_trans HG2.out hgr
          refine held_next 10 (by kernel_rfl) rfl ?_
          intro KK hKK
          have q1 := henv.cell (k := 1) rfl
          have f1 := henv.free 1
          go_simp
          have henv := henv.set 1 (.slice p1 nd c1)
          have hres := hres.keepSet (b := b0) (by omega) 1 (.slice p1 nd c1)
          have hgr := grownBy_setNew hgr HB0.out 1 (.slice p1 nd c1)
          have hD := hD.set HB1.out 1 (.slice p1 nd c1)
          have hM := hM.set HB1.out 1 (.slice p1 nd c1)
          have hX := hX.set HB1.out 1 (.slice p1 nd c1)
          clear q1 f1
          generalize World.setCell _ ⟨b0, 1, none⟩ _ = V0 at *
          refine hKK _ _ trivial ?_
          clear hKK KK
          refine wpAnyH_take (i := 11) (v := .pointer (some ⟨b0, 2, none⟩)) rfl (by kernel_rfl) (by kernel_rfl) (by kernel_rfl) (fun _ _ _ h => h) (.inl ⟨by rfl, ?_⟩) trivial ?_
          · rintro w' -
            go_simp
          simp only [Act.put, List.getElem_toArray, List.getElem_cons_succ, List.getElem_cons_zero, List.setIfInBounds_toArray, List.set_cons_zero, List.set_cons_succ]
          refine held_next 12 (by kernel_rfl) rfl ?_
          intro KK hKK
          have q1 := henv.cell (k := 2) rfl
          have f1 := henv.free 2
          go_simp
          have henv := henv.set 2 (.slice p2 nm c2)
          have hres := hres.keepSet (b := b0) (by omega) 2 (.slice p2 nm c2)
          have hgr := grownBy_setNew hgr HB0.out 2 (.slice p2 nm c2)
          have hD := hD.set HB1.out 2 (.slice p2 nm c2)
          have hM := hM.set HB1.out 2 (.slice p2 nm c2)
          have hX := hX.set HB1.out 2 (.slice p2 nm c2)
          clear q1 f1
          generalize World.setCell _ ⟨b0, 2, none⟩ _ = V1 at *
          refine hKK _ _ trivial ?_
          clear hKK KK
          refine wpAnyH_take (i := 13) (v := .pointer (some ⟨b0, 3, none⟩)) rfl (by kernel_rfl) (by kernel_rfl) (by kernel_rfl) (fun _ _ _ h => h) (.inl ⟨by rfl, ?_⟩) trivial ?_
          · rintro w' -
            go_simp
          simp only [Act.put, List.getElem_toArray, List.getElem_cons_succ, List.getElem_cons_zero, List.setIfInBounds_toArray, List.set_cons_zero, List.set_cons_succ]
          refine held_next 14 (by kernel_rfl) rfl ?_
          intro KK hKK
          have q1 := henv.cell (k := 3) rfl
          have f1 := henv.free 3
          go_simp
          have henv := henv.set 3 (.slice p3 nx c3)
          have hres := hres.keepSet (b := b0) (by omega) 3 (.slice p3 nx c3)
          have hgr := grownBy_setNew hgr HB0.out 3 (.slice p3 nx c3)
          have hD := hD.set HB1.out 3 (.slice p3 nx c3)
          have hM := hM.set HB1.out 3 (.slice p3 nx c3)
          have hX := hX.set HB1.out 3 (.slice p3 nx c3)
          clear q1 f1
          generalize World.setCell _ ⟨b0, 3, none⟩ _ = V2 at *
          refine hKK _ _ trivial ?_
          clear hKK KK
          refine wpAnyH_done (by kernel_rfl) ?_ _
          go_wp2
          go_meet
          exact HEND.out _ p1 p2 p3 c1 c2 c3 henv hD hM hX hres hgr
      · skip
        go_simp
        refine hKK _ _ trivial ?_
        clear hKK KK
        refine held_next 1 (by kernel_rfl) rfl ?_
        intro KK hKK
        go_simp
        refine hKK _ _ trivial ?_
        clear hKK KK
        refine held_next 2 (by kernel_rfl) rfl ?_
        intro KK hKK
        go_simp
        refine (HCD.out _ hgr).mono ?_
        rintro e W0 ⟨p1, c1, rfl, hown, hg5⟩
        have hgr := grownBy_trans hgr hg5
        have henv := henv.calm hg5
        have hres := hres.calm hg5
        have q1 := henv.cell (k := 1) rfl
        have q2 := henv.cell (k := 2) rfl
        have q3 := henv.cell (k := 3) rfl
        have hf := henv.free 1
        have hD := hown
        clear hown hg5
        refine hKK _ _ trivial ?_
        clear hKK KK
        refine wpAnyH_take (i := 9) (v := .pointer (some ⟨b0, 1, none⟩)) rfl (by kernel_rfl) (by kernel_rfl) (by kernel_rfl) (fun _ _ _ h => h) (.inl ⟨by rfl, ?_⟩) trivial ?_
        · rintro w' -
          go_simp
        simp only [Act.put, List.getElem_toArray, List.getElem_cons_succ, List.getElem_cons_zero, List.setIfInBounds_toArray, List.set_cons_zero, List.set_cons_succ]
        refine held_next 5 (by kernel_rfl) rfl ?_
        intro KK hKK
        go_simp
        refine (HCM.out _ hgr).mono ?_
        rintro e W1 ⟨p2, c2, rfl, hown, hg5⟩
        have hgr := grownBy_trans hgr hg5
        have henv := henv.calm hg5
        have hres := hres.calm hg5
        have q1 := henv.cell (k := 1) rfl
        have q2 := henv.cell (k := 2) rfl
        have q3 := henv.cell (k := 3) rfl
        have hf := henv.free 1
        have hD := hD.calm hg5
        have hM := hown
        clear hown hg5
        refine hKK _ _ trivial ?_
        clear hKK KK
        refine held_next 8 (by kernel_rfl) rfl ?_
        intro KK hKK
        go_simp
        refine (HCX.out _ hgr).mono ?_
        rintro e W2 ⟨p3, c3, rfl, hown, hg5⟩
        have hgr := grownBy_trans hgr hg5
        have henv := henv.calm hg5
        have hres := hres.calm hg5
        have q1 := henv.cell (k := 1) rfl
        have q2 := henv.cell (k := 2) rfl
        have q3 := henv.cell (k := 3) rfl
        have hf := henv.free 1
        have hD := hD.calm hg5
        have hM := hM.calm hg5
        have hX := hown
        clear hown hg5
        refine hKK _ _ trivial ?_
        clear hKK KK
        clear q1 q2 q3 hf
        have hgr := grownBy_trans HG2.out hgr
        refine held_next 10 (by kernel_rfl) rfl ?_
        intro KK hKK
        have q1 := henv.cell (k := 1) rfl
        have f1 := henv.free 1
        go_simp
        have henv := henv.set 1 (.slice p1 nd c1)
        have hres := hres.keepSet (b := b0) (by omega) 1 (.slice p1 nd c1)
        have hgr := grownBy_setNew hgr HB0.out 1 (.slice p1 nd c1)
        have hD := hD.set HB1.out 1 (.slice p1 nd c1)
        have hM := hM.set HB1.out 1 (.slice p1 nd c1)
        have hX := hX.set HB1.out 1 (.slice p1 nd c1)
        clear q1 f1
        generalize World.setCell _ ⟨b0, 1, none⟩ _ = V0 at *
        refine hKK _ _ trivial ?_
        clear hKK KK
        refine wpAnyH_take (i := 11) (v := .pointer (some ⟨b0, 2, none⟩)) rfl (by kernel_rfl) (by kernel_rfl) (by kernel_rfl) (fun _ _ _ h => h) (.inl ⟨by rfl, ?_⟩) trivial ?_
        · rintro w' -
          go_simp
        simp only [Act.put, List.getElem_toArray, List.getElem_cons_succ, List.getElem_cons_zero, List.setIfInBounds_toArray, List.set_cons_zero, List.set_cons_succ]
        refine held_next 12 (by kernel_rfl) rfl ?_
        intro KK hKK
        have q1 := henv.cell (k := 2) rfl
        have f1 := henv.free 2
        go_simp
        have henv := henv.set 2 (.slice p2 nm c2)
        have hres := hres.keepSet (b := b0) (by omega) 2 (.slice p2 nm c2)
        have hgr := grownBy_setNew hgr HB0.out 2 (.slice p2 nm c2)
        have hD := hD.set HB1.out 2 (.slice p2 nm c2)
        have hM := hM.set HB1.out 2 (.slice p2 nm c2)
        have hX := hX.set HB1.out 2 (.slice p2 nm c2)
        clear q1 f1
        generalize World.setCell _ ⟨b0, 2, none⟩ _ = V1 at *
        refine hKK _ _ trivial ?_
        clear hKK KK
        refine wpAnyH_take (i := 13) (v := .pointer (some ⟨b0, 3, none⟩)) rfl (by kernel_rfl) (by kernel_rfl) (by kernel_rfl) (fun _ _ _ h => h) (.inl ⟨by rfl, ?_⟩) trivial ?_
        · rintro w' -
          go_simp
        simp only [Act.put, List.getElem_toArray, List.getElem_cons_succ, List.getElem_cons_zero, List.setIfInBounds_toArray, List.set_cons_zero, List.set_cons_succ]
        refine held_next 14 (by kernel_rfl) rfl ?_
        intro KK hKK
        have q1 := henv.cell (k := 3) rfl
        have f1 := henv.free 3
        go_simp
        have henv := henv.set 3 (.slice p3 nx c3)
        have hres := hres.keepSet (b := b0) (by omega) 3 (.slice p3 nx c3)
        have hgr := grownBy_setNew hgr HB0.out 3 (.slice p3 nx c3)
        have hD := hD.set HB1.out 3 (.slice p3 nx c3)
        have hM := hM.set HB1.out 3 (.slice p3 nx c3)
        have hX := hX.set HB1.out 3 (.slice p3 nx c3)
        clear q1 f1
        generalize World.setCell _ ⟨b0, 3, none⟩ _ = V2 at *
        refine hKK _ _ trivial ?_
        clear hKK KK
        refine wpAnyH_done (by kernel_rfl) ?_ _
        go_wp2
        go_meet
        exact HEND.out _ p1 p2 p3 c1 c2 c3 henv hD hM hX hres hgr
  case rest =>
    obtain ⟨⟨p1, p2, p3, c1, c2, c3, hbx, hD, hM, hX⟩, hres, hgw⟩ := hcut
    have HBX := Lib.hid hbx
    have HRES := Lib.hid hres
    have HGW := Lib.hid hgw
    have HD := Lib.hid hD
    have HM := Lib.hid hM
    have HX := Lib.hid hX
    have HS0 : Hid (w.heap.size + 2 ≤ wc.heap.size) := Lib.hid (by have := HRES.out.lt; omega)
    rw [HBZ.out] at HBX HRES HD HM HX HS0
    clear hbx hD hM hX hres hgw HCD HCM HCX HEND HC0 HB2
    obtain ⟨f, hsrc, hf⟩ := hks_raw H0.out.hunks H0.out.zh
    have HF := Lib.hid hf
    have HC4 := Lib.hid (cloneH_c ph nh ch (hkcs f nh) wc (hkcs_len f nh) (hkcs_one f nh fun i hi u hu => by
      obtain ⟨pa, na, ca, pe, ne, ce, pk, nk, ck, e, _⟩ := hf i hi
      rw [e] at hu
      simp only [hkc, List.mem_cons, List.not_mem_nil, or_false] at hu
      rcases hu with rfl | rfl | rfl | rfl <;> rfl) (hsrc.imp (fun h => h) fun ⟨ad, e, h⟩ => ⟨ad, e, fun j u hj => cell_calmG HGW.out (h j u hj)⟩) (by omega))
    clear hsrc hf
    obtain ⟨q0, q1, q2, q3, q4⟩ := HBX.out.five
    go_wp2_with fail
    refine HC4.out.mono ?_
    rintro e W1 h9
    obtain ⟨p4, c4, rfl, hown, hg1⟩ := h9.own
    have hfr := (HBX.out.calm hg1).free 4
    obtain ⟨r0, r1, r2, r3, r4⟩ := (HBX.out.calm hg1).five
    have HBX1 := Lib.hid ((HBX.out.calm hg1).set 4 (.slice p4 nh c4))
    have HRES1 := Lib.hid ((HRES.out.calm hg1).keepSet (b := b0) (by omega) 4 (.slice p4 nh c4))
    have HD1 := Lib.hid ((HD.out.calm hg1).set HB1.out 4 (.slice p4 nh c4))
    have HM1 := Lib.hid ((HM.out.calm hg1).set HB1.out 4 (.slice p4 nh c4))
    have HX1 := Lib.hid ((HX.out.calm hg1).set HB1.out 4 (.slice p4 nh c4))
    have HH1 := Lib.hid ((hown.low HS0.out).set HB1.out 4 (.slice p4 nh c4))
    have HGW1 := Lib.hid (grownBy_setNew (grownBy_trans HGW.out hg1) HB0.out 4 (.slice p4 nh c4))
    clear h9 hown hg1 q0 q1 q2 q3 q4 HBX HRES HD HM HX HGW HC4
    go_upto_region 3 with fail
    generalize World.setCell _ ⟨b0, 4, none⟩ _ = W2 at *
    clear r0 r1 r2 r3 r4 hfr
    have r4 := HBX1.out.cell (k := 4) rfl
    obtain ⟨g4, hg4⟩ : ∃ g, 0 < nh → p4 = some ⟨g, 0, none⟩ ∧ b0 + 2 ≤ g ∧ nh ≤ c4 ∧ HRow W2 g nh f := by
      rcases Nat.eq_zero_or_pos nh with e | e
      · exact ⟨0, fun h => absurd h (by omega)⟩
      · obtain ⟨g, h1, h2, h3, h4⟩ := hrow_own HH1.out e
        exact ⟨g, fun _ => ⟨h1, h2, h3, h4⟩⟩
    have HL0 : Hid (CpL w W2 b0 id p nd nm nx nh p1 p2 p3 p4 c1 c2 c3 c4 g4 f 0 f) := Lib.hid ⟨HBX1.out, HRES1.out, HD1.out, HM1.out, HX1.out, hg4, fun i _ _ => rfl, fun i hi => absurd hi (Nat.not_lt_zero _), HGW1.out⟩
    have HP4 : Hid ((p4 = none → c4 = 0) ∧ nh ≤ c4) := Lib.hid (by
      rcases HH1.out with ⟨h1, h2, h3⟩ | ⟨g, cur, h1, _, _, _, h5, _⟩
      · exact ⟨fun _ => h3, by omega⟩
      · exact ⟨fun h => (by rw [h1] at h; cases h), h5⟩)
    clear hg4 HBX1 HRES1 HD1 HM1 HX1 HH1 HGW1
    go_wp2
    clear r4
    go_loopw [24] (fun i wr => ∃ (k : Nat) (f' : Nat → HRw), k ≤ nh ∧ i = .int .i64 k ∧ Hid (CpL w wr b0 id p nd nm nx nh p1 p2 p3 p4 c1 c2 c3 c4 g4 f k f')) (fun i _ => nh - (intOf i).toNat)
    case atStart => exact ⟨0, f, Nat.zero_le _, rfl, HL0⟩
    case round =>
      clear HL0
      obtain ⟨k, f', hk, rfl, HL⟩ := hrel
      by_cases hkn : k < nh
      · have k0 : (0 : Int) ≤ k := by omega
        have k1 : (k : Int) < nh := by omega
        obtain ⟨hp4, hg4, hc4, hrow⟩ := HL.out.row (by omega)
        obtain ⟨pa, na, ca, pe, ne, ce, pk, nk, ck, hfe, hh⟩ := HF.out k hkn
        have hfk := (HL.out.same k (Nat.le_refl _) hkn).trans hfe
        have cx0 : wr.cell? ⟨g4, k * 4, none⟩ = _ := hrow.cell (j := 0) hkn (by rw [hfk]; rfl)
        have cx1 : wr.cell? ⟨g4, k * 4 + 1, none⟩ = _ := hrow.cell (j := 1) hkn (by rw [hfk]; rfl)
        have cx2 : wr.cell? ⟨g4, k * 4 + 2, none⟩ = _ := hrow.cell (j := 2) hkn (by rw [hfk]; rfl)
        have cx3 : wr.cell? ⟨g4, k * 4 + 3, none⟩ = _ := hrow.cell (j := 3) hkn (by rw [hfk]; rfl)
        simp only at cx0 cx1 cx2 cx3
        have HH := Lib.hid (hh.calm HL.out.gr)
        have HBB := Lib.hid (hb.hs ((pHunks p)[k]?.getD hk0) (get_mem (by rw [H0.out.hunks.len]; exact hkn)))
        have HG4 := Lib.hid hg4
        have HC4 := Lib.hid hc4
        have HROW := Lib.hid hrow
        generalize hxx : (pHunks p)[k]?.getD hk0 = x at *
        have HXX := Lib.hid hxx
        generalize hpx : hPath x = pth at *
        have HPX := Lib.hid hpx
        subst hp4
        clear hh hfe hg4 hc4 hrow hxx hpx
        have HA0 := Lib.hid HH.out.adds.len
        have HE0 := Lib.hid HH.out.edges.len
        have HK0 := Lib.hid HH.out.kills.len
        have HFK := Lib.hid hfk
        have HBA := Lib.hid (BoxV.new wr [.string pth, .slice pa na ca, .slice pe ne ce, .slice pk nk ck] 50)
        have HGA := Lib.hid (World.grownBy_alloc wr (.cells #[.string pth, .slice pa na ca, .slice pe ne ce, .slice pk nk ck] 50) none)
        have HSR : Hid (b0 + 2 ≤ wr.heap.size) := Lib.hid (by have := HROW.out.lt; have := HG4.out; omega)
        have HGL : Hid (g4 < wr.heap.size) := Lib.hid HROW.out.lt
        have r4 := HL.out.bx.cell (k := 4) rfl
        clear hfk
        go_upto_region 6 with fail
        have HSW : Hid (b0 + 2 ≤ (wr.alloc (.cells #[.string pth, .slice pa na ca, .slice pe ne ce, .slice pk nk ck] 50)).heap.size) := Lib.hid (by have := HSR.out; have := HGA.out.size; omega)
        generalize wr.alloc _ = w3 at *
        generalize wr.heap.size = gX at *
        have HH3 := Lib.hid (HH.out.calm HGA.out)
        have HR3 := Lib.hid (HROW.out.calm HGA.out)
        have HB3 := Lib.hid (HL.out.bx.calm HGA.out)
        clear cx0 cx1 cx2 cx3 r4 HH HROW
        have HCA : Hid (∀ W, w3.grownBy W none → Calls Tryz.prog 49 #[.slice pa na ca] W fun e w' => ∃ p' c, e = .returned (.slice p' na c) ∧ OwnB w' (b0 + 2) 9 1 p' na c (scells (hAdds x)) ∧ W.grownBy w' none) := Lib.hid fun W hg =>
          (cloneS_c pa na ca (scells (hAdds x)) W (by rw [scells_lenP, HA0.out, Nat.mul_one]) (scells_oneP _) (src_strs (HH3.out.calm hg).adds HH3.out.za) (by have := HBB.out.1; have := HA0.out; omega)).mono fun e w' h => by
            obtain ⟨p', c, e1, h2, h3⟩ := h.own
            exact ⟨p', c, e1, h2.low (by have := HSW.out; have := hg.size; omega), h3⟩
        have HCE : Hid (∀ W, w3.grownBy W none → Calls Tryz.prog 51 #[.slice pe ne ce] W fun e w' => ∃ p' c, e = .returned (.slice p' ne c) ∧ OwnB w' (b0 + 2) 46 4 p' ne c (ecells (hEdges x)) ∧ W.grownBy w' none) := Lib.hid fun W hg =>
          (cloneE_c pe ne ce (ecells (hEdges x)) W (by rw [ecells_len, HE0.out]) (ecells_one _) (eds_src (HH3.out.calm hg).edges HH3.out.ze) (by have := HBB.out.2.1; have := HE0.out; omega)).mono fun e w' h => by
            obtain ⟨p', c, e1, h2, h3⟩ := h.own
            exact ⟨p', c, e1, h2.low (by have := HSW.out; have := hg.size; omega), h3⟩
        have HCK : Hid (∀ W, w3.grownBy W none → Calls Tryz.prog 52 #[.slice pk nk ck] W fun e w' => ∃ p' c, e = .returned (.slice p' nk c) ∧ OwnB w' (b0 + 2) 44 2 p' nk c (lcells (hKills x)) ∧ W.grownBy w' none) := Lib.hid fun W hg =>
          (cloneL_c pk nk ck (lcells (hKills x)) W (by rw [lcells_len, HK0.out]) (lcells_one _) (lns_src (HH3.out.calm hg).kills HH3.out.zk) (by have := HBB.out.2.2.1; have := HK0.out; omega)).mono fun e w' h => by
            obtain ⟨p', c, e1, h2, h3⟩ := h.own
            exact ⟨p', c, e1, h2.low (by have := HSW.out; have := hg.size; omega), h3⟩
        have hgr : w3.grownBy w3.drew none := grownBy_drewN w3 1 none
        have henv := HBA.out.calm hgr
        have hbx4 := HB3.out.calm hgr
        have hrow := HR3.out.calm hgr
        have hA : OwnB w3.drew 0 0 0 none 0 0 [] := .inl ⟨rfl, rfl, rfl⟩
        have hE : OwnB w3.drew 0 0 0 none 0 0 [] := .inl ⟨rfl, rfl, rfl⟩
        have hK : OwnB w3.drew 0 0 0 none 0 0 [] := .inl ⟨rfl, rfl, rfl⟩
        have hne1 : g4 ≠ b0 := by have := HG4.out; omega
        have hne2 : g4 ≠ gX := by have := HGL.out; omega
        go_region_held3 (fun w' => w'.cell? ⟨b0, 4, none⟩ = some (.slice (some ⟨g4, 0, none⟩) nh c4) ∧ w'.cell? ⟨gX, 0, none⟩ = some (.string pth) ∧ w'.cell? ⟨gX, 1, none⟩ = some (.slice pa na ca) ∧ w'.cell? ⟨gX, 2, none⟩ = some (.slice pe ne ce) ∧ w'.cell? ⟨gX, 3, none⟩ = some (.slice pk nk ck))
          (first | exact ⟨hbx4.cell (k := 4) rfl, henv.four⟩ | go_keep)
          (first | (go_at_call 49; with_reducible refine (HCA.out _ hgr).mono ?_; rintro e w5 ⟨p7, c7, rfl, hown, hg5⟩; have henv := henv.calm hg5; have hgr := grownBy_trans hgr hg5; have hrow := hrow.calm hg5; obtain ⟨s0, s1, s2, s3⟩ := hrow.four hkn HFK.out; have sf := hrow.free; have hbx4 := hbx4.calm hg5; have hA := hown; have hE := hE.calm hg5; have hK := hK.calm hg5; clear hg5 hown) | (go_at_call 51; with_reducible refine (HCE.out _ hgr).mono ?_; rintro e w5 ⟨p8, c8, rfl, hown, hg5⟩; have henv := henv.calm hg5; have hgr := grownBy_trans hgr hg5; have hrow := hrow.calm hg5; obtain ⟨s0, s1, s2, s3⟩ := hrow.four hkn HFK.out; have sf := hrow.free; have hbx4 := hbx4.calm hg5; have hA := hA.calm hg5; have hE := hown; have hK := hK.calm hg5; clear hg5 hown) | (go_at_call 52; with_reducible refine (HCK.out _ hgr).mono ?_; rintro e w5 ⟨p9, c9, rfl, hown, hg5⟩; have henv := henv.calm hg5; have hgr := grownBy_trans hgr hg5; have hrow := hrow.calm hg5; obtain ⟨s0, s1, s2, s3⟩ := hrow.four hkn HFK.out; have sf := hrow.free; have hbx4 := hbx4.calm hg5; have hA := hA.calm hg5; have hE := hE.calm hg5; have hK := hown; clear hg5 hown))
        have HL5 := Lib.hid (HL.out.calm (grownBy_trans HGA.out hgr))
        have HR5 : Hid (CpH w5 (b0 + 2) (pth, .slice p7 na c7, .slice p8 ne c8, .slice p9 nk c9) x) := Lib.hid (by
          rw [← HPX.out]
          exact ⟨p7, na, c7, p8, ne, c8, p9, nk, c9, rfl, HA0.out, HE0.out, HK0.out, hA, hE, hK⟩)
        rw [← HXX.out] at HR5
        have HN := Lib.hid (HL5.out.put hkn HB0.out HR5.out)
        clear henv hgr hrow hbx4 hA hE hK HL HL5 HR5 HB3 HBA s0 s1 s2 s3 sf
        simp only at HN
        generalize World.setCell _ ⟨g4, k * 4 + 3, none⟩ _ = W9 at *
        go_wp2
        exact ⟨⟨k + 1, _, by omega, by go_num, HN⟩, by simp [intOf]; omega⟩
      · obtain rfl : nh = k := by omega
        have k1 : ¬ ((nh : Int) < nh) := by omega
        obtain ⟨r0, r1, r2, r3, r4⟩ := HL.out.bx.five
        obtain ⟨s0, s1, s2, s3, s4⟩ := HL.out.res.five
        have u0 := HL.out.res.free 0
        have u1 := HL.out.res.free 1
        have u2 := HL.out.res.free 2
        have u3 := HL.out.res.free 3
        have u4 := HL.out.res.free 4
        have HN := Lib.hid (HL.out.finish (.int .u32 (id : Int)) (.slice p1 nd c1) (.slice p2 nm c2) (.slice p3 nx c3) (.slice p4 nh c4) HB0.out HP4.out)
        have HZ := Lib.hid (((((HL.out.res.set 0 (.int .u32 (id : Int))).set 1 (.slice p1 nd c1)).set 2 (.slice p2 nm c2)).set 3 (.slice p3 nx c3)).set 4 (.slice p4 nh c4))
        clear HL
        go_wp2
        generalize World.setCell _ ⟨b0 + 1, 4, none⟩ _ = W9 at *
        obtain ⟨y0, y1, y2, y3, y4⟩ := BoxV.five HZ.out
        try simp only [Exit.inBlock, Exit.then]
        refine bodyPost_ret (v := .agg #[.int .u32 (id : Int), .slice p1 nd c1, .slice p2 nm c2, .slice p3 nx c3, .slice p4 nh c4]) (by simp [results, Tryz.results23, go_sem, y0, y1, y2, y3, y4]) rfl ?_
        exact ⟨p1, c1, p2, c2, p3, c3, p4, c4, rfl, by have := HN.out.1; rw [← HBZ.out] at this; exact this, HN.out.2⟩

end Go.Proofs.YtcfhnfnhdhloiaaGreat
