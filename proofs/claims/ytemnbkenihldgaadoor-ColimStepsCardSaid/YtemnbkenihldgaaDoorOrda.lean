/- Package order: plain classes; rows of ints; what only asks. -/
import Derived.Test.YtemnbkenihldgaaDoorRela
import Derived.Deep.AppendLies
import Derived.Deep.LoopGhost
import Derived.WalkMore
import Derived.Lib.OwnKind
import Derived.StillTailTactics
/-! Classes of a transitive relation, in plain lists: each told by its least element; the row; the least pairs. -/
namespace Go.Proofs.YtemnbkenihldgaaDoor

def oneC (C : Nat → Nat → Bool) (a b : Nat) : Bool := decide (a = b) || (C a b && C b a)
/-- No element ahead of a in number is in its class. -/
def leadC (C : Nat → Nat → Bool) (a : Nat) : Bool := (List.range a).all fun b => !oneC C a b
def leadsC (C : Nat → Nat → Bool) (k : Nat) : List Nat := (List.range k).filter (leadC C)
def clsC (C : Nat → Nat → Bool) (k l : Nat) : List Nat := (List.range k).filter (oneC C l)
/-- The classes of the elements below k. -/
def circL (C : Nat → Nat → Bool) (k : Nat) : List (List Nat) := (leadsC C k).map (clsC C k)

theorem oneC_iff (C : Nat → Nat → Bool) (a b : Nat) : oneC C a b = true ↔ a = b ∨ (C a b = true ∧ C b a = true) := by simp [oneC]
theorem oneC_refl (C : Nat → Nat → Bool) (a : Nat) : oneC C a a = true := by simp [oneC]
theorem oneC_symm {C : Nat → Nat → Bool} {a b : Nat} (h : oneC C a b = true) : oneC C b a = true := by
  rw [oneC_iff] at h ⊢
  rcases h with h | h
  · exact .inl h.symm
  · exact .inr ⟨h.2, h.1⟩
theorem oneC_trans {C : Nat → Nat → Bool} (ht : Trans C) {a b c : Nat} (h : oneC C a b = true) (k : oneC C b c = true) : oneC C a c = true := by
  rw [oneC_iff] at h k ⊢
  rcases h with rfl | h
  · exact k
  · rcases k with rfl | k
    · exact .inr h
    · exact .inr ⟨ht _ _ _ h.1 k.1, ht _ _ _ k.2 h.2⟩

theorem leadC_iff (C : Nat → Nat → Bool) (a : Nat) : leadC C a = true ↔ ∀ b, b < a → oneC C a b = false := by
  simp [leadC]
theorem mem_leads {C : Nat → Nat → Bool} {k a : Nat} : a ∈ leadsC C k ↔ a < k ∧ leadC C a = true := by simp [leadsC]
theorem mem_cls {C : Nat → Nat → Bool} {k l a : Nat} : a ∈ clsC C k l ↔ a < k ∧ oneC C l a = true := by simp [clsC]

/-- Each element has a least one in its class. -/
theorem lead_of {C : Nat → Nat → Bool} (ht : Trans C) (a : Nat) : ∃ l, l ≤ a ∧ leadC C l = true ∧ oneC C l a = true := by
  induction a using Nat.strongRecOn with
  | _ a ih =>
    by_cases h : leadC C a = true
    · exact ⟨a, Nat.le_refl _, h, oneC_refl C a⟩
    · rw [leadC_iff] at h
      simp only [Classical.not_forall] at h
      obtain ⟨b, hb, h1⟩ := h
      simp only [Bool.not_eq_false] at h1
      obtain ⟨l, h2, h3, h4⟩ := ih b hb
      exact ⟨l, by omega, h3, oneC_trans ht h4 (oneC_symm h1)⟩
theorem lead_one {C : Nat → Nat → Bool} {a b : Nat} (h1 : leadC C a = true) (h2 : leadC C b = true) (h : oneC C a b = true) : a = b := by
  rw [leadC_iff] at h1 h2
  rcases Nat.lt_trichotomy a b with h3 | h3 | h3
  · have := h2 a h3; rw [oneC_symm h] at this; cases this
  · exact h3
  · have := h1 b h3; rw [h] at this; cases this

theorem leads_succ (C : Nat → Nat → Bool) (a : Nat) : leadsC C (a + 1) = leadsC C a ++ if leadC C a then [a] else [] := by
  unfold leadsC
  rw [List.range_succ, List.filter_append, List.filter_cons]
  cases leadC C a <;> rfl
theorem cls_succ (C : Nat → Nat → Bool) (a l : Nat) : clsC C (a + 1) l = clsC C a l ++ if oneC C l a then [a] else [] := by
  unfold clsC
  rw [List.range_succ, List.filter_append, List.filter_cons]
  cases oneC C l a <;> rfl
theorem leads_nodup (C : Nat → Nat → Bool) (k : Nat) : (leadsC C k).Nodup := List.nodup_range.filter _
theorem nodup_inj {l : List Nat} (h : l.Nodup) {i j x : Nat} (hi : l[i]? = some x) (hj : l[j]? = some x) : i = j := by
  obtain ⟨p1, p2⟩ := List.getElem?_eq_some_iff.1 hi
  obtain ⟨p3, p4⟩ := List.getElem?_eq_some_iff.1 hj
  rcases Nat.lt_trichotomy i j with h3 | h3 | h3
  · exact absurd (p2.trans p4.symm) (List.pairwise_iff_getElem.1 h i j p1 p3 h3)
  · exact h3
  · exact absurd (p4.trans p2.symm) (List.pairwise_iff_getElem.1 h j i p3 p1 h3)
theorem leads_le (C : Nat → Nat → Bool) (k : Nat) : (leadsC C k).length ≤ k := by
  have := List.length_filter_le (leadC C) (List.range k)
  simpa [leadsC] using this
theorem cls_le (C : Nat → Nat → Bool) (k l : Nat) : (clsC C k l).length ≤ k := by
  have := List.length_filter_le (oneC C l) (List.range k)
  simpa [clsC] using this
theorem circ_length (C : Nat → Nat → Bool) (k : Nat) : (circL C k).length = (leadsC C k).length := by simp [circL]
theorem circ_get {C : Nat → Nat → Bool} {k i : Nat} {l : List Nat} (h : (circL C k)[i]? = some l) : ∃ x, (leadsC C k)[i]? = some x ∧ l = clsC C k x := by
  unfold circL at h
  rw [List.getElem?_map, Option.map_eq_some_iff] at h
  obtain ⟨x, h1, h2⟩ := h
  exact ⟨x, h1, h2.symm⟩

/-- The class of a least element begins with it. -/
theorem cls_head {C : Nat → Nat → Bool} {k x : Nat} (hx : x < k) (hl : leadC C x = true) : ∃ r, clsC C k x = x :: r := by
  induction k with
  | zero => omega
  | succ k ih =>
    rw [cls_succ]
    by_cases h : x < k
    · obtain ⟨r, hr⟩ := ih h
      rw [hr]
      exact ⟨_, rfl⟩
    · obtain rfl : x = k := by omega
      have : clsC C x x = [] := by
        unfold clsC
        rw [List.filter_eq_nil_iff]
        intro b hb
        rw [leadC_iff] at hl
        simp [hl b (by simpa using hb)]
      rw [this, oneC_refl]
      exact ⟨[], rfl⟩
theorem circ_head {C : Nat → Nat → Bool} {k i : Nat} {l : List Nat} (h : (circL C k)[i]? = some l) : ∃ x r, l = x :: r ∧ (leadsC C k)[i]? = some x ∧ x < k ∧ leadC C x = true := by
  obtain ⟨x, h1, rfl⟩ := circ_get h
  have hm := mem_leads.1 (List.mem_of_getElem? h1)
  obtain ⟨r, hr⟩ := cls_head hm.1 hm.2
  exact ⟨x, r, hr, h1, hm.1, hm.2⟩

theorem circ_hit {C : Nat → Nat → Bool} (ht : Trans C) {a k x : Nat} {l : List Nat} (hl : (circL C a)[k]? = some l) (hx : (leadsC C a)[k]? = some x) (h : C a x = true ∧ C x a = true) : circL C (a + 1) = (circL C a).set k (l ++ [a]) := by
  have hm := mem_leads.1 (List.mem_of_getElem? hx)
  have hno : leadC C a = false := by
    cases e : leadC C a with
    | false => rfl
    | true =>
      rw [leadC_iff] at e
      have := e x hm.1
      rw [(oneC_iff C a x).2 (.inr h)] at this
      cases this
  have hls : leadsC C (a + 1) = leadsC C a := by rw [leads_succ, hno]; simp
  obtain ⟨x', hx', hlx⟩ := circ_get hl
  obtain rfl : x' = x := by rw [hx] at hx'; exact (Option.some.inj hx').symm
  apply List.ext_getElem?
  intro i
  unfold circL
  rw [hls, List.getElem?_set, List.getElem?_map, List.getElem?_map]
  by_cases hik : k = i
  · subst hik
    rw [if_pos rfl, if_pos (by simp; exact (List.getElem?_eq_some_iff.1 hx).1), hx, hlx]
    simp only [Option.map_some, cls_succ]
    rw [(oneC_iff C x' a).2 (.inr ⟨h.2, h.1⟩)]
    rfl
  · rw [if_neg hik]
    cases hy : (leadsC C a)[i]? with
    | none => rfl
    | some y =>
      simp only [Option.map_some, cls_succ]
      have hmy := mem_leads.1 (List.mem_of_getElem? hy)
      have : oneC C y a = false := by
        cases e : oneC C y a with
        | false => rfl
        | true =>
          have h2 : oneC C y x' = true := oneC_trans ht e ((oneC_iff C a x').2 (.inr h))
          have h3 := lead_one hmy.2 hm.2 h2
          subst h3
          exact absurd (nodup_inj (leads_nodup C a) hx hy) hik
      rw [this]
      simp

theorem circ_miss {C : Nat → Nat → Bool} (ht : Trans C) {a : Nat} (h : ∀ (k x : Nat), (leadsC C a)[k]? = some x → ¬ (C a x = true ∧ C x a = true)) : circL C (a + 1) = circL C a ++ [[a]] := by
  have hn : ∀ b, b < a → oneC C a b = false := by
    intro b hb
    cases e : oneC C a b with
    | false => rfl
    | true =>
      obtain ⟨l, h1, h2, h3⟩ := lead_of ht b
      have hm : l ∈ leadsC C a := mem_leads.2 ⟨by omega, h2⟩
      obtain ⟨k, hk⟩ := List.getElem?_of_mem hm
      have h4 := oneC_trans ht e (oneC_symm h3)
      rw [oneC_iff] at h4
      rcases h4 with h4 | h4
      · omega
      · exact absurd h4 (h k l hk)
  have hl : leadC C a = true := (leadC_iff C a).2 hn
  unfold circL
  rw [leads_succ, hl, if_pos rfl, List.map_append]
  congr 1
  · apply List.map_congr_left
    intro y hy
    have hmy := mem_leads.1 hy
    rw [cls_succ]
    have : oneC C y a = false := by
      cases e : oneC C y a with
      | false => rfl
      | true => have := hn y hmy.1; rw [oneC_symm e] at this; cases this
    rw [this]
    simp
  · have : clsC C a a = [] := by
      unfold clsC
      rw [List.filter_eq_nil_iff]
      intro b hb
      simp [hn b (by simpa using hb)]
    rw [List.map_singleton, cls_succ, this, oneC_refl]
    rfl

/-- Of each element the place of its class, as the loops lay it. -/
def setL (o xs : List Nat) (k : Nat) : List Nat := xs.foldl (fun o x => o.set x k) o
def ofK (ls : List (List Nat)) (n : Nat) : Nat → List Nat
  | 0 => List.replicate n 0
  | k + 1 => setL (ofK ls n k) (ls.getD k []) k
theorem setL_len (xs : List Nat) (k : Nat) : ∀ o, (setL o xs k).length = o.length := by
  induction xs with
  | nil => intro o; rfl
  | cons x r ih => intro o; show (setL (o.set x k) r k).length = _; rw [ih]; simp
theorem ofK_len (ls : List (List Nat)) (n k : Nat) : (ofK ls n k).length = n := by
  induction k with
  | zero => simp [ofK]
  | succ k ih => rw [ofK, setL_len, ih]
theorem setL_snoc (o xs : List Nat) (x k : Nat) : setL o (xs ++ [x]) k = (setL o xs k).set x k := by simp [setL]

/-- Class a is ahead of class b: told by their first elements. -/
def aheadL (C : Nat → Nat → Bool) (a b : List Nat) : Bool := decide (a.headD 0 ≠ b.headD 0) && C (a.headD 0) (b.headD 0)
/-- None of those left is ahead of l. -/
def freeL (C : Nat → Nat → Bool) (left : List (List Nat)) (l : List Nat) : Bool := left.all fun o => !aheadL C o l
def stepL (C : Nat → Nat → Bool) (s : List (List Nat) × List Nat) : List (List Nat) × List Nat :=
  match s.1.findIdx? (freeL C s.1) with
  | some k => (s.1.eraseIdx k, s.2 ++ s.1.getD k [])
  | none => s
def sortK (C : Nat → Nat → Bool) (ls : List (List Nat)) : Nat → List (List Nat) × List Nat
  | 0 => (ls, [])
  | r + 1 => stepL C (sortK C ls r)
def sortL (C : Nat → Nat → Bool) (n : Nat) : List Nat := (sortK C (circL C n) (circL C n).length).2
/-- A third class lies between. -/
def betw (C : Nat → Nat → Bool) (ls : List (List Nat)) (f t : List Nat) : Bool := ls.any fun b => aheadL C f b && aheadL C b t
def redF (C : Nat → Nat → Bool) (ls : List (List Nat)) (f : List Nat) (ts : List (List Nat)) : List (Int × Int) :=
  (ts.filter fun t => aheadL C f t && !betw C ls f t).map fun t => ((f.headD 0 : Nat), (t.headD 0 : Nat))
def redK (C : Nat → Nat → Bool) (ls fs : List (List Nat)) : List (Int × Int) := fs.flatMap fun f => redF C ls f ls
def redL (C : Nat → Nat → Bool) (n : Nat) : List (Int × Int) := redK C (circL C n) (circL C n)
def ordB (C : Nat → Nat → Bool) (n : Nat) : Bool := (List.range n).all fun a => !C a a
def totB (C : Nat → Nat → Bool) (n : Nat) : Bool := (List.range n).all fun a => (List.range a).all fun b => C a b || C b a

theorem setL_nil (o : List Nat) (k : Nat) : setL o [] k = o := rfl
theorem redF_snoc (C : Nat → Nat → Bool) (ls : List (List Nat)) (f : List Nat) (ts : List (List Nat)) (t : List Nat) : redF C ls f (ts ++ [t]) = redF C ls f ts ++ if aheadL C f t && !betw C ls f t then [(((f.headD 0 : Nat) : Int), ((t.headD 0 : Nat) : Int))] else [] := by
  unfold redF
  rw [List.filter_append, List.map_append, List.filter_cons]
  cases (aheadL C f t && !betw C ls f t) <;> rfl
theorem redK_snoc (C : Nat → Nat → Bool) (ls fs : List (List Nat)) (f : List Nat) : redK C ls (fs ++ [f]) = redK C ls fs ++ redF C ls f ls := by simp [redK]
theorem redF_len (C : Nat → Nat → Bool) (ls : List (List Nat)) (f : List Nat) (ts : List (List Nat)) : (redF C ls f ts).length ≤ ts.length := by
  unfold redF
  rw [List.length_map]
  exact List.length_filter_le _ _
theorem redK_len (C : Nat → Nat → Bool) (ls fs : List (List Nat)) : (redK C ls fs).length ≤ fs.length * ls.length := by
  induction fs with
  | nil => simp [redK]
  | cons f r ih =>
    have h1 := redF_len C ls f ls
    have : redK C ls (f :: r) = redF C ls f ls ++ redK C ls r := rfl
    rw [this, List.length_append, List.length_cons, Nat.succ_mul]
    omega

end Go.Proofs.YtemnbkenihldgaaDoor
/-! Rows of ints of their own, and a row of such rows, in memory. -/
namespace Go.Proofs.YtemnbkenihldgaaDoor
open Go.RowKit

theorem Tryd.infoI3 : (Tryd.prog.info? 3).map (fun i => (i.zero, i.size, i.bytes)) = some (some (.int .i64 0), 1, 8) := by kernel_rfl
theorem Tryd.infoI28 : (Tryd.prog.info? 28).map (fun i => (i.zero, i.size, i.bytes)) = some (some (.slice none 0 0), 1, 24) := by kernel_rfl

def iv (x : Nat) : Value := .int .i64 x
/-- The slice at block g is a row of its own that holds l. -/
def RowI (w : World) (base g c : Nat) (l : List Nat) : Prop := w.ownsRow base 3 1 (.slice (some ⟨g, 0, none⟩) l.length c) l.length (l.map iv)

theorem RowI.kept {w w' : World} {base g c : Nat} {l : List Nat} (h : RowI w base g c l) {row : Option Nat} (hg : w.grownBy w' row) (hr : row ≠ some g) : RowI w' base g c l :=
  World.ownsRow.kept h hg (.inr (by simpa [Value.ownBlock] using fun e => hr e.symm))
theorem RowI.calm {w w' : World} {base g c : Nat} {l : List Nat} (h : RowI w base g c l) (hg : w.grownBy w' none) : RowI w' base g c l := h.kept hg (by simp)
theorem RowI.lt {w : World} {base g c : Nat} {l : List Nat} (h : RowI w base g c l) : base ≤ g ∧ g < w.heap.size := World.ownsRow.lt h g rfl
theorem RowI.kind {w : World} {base g c : Nat} {l : List Nat} (h : RowI w base g c l) : ∃ c' fz, w.heap[g]? = some (.cells c' 3 fz) := Lib.ownsRow_kind h g rfl
theorem add_blk (g j : Nat) : (⟨g, 0, none⟩ : Addr).add j = ⟨g, j, none⟩ := by unfold Addr.add; split <;> simp_all
theorem RowI.cell {w : World} {base g c : Nat} {l : List Nat} (h : RowI w base g c l) {j x : Nat} (hx : l[j]? = some x) : w.cell? ⟨g, j, none⟩ = some (.int .i64 x) := by
  have := World.ownsRow.cells h (g := g) rfl j (iv x) (by rw [List.getElem?_map, hx]; rfl)
  rwa [add_blk] at this
theorem RowI.free {w : World} {base g c : Nat} {l : List Nat} (h : RowI w base g c l) (j : Nat) : w.frozen? ⟨g, j, none⟩ = false := by
  rcases h.2 with ⟨h0, _⟩ | ⟨g', cap, cur, hv, _, hb, _⟩
  · cases h0
  · cases hv
    simp [World.frozen?, hb]
theorem RowI.mono {w : World} {base base' g c : Nat} {l : List Nat} (h : RowI w base g c l) (hb : base' ≤ base) : RowI w base' g c l :=
  ⟨h.1, h.2.imp id fun ⟨g, cap, cur, h1, h2, h3⟩ => ⟨g, cap, cur, h1, Nat.le_trans hb h2, h3⟩⟩
/-- One cell of it set. -/
theorem RowI.set {w : World} {base g c : Nat} {l : List Nat} (h : RowI w base g c l) {j : Nat} (x : Nat) : RowI (w.setCell ⟨g, j, none⟩ (.int .i64 x)) base g c (l.set j x) := by
  obtain ⟨h0, h⟩ := h
  refine ⟨by simp, ?_⟩
  rcases h with ⟨hv, _⟩ | ⟨g', cap, cur, hv, h1, hb, h2, h3, h4, h5⟩
  · cases hv
  · cases hv
    refine .inr ⟨g, c, cur.setIfInBounds j (.int .i64 x), by simp, h1, ?_, by simpa using h2, h3, by simpa using h4, ?_⟩
    · exact heap_setCell_same w g j cur _ _ hb
    · simp only [Nat.mul_one, List.length_set] at h5 ⊢
      have e1 : (cur.setIfInBounds j (Value.int .i64 x)).toList = cur.toList.set j (.int .i64 x) := by simp
      rw [e1, List.take_set, h5, List.map_set]
      rfl

/-- The headers of rows. -/
def hdr (ib ic : Nat → Nat) (ls : List (List Nat)) : List Value := ls.mapIdx fun k l => .slice (some ⟨ib k, 0, none⟩) l.length (ic k)

structure Grid (w : World) (base : Nat) (v : Value) (ls : List (List Nat)) (ib ic : Nat → Nat) : Prop where
  out : w.ownsRow base 28 1 v ls.length (hdr ib ic ls)
  row : ∀ k l, ls[k]? = some l → RowI w base (ib k) (ic k) l
  ap : ∀ i j, i < ls.length → j < ls.length → ib i = ib j → i = j

theorem Grid.kept {w w' : World} {base : Nat} {v : Value} {ls : List (List Nat)} {ib ic : Nat → Nat} (h : Grid w base v ls ib ic) (hb : ∀ i, base ≤ i → i < w.heap.size → w'.heap[i]? = w.heap[i]?) : Grid w' base v ls ib ic := by
  have go : ∀ {e : TypeId} {v : Value} {n : Nat} {xs : List Value}, w.ownsRow base e 1 v n xs → w'.ownsRow base e 1 v n xs := by
    intro e v n xs h
    refine ⟨h.1, ?_⟩
    rcases h.2 with hn | ⟨g, cap, cur, rfl, h1, hgg, rest⟩
    · exact .inl hn
    · exact .inr ⟨g, cap, cur, rfl, h1, by rw [hb g h1 (Array.getElem?_eq_some_iff.1 hgg).1]; exact hgg, rest⟩
  exact ⟨go h.out, fun k l hl => go (h.row k l hl), h.ap⟩
theorem Grid.calm {w w' : World} {base : Nat} {v : Value} {ls : List (List Nat)} {ib ic : Nat → Nat} (h : Grid w base v ls ib ic) (hg : w.grownBy w' none) : Grid w' base v ls ib ic :=
  h.kept fun i _ hi => hg.block i hi (by simp)
theorem Grid.apart {w w' : World} {base : Nat} {v : Value} {ls : List (List Nat)} {ib ic : Nat → Nat} (h : Grid w base v ls ib ic) {r : Nat} (hg : w.grownBy w' (some r)) (ho : v.ownBlock ≠ some r) (hr : ∀ k, k < ls.length → ib k ≠ r) : Grid w' base v ls ib ic := by
  refine ⟨h.out.kept hg (.inr ho), fun k l hl => (h.row k l hl).kept hg ?_, h.ap⟩
  have hk := (List.getElem?_eq_some_iff.1 hl).1
  intro e
  exact hr k hk (Option.some.inj e).symm

theorem Grid.form {w : World} {base : Nat} {v : Value} {ls : List (List Nat)} {ib ic : Nat → Nat} (h : Grid w base v ls ib ic) (hn : 0 < ls.length) : ∃ g cap, v = .slice (some ⟨g, 0, none⟩) ls.length cap ∧ base ≤ g ∧ g < w.heap.size := h.out.form hn
/-- Whatever there is of it: a slice. -/
theorem Grid.slice {w : World} {base : Nat} {v : Value} {ls : List (List Nat)} {ib ic : Nat → Nat} (h : Grid w base v ls ib ic) : ∃ p cap, v = .slice p ls.length cap ∧ ∀ k, k < ls.length → ∃ g, p = some ⟨g, 0, none⟩ ∧ base ≤ g ∧ g < w.heap.size := by
  rcases h.out.2 with ⟨rfl, h0⟩ | ⟨g, cap, cur, rfl, h1, hb, _⟩
  · exact ⟨none, 0, by rw [h0], fun k hk => by omega⟩
  · exact ⟨_, cap, rfl, fun k _ => ⟨g, rfl, h1, (Array.getElem?_eq_some_iff.1 hb).1⟩⟩
theorem hdr_get {ib ic : Nat → Nat} {ls : List (List Nat)} {k : Nat} {l : List Nat} (h : ls[k]? = some l) : (hdr ib ic ls)[k]? = some (.slice (some ⟨ib k, 0, none⟩) l.length (ic k)) := by
  unfold hdr
  rw [List.getElem?_mapIdx, h]
  rfl
theorem Grid.head {w : World} {base g n cap : Nat} {ls : List (List Nat)} {ib ic : Nat → Nat} (h : Grid w base (.slice (some ⟨g, 0, none⟩) n cap) ls ib ic) {k : Nat} {l : List Nat} (hl : ls[k]? = some l) : w.cell? ⟨g, k, none⟩ = some (.slice (some ⟨ib k, 0, none⟩) l.length (ic k)) := by
  have := World.ownsRow.cells h.out (g := g) rfl k _ (hdr_get hl)
  rwa [add_blk] at this
theorem Grid.out_ne {w : World} {base : Nat} {v : Value} {ls : List (List Nat)} {ib ic : Nat → Nat} (h : Grid w base v ls ib ic) {k : Nat} (hk : k < ls.length) : v.ownBlock ≠ some (ib k) := by
  intro e
  obtain ⟨c1, f1, e1⟩ := Lib.ownsRow_kind h.out _ e
  obtain ⟨c2, f2, e2⟩ := (h.row k _ (List.getElem?_eq_getElem hk)).kind
  rw [e1] at e2
  simp at e2
theorem Grid.free {w : World} {base g n cap : Nat} {ls : List (List Nat)} {ib ic : Nat → Nat} (h : Grid w base (.slice (some ⟨g, 0, none⟩) n cap) ls ib ic) (j : Nat) : w.frozen? ⟨g, j, none⟩ = false := by
  rcases h.out.2 with ⟨h0, _⟩ | ⟨g', cap, cur, hv, _, hb, _⟩
  · cases h0
  · cases hv
    simp [World.frozen?, hb]
theorem grid_nil (w : World) (base : Nat) (ib ic : Nat → Nat) : Grid w base (.slice none 0 0) [] ib ic := ⟨World.ownsRow_nil _ _ _ _, fun k l h => by simp at h, fun i j h => by simp at h⟩
theorem hdr_len (ib ic : Nat → Nat) (ls : List (List Nat)) : (hdr ib ic ls).length = ls.length := by simp [hdr]

theorem hdr_congr {ib ic ib' ic' : Nat → Nat} {ls : List (List Nat)} (h : ∀ k, k < ls.length → ib k = ib' k ∧ ic k = ic' k) : hdr ib ic ls = hdr ib' ic' ls := by
  apply List.ext_getElem?
  intro k
  unfold hdr
  rw [List.getElem?_mapIdx, List.getElem?_mapIdx]
  cases e : ls[k]? with
  | none => rfl
  | some l =>
    obtain ⟨h1, h2⟩ := h k (List.getElem?_eq_some_iff.1 e).1
    simp [h1, h2]
theorem hdr_snoc (ib ic : Nat → Nat) (ls : List (List Nat)) (l : List Nat) : hdr ib ic (ls ++ [l]) = hdr ib ic ls ++ [.slice (some ⟨ib ls.length, 0, none⟩) l.length (ic ls.length)] := by
  simp [hdr, List.mapIdx_append]

/-- A class more. -/
theorem Grid.snoc {w w' : World} {base : Nat} {v v' : Value} {ls : List (List Nat)} {ib ic : Nat → Nat} {l : List Nat} {gl cl : Nat} (h : Grid w base v ls ib ic) (hg : w.grownBy w' v.ownBlock)
    (hl : RowI w' base gl cl l) (hne : ∀ k, k < ls.length → ib k ≠ gl) (ho : w'.ownsRow base 28 1 v' (ls.length + 1) (hdr ib ic ls ++ [.slice (some ⟨gl, 0, none⟩) l.length cl])) :
    Grid w' base v' (ls ++ [l]) (fun k => if k = ls.length then gl else ib k) (fun k => if k = ls.length then cl else ic k) := by
  refine ⟨?_, fun k m hk => ?_, fun i j hi hj e => ?_⟩
  · rw [hdr_snoc, List.length_append, List.length_singleton]
    rw [hdr_congr (ib := fun k => if k = ls.length then gl else ib k) (ic := fun k => if k = ls.length then cl else ic k) (ib' := ib) (ic' := ic) (fun k hk => by simp [Nat.ne_of_lt hk])]
    simpa using ho
  · by_cases hkl : k = ls.length
    · subst hkl
      simp at hk
      subst hk
      simpa using hl
    · have hk' : ls[k]? = some m := by
        rw [List.getElem?_append] at hk
        split at hk
        · exact hk
        · rename_i h1
          have : k - ls.length ≠ 0 := by omega
          rw [List.getElem?_singleton, if_neg this] at hk
          cases hk
      have hlt := (List.getElem?_eq_some_iff.1 hk').1
      simp only [if_neg hkl]
      exact (h.row k m hk').kept hg (h.out_ne hlt)
  · simp only [List.length_append, List.length_singleton] at hi hj
    split at e <;> split at e
    · omega
    · exact absurd e.symm (hne j (by omega))
    · exact absurd e (hne i (by omega))
    · exact h.ap i j (by omega) (by omega) e

/-- A class grown by appending, its header laid anew. -/
theorem Grid.grow {w w1 : World} {base g n cap : Nat} {ls : List (List Nat)} {ib ic : Nat → Nat} {k : Nat} {l l' : List Nat} {gl cl : Nat} (h : Grid w base (.slice (some ⟨g, 0, none⟩) n cap) ls ib ic) (hk : ls[k]? = some l)
    (hg : w.grownBy w1 (some (ib k))) (hl : RowI w1 base gl cl l') (hne : gl = ib k ∨ w.heap.size ≤ gl) :
    Grid (w1.setCell ⟨g, k, none⟩ (.slice (some ⟨gl, 0, none⟩) l'.length cl)) base (.slice (some ⟨g, 0, none⟩) n cap) (ls.set k l') (fun i => if i = k then gl else ib i) (fun i => if i = k then cl else ic i) ∧ w1.grownBy (w1.setCell ⟨g, k, none⟩ (.slice (some ⟨gl, 0, none⟩) l'.length cl)) (some g) := by
  have hkl := (List.getElem?_eq_some_iff.1 hk).1
  have hon := h.out_ne hkl
  have hgw : w1.grownBy (w1.setCell ⟨g, k, none⟩ (.slice (some ⟨gl, 0, none⟩) l'.length cl)) (some g) := grownBy_setCell w1 ⟨g, k, none⟩ _
  have ho1 : w1.ownsRow base 28 1 (.slice (some ⟨g, 0, none⟩) n cap) ls.length (hdr ib ic ls) := h.out.kept hg (.inr hon)
  have hgn : g ≠ ib k := fun e => hon (by simp [Value.ownBlock, e])
  obtain ⟨_, hlt⟩ := h.out.lt g rfl
  have hgl : g ≠ gl := by
    rcases hne with e | e
    · rw [e]; exact hgn
    · omega
  refine ⟨⟨?_, fun i m hi => ?_, fun i j hi hj e => ?_⟩, hgw⟩
  · obtain ⟨hlen, hrest⟩ := ho1
    rcases hrest with ⟨hv, _⟩ | ⟨g', cap', cur, hv, h1, hb, h2, h3, h4, h5⟩
    · cases hv
    · cases hv
      refine ⟨by rw [hdr_len]; simp, .inr ⟨g, cap, cur.setIfInBounds k (.slice (some ⟨gl, 0, none⟩) l'.length cl), by simp, h1, heap_setCell_same w1 g k cur _ _ hb, by simpa using h2, h3, by simpa using h4, ?_⟩⟩
      have e1 : (cur.setIfInBounds k (.slice (some ⟨gl, 0, none⟩) l'.length cl)).toList = cur.toList.set k (.slice (some ⟨gl, 0, none⟩) l'.length cl) := by simp
      rw [e1, List.length_set, List.take_set, h5]
      apply List.ext_getElem?
      intro i
      unfold hdr
      rw [List.getElem?_set, List.getElem?_mapIdx, List.getElem?_mapIdx, List.getElem?_set]
      by_cases e : k = i
      · subst e
        simp [hkl]
      · rw [if_neg e, if_neg e]
        cases ls[i]? with
        | none => rfl
        | some m =>
          have : i ≠ k := fun x => e x.symm
          simp [this]
  · rw [List.getElem?_set] at hi
    by_cases e : k = i
    · subst e
      rw [if_pos rfl, if_pos hkl] at hi
      cases hi
      simp only [if_true]
      exact hl.kept hgw (fun e => hgl (Option.some.inj e))
    · rw [if_neg e] at hi
      have hil := (List.getElem?_eq_some_iff.1 hi).1
      simp only [if_neg (fun x : i = k => e x.symm)]
      refine ((h.row i m hi).kept hg ?_).kept hgw ?_
      · intro e2
        exact e (h.ap k i hkl hil (Option.some.inj e2))
      · intro e2
        have := h.out_ne hil
        exact this (by simpa [Value.ownBlock] using (Option.some.inj e2))
  · rw [List.length_set] at hi hj
    split at e <;> split at e
    · omega
    · rename_i e1 e2
      rcases hne with e3 | e3
      · rw [e3] at e
        exact absurd (h.ap k j hkl hj e) (fun x => e2 x.symm)
      · have := (h.row j _ (List.getElem?_eq_getElem hj)).lt
        omega
    · rename_i e1 e2
      rcases hne with e3 | e3
      · rw [e3] at e
        exact absurd (h.ap i k hi hkl e) e1
      · have := (h.row i _ (List.getElem?_eq_getElem hi)).lt
        omega
    · exact h.ap i j hi hj e

end Go.Proofs.YtemnbkenihldgaaDoor
/-! The contracts of package order: what only asks; the classes. -/
namespace Go.Proofs.YtemnbkenihldgaaDoor
open Go.RowKit

theorem hasI_nat {n : Nat} {R : Nat → Nat → Bool} {a b : Nat} (ha : a < n) (hb : b < n) : hasI n R (a : Int) (b : Int) = R a b := by
  unfold hasI
  simp [ha, hb]
theorem relHas_n (lo hi p n a b : Nat) (R : Nat → Nat → Bool) (w : World) (h : IsRel w lo hi p n R) (ha : a < n) (hb : b < n) : Calls Tryd.prog 62 #[.pointer (some ⟨p, 0, none⟩), .int .i64 a, .int .i64 b] w fun e w' => e = .returned (.bool (R a b)) ∧ ∃ m, w' = w.drewN m := by
  have := relHas_c lo hi p n a b R w h
  rwa [hasI_nat ha hb] at this
theorem drewN_add (w : World) (a b : Nat) : (w.drewN a).drewN b = w.drewN (a + b) := by
  unfold World.drewN
  simp [Nat.add_assoc]

theorem all_succ (f : Nat → Bool) (k : Nat) : (List.range (k + 1)).all f = ((List.range k).all f && f k) := by
  rw [List.range_succ, List.all_append]
  simp
theorem all_no {f : Nat → Bool} {n a : Nat} (ha : a < n) (h : f a = false) : (List.range n).all f = false := by
  cases e : (List.range n).all f with
  | false => rfl
  | true =>
    rw [List.all_eq_true] at e
    have := e a (by simpa using ha)
    rw [h] at this
    cases this

end Go.Proofs.YtemnbkenihldgaaDoor
