/- A copy whose rows are written over, or appended to. -/
import Derived.Test.YtcfhnfnhdhloiaaGreatPup
import Derived.ArgAppend
import Derived.Test.YtcfhnfnhdhloiaaGreatArgT
/-! PatchCopies: a copy's rows while they are written over. -/
namespace Go.Proofs.YtcfhnfnhdhloiaaGreat
open Go.RowKit

/-- A row in a block of its own, of one type, or nil. -/
def Row0 (w : World) (lo hi : Nat) (t : TypeId) (size : Nat) (p : Option Addr) (n c : Nat) : Prop :=
  (p = none ∧ n = 0 ∧ c = 0) ∨ ∃ (g : Nat) (cur : Array Value), p = some ⟨g, 0, none⟩ ∧ lo ≤ g ∧ g < hi ∧ w.heap[g]? = some (.cells cur t (0, 0)) ∧ n ≤ c ∧ c ≤ maxLen ∧ cur.size = c * size
theorem OwnB.row0 {w : World} {lo : Nat} {t : TypeId} {size n c : Nat} {p : Option Addr} {cs : List Value} (h : OwnB w lo t size p n c cs) : Row0 w lo w.heap.size t size p n c := by
  rcases h with h | ⟨g, cur, h1, h2, h3, h4, h5, _⟩
  · exact .inl h
  · exact .inr ⟨g, cur, h1, h2, (Array.getElem?_eq_some_iff.1 h3).1, h3, h5, h4.2, h4.1⟩
theorem Row0.set {w : World} {lo hi : Nat} {t : TypeId} {size n c : Nat} {p : Option Addr} (h : Row0 w lo hi t size p n c) (b o : Nat) (v : Value) : Row0 (w.setCell ⟨b, o, none⟩ v) lo hi t size p n c := by
  rcases h with h | ⟨g, cur, h1, h2, h3, h4, h5, h6, h7⟩
  · exact .inl h
  · by_cases e : g = b
    · subst e
      exact .inr ⟨g, _, h1, h2, h3, heap_set_same _ _ _ _ h4, h5, h6, by simpa using h7⟩
    · exact .inr ⟨g, cur, h1, h2, h3, (heap_set_ne w b o v e).trans h4, h5, h6, h7⟩
theorem Row0.calm {w w' : World} {lo hi : Nat} {t : TypeId} {size n c : Nat} {p : Option Addr} (h : Row0 w lo hi t size p n c) (hg : w.grownBy w' none) : Row0 w' lo hi t size p n c := by
  rcases h with h | ⟨g, cur, h1, h2, h3, h4, h5⟩
  · exact .inl h
  · exact .inr ⟨g, cur, h1, h2, h3, (hg.block g (Array.getElem?_eq_some_iff.1 h4).1 (by simp)).trans h4, h5⟩
/-- A cell of it. -/
theorem Row0.cell {w : World} {lo hi : Nat} {t : TypeId} {size n c : Nat} {p : Option Addr} (h : Row0 w lo hi t size p n c) {k j : Nat} (hk : k < n) (hj : j < size) :
    ∃ (g : Nat) (cur : Array Value) (v : Value), p = some ⟨g, 0, none⟩ ∧ lo ≤ g ∧ g < hi ∧ w.heap[g]? = some (.cells cur t (0, 0)) ∧ w.cell? ⟨g, k * size + j, none⟩ = some v ∧ w.frozen? ⟨g, k * size + j, none⟩ = false := by
  rcases h with ⟨_, h0, _⟩ | ⟨g, cur, h1, h2, h3, h4, h5, _, h7⟩
  · omega
  · have hlt : k * size + j < cur.size := by
      rw [h7]
      have := Nat.mul_le_mul_right size (Nat.le_trans (Nat.succ_le_of_lt hk) h5)
      rw [Nat.succ_mul] at this
      omega
    exact ⟨g, cur, cur[k * size + j], h1, h2, h3, h4, by simp [World.cell?, h4, hlt], by simp [World.frozen?, h4]⟩

/-- The copy that is written over: its rows, its hunks' headers. -/
structure QAt (w : World) (lo hi : Nat) (nd : Nat) (p1 : Option Addr) (c1 nm : Nat) (p2 : Option Addr) (c2 nh g4 : Nat) (A E K : Nat → Option Addr × Nat × Nat) : Prop where
  d : Row0 w lo hi 22 1 p1 nd c1
  m : Row0 w lo hi 9 1 p2 nm c2
  h : 0 < nh → lo ≤ g4 ∧ g4 < hi ∧ ∃ cur : Array Value, w.heap[g4]? = some (.cells cur 50 (0, 0)) ∧ nh * 4 ≤ cur.size ∧ ∀ i, i < nh →
    cur[i * 4 + 1]? = some (.slice (A i).1 (A i).2.1 (A i).2.2) ∧ cur[i * 4 + 2]? = some (.slice (E i).1 (E i).2.1 (E i).2.2) ∧ cur[i * 4 + 3]? = some (.slice (K i).1 (K i).2.1 (K i).2.2)
  a : ∀ i, i < nh → Row0 w lo hi 9 1 (A i).1 (A i).2.1 (A i).2.2
  e : ∀ i, i < nh → Row0 w lo hi 46 4 (E i).1 (E i).2.1 (E i).2.2
  k : ∀ i, i < nh → Row0 w lo hi 44 2 (K i).1 (K i).2.1 (K i).2.2
section
variable {w w' : World} {lo hi nd : Nat} {p1 : Option Addr} {c1 nm : Nat} {p2 : Option Addr} {c2 nh g4 : Nat} {A E K : Nat → Option Addr × Nat × Nat}
theorem QAt.calm (q : QAt w lo hi nd p1 c1 nm p2 c2 nh g4 A E K) (hg : w.grownBy w' none) : QAt w' lo hi nd p1 c1 nm p2 c2 nh g4 A E K :=
  ⟨q.d.calm hg, q.m.calm hg, fun hn => by
    obtain ⟨h1, h2, cur, h3, h4, h5⟩ := q.h hn
    exact ⟨h1, h2, cur, (hg.block g4 (Array.getElem?_eq_some_iff.1 h3).1 (by simp)).trans h3, h4, h5⟩, fun i hi => (q.a i hi).calm hg, fun i hi => (q.e i hi).calm hg, fun i hi => (q.k i hi).calm hg⟩
/-- A cell of another type's row. -/
theorem QAt.set (q : QAt w lo hi nd p1 c1 nm p2 c2 nh g4 A E K) {b : Nat} {cur : Array Value} {t : TypeId} (hb : w.heap[b]? = some (.cells cur t (0, 0))) (ht : 50 ≠ t) (o : Nat) (v : Value) : QAt (w.setCell ⟨b, o, none⟩ v) lo hi nd p1 c1 nm p2 c2 nh g4 A E K :=
  ⟨q.d.set b o v, q.m.set b o v, fun hn => by
    obtain ⟨h1, h2, cur', h3, h4, h5⟩ := q.h hn
    refine ⟨h1, h2, cur', (heap_set_ne w b o v fun e => ?_).trans h3, h4, h5⟩
    subst e
    rw [h3] at hb
    cases hb
    exact ht rfl, fun i hi => (q.a i hi).set b o v, fun i hi => (q.e i hi).set b o v, fun i hi => (q.k i hi).set b o v⟩
/-- A hunk's path. -/
theorem QAt.path (q : QAt w lo hi nd p1 c1 nm p2 c2 nh g4 A E K) (i : Nat) (v : Value) : QAt (w.setCell ⟨g4, i * 4, none⟩ v) lo hi nd p1 c1 nm p2 c2 nh g4 A E K :=
  ⟨q.d.set g4 _ v, q.m.set g4 _ v, fun hn => by
    obtain ⟨h1, h2, cur, h3, h4, h5⟩ := q.h hn
    refine ⟨h1, h2, _, heap_set_same _ _ _ _ h3, by simpa using h4, fun k hk => ?_⟩
    obtain ⟨k1, k2, k3⟩ := h5 k hk
    simp only [Array.getElem?_setIfInBounds]
    rw [if_neg (by omega), if_neg (by omega), if_neg (by omega)]
    exact ⟨k1, k2, k3⟩, fun i hi => (q.a i hi).set g4 _ v, fun i hi => (q.e i hi).set g4 _ v, fun i hi => (q.k i hi).set g4 _ v⟩
theorem QAt.heads (q : QAt w lo hi nd p1 c1 nm p2 c2 nh g4 A E K) {i : Nat} (hi' : i < nh) : w.cell? ⟨g4, i * 4 + 1, none⟩ = some (.slice (A i).1 (A i).2.1 (A i).2.2) ∧ w.cell? ⟨g4, i * 4 + 2, none⟩ = some (.slice (E i).1 (E i).2.1 (E i).2.2) ∧ w.cell? ⟨g4, i * 4 + 3, none⟩ = some (.slice (K i).1 (K i).2.1 (K i).2.2) := by
  obtain ⟨_, _, cur, h3, h4, h5⟩ := q.h (by omega)
  obtain ⟨k1, k2, k3⟩ := h5 i hi'
  exact ⟨cell_block h3 k1, cell_block h3 k2, cell_block h3 k3⟩
theorem QAt.spot (q : QAt w lo hi nd p1 c1 nm p2 c2 nh g4 A E K) {i : Nat} (hi' : i < nh) : ∃ v, w.cell? ⟨g4, i * 4, none⟩ = some v ∧ w.frozen? ⟨g4, i * 4, none⟩ = false := by
  obtain ⟨_, _, cur, h3, h4, h5⟩ := q.h (by omega)
  have hlt : i * 4 < cur.size := by omega
  exact ⟨cur[i * 4], by simp [World.cell?, h3, hlt], by simp [World.frozen?, h3]⟩
end
/-- .. of a copy. -/
theorem CopyAt.q {w : World} {lo : Nat} {p : Pt} {nd nm nx nh : Nat} {p1 : Option Addr} {c1 : Nat} {p2 : Option Addr} {c2 : Nat} {p3 : Option Addr} {c3 : Nat} {p4 : Option Addr} {c4 : Nat} (h : CopyAt w lo p nd nm nx nh p1 c1 p2 c2 p3 c3 p4 c4) (hl : (pHunks p).length = nh) :
    ∃ (g4 : Nat) (A E K : Nat → Option Addr × Nat × Nat), (0 < nh → p4 = some ⟨g4, 0, none⟩) ∧ QAt w lo w.heap.size nd p1 c1 nm p2 c2 nh g4 A E K ∧
      ∀ i, i < nh → ∃ x ∈ pHunks p, (hAdds x).length = (A i).2.1 ∧ (hEdges x).length = (E i).2.1 ∧ (hKills x).length = (K i).2.1 := by
  rcases Nat.eq_zero_or_pos nh with e | e
  · subst e
    exact ⟨0, fun _ => (none, 0, 0), fun _ => (none, 0, 0), fun _ => (none, 0, 0), fun h => absurd h (by omega), ⟨h.d.row0, h.m.row0, fun h => absurd h (by omega), fun i hi => absurd hi (by omega), fun i hi => absurd hi (by omega), fun i hi => absurd hi (by omega)⟩, fun i hi => absurd hi (by omega)⟩
  · obtain ⟨g, f, rfl, h1, h2, h3⟩ := h.hs e
    have hx : ∀ i, ∃ z : (Option Addr × Nat × Nat) × (Option Addr × Nat × Nat) × (Option Addr × Nat × Nat), i < nh → hkc (f i) = [.string (hPath ((pHunks p)[i]?.getD hk0)), .slice z.1.1 z.1.2.1 z.1.2.2, .slice z.2.1.1 z.2.1.2.1 z.2.1.2.2, .slice z.2.2.1 z.2.2.2.1 z.2.2.2.2] ∧
        Row0 w lo w.heap.size 9 1 z.1.1 z.1.2.1 z.1.2.2 ∧ Row0 w lo w.heap.size 46 4 z.2.1.1 z.2.1.2.1 z.2.1.2.2 ∧ Row0 w lo w.heap.size 44 2 z.2.2.1 z.2.2.2.1 z.2.2.2.2 ∧
        (hAdds ((pHunks p)[i]?.getD hk0)).length = z.1.2.1 ∧ (hEdges ((pHunks p)[i]?.getD hk0)).length = z.2.1.2.1 ∧ (hKills ((pHunks p)[i]?.getD hk0)).length = z.2.2.2.1 := fun i => by
      by_cases hi : i < nh
      · obtain ⟨pa, na, ca, pe, ne, ce, pk, nk, ck, ef, l1, l2, l3, o1, o2, o3⟩ := h3 i hi
        exact ⟨((pa, na, ca), (pe, ne, ce), (pk, nk, ck)), fun _ => ⟨by rw [ef]; rfl, o1.row0, o2.row0, o3.row0, l1, l2, l3⟩⟩
      · exact ⟨((none, 0, 0), (none, 0, 0), (none, 0, 0)), fun h => absurd h hi⟩
    obtain ⟨z, hz⟩ := Classical.axiomOfChoice hx
    refine ⟨g, fun i => (z i).1, fun i => (z i).2.1, fun i => (z i).2.2, fun _ => rfl, ⟨h.d.row0, h.m.row0, fun _ => ⟨h1, h2.lt, ?_⟩, fun i hi => (hz i hi).2.1, fun i hi => (hz i hi).2.2.1, fun i hi => (hz i hi).2.2.2.1⟩, fun i hi => ?_⟩
    · obtain ⟨cur, k1, k2, k3⟩ := h2
      refine ⟨cur, k1, k2, fun i hi => ?_⟩
      have e := (hz i hi).1
      exact ⟨k3 i hi 1 _ (by rw [e]; rfl), k3 i hi 2 _ (by rw [e]; rfl), k3 i hi 3 _ (by rw [e]; rfl)⟩
    · have hlt : i < (pHunks p).length := by omega
      refine ⟨(pHunks p)[i]?.getD hk0, ?_, (hz i hi).2.2.2.2⟩
      rw [List.getElem?_eq_getElem hlt]
      exact List.getElem_mem hlt

theorem Stay.set {lo hi : Nat} {w w' : World} (h : Stay lo hi w w') {b : Nat} (hb : b < lo ∨ hi ≤ b) (o : Nat) (v : Value) : Stay lo hi w (w'.setCell ⟨b, o, none⟩ v) :=
  ⟨by simpa using h.size, fun i h1 h2 => (heap_set_ne w' b o v (by omega)).trans (h.block i h1 h2)⟩

end Go.Proofs.YtcfhnfnhdhloiaaGreat
/-! PatchSpoils: a copy whose rows are appended to. -/
namespace Go.Proofs.YtcfhnfnhdhloiaaGreat
open Go.RowKit

/-- Behind an append onto a row: in its own room, or anew. -/
def AppR (w : World) (e : TypeId) (size : Nat) (p : Option Addr) (n c m : Nat) (olds news : List Value) (p' : Option Addr) (c' : Nat) (w' : World) : Prop :=
  (∃ g, p = some ⟨g, 0, none⟩ ∧ p' = p ∧ c' = c ∧ n + m ≤ c ∧ w' = w.setCells g (n * size) news) ∨ (OwnB w' w.heap.size e size p' (n + m) c' (olds ++ news) ∧ w.grownBy w' none)
theorem wpList_append_row {P : Program} (w : World) {ops : Array Oper} {rest : List Oper} {o : Oper} {a : Act} {Q : Exit → Act → World → Prop}
    (hg : o.guard = none) (s x : Operand) (t : TypeId) (hop : o.op = Op.call { callee := Callee.builtin Builtin.append, args := #[s, x], argTypes := #[t, t] })
    (e : TypeId) (i : TypeInfo) (z : Value) (size bytes : Nat) (h1 : P.underlying t = some (.slice e)) (h2 : P.info? e = some i) (h3 : i.zero = some z) (h4 : i.size = size) (h5 : i.bytes = bytes) (h6 : z.cells.size = size) (h7 : 0 < size)
    (lo : Nat) (p : Option Addr) (n c : Nat) (olds : List Value) (hs : a.eval s = .slice p n c) (hlo : olds.length = n * size) (hrow : OwnB w lo e size p n c olds)
    (ad : Addr) (m cc : Nat) (news : List Value) (hx : a.eval x = .slice (some ad) m cc) (hn : news.length = m * size) (hc : ∀ j u, news[j]? = some u → w.cell? (ad.add j) = some u) (h1c : ∀ u ∈ news, u.oneCell' = true)
    (b1 : n + m ≤ maxLen) (b2 : (n + m) * bytes ≤ 140737488355328) (hm : 0 < m)
    (hK : ∀ p' c' w', AppR w e size p n c m olds news p' c' w' → wpList P ops Q rest (a.put o.dst (.slice p' (n + m) c')) w') :
    wpList P ops Q (o :: rest) a w := by
  rcases hrow with ⟨rfl, rfl, rfl⟩ | ⟨g, cur, rfl, r2, r3, r4, r5, r6⟩
  · refine wpList_append_grows w hg s x t hop e i z size bytes h1 h2 h3 h4 h5 h6 h7 none 0 0 olds hs (fun _ => ⟨rfl, rfl⟩) hlo (fun b hb => by cases hb) ad m cc news hx hn hc h1c (by omega) b1 b2 fun v' w' k1 k2 => ?_
    obtain ⟨p', c', rfl, k3⟩ := ownB_of k1
    exact hK p' c' w' (.inr ⟨k3, k2⟩)
  · refine wpList_append_arg w hg s x t hop e i z size bytes h1 h2 h3 h4 h5 h6 h7 g 0 n c olds hs hlo (fun j u hj => by rw [Nat.zero_add]; exact cell_block r3 (r6 j u hj)) ad m cc news hx hn hc h1c (fun hr j hj => ?_) b1 b2
      (fun hr => ?_) (fun hr v' w' k1 k2 => ?_)
    · have hlt : n * size + j < cur.size := by
        rw [r4.1]
        have := Nat.mul_le_mul_right size hr
        rw [Nat.add_mul] at this
        omega
      exact ⟨by simp [World.cell?, r3, hlt], by simp [World.frozen?, r3]⟩
    · rw [Nat.zero_add]
      exact hK _ _ _ (.inl ⟨g, rfl, rfl, rfl, hr, rfl⟩)
    · obtain ⟨p', c', rfl, k3⟩ := ownB_of k1
      exact hK p' c' w' (.inr ⟨k3, k2⟩)

/-! A row whose block is written to elsewhere. -/
theorem scells_set (l : List ByteArray) (o : Nat) (s : ByteArray) : scells (l.set o s) = (scells l).set o (.string s) := by unfold scells; rw [List.map_set]
theorem OwnB.turnS {w : World} {lo n c : Nat} {p : Option Addr} {l : List ByteArray} (h : OwnB w lo 9 1 p n c (scells l)) {b : Nat} (o : Nat) (s : ByteArray) :
    ∃ l' : List ByteArray, l'.length = l.length ∧ OwnB (w.setCell ⟨b, o, none⟩ (.string s)) lo 9 1 p n c (scells l') ∧ ∀ x ∈ l', x ∈ l ∨ x = s := by
  rcases h with h | ⟨g, cur, h1, h2, h3, h4, h5, h6⟩
  · exact ⟨l, rfl, .inl h, fun x hx => .inl hx⟩
  · by_cases e : g = b
    · subst e
      refine ⟨l.set o s, by simp, .inr ⟨g, _, h1, h2, heap_set_same _ _ _ _ h3, by simpa using h4, h5, fun j u hj => ?_⟩, fun x hx => List.mem_or_eq_of_mem_set hx⟩
      rw [scells_set, List.getElem?_set] at hj
      rw [Array.getElem?_setIfInBounds]
      split at hj
      · rename_i e
        subst e
        split at hj
        · rename_i hlt
          have := (Array.getElem?_eq_some_iff.1 (h6 o _ (List.getElem?_eq_getElem hlt))).1
          simp_all
        · cases hj
      · rename_i e
        rw [if_neg e]
        exact h6 j u hj
    · exact ⟨l, rfl, .inr ⟨g, cur, h1, h2, (heap_set_ne w b o _ e).trans h3, h4, h5, h6⟩, fun x hx => .inl hx⟩
/-- One more. -/
theorem OwnB.pushS {w : World} {lo n c g : Nat} {l : List ByteArray} (h : OwnB w lo 9 1 (some ⟨g, 0, none⟩) n c (scells l)) (hl : l.length = n) (hn : n < c) (s : ByteArray) :
    OwnB (w.setCell ⟨g, n, none⟩ (.string s)) lo 9 1 (some ⟨g, 0, none⟩) (n + 1) c (scells (l ++ [s])) := by
  rcases h with ⟨h, _⟩ | ⟨g', cur, h1, h2, h3, h4, h5, h6⟩
  · cases h
  · cases h1
    refine .inr ⟨g, _, rfl, h2, heap_set_same _ _ _ _ h3, by simpa using h4, hn, fun j u hj => ?_⟩
    have hj' : j < n + 1 := by
      have := (List.getElem?_eq_some_iff.1 hj).1
      rw [scells_lenP, List.length_append, hl] at this
      simpa using this
    rw [Array.getElem?_setIfInBounds]
    by_cases e : n = j
    · subst e
      have : n < cur.size := by have := h4.1; omega
      rw [scells_snoc, List.getElem?_append_right (by rw [scells_lenP, hl]; exact Nat.le_refl _), scells_lenP, hl, Nat.sub_self] at hj
      rw [if_pos rfl, if_pos this]
      exact hj
    · rw [if_neg e]
      refine h6 j u ?_
      rw [scells_snoc, List.getElem?_append_left (by rw [scells_lenP, hl]; omega)] at hj
      exact hj
theorem OwnB.pushU {w : World} {lo n c g : Nat} {l : List Nat} (h : OwnB w lo 22 1 (some ⟨g, 0, none⟩) n c (ncells .u32 l)) (hl : l.length = n) (hn : n < c) (x : Nat) :
    OwnB (w.setCell ⟨g, n, none⟩ (.int .u32 (x : Int))) lo 22 1 (some ⟨g, 0, none⟩) (n + 1) c (ncells .u32 (l ++ [x])) := by
  rcases h with ⟨h, _⟩ | ⟨g', cur, h1, h2, h3, h4, h5, h6⟩
  · cases h
  · cases h1
    refine .inr ⟨g, _, rfl, h2, heap_set_same _ _ _ _ h3, by simpa using h4, hn, fun j u hj => ?_⟩
    have hsn : ncells .u32 (l ++ [x]) = ncells .u32 l ++ [.int .u32 (x : Int)] := by unfold ncells; simp
    have hj' : j < n + 1 := by
      have := (List.getElem?_eq_some_iff.1 hj).1
      rw [ncells_len, List.length_append, hl] at this
      simpa using this
    rw [Array.getElem?_setIfInBounds]
    by_cases e : n = j
    · subst e
      have : n < cur.size := by have := h4.1; omega
      rw [hsn, List.getElem?_append_right (by rw [ncells_len, hl]; exact Nat.le_refl _), ncells_len, hl, Nat.sub_self] at hj
      rw [if_pos rfl, if_pos this]
      exact hj
    · rw [if_neg e]
      refine h6 j u ?_
      rw [hsn, List.getElem?_append_left (by rw [ncells_len, hl]; omega)] at hj
      exact hj
/-- Four cells of an edge. -/
def edc (e : Ed) : List Value := [.int .u32 ((e.1.1 : Nat) : Int), .int .i64 e.1.2, .int .u32 ((e.2.1 : Nat) : Int), .int .i64 e.2.2]
theorem ecells_cons (e : Ed) (l : List Ed) : ecells (e :: l) = edc e ++ ecells l := rfl
theorem ecells_snoc (l : List Ed) (e : Ed) : ecells (l ++ [e]) = ecells l ++ edc e := by unfold ecells; rw [List.flatMap_append]; simp [edc]
theorem ecells_at {l : List Ed} {j : Nat} {u : Value} (h : (ecells l)[j]? = some u) : ∃ k r, j = k * 4 + r ∧ r < 4 ∧ k < l.length ∧ (edc (l[k]?.getD ((0, 0), (0, 0))))[r]? = some u := by
  have hj := (List.getElem?_eq_some_iff.1 h).1
  rw [ecells_len] at hj
  refine ⟨j / 4, j % 4, by omega, by omega, by omega, ?_⟩
  obtain ⟨g0, g1, g2, g3⟩ := ecells_get (l := l) (i := j / 4) (by omega)
  have h4 : j = j / 4 * 4 ∧ j % 4 = 0 ∨ j = j / 4 * 4 + 1 ∧ j % 4 = 1 ∨ j = j / 4 * 4 + 2 ∧ j % 4 = 2 ∨ j = j / 4 * 4 + 3 ∧ j % 4 = 3 := by omega
  rcases h4 with ⟨e, e'⟩ | ⟨e, e'⟩ | ⟨e, e'⟩ | ⟨e, e'⟩ <;> rw [e'] <;> rw [e] at h
  · rw [g0] at h; exact h
  · rw [g1] at h; exact h
  · rw [g2] at h; exact h
  · rw [g3] at h; exact h
theorem ecells_of {l : List Ed} {k r : Nat} {u : Value} (hk : k < l.length) (h : (edc (l[k]?.getD ((0, 0), (0, 0))))[r]? = some u) : (ecells l)[k * 4 + r]? = some u := by
  obtain ⟨g0, g1, g2, g3⟩ := ecells_get (l := l) (i := k) hk
  have hr : r < 4 := (List.getElem?_eq_some_iff.1 h).1
  match r, hr, h with
  | 0, _, h => rw [← h]; exact g0
  | 1, _, h => rw [← h]; exact g1
  | 2, _, h => rw [← h]; exact g2
  | 3, _, h => rw [← h]; exact g3
/-- The block's cells with an edge written in. -/
theorem heap_edge (w : World) {g k : Nat} {cur : Array Value} {t : TypeId} (h : w.heap[g]? = some (.cells cur t (0, 0))) (e : Ed) : ∃ cur' : Array Value, (w.setCells g (k * 4) (edc e)).heap[g]? = some (.cells cur' t (0, 0)) ∧ cur'.size = cur.size ∧
    ∀ j, cur'[j]? = if j / 4 = k ∧ j < cur.size then (edc e)[j % 4]? else cur[j]? := by
  refine ⟨(((cur.setIfInBounds (k * 4) (.int .u32 ((e.1.1 : Nat) : Int))).setIfInBounds (k * 4 + 1) (.int .i64 e.1.2)).setIfInBounds (k * 4 + 1 + 1) (.int .u32 ((e.2.1 : Nat) : Int))).setIfInBounds (k * 4 + 1 + 1 + 1) (.int .i64 e.2.2), ?_, by simp, fun j => ?_⟩
  · unfold edc
    simp only [World.setCells]
    exact heap_set_same _ _ _ _ (heap_set_same _ _ _ _ (heap_set_same _ _ _ _ (heap_set_same _ _ _ _ h)))
  · simp only [Array.getElem?_setIfInBounds, Array.size_setIfInBounds]
    by_cases q3 : k * 4 + 1 + 1 + 1 = j
    · subst q3
      have hd : (k * 4 + 1 + 1 + 1) / 4 = k := by omega
      have hm : (k * 4 + 1 + 1 + 1) % 4 = 3 := by omega
      rw [if_pos rfl]
      by_cases e2 : k * 4 + 1 + 1 + 1 < cur.size
      · rw [if_pos e2, if_pos ⟨hd, e2⟩, hm]
        rfl
      · have hn : cur[k * 4 + 1 + 1 + 1]? = none := by simp; omega
        rw [if_neg e2, if_neg (fun h => e2 h.2), hn]
    by_cases q2 : k * 4 + 1 + 1 = j
    · subst q2
      have hd : (k * 4 + 1 + 1) / 4 = k := by omega
      have hm : (k * 4 + 1 + 1) % 4 = 2 := by omega
      rw [if_neg q3, if_pos rfl]
      by_cases e2 : k * 4 + 1 + 1 < cur.size
      · rw [if_pos e2, if_pos ⟨hd, e2⟩, hm]
        rfl
      · have hn : cur[k * 4 + 1 + 1]? = none := by simp; omega
        rw [if_neg e2, if_neg (fun h => e2 h.2), hn]
    by_cases q1 : k * 4 + 1 = j
    · subst q1
      have hd : (k * 4 + 1) / 4 = k := by omega
      have hm : (k * 4 + 1) % 4 = 1 := by omega
      rw [if_neg q3, if_neg q2, if_pos rfl]
      by_cases e2 : k * 4 + 1 < cur.size
      · rw [if_pos e2, if_pos ⟨hd, e2⟩, hm]
        rfl
      · have hn : cur[k * 4 + 1]? = none := by simp; omega
        rw [if_neg e2, if_neg (fun h => e2 h.2), hn]
    by_cases q0 : k * 4 = j
    · subst q0
      have hd : (k * 4) / 4 = k := by omega
      have hm : (k * 4) % 4 = 0 := by omega
      rw [if_neg q3, if_neg q2, if_neg q1, if_pos rfl]
      by_cases e2 : k * 4 < cur.size
      · rw [if_pos e2, if_pos ⟨hd, e2⟩, hm]
        rfl
      · have hn : cur[k * 4]? = none := by simp; omega
        rw [if_neg e2, if_neg (fun h => e2 h.2), hn]
    rw [if_neg q3, if_neg q2, if_neg q1, if_neg q0, if_neg (by omega)]
theorem heap_sets_ne (b : Nat) {g : Nat} (h : g ≠ b) : ∀ (vs : List Value) (o : Nat) (w : World), (w.setCells b o vs).heap[g]? = w.heap[g]?
  | [], _, _ => rfl
  | v :: r, o, w => by
    rw [World.setCells]
    exact (heap_sets_ne b h r (o + 1) _).trans (heap_set_ne w b o v h)
theorem OwnB.turnE {w : World} {lo n c : Nat} {p : Option Addr} {l : List Ed} (h : OwnB w lo 46 4 p n c (ecells l)) {b : Nat} (k : Nat) (e : Ed) :
    ∃ l' : List Ed, l'.length = l.length ∧ OwnB (w.setCells b (k * 4) (edc e)) lo 46 4 p n c (ecells l') := by
  rcases h with h | ⟨g, cur, h1, h2, h3, h4, h5, h6⟩
  · exact ⟨l, rfl, .inl h⟩
  · by_cases eb : g = b
    · subst eb
      obtain ⟨cur', k1, k2, k3⟩ := heap_edge w (k := k) h3 e
      refine ⟨l.set k e, by simp, .inr ⟨g, cur', h1, h2, k1, ⟨k2.trans h4.1, h4.2⟩, h5, fun j u hj => ?_⟩⟩
      obtain ⟨m, r, rfl, hr, hm, hu⟩ := ecells_at hj
      rw [List.length_set] at hm
      rw [k3, show (m * 4 + r) / 4 = m by omega, show (m * 4 + r) % 4 = r by omega]
      have hlt : m * 4 + r < cur.size := by
        have hm2 := ecells_of (l := l) (k := m) (r := r) hm (List.getElem?_eq_getElem (by show r < 4; exact hr))
        exact (Array.getElem?_eq_some_iff.1 (h6 _ _ hm2)).1
      rw [List.getElem?_set] at hu
      by_cases em : m = k
      · subst em
        rw [if_pos ⟨rfl, hlt⟩]
        simpa [hm] using hu
      · rw [if_neg (fun h => em h.1)]
        rw [if_neg (fun h => em h.symm)] at hu
        exact h6 _ _ (ecells_of hm hu)
    · exact ⟨l, rfl, .inr ⟨g, cur, h1, h2, (heap_sets_ne b eb _ _ w).trans h3, h4, h5, h6⟩⟩
theorem OwnB.pushE {w : World} {lo n c g : Nat} {l : List Ed} (h : OwnB w lo 46 4 (some ⟨g, 0, none⟩) n c (ecells l)) (hl : l.length = n) (hn : n < c) (e : Ed) :
    OwnB (w.setCells g (n * 4) (edc e)) lo 46 4 (some ⟨g, 0, none⟩) (n + 1) c (ecells (l ++ [e])) := by
  rcases h with ⟨h, _⟩ | ⟨g', cur, h1, h2, h3, h4, h5, h6⟩
  · cases h
  · cases h1
    obtain ⟨cur', k1, k2, k3⟩ := heap_edge w (k := n) h3 e
    refine .inr ⟨g, cur', rfl, h2, k1, ⟨k2.trans h4.1, h4.2⟩, hn, fun j u hj => ?_⟩
    obtain ⟨m, r, rfl, hr, hm, hu⟩ := ecells_at hj
    rw [List.length_append, hl] at hm
    have hm' : m < n + 1 := hm
    rw [k3, show (m * 4 + r) / 4 = m by omega, show (m * 4 + r) % 4 = r by omega]
    have hlt : m * 4 + r < cur.size := by have := h4.1; omega
    by_cases em : m = n
    · subst em
      rw [if_pos ⟨rfl, hlt⟩]
      rw [List.getElem?_append_right (by omega), hl, Nat.sub_self] at hu
      simpa using hu
    · rw [if_neg (fun h => em h.1)]
      rw [List.getElem?_append_left (by omega)] at hu
      exact h6 _ _ (ecells_of (by omega) hu)

end Go.Proofs.YtcfhnfnhdhloiaaGreat
/-! PatchSpoils: a copy, one of whose rows is appended to, is a patch in memory. -/
namespace Go.Proofs.YtcfhnfnhdhloiaaGreat
open Go.RowKit

/-- Not more than k of each. -/
structure HLim (k : Nat) (h : Hk) : Prop where
  a : (hAdds h).length ≤ k
  e : (hEdges h).length ≤ k
  k : (hKills h).length ≤ k
  p : (hPath h).size ≤ 1000000
  s : ∀ s ∈ hAdds h, s.size ≤ 1000000
structure PLim (k : Nat) (p : Pt) : Prop where
  h : (pHunks p).length ≤ 20
  d : (pDeps p).length ≤ k
  m : (pMakes p).length ≤ k
  x : (pDrops p).length ≤ k
  ms : ∀ s ∈ pMakes p, s.size ≤ 1000000
  xs : ∀ s ∈ pDrops p, s.size ≤ 1000000
  hs : ∀ h ∈ pHunks p, HLim k h
theorem HLim.more {k k' : Nat} {x : Hk} (h : HLim k x) (hk : k ≤ k') : HLim k' x := ⟨Nat.le_trans h.a hk, Nat.le_trans h.e hk, Nat.le_trans h.k hk, h.p, h.s⟩
theorem PLim.big {p : Pt} {k : Nat} (h : PLim k p) (hk : k ≤ 1000) : PBig p := ⟨h.h, Nat.le_trans h.d hk, Nat.le_trans h.m hk, Nat.le_trans h.x hk, h.ms, h.xs, fun x hx => by
  have := (h.hs x hx).more hk
  exact ⟨this.a, this.e, this.k, this.p, this.s⟩⟩
theorem PFew.lim {p : Pt} (h : PFew p) : PLim 100 p := ⟨by have := h.hunks; omega, by have := h.deps; omega, by have := h.makes; omega, by have := h.drops; omega, fun s hs => by have := h.ms s hs; omega, fun s hs => by have := h.xs s hs; omega, fun x hx => by
  obtain ⟨h1, h2, h3, h4, h5⟩ := h.hs x hx
  exact ⟨by omega, by omega, by omega, by omega, fun s hs => by have := h5 s hs; omega⟩⟩

/-- A copy, its hunks' headers told. -/
structure CpF (k : Nat) (w : World) (lo : Nat) (p : Pt) (nd nm nx nh : Nat) (p1 : Option Addr) (c1 : Nat) (p2 : Option Addr) (c2 : Nat) (p3 : Option Addr) (c3 : Nat) (p4 : Option Addr) (c4 : Nat) (g4 : Nat) (f : Nat → HRw) : Prop where
  d : OwnB w lo 22 1 p1 nd c1 (ncells .u32 (pDeps p))
  m : OwnB w lo 9 1 p2 nm c2 (scells (pMakes p))
  x : OwnB w lo 9 1 p3 nx c3 (scells (pDrops p))
  row : 0 < nh → p4 = some ⟨g4, 0, none⟩ ∧ lo ≤ g4 ∧ HRow w g4 nh f
  hk : ∀ i, i < nh → CpH w lo (f i) ((pHunks p)[i]?.getD hk0)
  z4 : p4 = none → c4 = 0
  l4 : nh ≤ c4
  ld : (pDeps p).length = nd
  lm : (pMakes p).length = nm
  lx : (pDrops p).length = nx
  lh : (pHunks p).length = nh
  lim : PLim k p
section
variable {k : Nat} {w w' : World} {lo : Nat} {p : Pt} {nd nm nx nh : Nat} {p1 : Option Addr} {c1 : Nat} {p2 : Option Addr} {c2 : Nat} {p3 : Option Addr} {c3 : Nat} {p4 : Option Addr} {c4 : Nat} {g4 : Nat} {f : Nat → HRw}
theorem CopyAt.cpf (h : CopyAt w lo p nd nm nx nh p1 c1 p2 c2 p3 c3 p4 c4) (ld : (pDeps p).length = nd) (lm : (pMakes p).length = nm) (lx : (pDrops p).length = nx) (lh : (pHunks p).length = nh) (hl : PLim k p) : ∃ g4 f, CpF k w lo p nd nm nx nh p1 c1 p2 c2 p3 c3 p4 c4 g4 f := by
  rcases Nat.eq_zero_or_pos nh with e | e
  · subst e
    exact ⟨0, fun _ => (.empty, .slice none 0 0, .slice none 0 0, .slice none 0 0), h.d, h.m, h.x, fun h => absurd h (by omega), fun i hi => absurd hi (by omega), h.z4, h.l4, ld, lm, lx, lh, hl⟩
  · obtain ⟨g, f, h1, h2, h3, h4⟩ := h.hs e
    exact ⟨g, f, h.d, h.m, h.x, fun _ => ⟨h1, h2, h3⟩, h4, h.z4, h.l4, ld, lm, lx, lh, hl⟩
theorem CpF.pt (h : CpF k w lo p nd nm nx nh p1 c1 p2 c2 p3 c3 p4 c4 g4 f) : PtAt w lo w.heap.size (pID p) p1 nd c1 p2 nm c2 p3 nx c3 p4 nh c4 p :=
  CopyAt.pt ⟨h.d, h.m, h.x, fun hn => ⟨g4, f, (h.row hn).1, (h.row hn).2.1, (h.row hn).2.2, h.hk⟩, h.z4, h.l4⟩ rfl h.ld h.lm h.lx h.lh
theorem CpF.calm (h : CpF k w lo p nd nm nx nh p1 c1 p2 c2 p3 c3 p4 c4 g4 f) (hg : w.grownBy w' none) : CpF k w' lo p nd nm nx nh p1 c1 p2 c2 p3 c3 p4 c4 g4 f :=
  ⟨h.d.calm hg, h.m.calm hg, h.x.calm hg, fun hn => ⟨(h.row hn).1, (h.row hn).2.1, (h.row hn).2.2.calm hg⟩, fun i hi => (h.hk i hi).calm hg, h.z4, h.l4, h.ld, h.lm, h.lx, h.lh, h.lim⟩
theorem CpF.more {k' : Nat} (h : CpF k w lo p nd nm nx nh p1 c1 p2 c2 p3 c3 p4 c4 g4 f) (hk : k ≤ k') : CpF k' w lo p nd nm nx nh p1 c1 p2 c2 p3 c3 p4 c4 g4 f :=
  ⟨h.d, h.m, h.x, h.row, h.hk, h.z4, h.l4, h.ld, h.lm, h.lx, h.lh, ⟨h.lim.h, Nat.le_trans h.lim.d hk, Nat.le_trans h.lim.m hk, Nat.le_trans h.lim.x hk, h.lim.ms, h.lim.xs, fun x hx => (h.lim.hs x hx).more hk⟩⟩
theorem HRow.ne {g b : Nat} {cur : Array Value} {t : TypeId} (h : HRow w g nh f) (hb : w.heap[b]? = some (.cells cur t (0, 0))) (ht : 50 ≠ t) : g ≠ b := fun e => by
  obtain ⟨cur', h1, _, _⟩ := h
  rw [e, hb] at h1
  exact ht (Obj.cells.inj (Option.some.inj h1)).2.1.symm
theorem OwnB.sets {t : TypeId} {size n c : Nat} {q : Option Addr} {cs : List Value} (h : OwnB w lo t size q n c cs) {b : Nat} {cur : Array Value} {t' : TypeId} (hb : w.heap[b]? = some (.cells cur t' (0, 0))) (ht : t ≠ t') (o : Nat) (vs : List Value) : OwnB (w.setCells b o vs) lo t size q n c cs := by
  rcases h with h | ⟨g, cur', h1, h2, h3, h4, h5⟩
  · exact .inl h
  · refine .inr ⟨g, cur', h1, h2, (heap_sets_ne b (fun e => ?_) _ _ w).trans h3, h4, h5⟩
    subst e
    rw [h3] at hb
    cases hb
    exact ht rfl
theorem HRow.sets {g b : Nat} (h : HRow w g nh f) (hb : g ≠ b) (o : Nat) (vs : List Value) : HRow (w.setCells b o vs) g nh f := by
  obtain ⟨cur, h1, h2, h3⟩ := h
  exact ⟨cur, (heap_sets_ne b hb _ _ w).trans h1, h2, h3⟩
theorem CpF.at_ (h : CpF k w lo p nd nm nx nh p1 c1 p2 c2 p3 c3 p4 c4 g4 f) {i : Nat} (hi : i < nh) : HLim k ((pHunks p)[i]?.getD hk0) := by
  rw [List.getElem?_eq_getElem (by rw [h.lh]; exact hi)]
  exact h.lim.hs _ (List.getElem_mem _)
theorem lim_of {L : List Hk} (hL : L.length = nh) (hS : ∀ i, i < nh → HLim k (L[i]?.getD hk0)) : ∀ h ∈ L, HLim k h := by
  intro x hx
  obtain ⟨i, hi, rfl⟩ := List.getElem_of_mem hx
  have := hS i (by omega)
  rwa [List.getElem?_eq_getElem hi] at this

/-- A text written somewhere into a block of texts. -/
theorem CpF.turnS (h : CpF k w lo p nd nm nx nh p1 c1 p2 c2 p3 c3 p4 c4 g4 f) {b : Nat} {cur : Array Value} (hb : w.heap[b]? = some (.cells cur 9 (0, 0))) (o : Nat) (s : ByteArray) (hs : s.size ≤ 1000000) :
    ∃ p', CpF k (w.setCell ⟨b, o, none⟩ (.string s)) lo p' nd nm nx nh p1 c1 p2 c2 p3 c3 p4 c4 g4 f ∧ pID p' = pID p := by
  obtain ⟨m', hm1, hm2, hm3⟩ := h.m.turnS (b := b) o s
  obtain ⟨x', hx1, hx2, hx3⟩ := h.x.turnS (b := b) o s
  have key : ∀ i, i < nh → ∃ y : Hk, CpH (w.setCell ⟨b, o, none⟩ (.string s)) lo (f i) y ∧ HLim k y := fun i hi => by
    obtain ⟨pa, na, ca, pe, ne, ce, pk, nk, ck, e, l1, l2, l3, o1, o2, o3⟩ := h.hk i hi
    have hl := h.at_ hi
    obtain ⟨a', ha1, ha2, ha3⟩ := o1.turnS (b := b) o s
    refine ⟨(hPath ((pHunks p)[i]?.getD hk0), a', hEdges ((pHunks p)[i]?.getD hk0), hKills ((pHunks p)[i]?.getD hk0)), ⟨pa, na, ca, pe, ne, ce, pk, nk, ck, e, ha1.trans l1, l2, l3, ha2, o2.keep hb (by decide) o _, o3.keep hb (by decide) o _⟩,
      ⟨by show a'.length ≤ k; rw [ha1]; exact hl.a, hl.e, hl.k, hl.p, fun y hy => ?_⟩⟩
    rcases ha3 y hy with e | e
    · exact hl.s y e
    · rw [e]; exact hs
  obtain ⟨L, hL, hS⟩ := list_ofT hk0 key
  refine ⟨(pID p, pDeps p, m', x', L), ⟨h.d.keep hb (by decide) o _, hm2, hx2, fun hn => ⟨(h.row hn).1, (h.row hn).2.1, (h.row hn).2.2.keep ((h.row hn).2.2.ne hb (by decide)) o _⟩, fun i hi => (hS i hi).1, h.z4, h.l4, h.ld, hm1.trans h.lm, hx1.trans h.lx, hL,
    ⟨by show L.length ≤ 20; rw [hL, ← h.lh]; exact h.lim.h, h.lim.d, by show m'.length ≤ k; rw [hm1]; exact h.lim.m, by show x'.length ≤ k; rw [hx1]; exact h.lim.x, fun y hy => ?_, fun y hy => ?_, lim_of hL fun i hi => (hS i hi).2⟩⟩, rfl⟩
  · rcases hm3 y hy with e | e
    · exact h.lim.ms y e
    · rw [e]; exact hs
  · rcases hx3 y hy with e | e
    · exact h.lim.xs y e
    · rw [e]; exact hs
/-- An edge written somewhere into a block of edges. -/
theorem CpF.turnE (h : CpF k w lo p nd nm nx nh p1 c1 p2 c2 p3 c3 p4 c4 g4 f) {b : Nat} {cur : Array Value} (hb : w.heap[b]? = some (.cells cur 46 (0, 0))) (o : Nat) (e : Ed) :
    ∃ p', CpF k (w.setCells b (o * 4) (edc e)) lo p' nd nm nx nh p1 c1 p2 c2 p3 c3 p4 c4 g4 f ∧ pID p' = pID p := by
  have key : ∀ i, i < nh → ∃ y : Hk, CpH (w.setCells b (o * 4) (edc e)) lo (f i) y ∧ HLim k y := fun i hi => by
    obtain ⟨pa, na, ca, pe, ne, ce, pk, nk, ck, ef, l1, l2, l3, o1, o2, o3⟩ := h.hk i hi
    have hl := h.at_ hi
    obtain ⟨a', ha1, ha2⟩ := o2.turnE (b := b) o e
    exact ⟨(hPath ((pHunks p)[i]?.getD hk0), hAdds ((pHunks p)[i]?.getD hk0), a', hKills ((pHunks p)[i]?.getD hk0)), ⟨pa, na, ca, pe, ne, ce, pk, nk, ck, ef, l1, ha1.trans l2, l3, o1.sets hb (by decide) _ _, ha2, o3.sets hb (by decide) _ _⟩,
      ⟨hl.a, by show a'.length ≤ k; rw [ha1]; exact hl.e, hl.k, hl.p, hl.s⟩⟩
  obtain ⟨L, hL, hS⟩ := list_ofT hk0 key
  exact ⟨(pID p, pDeps p, pMakes p, pDrops p, L), ⟨h.d.sets hb (by decide) _ _, h.m.sets hb (by decide) _ _, h.x.sets hb (by decide) _ _, fun hn => ⟨(h.row hn).1, (h.row hn).2.1, (h.row hn).2.2.sets ((h.row hn).2.2.ne hb (by decide)) _ _⟩, fun i hi => (hS i hi).1, h.z4, h.l4, h.ld, h.lm, h.lx, hL,
    ⟨by show L.length ≤ 20; rw [hL, ← h.lh]; exact h.lim.h, h.lim.d, h.lim.m, h.lim.x, h.lim.ms, h.lim.xs, lim_of hL fun i hi => (hS i hi).2⟩⟩, rfl⟩
theorem OwnB.blk {t : TypeId} {size n c g : Nat} {cs : List Value} (h : OwnB w lo t size (some ⟨g, 0, none⟩) n c cs) : ∃ cur, w.heap[g]? = some (.cells cur t (0, 0)) := by
  rcases h with ⟨h, _⟩ | ⟨g', cur, h1, h2, h3, _⟩
  · cases h
  · cases h1; exact ⟨cur, h3⟩

/-- One more of those that it needs. -/
theorem CpF.appU (h : CpF k w lo p nd nm nx nh p1 c1 p2 c2 p3 c3 p4 c4 g4 f) (hlo : lo ≤ w.heap.size) {x : Nat} {p' : Option Addr} {c' : Nat} (ha : AppR w 22 1 p1 nd c1 1 (ncells .u32 (pDeps p)) [.int .u32 (x : Int)] p' c' w') :
    ∃ q, CpF (k + 1) w' lo q (nd + 1) nm nx nh p' c' p2 c2 p3 c3 p4 c4 g4 f ∧ pID q = pID p ∧ pDeps q = pDeps p ++ [x] := by
  have hll : (pDeps p ++ [x]).length = nd + 1 := by rw [List.length_append, h.ld]; rfl
  have hlim : PLim (k + 1) (pID p, pDeps p ++ [x], pMakes p, pDrops p, pHunks p) := ⟨h.lim.h, by show (pDeps p ++ [x]).length ≤ _; rw [List.length_append]; have := h.lim.d; simp; omega, Nat.le_succ_of_le h.lim.m, Nat.le_succ_of_le h.lim.x, h.lim.ms, h.lim.xs, fun y hy => (h.lim.hs y hy).more (Nat.le_succ k)⟩
  refine ⟨(pID p, pDeps p ++ [x], pMakes p, pDrops p, pHunks p), ?_, rfl, rfl⟩
  rcases ha with ⟨g, rfl, rfl, rfl, hr, rfl⟩ | ⟨h1, h2⟩
  · obtain ⟨cur, hb⟩ := h.d.blk
    rw [Nat.mul_one]
    show CpF (k + 1) (w.setCell ⟨g, nd, none⟩ _) _ _ _ _ _ _ _ _ _ _ _ _ _ _ _ _
    exact ⟨h.d.pushU h.ld (by omega) x, h.m.keep hb (by decide) _ _, h.x.keep hb (by decide) _ _, fun hn => ⟨(h.row hn).1, (h.row hn).2.1, (h.row hn).2.2.keep ((h.row hn).2.2.ne hb (by decide)) _ _⟩, fun i hi => by
      obtain ⟨pa, na, ca, pe, ne, ce, pk, nk, ck, e, l1, l2, l3, o1, o2, o3⟩ := h.hk i hi
      exact ⟨pa, na, ca, pe, ne, ce, pk, nk, ck, e, l1, l2, l3, o1.keep hb (by decide) _ _, o2.keep hb (by decide) _ _, o3.keep hb (by decide) _ _⟩, h.z4, h.l4, hll, h.lm, h.lx, h.lh, hlim⟩
  · have hc := h.calm h2
    exact ⟨by have := h1.low hlo; rwa [show ncells .u32 (pDeps p) ++ [.int .u32 (x : Int)] = ncells .u32 (pDeps p ++ [x]) by unfold ncells; simp] at this, hc.m, hc.x, hc.row, hc.hk, hc.z4, hc.l4, hll, h.lm, h.lx, h.lh, hlim⟩
/-- One more that it makes. -/
theorem CpF.appM (h : CpF k w lo p nd nm nx nh p1 c1 p2 c2 p3 c3 p4 c4 g4 f) (hlo : lo ≤ w.heap.size) {s : ByteArray} (hs : s.size ≤ 1000000) {p' : Option Addr} {c' : Nat} (ha : AppR w 9 1 p2 nm c2 1 (scells (pMakes p)) [.string s] p' c' w') :
    ∃ q, CpF (k + 1) w' lo q nd (nm + 1) nx nh p1 c1 p' c' p3 c3 p4 c4 g4 f ∧ pID q = pID p ∧ pMakes q = pMakes p ++ [s] := by
  have hll : (pMakes p ++ [s]).length = nm + 1 := by rw [List.length_append, h.lm]; rfl
  have hms : ∀ y ∈ pMakes p ++ [s], y.size ≤ 1000000 := fun y hy => by
    rcases List.mem_append.1 hy with e | e
    · exact h.lim.ms y e
    · rw [List.mem_singleton.1 e]; exact hs
  have hlm : (pMakes p ++ [s]).length ≤ k + 1 := by rw [List.length_append]; have := h.lim.m; simp; omega
  rcases ha with ⟨g, rfl, rfl, rfl, hr, rfl⟩ | ⟨h1, h2⟩
  · obtain ⟨cur, hb⟩ := h.m.blk
    rw [Nat.mul_one]
    obtain ⟨q, hq, hid⟩ := (h.more (Nat.le_succ k)).turnS hb nm s hs
    exact ⟨(pID q, pDeps q, pMakes p ++ [s], pDrops q, pHunks q), ⟨hq.d, h.m.pushS h.lm (by omega) s, hq.x, hq.row, hq.hk, hq.z4, hq.l4, hq.ld, hll, hq.lx, hq.lh, ⟨hq.lim.h, hq.lim.d, hlm, hq.lim.x, hms, hq.lim.xs, hq.lim.hs⟩⟩, hid, rfl⟩
  · have hq := (h.calm h2).more (Nat.le_succ k)
    exact ⟨(pID p, pDeps p, pMakes p ++ [s], pDrops p, pHunks p), ⟨hq.d, by have := h1.low hlo; rwa [← scells_snoc] at this, hq.x, hq.row, hq.hk, hq.z4, hq.l4, hq.ld, hll, hq.lx, hq.lh, ⟨hq.lim.h, hq.lim.d, hlm, hq.lim.x, hms, hq.lim.xs, hq.lim.hs⟩⟩, rfl, rfl⟩
/-- Two more that it drops. -/
theorem CpF.appX (h : CpF k w lo p nd nm nx nh p1 c1 p2 c2 p3 c3 p4 c4 g4 f) (hlo : lo ≤ w.heap.size) {s t : ByteArray} (hs : s.size ≤ 1000000) (ht : t.size ≤ 1000000) {p' : Option Addr} {c' : Nat} (ha : AppR w 9 1 p3 nx c3 2 (scells (pDrops p)) [.string s, .string t] p' c' w') :
    ∃ q, CpF (k + 2) w' lo q nd nm (nx + 2) nh p1 c1 p2 c2 p' c' p4 c4 g4 f ∧ pID q = pID p ∧ pDrops q = pDrops p ++ [s, t] := by
  have hll : (pDrops p ++ [s, t]).length = nx + 2 := by rw [List.length_append, h.lx]; rfl
  have hms : ∀ y ∈ pDrops p ++ [s, t], y.size ≤ 1000000 := fun y hy => by
    rcases List.mem_append.1 hy with e | e
    · exact h.lim.xs y e
    · rcases List.mem_cons.1 e with e | e
      · rw [e]; exact hs
      · rw [List.mem_singleton.1 e]; exact ht
  have hlm : (pDrops p ++ [s, t]).length ≤ k + 2 := by rw [List.length_append]; have := h.lim.x; simp; omega
  rcases ha with ⟨g, rfl, rfl, rfl, hr, rfl⟩ | ⟨h1, h2⟩
  · obtain ⟨cur, hb⟩ := h.x.blk
    rw [Nat.mul_one]
    obtain ⟨q, hq, hid⟩ := (h.more (k' := k + 2) (by omega)).turnS hb nx s hs
    obtain ⟨r, hr', hid'⟩ := hq.turnS (heap_set_same _ _ nx (.string s) hb) (nx + 1) t ht
    have hx := h.x.pushS h.lx (by omega) s
    have hx2 := hx.pushS (by rw [List.length_append, h.lx]; rfl) (by omega) t
    rw [List.append_assoc] at hx2
    exact ⟨(pID r, pDeps r, pMakes r, pDrops p ++ [s, t], pHunks r), ⟨hr'.d, hr'.m, hx2, hr'.row, hr'.hk, hr'.z4, hr'.l4, hr'.ld, hr'.lm, hll, hr'.lh, ⟨hr'.lim.h, hr'.lim.d, hr'.lim.m, hlm, hr'.lim.ms, hms, hr'.lim.hs⟩⟩, hid'.trans hid, rfl⟩
  · have hq := (h.calm h2).more (k' := k + 2) (by omega)
    exact ⟨(pID p, pDeps p, pMakes p, pDrops p ++ [s, t], pHunks p), ⟨hq.d, hq.m, by have := h1.low hlo; rwa [show scells (pDrops p) ++ [.string s, .string t] = scells (pDrops p ++ [s, t]) by unfold scells; simp] at this, hq.row, hq.hk, hq.z4, hq.l4, hq.ld, hq.lm, hll, hq.lh, ⟨hq.lim.h, hq.lim.d, hq.lim.m, hlm, hq.lim.ms, hms, hq.lim.hs⟩⟩, rfl, rfl⟩

/-- A header turned. -/
theorem HRow.set1 {g n i : Nat} (h : HRow w g n f) (hi : i < n) (v : Value) : HRow (w.setCell ⟨g, i * 4 + 1, none⟩ v) g n (fun j => if j = i then ((f i).1, v, (f i).2.2.1, (f i).2.2.2) else f j) := by
  obtain ⟨cur, h1, h2, h3⟩ := h
  refine ⟨_, heap_set_same _ _ _ _ h1, by simpa using h2, fun m hm j u hj => ?_⟩
  have hj4 : j < 4 := (List.getElem?_eq_some_iff.1 hj).1
  rw [Array.getElem?_setIfInBounds]
  by_cases e : m = i
  · subst e
    have hj : (hkc ((f m).1, v, (f m).2.2.1, (f m).2.2.2))[j]? = some u := by simpa using hj
    have hb := h3 m hi j
    have hs : m * 4 + 1 < cur.size := by omega
    match j, hj, hj4, hb with
    | 0, hj, _, hb => rw [if_neg (by omega)]; exact hb u hj
    | 1, hj, _, _ => rw [if_pos rfl, if_pos hs]; exact hj
    | 2, hj, _, hb => rw [if_neg (by omega)]; exact hb u hj
    | 3, hj, _, hb => rw [if_neg (by omega)]; exact hb u hj
  · have hj : (hkc (f m))[j]? = some u := by simpa [e] using hj
    rw [if_neg (by omega)]
    exact h3 m hm j u hj
theorem HRow.set2 {g n i : Nat} (h : HRow w g n f) (hi : i < n) (v : Value) : HRow (w.setCell ⟨g, i * 4 + 2, none⟩ v) g n (fun j => if j = i then ((f i).1, (f i).2.1, v, (f i).2.2.2) else f j) := by
  obtain ⟨cur, h1, h2, h3⟩ := h
  refine ⟨_, heap_set_same _ _ _ _ h1, by simpa using h2, fun m hm j u hj => ?_⟩
  have hj4 : j < 4 := (List.getElem?_eq_some_iff.1 hj).1
  rw [Array.getElem?_setIfInBounds]
  by_cases e : m = i
  · subst e
    have hj : (hkc ((f m).1, (f m).2.1, v, (f m).2.2.2))[j]? = some u := by simpa using hj
    have hb := h3 m hi j
    have hs : m * 4 + 2 < cur.size := by omega
    match j, hj, hj4, hb with
    | 0, hj, _, hb => rw [if_neg (by omega)]; exact hb u hj
    | 1, hj, _, hb => rw [if_neg (by omega)]; exact hb u hj
    | 2, hj, _, _ => rw [if_pos rfl, if_pos hs]; exact hj
    | 3, hj, _, hb => rw [if_neg (by omega)]; exact hb u hj
  · have hj : (hkc (f m))[j]? = some u := by simpa [e] using hj
    rw [if_neg (by omega)]
    exact h3 m hm j u hj
theorem HRow.blk {g n : Nat} (h : HRow w g n f) : ∃ cur, w.heap[g]? = some (.cells cur 50 (0, 0)) := by
  obtain ⟨cur, h1, _⟩ := h
  exact ⟨cur, h1⟩
/-- Hunk i exchanged for another, whose header is written. -/
theorem CpF.hunk (h : CpF k w lo p nd nm nx nh p1 c1 p2 c2 p3 c3 p4 c4 g4 f) {i : Nat} (hi : i < nh) {x : Hk} (hx : HLim k x) (o : Nat) (v : Value) {f' : Nat → HRw} (hr : HRow (w.setCell ⟨g4, o, none⟩ v) g4 nh f') (hc : CpH w lo (f' i) x) (hf : ∀ j, j < nh → j ≠ i → f' j = f j) :
    ∃ q, CpF k (w.setCell ⟨g4, o, none⟩ v) lo q nd nm nx nh p1 c1 p2 c2 p3 c3 p4 c4 g4 f' ∧ pID q = pID p ∧ (pHunks q)[i]? = some x := by
  obtain ⟨cur, hb⟩ := (h.row (by omega)).2.2.blk
  refine ⟨(pID p, pDeps p, pMakes p, pDrops p, (pHunks p).set i x), ⟨h.d.keep hb (by decide) _ _, h.m.keep hb (by decide) _ _, h.x.keep hb (by decide) _ _, fun hn => ⟨(h.row hn).1, (h.row hn).2.1, hr⟩, fun j hj => ?_, h.z4, h.l4, h.ld, h.lm, h.lx, by show ((pHunks p).set i x).length = nh; rw [List.length_set]; exact h.lh,
    ⟨by show ((pHunks p).set i x).length ≤ 20; rw [List.length_set]; exact h.lim.h, h.lim.d, h.lim.m, h.lim.x, h.lim.ms, h.lim.xs, fun y hy => ?_⟩⟩, rfl, ?_⟩
  · by_cases e : j = i
    · subst e
      have : ((pHunks p).set j x)[j]? = some x := by rw [List.getElem?_set_self (by rw [h.lh]; exact hi)]
      show CpH _ _ _ ((((pHunks p).set j x)[j]?).getD hk0)
      rw [this]
      exact hc.keep hb _ _
    · show CpH _ _ _ ((((pHunks p).set i x)[j]?).getD hk0)
      rw [List.getElem?_set_ne (fun h => e h.symm), hf j hj e]
      exact (h.hk j hj).keep hb _ _
  · rcases List.mem_or_eq_of_mem_set hy with e | e
    · exact h.lim.hs y e
    · rw [e]; exact hx
  · show ((pHunks p).set i x)[i]? = some x
    rw [List.getElem?_set_self (by rw [h.lh]; exact hi)]
/-- One line more. -/
theorem CpF.appA (h : CpF k w lo p nd nm nx nh p1 c1 p2 c2 p3 c3 p4 c4 g4 f) (hlo : lo ≤ w.heap.size) {i : Nat} (hi : i < nh) {pa : Option Addr} {na ca : Nat} (hf : (f i).2.1 = .slice pa na ca) {s : ByteArray} (hs : s.size ≤ 1000000) {p' : Option Addr} {c' : Nat}
    (ha : AppR w 9 1 pa na ca 1 (scells (hAdds ((pHunks p)[i]?.getD hk0))) [.string s] p' c' w') :
    ∃ q x f', CpF (k + 1) (w'.setCell ⟨g4, i * 4 + 1, none⟩ (.slice p' (na + 1) c')) lo q nd nm nx nh p1 c1 p2 c2 p3 c3 p4 c4 g4 f' ∧ pID q = pID p ∧ (pHunks q)[i]? = some x ∧ hAdds x = hAdds ((pHunks p)[i]?.getD hk0) ++ [s] := by
  obtain ⟨pa', na', ca', pe, ne, ce, pk, nk, ck, e, l1, l2, l3, o1, o2, o3⟩ := h.hk i hi
  have hl := h.at_ hi
  rw [e] at hf
  obtain ⟨rfl, rfl, rfl⟩ : pa' = pa ∧ na' = na ∧ ca' = ca := by simpa using hf
  obtain ⟨A, hA⟩ : ∃ A, hAdds ((pHunks p)[i]?.getD hk0) = A := ⟨_, rfl⟩
  rw [hA] at ha o1 l1 ⊢
  have hsA : ∀ y ∈ A ++ [s], y.size ≤ 1000000 := fun y hy => by
    rcases List.mem_append.1 hy with e | e
    · exact hl.s y (by rw [hA]; exact e)
    · rw [List.mem_singleton.1 e]; exact hs
  have hlA : (A ++ [s]).length ≤ k + 1 := by have := hl.a; rw [hA] at this; rw [List.length_append]; simp; omega
  have key : ∃ q, CpF (k + 1) w' lo q nd nm nx nh p1 c1 p2 c2 p3 c3 p4 c4 g4 f ∧ pID q = pID p ∧ OwnB w' lo 9 1 p' (na' + 1) c' (scells (A ++ [s])) := by
    rcases ha with ⟨g, rfl, rfl, rfl, hr, rfl⟩ | ⟨h1, h2⟩
    · obtain ⟨cur, hb⟩ := o1.blk
      rw [Nat.mul_one]
      obtain ⟨q, hq, hid⟩ := (h.more (Nat.le_succ k)).turnS hb na' s hs
      exact ⟨q, hq, hid, o1.pushS l1 (by omega) s⟩
    · exact ⟨p, (h.calm h2).more (Nat.le_succ k), rfl, by have := h1.low hlo; rwa [← scells_snoc] at this⟩
  obtain ⟨q, hq, hid, ho⟩ := key
  obtain ⟨pa2, na2, ca2, pe2, ne2, ce2, pk2, nk2, ck2, e2, m1, m2, m3, r1, r2, r3⟩ := hq.hk i hi
  have hl2 := hq.at_ hi
  obtain ⟨r, hr, hrid, hrh⟩ := hq.hunk hi (x := (hPath ((pHunks q)[i]?.getD hk0), A ++ [s], hEdges ((pHunks q)[i]?.getD hk0), hKills ((pHunks q)[i]?.getD hk0))) ⟨hlA, hl2.e, hl2.k, hl2.p, hsA⟩ (i * 4 + 1) (.slice p' (na' + 1) c')
    ((hq.row (by omega)).2.2.set1 hi _) ⟨p', na' + 1, c', pe2, ne2, ce2, pk2, nk2, ck2, by simp [e2], by show (A ++ [s]).length = _; rw [List.length_append, l1]; rfl, m2, m3, ho, r2, r3⟩ (fun j _ hj => by simp [hj])
  exact ⟨r, _, _, hr, hrid.trans hid, hrh, rfl⟩
/-- One edge more. -/
theorem CpF.appE (h : CpF k w lo p nd nm nx nh p1 c1 p2 c2 p3 c3 p4 c4 g4 f) (hlo : lo ≤ w.heap.size) {i : Nat} (hi : i < nh) {pe : Option Addr} {ne ce : Nat} (hf : (f i).2.2.1 = .slice pe ne ce) {s : Ed} {p' : Option Addr} {c' : Nat}
    (ha : AppR w 46 4 pe ne ce 1 (ecells (hEdges ((pHunks p)[i]?.getD hk0))) (edc s) p' c' w') :
    ∃ q x f', CpF (k + 1) (w'.setCell ⟨g4, i * 4 + 2, none⟩ (.slice p' (ne + 1) c')) lo q nd nm nx nh p1 c1 p2 c2 p3 c3 p4 c4 g4 f' ∧ pID q = pID p ∧ (pHunks q)[i]? = some x ∧ hEdges x = hEdges ((pHunks p)[i]?.getD hk0) ++ [s] := by
  obtain ⟨pa, na, ca, pe', ne', ce', pk, nk, ck, e, l1, l2, l3, o1, o2, o3⟩ := h.hk i hi
  have hl := h.at_ hi
  rw [e] at hf
  obtain ⟨rfl, rfl, rfl⟩ : pe' = pe ∧ ne' = ne ∧ ce' = ce := by simpa using hf
  obtain ⟨A, hA⟩ : ∃ A, hEdges ((pHunks p)[i]?.getD hk0) = A := ⟨_, rfl⟩
  rw [hA] at ha o2 l2 ⊢
  have hlA : (A ++ [s]).length ≤ k + 1 := by have := hl.e; rw [hA] at this; rw [List.length_append]; simp; omega
  have key : ∃ q, CpF (k + 1) w' lo q nd nm nx nh p1 c1 p2 c2 p3 c3 p4 c4 g4 f ∧ pID q = pID p ∧ OwnB w' lo 46 4 p' (ne' + 1) c' (ecells (A ++ [s])) := by
    rcases ha with ⟨g, rfl, rfl, rfl, hr, rfl⟩ | ⟨h1, h2⟩
    · obtain ⟨cur, hb⟩ := o2.blk
      obtain ⟨q, hq, hid⟩ := (h.more (Nat.le_succ k)).turnE hb ne' s
      exact ⟨q, hq, hid, o2.pushE l2 (by omega) s⟩
    · exact ⟨p, (h.calm h2).more (Nat.le_succ k), rfl, by have := h1.low hlo; rwa [← ecells_snoc] at this⟩
  obtain ⟨q, hq, hid, ho⟩ := key
  obtain ⟨pa2, na2, ca2, pe2, ne2, ce2, pk2, nk2, ck2, e2, m1, m2, m3, r1, r2, r3⟩ := hq.hk i hi
  have hl2 := hq.at_ hi
  obtain ⟨r, hr, hrid, hrh⟩ := hq.hunk hi (x := (hPath ((pHunks q)[i]?.getD hk0), hAdds ((pHunks q)[i]?.getD hk0), A ++ [s], hKills ((pHunks q)[i]?.getD hk0))) ⟨hl2.a, hlA, hl2.k, hl2.p, hl2.s⟩ (i * 4 + 2) (.slice p' (ne' + 1) c')
    ((hq.row (by omega)).2.2.set2 hi _) ⟨pa2, na2, ca2, p', ne' + 1, c', pk2, nk2, ck2, by simp [e2], m1, by show (A ++ [s]).length = _; rw [List.length_append, l2]; rfl, m3, r1, ho, r3⟩ (fun j _ hj => by simp [hj])
  exact ⟨r, _, _, hr, hrid.trans hid, hrh, rfl⟩
end

end Go.Proofs.YtcfhnfnhdhloiaaGreat
