/- The reference's states: putLine. -/
import Derived.Test.YtnknejokneddbaaGreatDoorRefSe
/-! RefSf -/
namespace Go.Proofs.YtnknejokneddbaaGreatDoor
open Go.RowKit

/-- A line put where it rises. -/
def insL (ls : List Lne) (x : Lne) : List Lne := ls.takeWhile (fun y => ltLn (nID y) (nID x)) ++ x :: ls.dropWhile (fun y => ltLn (nID y) (nID x))
def lnc (x : Lne) : List Value := [.int .u32 (((nID x).1 : Nat) : Int), .int .i64 (nID x).2, .string (nTxt x), .bool (nDead x)]
def lncells (l : List Lne) : List Value := l.flatMap lnc
theorem lncells_cons (x : Lne) (l : List Lne) : lncells (x :: l) = lnc x ++ lncells l := rfl
theorem lncells_app (l m : List Lne) : lncells (l ++ m) = lncells l ++ lncells m := List.flatMap_append
theorem lncells_len (l : List Lne) : (lncells l).length = l.length * 4 := by
 induction l with
 | nil => rfl
 | cons x l ih => rw [lncells_cons, List.length_append, ih, List.length_cons]; show 4 + _ = _; omega
theorem lncells_get : ∀ {l : List Lne} {i r : Nat}, i < l.length → r < 4 → (lncells l)[i * 4 + r]? = (lnc (l[i]?.getD lne0))[r]?
 | [], i, r, h, _ => by simp at h
 | x :: l, 0, r, _, hr => by
  rw [lncells_cons, Nat.zero_mul, Nat.zero_add, List.getElem?_append_left (by show r < 4; exact hr)]
  rfl
 | x :: l, i + 1, r, h, hr => by
  have ih := lncells_get (l := l) (i := i) (r := r) (by simpa using h) hr
  rw [lncells_cons, List.getElem?_append_right (by show 4 ≤ _; omega)]
  show (lncells l)[(i + 1) * 4 + r - 4]? = _
  rw [show (i + 1) * 4 + r - 4 = i * 4 + r by omega, ih]
  rfl
theorem lncells_one (l : List Lne) : ∀ u ∈ lncells l, u.oneCell' = true := by
 intro u hu
 unfold lncells at hu
 rw [List.mem_flatMap] at hu
 obtain ⟨x, _, hx⟩ := hu
 simp only [lnc, List.mem_cons, List.not_mem_nil, or_false] at hx
 rcases hx with rfl | rfl | rfl | rfl <;> rfl
theorem lnes_part {w : World} {lo hi n b off : Nat} {l : List Lne} (h : LnesAt w lo hi (some ⟨b, off, none⟩) n l) (a m : Nat) (ham : a + m ≤ n) : ∀ j u, (lncells ((l.drop a).take m))[j]? = some u → w.cell? ((⟨b, off + a * 4, none⟩ : Addr).add j) = some u := by
 intro j u hj
 have hl : ((l.drop a).take m).length = m := by rw [List.length_take, List.length_drop, h.len]; omega
 have hjm : j < m * 4 := by
  have := (List.getElem?_eq_some_iff.1 hj).1
  rwa [lncells_len, hl] at this
 obtain ⟨b', off', e, _, _, _, hc⟩ := h.cell (by omega)
 cases e
 obtain ⟨i, hi⟩ : ∃ i, j / 4 = i := ⟨_, rfl⟩
 obtain ⟨r, hr⟩ : ∃ r, j % 4 = r := ⟨_, rfl⟩
 have hjr : j = i * 4 + r := by omega
 have him : i < m := by omega
 have hr4 : r < 4 := by omega
 subst hjr
 rw [lncells_get (by rw [hl]; exact him) hr4] at hj
 have hg : ((l.drop a).take m)[i]?.getD lne0 = l[a + i]?.getD lne0 := by
  rw [List.getElem?_take_of_lt him, List.getElem?_drop]
 rw [hg] at hj
 obtain ⟨c0, c1, c2, c3⟩ := hc (a + i) (by omega)
 rw [add_off, show off + a * 4 + (i * 4 + r) = off + (a + i) * 4 + r by omega]
 match r, hr4, hj with
 | 0, _, hj => cases hj; exact c0
 | 1, _, hj => cases hj; exact c1
 | 2, _, hj => cases hj; exact c2
 | 3, _, hj => cases hj; exact c3
theorem lnes_front {w : World} {lo hi n c k : Nat} {p : Option Addr} {l : List Lne} (h : LnesAt w lo hi p n l) (hp : p = none → c = 0) (hk : k ≤ n) : (p = none ∧ k = 0 ∧ c = 0) ∨ ∃ ad, p = some ad ∧ ∀ j u, (lncells (l.take k))[j]? = some u → w.cell? (ad.add j) = some u := by
 rcases Nat.eq_zero_or_pos n with e | e
 ·obtain rfl : k = 0 := by omega
  cases p with
  | none => exact .inl ⟨rfl, rfl, hp rfl⟩
  | some ad => exact .inr ⟨ad, rfl, fun j u hj => by simp [lncells] at hj⟩
 ·obtain ⟨b, off, rfl, _⟩ := h.cell e
  have := lnes_part h 0 k (by omega)
  rw [List.drop_zero, Nat.zero_mul, Nat.add_zero] at this
  exact .inr ⟨_, rfl, this⟩
theorem lnesAt_own {w : World} {base n : Nat} {v : Value} {l : List Lne} (hl : l.length = n) (h : w.ownsRow base 62 4 v n (lncells l)) : ∃ p c, v = .slice p n c ∧ LnesAt w base w.heap.size p n l ∧ n ≤ c ∧ (p = none → c = 0) := by
 rcases h.2 with ⟨rfl, h0⟩ | ⟨g, cap, cur, rfl, hb, hg, hle, _⟩
 ·subst h0
  exact ⟨none, 0, rfl, ⟨hl, fun h => absurd h (by omega)⟩, Nat.le_refl _, fun _ => rfl⟩
 ·refine ⟨_, cap, rfl, ⟨hl, fun hn => ⟨g, 0, rfl, hb, (Array.getElem?_eq_some_iff.1 hg).1, Nat.le_refl _, fun i hi => ?_⟩⟩, hle, (fun h => by cases h)⟩
  have hc : ∀ r, r < 4 → ∀ u, (lnc (l[i]?.getD lne0))[r]? = some u → w.cell? ⟨g, 0 + (i * 4 + r), none⟩ = some u := fun r hr u hu => by
   have := h.cells (g := g) rfl (i * 4 + r) u (by rw [lncells_get (by omega) hr]; exact hu)
   rwa [add_off] at this
  exact ⟨hc 0 (by omega) _ rfl, hc 1 (by omega) _ rfl, hc 2 (by omega) _ rfl, hc 3 (by omega) _ rfl⟩
theorem keepOne {w : World} {g : Nat} {vs : List Value} {t : TypeId} (h : BoxV w g vs t) {b : Nat} (hb : g ≠ b) (o : Nat) (v : Value) : BoxV (w.setCell ⟨b, o, none⟩ v) g vs t :=
 ((grownBy_setCell w ⟨b, o, none⟩ v).block g h.lt (by simpa using hb)).trans h
theorem stay_set {lo hi : Nat} {w0 w : World} (h : Stay lo hi w0 w) {b : Nat} (hb : b < lo ∨ hi ≤ b) (o : Nat) (v : Value) (hh : hi ≤ w0.heap.size) : Stay lo hi w0 (w.setCell ⟨b, o, none⟩ v) :=
 ⟨by have := h.size; simpa using this, fun i h1 h2 => ((grownBy_setCell w ⟨b, o, none⟩ v).block i (by have := h.size; omega) (by simp; omega)).trans (h.block i h1 h2)⟩
theorem lnes_span {w : World} {lo lo' hi n : Nat} {p : Option Addr} {l : List Lne} (h : LnesAt w lo hi p n l) (hl : lo' ≤ lo) : LnesAt w lo' w.heap.size p n l := ⟨h.len, fun hn => by
 obtain ⟨b, off, e, h1, h2, h3, hc⟩ := h.cell hn
 exact ⟨b, off, e, Nat.le_trans hl h1, by omega, Nat.le_refl _, hc⟩⟩
theorem infoLne : (Tryz.prog.info? 62).map (fun i => (i.zero, i.size, i.bytes)) = some (some (.agg #[.int .u32 0, .int .i64 0, .string .empty, .bool false]), 4, 40) := by kernel_rfl

end Go.Proofs.YtnknejokneddbaaGreatDoor
/-! RefSh -/
namespace Go.Proofs.YtnknejokneddbaaGreatDoor
open Go.RowKit

/-- The lines that patches add to a path: the first k adds of a hunk, the first k hunks of a patch, the first k patches. -/
def putAdds (path : ByteArray) (id : Nat) (h : Hk) (n : Nat) (ls : List Lne) : Nat → List Lne
 | 0 => ls
 | k + 1 => if hPath h = path then insL (putAdds path id h n ls k) ((id, ((n + k : Nat) : Int)), (hAdds h)[k]?.getD .empty, false) else putAdds path id h n ls k
def putHks (path : ByteArray) (x : Pt) (ls : List Lne) : Nat → List Lne
 | 0 => ls
 | k + 1 => putAdds path (pID x) ((pHunks x)[k]?.getD hk0) (addsN (pHunks x) k) (putHks path x ls k) (hAdds ((pHunks x)[k]?.getD hk0)).length
def putPts (path : ByteArray) (l : List Pt) : Nat → List Lne
 | 0 => []
 | k + 1 => putHks path (l[k]?.getD pt0) (putPts path l k) (pHunks (l[k]?.getD pt0)).length
def linesOfL (l : List Pt) (path : ByteArray) : List Lne := putPts path l l.length
/-- The file that grows, in its box. -/
def LsB (w wr : World) (g4 g5 : Nat) (path : ByteArray) (L : List Lne) : Prop := ∃ (p : Option Addr) (c : Nat), BoxV wr g5 [.string path, .slice p L.length c, .slice none 0 0] 35 ∧ BoxV wr g4 [.string ⟨#[]⟩, .slice none 0 0, .slice none 0 0] 35 ∧
 LnesAt wr (g5 + 1) wr.heap.size p L.length L ∧ L.length ≤ c ∧ (p = none → c = 0) ∧ (L.length = 0 → p = none) ∧ w.grownBy wr none
theorem LsB.calm {w wr w' : World} {g4 g5 : Nat} {path : ByteArray} {L : List Lne} (h : LsB w wr g4 g5 path L) (hg : wr.grownBy w' none) : LsB w w' g4 g5 path L := by
 obtain ⟨p, c, h1, h2, h3, h4, h5, h6, h7⟩ := h
 exact ⟨p, c, h1.calm hg, h2.calm hg, lnes_span (h3.calm hg) (Nat.le_refl _), h4, h5, h6, grownBy_trans h7 hg⟩

end Go.Proofs.YtnknejokneddbaaGreatDoor
/-! RefSi -/
namespace Go.Proofs.YtnknejokneddbaaGreatDoor
open Go.RowKit

theorem pairs_srcP {w : World} {lo hi n c : Nat} {p : Option Addr} {l : List (Int × Int)} (h : PairsAt w lo hi p n l) (hp : p = none → c = 0) : (p = none ∧ n = 0 ∧ c = 0) ∨ ∃ ad, p = some ad ∧ ∀ j u, (pcells l)[j]? = some u → w.cell? (ad.add j) = some u := by
 cases p with
 | none =>
  refine .inl ⟨rfl, ?_, hp rfl⟩
  rcases Nat.eq_zero_or_pos n with e | e
  ·exact e
  ·obtain ⟨_, _, e2, _⟩ := h.cell e; cases e2
 | some ad => exact .inr ⟨ad, rfl, pairs_news h⟩
theorem infoPr : (Tryz.prog.info? 88).map (fun i => (i.zero, i.size, i.bytes)) = some (some (.agg #[.int .i64 0, .int .i64 0]), 2, 16) := by kernel_rfl
/-- The texts of the first k lines. -/
def txtK (ls : List Lne) (k : Nat) : List ByteArray := (ls.take k).map nTxt
theorem txtK_succ {ls : List Lne} {k : Nat} (hk : k < ls.length) : txtK ls (k + 1) = txtK ls k ++ [nTxt (ls[k]?.getD lne0)] := by
 unfold txtK
 rw [List.take_succ_eq_append_getElem hk, List.map_append, List.getElem?_eq_getElem hk]
 rfl
theorem box_far {w w' : World} {base : Nat} {e : TypeId} {size n : Nat} {v : Value} {xs : List Value} (hrow : w.ownsRow base e size v n xs) (hg : w.grownBy w' v.ownBlock) {b : Nat} {vs : List Value} {t : TypeId} (hb : BoxV w b vs t) (hlt : b < base) : BoxV w' b vs t :=
 (hg.block b hb.lt (by
  rcases hrow.2 with ⟨rfl, _⟩ | ⟨g, cap, cur, rfl, h1, _⟩
  ·simp [Value.ownBlock]
  ·simp [Value.ownBlock]; omega)).trans hb
theorem stay_far {w w' : World} {base : Nat} {e : TypeId} {size n : Nat} {v : Value} {xs : List Value} (hrow : w.ownsRow base e size v n xs) (hg : w.grownBy w' v.ownBlock) {lo hi : Nat} (hh : hi ≤ base) (hs : hi ≤ w.heap.size) : Stay lo hi w w' :=
 ⟨hg.size, fun i _ h2 => hg.block i (by omega) (by
  rcases hrow.2 with ⟨rfl, _⟩ | ⟨g, cap, cur, rfl, h1, _⟩
  ·simp [Value.ownBlock]
  ·simp [Value.ownBlock]; omega)⟩
theorem ownsRow_setO {w : World} {base : Nat} {e : TypeId} {size n : Nat} {v : Value} {xs : List Value} (h : w.ownsRow base e size v n xs) {b : Nat} (hb : b < base) (o : Nat) (u : Value) : (w.setCell ⟨b, o, none⟩ u).ownsRow base e size v n xs := by
 refine ⟨h.1, ?_⟩
 rcases h.2 with h | ⟨g, cap, cur, h1, h2, h3, h4⟩
 ·exact .inl h
 ·exact .inr ⟨g, cap, cur, h1, h2, ((grownBy_setCell w ⟨b, o, none⟩ u).block g (Array.getElem?_eq_some_iff.1 h3).1 (by simp; omega)).trans h3, h4⟩
/-- What lies while an object's labels are gathered. -/
structure ObE (w wr : World) (g g3 : Nat) (vf : List Value) (q : Option Addr) (n cq : Nat) (p : Option Addr) (np cp : Nat) (ls : List Lne) (Ps : List (Int × Int)) (k : Nat) : Prop where
 bf : BoxV wr g vf 35
 b2 : BoxV wr (g + 1) [.slice none 0 0, .slice none 0 0] 50
 b3 : BoxV wr g3 [.slice q n cq, .slice p np cp] 50
 row : wr.ownsRow (g3 + 1) 9 1 (.slice q n cq) n (scells (txtK ls k))
 prs : PairsAt wr (g + 2) g3 p np Ps
 gr : w.grownBy wr none
 g3l : g + 2 ≤ g3

end Go.Proofs.YtnknejokneddbaaGreatDoor
