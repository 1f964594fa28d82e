/- The walk of the statement ObjSpoils: at every input it answers true and leaves all that lay as it lay. Condition: the table of the lowest places is in memory. -/
import Derived.Test.YtdolcdededmlhaaDoorSpoilP
namespace Go.Proofs.YtdolcdededmlhaaDoor
open Go.RowKit

/-- Strings in a row of their own. -/
def OwnS (w : World) (base : Nat) (v : Value) (l : List ByteArray) : Prop := ∃ p c, v = .slice p l.length c ∧ w.ownsRow base 9 1 (.slice p l.length c) l.length (scells l)

theorem ownsRow_keptHi {w w' : World} {base lo hi : Nat} {e : TypeId} {size n : Nat} {v : Value} {xs : List Value} (h : w.ownsRow base e size v n xs) (hk : Kept lo hi w w') (hb : hi ≤ base) : w'.ownsRow base e size v n xs := by
  refine ⟨h.1, ?_⟩
  rcases h.2 with ⟨rfl, h0⟩ | ⟨g, cap, cur, rfl, hg, hh, h1, h2, h3, h4⟩
  · exact .inl ⟨rfl, h0⟩
  · exact .inr ⟨g, cap, cur, rfl, hg, (hk.block g (Array.getElem?_eq_some_iff.1 hh).1 (by omega)).trans hh, h1, h2, h3, h4⟩

/-- A row of one's own that isn't empty, opened. -/
theorem own_some {w : World} {base : Nat} {e : TypeId} {size n m c : Nat} {p : Option Addr} {xs : List Value} (h : w.ownsRow base e size (.slice p n c) m xs) (hn : 0 < n) : ∃ g cur, p = some ⟨g, 0, none⟩ ∧ base ≤ g ∧ w.heap[g]? = some (.cells cur e (0, 0)) ∧ m ≤ c := by
  rcases h.2 with ⟨h1, _⟩ | ⟨g, cap, cur, h1, hb, hh, h3, _⟩
  · cases h1; omega
  · cases h1; exact ⟨g, cur, rfl, hb, hh, h3⟩

theorem ownBlock_le {w : World} {base : Nat} {e : TypeId} {size n : Nat} {v : Value} {xs : List Value} (h : w.ownsRow base e size v n xs) : ∀ g, v.ownBlock = some g → base ≤ g := by
  intro g hg
  rcases h.2 with ⟨rfl, h0⟩ | ⟨g', cap, cur, rfl, hb, _⟩
  · simp [Value.ownBlock] at hg
  · have : g' = g := by simpa [Value.ownBlock] using hg
    subst this
    exact hb

/-- What an append onto a row of one's own leaves of what lay ahead of it. -/
theorem grownBy_own {a b c : World} {base : Nat} {e : TypeId} {size n : Nat} {v : Value} {xs : List Value} (h : a.grownBy b none) (ho : b.ownsRow base e size v n xs) (k : b.grownBy c v.ownBlock) (hb : a.heap.size ≤ base) : a.grownBy c none := by
  cases hv : v.ownBlock with
  | none => rw [hv] at k; exact grownBy_trans h k
  | some g => rw [hv] at k; exact grownBy_new h k (Nat.le_trans hb (ownBlock_le ho g hv))
theorem IsRel.own {w w' : World} {lo hi p n base : Nat} {R : Nat → Nat → Bool} {e : TypeId} {size k : Nat} {v : Value} {xs : List Value} (h : IsRel w lo hi p n R) (ho : w.ownsRow base e size v k xs) (hg : w.grownBy w' v.ownBlock) (hb : hi ≤ base) : IsRel w' lo hi p n R :=
  h.kept hg.size fun i _ h2 => hg.block i (by have := h.top; omega) (fun e => by have := ownBlock_le ho i e.symm; omega)

theorem cell_one_new (w : World) (x : Value) (t : TypeId) : ∀ j u, [x][j]? = some u → (w.alloc (.cells #[x] t)).cell? ((⟨w.heap.size, 0, none⟩ : Addr).add j) = some u := by
  intro j u hu
  rw [add_off]
  match j, hu with
  | 0, hu => simpa using hu
  | j + 1, hu => simp at hu

theorem cell_one_new' (w : World) (o : Obj) (x : Value) (t : TypeId) : ∀ j u, [x][j]? = some u → ((w.alloc o).alloc (.cells #[x] t)).cell? ((⟨w.heap.size + 1, 0, none⟩ : Addr).add j) = some u := by
  have := cell_one_new (w.alloc o) x t
  rw [World.size_alloc] at this
  exact this

theorem Tryd.infoU5 : (Tryd.prog.info? 5).map (fun i => (i.zero, i.size, i.bytes)) = some (some (.int .u8 0), 1, 1) := by kernel_rfl

/-- A label that is too long. -/
def s61 : ByteArray := strOfNums (List.replicate 61 0)
theorem s61_size : s61.size = 61 := by unfold s61; rw [strOfNums_size]; rfl
theorem conv_61 (w : World) : (convert 52 9 (.slice (some ⟨w.heap.size, 0, none⟩) 61 61)).run Tryd.prog (w.alloc (.cells (madeCells #[.int .u8 0] 61) 5)).drew = .ok (.string s61) (w.alloc (.cells (madeCells #[.int .u8 0] 61) 5)).drew := by
  refine run_convert_bytes_arg _ 52 5 Tryd.underlying52 Tryd.underlying5 w.heap.size 0 61 61 (List.replicate 61 0) rfl (fun i hi => ?_) _ Tryd.underlying9
  have h := made_get (.int .u8 0) 61 i hi
  have e : (List.replicate 61 (0 : Int)).getD i 0 = 0 := by
    rw [List.getD_eq_getElem?_getD, List.getElem?_replicate_of_lt hi]
    rfl
  rw [e, Nat.zero_add]
  simpa using h

theorem conv_one (w : World) (j : Nat) : (convert 52 9 (.slice (some ⟨w.heap.size, 0, none⟩) 1 1)).run Tryd.prog (w.alloc (.cells #[.int .u8 ((97 : Int) + (j : Int))] 5)) = .ok (.string (labS j)) (w.alloc (.cells #[.int .u8 ((97 : Int) + (j : Int))] 5)) := by
  refine run_convert_bytes_arg _ 52 5 Tryd.underlying52 Tryd.underlying5 w.heap.size 0 1 1 [(97 : Int) + (j : Int)] rfl (fun i hi => ?_) _ Tryd.underlying9
  obtain rfl : i = 0 := by omega
  simp

/-- What is at hand behind the spoiling: the object o, and p, which was its copy, each in a box. -/
structure SEnv (w W : World) (B4 B11 : Nat) (xo yo xp yp : Value) (pu pv : Option Addr) (k m : Nat) (L : List ByteArray) (Z : List (Int × Int)) (lo hi : Nat) (q1 q2 : Option Addr) (n1 n2 : Nat) (L' : List ByteArray) (P' : List (Int × Int)) (lo' hi' : Nat) : Prop where
  g : w.grownBy W none
  t0 : Tab w
  o : ObjAt W lo hi pu k pv m L Z
  p : ObjAt W lo' hi' q1 n1 q2 n2 L' P'
  o0 : W.cell? ⟨B4, 0, none⟩ = some xo
  o1 : W.cell? ⟨B4, 1, none⟩ = some yo
  p0 : W.cell? ⟨B11, 0, none⟩ = some xp
  p1 : W.cell? ⟨B11, 1, none⟩ = some yp
  zo : B4 < W.heap.size
  zp : B11 < W.heap.size
section
variable {w W W' : World} {B4 B11 : Nat} {xo yo xp yp : Value} {pu pv : Option Addr} {k m : Nat} {L : List ByteArray} {Z : List (Int × Int)} {lo hi : Nat} {q1 q2 : Option Addr} {n1 n2 : Nat} {L' : List ByteArray} {P' : List (Int × Int)} {lo' hi' : Nat}
theorem SEnv.t (h : SEnv w W B4 B11 xo yo xp yp pu pv k m L Z lo hi q1 q2 n1 n2 L' P' lo' hi') : Tab W := h.t0.grown h.g (by simp)
theorem SEnv.calm (h : SEnv w W B4 B11 xo yo xp yp pu pv k m L Z lo hi q1 q2 n1 n2 L' P' lo' hi') (hg : W.grownBy W' none) : SEnv w W' B4 B11 xo yo xp yp pu pv k m L Z lo hi q1 q2 n1 n2 L' P' lo' hi' :=
  have eo := hg.block B4 h.zo (by simp)
  have ep := hg.block B11 h.zp (by simp)
  ⟨grownBy_trans h.g hg, h.t0, h.o.calm hg, h.p.calm hg, (World.cell?_of_block (a := ⟨B4, 0, none⟩) eo).trans h.o0, (World.cell?_of_block (a := ⟨B4, 1, none⟩) eo).trans h.o1,
    (World.cell?_of_block (a := ⟨B11, 0, none⟩) ep).trans h.p0, (World.cell?_of_block (a := ⟨B11, 1, none⟩) ep).trans h.p1, Nat.lt_of_lt_of_le h.zo hg.size, Nat.lt_of_lt_of_le h.zp hg.size⟩
end

theorem grownBy_belowN {a b c : World} {n : Nat} (h : a.grownBy b none) (k : Below n b c) (hn : a.heap.size ≤ n) : a.grownBy c none :=
  ⟨k.os.trans h.os, k.tape.trans h.tape, k.output.trans h.output, Nat.le_trans h.size k.size, fun i hi hr => (k.block i (by omega)).trans (h.block i hi hr)⟩
theorem ObjAt.below {w w' : World} {lo hi : Nat} {p : Option Addr} {n : Nat} {q : Option Addr} {m : Nat} {L : List ByteArray} {P : List (Int × Int)} {N : Nat} (h : ObjAt w lo hi p n q m L P) (hb : Below N w w') (hN : hi ≤ N) : ObjAt w' lo hi p n q m L P := by
  refine ⟨⟨h.ls.len, fun hn => ?_⟩, ⟨h.ps.len, fun hn => ?_⟩⟩
  · obtain ⟨b, off, e, q1, q2, q3, hc⟩ := h.ls.cell hn
    exact ⟨b, off, e, q1, q2, Nat.le_trans q3 hb.size, fun j hj => (hb.cell (p := ⟨b, off + j, none⟩) (by show b < N; omega)).trans (hc j hj)⟩
  · obtain ⟨b, off, e, q1, q2, q3, hc⟩ := h.ps.cell hn
    exact ⟨b, off, e, q1, q2, Nat.le_trans q3 hb.size, fun j hj => ⟨(hb.cell (p := ⟨b, off + j * 2, none⟩) (by show b < N; omega)).trans (hc j hj).1, (hb.cell (p := ⟨b, off + j * 2 + 1, none⟩) (by show b < N; omega)).trans (hc j hj).2⟩⟩

theorem ownsRow_setOther {w : World} {base : Nat} {e : TypeId} {size n : Nat} {v : Value} {xs : List Value} (h : w.ownsRow base e size v n xs) {B : Nat} {cs : Array Value} {t : TypeId} {fr : Nat × Nat} (hB : w.heap[B]? = some (.cells cs t fr)) (hne : e ≠ t) (i : Nat) (x : Value) : (w.setCell ⟨B, i, none⟩ x).ownsRow base e size v n xs := by
  refine ⟨h.1, ?_⟩
  rcases h.2 with ⟨rfl, h0⟩ | ⟨g, cap, cur, rfl, hg, hh, h1, h2, h3, h4⟩
  · exact .inl ⟨rfl, h0⟩
  · refine .inr ⟨g, cap, cur, rfl, hg, (Below.heap_setCell _ _ _ _ fun e' => ?_).trans hh, h1, h2, h3, h4⟩
    have e2 : g = B := e'
    subst e2
    rw [hB] at hh
    simp only [Option.some.injEq, Obj.cells.injEq] at hh
    exact hne hh.2.1.symm
theorem strs_blk {w w' : World} {lo hi g n lo' hi' : Nat} {l : List ByteArray} (h : StrsAt w lo hi (some ⟨g, 0, none⟩) n l) (e : w'.heap[g]? = w.heap[g]?) (h1 : lo' ≤ g) (h2 : g < hi') (h3 : hi' ≤ w'.heap.size) : StrsAt w' lo' hi' (some ⟨g, 0, none⟩) n l := by
  refine ⟨h.len, fun hn => ?_⟩
  obtain ⟨b, off, e', q1, q2, q3, hc⟩ := h.cell hn
  cases e'
  exact ⟨g, 0, rfl, h1, h2, h3, fun j hj => (World.cell?_of_block (a := ⟨g, 0 + j, none⟩) e).trans (hc j hj)⟩
theorem pairs_blk {w w' : World} {lo hi g n lo' hi' : Nat} {l : List (Int × Int)} (h : PairsAt w lo hi (some ⟨g, 0, none⟩) n l) (e : w'.heap[g]? = w.heap[g]?) (h1 : lo' ≤ g) (h2 : g < hi') (h3 : hi' ≤ w'.heap.size) : PairsAt w' lo' hi' (some ⟨g, 0, none⟩) n l := by
  refine ⟨h.len, fun hn => ?_⟩
  obtain ⟨b, off, e', q1, q2, q3, hc⟩ := h.cell hn
  cases e'
  exact ⟨g, 0, rfl, h1, h2, h3, fun j hj => ⟨(World.cell?_of_block (a := ⟨g, 0 + j * 2, none⟩) e).trans (hc j hj).1, (World.cell?_of_block (a := ⟨g, 0 + j * 2 + 1, none⟩) e).trans (hc j hj).2⟩⟩

/-- The first two pairs turned. -/
theorem swap_pairs {w : World} {lo hi g n : Nat} {a b : Int × Int} {r : List (Int × Int)} (h : PairsAt w lo hi (some ⟨g, 0, none⟩) n (a :: b :: r)) :
    PairsAt ((((w.setCell ⟨g, 0, none⟩ (.int .i64 b.1)).setCell ⟨g, 1, none⟩ (.int .i64 b.2)).setCell ⟨g, 2, none⟩ (.int .i64 a.1)).setCell ⟨g, 3, none⟩ (.int .i64 a.2)) lo hi (some ⟨g, 0, none⟩) n (b :: a :: r) := by
  have hl := h.len
  have hn : 2 ≤ n := by rw [← hl]; simp
  obtain ⟨b', off, e, q1, q2, q3, hc⟩ := h.cell (by omega)
  cases e
  have other : ∀ (W : World) (i j : Nat) (x : Value), i ≠ j → (W.setCell ⟨g, j, none⟩ x).cell? ⟨g, i, none⟩ = W.cell? ⟨g, i, none⟩ := fun W i j x hij => World.cell?_setCell_other _ _ _ _ (by intro e; cases e; exact hij rfl)
  have same : ∀ (W : World) (j : Nat) (x : Value), (W.cell? ⟨g, j, none⟩).isSome = true → (W.setCell ⟨g, j, none⟩ x).cell? ⟨g, j, none⟩ = some x := fun W j x hs => World.cell?_setCell_same' _ _ _ hs
  have c0 := hc 0 (by omega)
  have c1 := hc 1 (by omega)
  simp only [Nat.zero_mul, Nat.zero_add, Nat.one_mul, Nat.reduceAdd] at c0 c1
  refine ⟨by simpa using hl, fun _ => ⟨g, 0, rfl, q1, q2, by simpa [World.setCell] using q3, fun k hk => ?_⟩⟩
  match k, hk with
  | 0, _ =>
    simp only [Nat.zero_mul, Nat.zero_add]
    rw [other _ 0 3 _ (by decide), other _ 0 2 _ (by decide), other _ 0 1 _ (by decide), same _ 0 _ (by rw [c0.1]; rfl), other _ 1 3 _ (by decide), other _ 1 2 _ (by decide), same _ 1 _ (by rw [other _ 1 0 _ (by decide), c0.2]; rfl)]
    exact ⟨rfl, rfl⟩
  | 1, _ =>
    simp only [Nat.one_mul, Nat.zero_add, Nat.reduceAdd]
    rw [other _ 2 3 _ (by decide), same _ 2 _ (by rw [other _ 2 1 _ (by decide), other _ 2 0 _ (by decide), c1.1]; rfl), same _ 3 _ (by rw [other _ 3 2 _ (by decide), other _ 3 1 _ (by decide), other _ 3 0 _ (by decide), c1.2]; rfl)]
    exact ⟨rfl, rfl⟩
  | k + 2, hk =>
    have ck := hc (k + 2) hk
    simp only [Nat.zero_add] at ck ⊢
    rw [other _ _ 3 _ (by omega), other _ _ 2 _ (by omega), other _ _ 1 _ (by omega), other _ _ 0 _ (by omega), other _ _ 3 _ (by omega), other _ _ 2 _ (by omega), other _ _ 1 _ (by omega), other _ _ 0 _ (by omega)]
    exact ck

/-- The first label is another one. -/
theorem set_str {w : World} {lo hi g n : Nat} {x s : ByteArray} {l : List ByteArray} (h : StrsAt w lo hi (some ⟨g, 0, none⟩) n (x :: l)) : StrsAt (w.setCell ⟨g, 0, none⟩ (.string s)) lo hi (some ⟨g, 0, none⟩) n (s :: l) := by
  have hl := h.len
  have hn : 0 < n := by rw [← hl]; simp
  obtain ⟨b', off, e, q1, q2, q3, hc⟩ := h.cell hn
  cases e
  refine ⟨by simpa using hl, fun _ => ⟨g, 0, rfl, q1, q2, by simpa [World.setCell] using q3, fun k hk => ?_⟩⟩
  match k, hk with
  | 0, _ => exact World.cell?_setCell_same' _ _ _ (by rw [hc 0 hn]; rfl)
  | k + 1, hk =>
    refine (World.cell?_setCell_other _ _ _ _ (by intro e; cases e)).trans ?_
    exact hc (k + 1) hk
theorem labs_cons {k : Nat} (hk : 0 < k) : ∃ r, labs k = labS 0 :: r := by
  obtain ⟨j, rfl⟩ : ∃ j, k = j + 1 := ⟨k - 1, by omega⟩
  unfold labs
  rw [List.range_succ_eq_map, List.map_cons]
  exact ⟨_, rfl⟩
theorem labS_size (i : Nat) : (labS i).size ≤ 60 := by
  unfold labS
  rw [strOfNums_size]
  show 1 ≤ 60
  decide

/-- A box, all that is known of it. -/
theorem boxAll4 {w w1 : World} {x y : Value} {t : TypeId} (hg : (w.alloc (.cells #[x, y] t)).grownBy w1 none) : w1.cell? ⟨w.heap.size, 0, none⟩ = some x ∧ w1.cell? ⟨w.heap.size, 1, none⟩ = some y ∧ w1.frozen? ⟨w.heap.size, 0, none⟩ = false ∧ w1.frozen? ⟨w.heap.size, 1, none⟩ = false ∧ w.heap.size < w1.heap.size :=
  ⟨(box2 hg).1, (box2 hg).2.1, (box2f hg).1, (box2f hg).2, by have := hg.size; simp at this; omega⟩
theorem boxMore4 {W W' : World} {B : Nat} {x y : Value} (h : W.cell? ⟨B, 0, none⟩ = some x ∧ W.cell? ⟨B, 1, none⟩ = some y ∧ W.frozen? ⟨B, 0, none⟩ = false ∧ W.frozen? ⟨B, 1, none⟩ = false ∧ B < W.heap.size) (hg : W.grownBy W' none) :
    W'.cell? ⟨B, 0, none⟩ = some x ∧ W'.cell? ⟨B, 1, none⟩ = some y ∧ W'.frozen? ⟨B, 0, none⟩ = false ∧ W'.frozen? ⟨B, 1, none⟩ = false ∧ B < W'.heap.size := by
  obtain ⟨h0, h1, h2, h3, h4⟩ := h
  have hb := hg.block B h4 (by simp)
  exact ⟨(World.cell?_of_block (a := ⟨B, 0, none⟩) hb).trans h0, (World.cell?_of_block (a := ⟨B, 1, none⟩) hb).trans h1, (World.frozen?_of_block (a := ⟨B, 0, none⟩) hb).trans h2, (World.frozen?_of_block (a := ⟨B, 1, none⟩) hb).trans h3, Nat.lt_of_lt_of_le h4 hg.size⟩

/-- append, whatever there is to be appended, as one step of a region that draws. -/
theorem step_append_k {P : Program} {ops : Array Oper} {o : Oper} {a : Act} {w : World} {K : Act → World → Prop} {Q : Exit → Act → World → Prop} {E : Prop} (hgd : o.guard = none) (s x : Operand) (t : TypeId)
    (ho : o.op = .call { callee := .builtin .append, args := #[s, x], argTypes := #[t, t] })
    (base : Nat) (e : TypeId) (i : TypeInfo) (z : Value) (size bytes : Nat) (ht : P.underlying t = some (.slice e)) (hi : P.info? e = some i) (hz : i.zero = some z)
    (hsize : i.size = size) (hby : i.bytes = bytes) (hzs : z.cells.size = size) (hsz : 0 < size)
    (v : Value) (n : Nat) (xs : List Value) (hs : a.eval s = v) (hown : w.ownsRow base e size v n xs)
    (ad : Addr) (m c : Nat) (news : List Value) (hx : a.eval x = .slice (some ad) m c) (hl : news.length = m * size) (hnews : ∀ j u, news[j]? = some u → w.cell? (ad.add j) = some u) (h1 : ∀ u ∈ news, u.oneCell' = true)
    (h63 : n + m ≤ maxLen) (hbytes : (n + m) * bytes ≤ 140737488355328) (hbase : base ≤ w.heap.size)
    (h : ∀ p' c' w', w'.ownsRow base e size (.slice p' (n + m) c') (n + m) (xs ++ news) → w.grownBy w' v.ownBlock → K (a.put o.dst (.slice p' (n + m) c')) w') :
    if Region.wanted o (yielded ops a.tmps) = true then Oper.wp P o a w K Q else E := by
  have hw : Region.wanted o (yielded ops a.tmps) = true := by simp [Region.wanted, hgd]
  rw [if_pos hw]
  refine wp_append_own w s x t ho base e i z size bytes ht hi hz hsize hby hzs hsz v n xs hs hown ad m c news hx hl hnews h1 h63 hbytes hbase fun v' w' h2 h3 _ => ?_
  obtain ⟨p', c', rfl⟩ : ∃ p' c', v' = .slice p' (n + m) c' := by
    rcases h2.2 with ⟨e1, e2⟩ | ⟨g, cap, cur, e1, _⟩
    · exact ⟨none, 0, by rw [e1, e2]⟩
    · exact ⟨_, _, e1⟩
  exact h p' c' w' h2 h3
theorem pairs_head {w : World} {lo hi b o n : Nat} {x : Int × Int} {l : List (Int × Int)} (h : PairsAt w lo hi (some ⟨b, o, none⟩) n (x :: l)) : PairsAt w lo hi (some ⟨b, o, none⟩) 1 [x] := by
  have hl := h.len
  have hn : 0 < n := by rw [← hl]; simp
  obtain ⟨b', off, e, q1, q2, q3, hc⟩ := h.cell hn
  cases e
  refine ⟨rfl, fun _ => ⟨b, o, rfl, q1, q2, q3, fun k hk => ?_⟩⟩
  obtain rfl : k = 0 := by omega
  exact hc 0 hn
theorem pairs_drop2 {w : World} {lo hi b o n : Nat} {x y : Int × Int} {l : List (Int × Int)} (h : PairsAt w lo hi (some ⟨b, o, none⟩) n (x :: y :: l)) : PairsAt w lo hi (some ⟨b, o + 2 * 2, none⟩) (n - 2) l := by
  have hl := h.len
  have hn : 2 ≤ n := by rw [← hl]; simp
  obtain ⟨b', off, e, q1, q2, q3, hc⟩ := h.cell (by omega)
  cases e
  refine ⟨by simp at hl; omega, fun _ => ⟨b, o + 2 * 2, rfl, q1, q2, q3, fun k hk => ?_⟩⟩
  have := hc (k + 2) (by omega)
  rw [show o + 2 * 2 + k * 2 = o + (k + 2) * 2 by omega]
  exact this

theorem objN_no {L : List ByteArray} {P : List (Int × Int)} (h : chk L P = 10) : objN L P = 0 := by unfold objN; rw [if_neg (by rw [h]; decide)]
theorem objN_yes {L : List ByteArray} {P : List (Int × Int)} {k : Nat} (h : chk L P = 0) (hl : L.length = k) : objN L P = k := by unfold objN; rw [if_pos h, hl]
theorem objR_yes {L : List ByteArray} {P : List (Int × Int)} {k : Nat} (h : chk L P = 0) (hl : L.length = k) : objR L P = ofL k P := by unfold objR; rw [if_pos h, hl]

theorem cell_two_new' (w : World) (o : Obj) (x y : Value) (t : TypeId) : ∀ j u, [x, y][j]? = some u → ((w.alloc o).alloc (.cells #[x, y] t)).cell? ((⟨w.heap.size + 1, 0, none⟩ : Addr).add j) = some u := by
  have := cell_two_new (w.alloc o) x y t
  rw [World.size_alloc] at this
  exact this
theorem pcells_one1 (a b : Int) : ∀ u ∈ [Value.int .i64 a, Value.int .i64 b], u.oneCell' = true := by
  intro u hu
  simp only [List.mem_cons, List.not_mem_nil, or_false] at hu
  rcases hu with rfl | rfl <;> rfl

set_option maxRecDepth 100000 in
set_option maxHeartbeats 4000000 in
theorem objSpoils_in (n t k : Nat) (w : World) (hn : n < 256) (htt : t < 256) (hk : n % 10 + 3 = k) (ht : Tab w) : Calls Tryd.prog 5 #[.int .u8 n, .int .u8 t] w fun e w' => e = .returned (.bool true) ∧ w.grownBy w' none := by
  obtain ⟨i0, hi', hz0, hz1, hz2⟩ := info_parts Tryd.info9
  obtain ⟨j0, jn, jz0, jz1, jz2⟩ := info_parts Tryd.info38
  have n0 : (0 : Int) ≤ n := by omega
  have n1 : (n : Int) < 256 := by omega
  have t0 : (0 : Int) ≤ t := by omega
  have t1 : (t : Int) < 256 := by omega
  have hk3 : 3 ≤ k := by omega
  have hk12 : k < 13 := by omega
  have HK := Lib.hid (show (n : Int) % 10 + 3 = (k : Int) by omega)
  have HT := Lib.hid ht
  clear hk ht
  go_enter Tryd.func5, Tryd.ntmps5
  go_wp2_with fail
  refine (known4_c _ HT.out).mono ?_
  rintro e w1 ⟨rfl, hg1⟩
  have HG1 := Lib.hid hg1
  clear hg1
  go_wp2_with fail
  rw [HK.out]
  refine (relNew_mid k _ (by omega)).mono ?_
  rintro e w2 ⟨r, rfl, hr, hg2⟩
  have HR2 := Lib.hid hr
  have HG2 := Lib.hid (grownBy_trans HG1.out hg2)
  have hw12 := hg2.size
  have hw1 := HG1.out.size
  clear hr hg2
  go_wp2
  generalize hb2 : w2.heap.size = hi1 at *
  have hhi : hi1 ≤ w2.heap.size := by omega
  clear hb2
  generalize w1.heap.size = lo1 at *
  go_loopw [6, 8] (fun v i wr => ∃ j : Nat, j ≤ k ∧ i = .int .i64 j ∧ OwnS wr hi1 v (labs j) ∧ IsRel wr lo1 hi1 r k (chainR j) ∧ w.grownBy wr none ∧ hi1 ≤ wr.heap.size) (fun _ i _ => k - (intOf i).toNat)
  case atStart => exact ⟨0, Nat.zero_le _, rfl, ⟨none, 0, rfl, World.ownsRow_nil _ _ _ _⟩, by rw [chainR_zero]; exact HR2.out, HG2.out, hhi⟩
  case round =>
    obtain ⟨j, hj, rfl, ⟨pl, cl, rfl, hown⟩, hr, hg, hh⟩ := hrel
    by_cases hjk : j < k
    · have j1 : (j : Int) < k := by omega
      have j0 : (0 : Int) ≤ j := by omega
      have j2 : (j : Int) ≤ 12 := by omega
      have hcv := conv_one wr j
      have HLL := Lib.hid (labs_len j)
      have HLS := Lib.hid (labs_succ j)
      have hg2 := grownBy_trans (World.grownBy_alloc wr (.cells #[.int .u8 ((97 : Int) + (j : Int))] 5) none) (World.grownBy_alloc _ (.cells #[.string (labS j)] 9) none)
      have HOW := Lib.hid (ownsRow_calm hown hg2)
      have HR := Lib.hid (hr.calm hg2)
      have HG := Lib.hid (grownBy_trans hg hg2)
      have hh2 : hi1 ≤ ((wr.alloc (.cells #[.int .u8 ((97 : Int) + (j : Int))] 5)).alloc (.cells #[.string (labS j)] 9)).heap.size := by simp; omega
      have hlo : w.heap.size ≤ lo1 := hw1
      have hwh : w.heap.size ≤ hi1 := by omega
      clear hown hr hg hg2 hj
      generalize labs j = LJ at *
      by_cases hj0 : j = 0
      · have jp : ¬ ((0 : Int) < j) := by omega
        have HCH : Hid (chainR (j + 1) = chainR j) := Lib.hid (by rw [hj0, chainR_one, chainR_zero])
        clear hj0
        go_wp2_with (at_builtin; refine wpList_append_own _ rfl _ _ 22 rfl hi1 9 i0 (.string .empty) 1 16 Tryd.underlying22 hi' hz0 hz1 hz2 rfl (by decide) _ _ _ rfl HOW.out ⟨wr.heap.size + 1, 0, none⟩ 1 1 [.string (labS j)] rfl rfl (cell_one_new' _ _ _ _) (by simp [Value.oneCell']) (by rw [HLL.out]; unfold maxLen; omega) (by rw [HLL.out]; omega) hh2 ?_; intro v' w9 hown' hgrow _; have h1 : w9.ownsRow hi1 9 1 v' (labs (j + 1)).length (scells (labs (j + 1))) := (by rw [HLS.out]; simpa [scells] using hown'); obtain ⟨p', c', rfl, _⟩ := strsAt_own h1; have H1 := Lib.hid h1; have HR9 := Lib.hid (HR.out.own HOW.out hgrow (Nat.le_refl _)); have HG9 := Lib.hid (grownBy_own HG.out HOW.out hgrow hwh); have hz9 := hgrow.size; clear h1 hown' hgrow)
        refine ⟨⟨j + 1, by omega, by go_num, ⟨_, _, rfl, H1.out⟩, by rw [HCH.out]; exact HR9.out, HG9.out, Nat.le_trans hh2 hz9⟩, by simp [intOf]; omega⟩
      · have jp : (0 : Int) < j := by omega
        have HCH := Lib.hid (chainR_step (k := k) (j := j) (by omega) hjk)
        clear hj0
        go_wp2_with (at_builtin; refine wpList_append_own _ rfl _ _ 22 rfl hi1 9 i0 (.string .empty) 1 16 Tryd.underlying22 hi' hz0 hz1 hz2 rfl (by decide) _ _ _ rfl HOW.out ⟨wr.heap.size + 1, 0, none⟩ 1 1 [.string (labS j)] rfl rfl (cell_one_new' _ _ _ _) (by simp [Value.oneCell']) (by rw [HLL.out]; unfold maxLen; omega) (by rw [HLL.out]; omega) hh2 ?_; intro v' w9 hown' hgrow _; have h1 : w9.ownsRow hi1 9 1 v' (labs (j + 1)).length (scells (labs (j + 1))) := (by rw [HLS.out]; simpa [scells] using hown'); obtain ⟨p', c', rfl, _⟩ := strsAt_own h1; have H1 := Lib.hid h1; have HR9 := Lib.hid (HR.out.own HOW.out hgrow (Nat.le_refl _)); have HG9 := Lib.hid (grownBy_own HG.out HOW.out hgrow hwh); have hz9 := hgrow.size; clear h1 hown' hgrow)
        refine (add_b lo1 hi1 r k ((j : Int) - 1) (j : Int) (chainR j) _ _ (by exact HR9.out) rfl).mono ?_
        rw [HCH.out]
        rintro e w10 ⟨rfl, hr10, hk10⟩
        have HR10 := Lib.hid hr10
        have H10 := Lib.hid (ownsRow_keptHi H1.out hk10 (Nat.le_refl _))
        have HG10 := Lib.hid (Kept.new HG9.out hk10 hlo)
        have hz10 := hk10.size
        clear hr10 hk10
        generalize newI k (chainR j) ((j : Int) - 1) (j : Int) = nb
        go_wp2
        refine ⟨⟨j + 1, by omega, by go_num, ⟨_, _, rfl, H10.out⟩, HR10.out, HG10.out, Nat.le_trans (Nat.le_trans hh2 hz9) hz10⟩, by simp [intOf]; omega⟩
    · obtain rfl : k = j := by omega
      have j1 : ¬ ((k : Int) < k) := by omega
      obtain ⟨pu0, cu0, e0, hst⟩ := strsAt_own hown
      cases e0
      have hpc : pl = none → cl = 0 := by
        intro h
        obtain ⟨b, off, e, _⟩ := hst.cell (by rw [labs_len]; omega)
        rw [h] at e
        cases e
      have HL := Lib.hid hst
      have HR := Lib.hid hr
      have HG := Lib.hid hg
      have HT3 := Lib.hid (HT.out.grown hg (by simp))
      have HLL := Lib.hid (labs_len k)
      have HLB := Lib.hid (labs_ok hk12)
      have HPC := Lib.hid hpc
      have HZ0 : Hid (pairsL k (clo k (chainR k)) k = upL k) := Lib.hid (by rw [chain_clo]; rfl)
      obtain ⟨rz, hrz⟩ := upL_eq hk12 hk3
      have HRZ := Lib.hid hrz
      have HZL := Lib.hid (upL_len k hk12)
      have HCK : Hid (chk (labs k) (upL k) = 0) := Lib.hid (by
        have := chk_clo (labs_ok hk12) (labs_len k) (chainR_supp (Nat.le_refl k))
        rw [chain_clo] at this
        exact this)
      have hzl : (upL k).length ≤ 66 := by
        rw [upL_len k hk12]
        have : k * (k - 1) ≤ 12 * 11 := Nat.mul_le_mul (by omega) (by omega)
        omega
      have hz3 : 3 ≤ (upL k).length := by
        rw [upL_len k hk12]
        have : 3 * 2 ≤ k * (k - 1) := Nat.mul_le_mul (by omega) (by omega)
        omega
      have hlen : (((upL k).length : Int) != wrap64 ((wrap64 ((k : Int) * ((k : Int) - 1))).tdiv 2)) = false := by rw [upL_len k hk12]; exact k_len k hk12 hk3
      clear hown hst hr hg hpc hrz
      rw [labs_len k] at HL ⊢
      go_wp2_with fail
      refine (make_ok _ k _ _ _ _ _ _ (labs k) (chainR k) _ (by exact HL.out) HPC.out HLB.out (by exact HR.out) HT3.out).mono ?_
      rw [HZ0.out]
      rintro e w4 ⟨u, v, rfl, hown, hg4⟩
      obtain ⟨pu, cu, pv, cv, rfl, rfl, hob⟩ := hown.at
      rw [labs_len k] at hob ⊢
      have hZR := hown.ps
      have hcap : (upL k).length ≤ cv := by
        rcases hZR.2 with ⟨h1, h0⟩ | ⟨g', cap', cur', h1, _, _, h3, _⟩
        · omega
        · cases h1; exact h3
      have HG4 := Lib.hid (grownBy_trans HG.out hg4)
      have HO4 := Lib.hid hob
      clear hown hob hg4 hZR
      generalize hZZ : upL k = Z at *
      have HZZ := Lib.hid hZZ
      clear hZZ
      have ga := World.grownBy_alloc w4 (.cells #[.slice pu k cu, .slice pv Z.length cv] 25) none
      have HO5 := Lib.hid (HO4.out.calm ga)
      have HG5 := Lib.hid (grownBy_trans HG4.out ga)
      have HB5 := Lib.hid (show (w4.alloc (.cells #[.slice pu k cu, .slice pv Z.length cv] 25)).cell? ⟨w4.heap.size, 0, none⟩ = some (.slice pu k cu) ∧ (w4.alloc (.cells #[.slice pu k cu, .slice pv Z.length cv] 25)).cell? ⟨w4.heap.size, 1, none⟩ = some (.slice pv Z.length cv) from ⟨(box2 (grownBy_refl _ none)).1, (box2 (grownBy_refl _ none)).2.1⟩)
      clear ga
      go_wp2_with fail
      refine (is_c _ _ _ _ _ _ _ _ (labs k) Z true _ (by exact HO5.out) (by omega) (by rw [HCK.out]; rfl)).mono ?_
      rintro e w6 ⟨rfl, hg6⟩
      have HO6 := Lib.hid (HO5.out.calm hg6)
      have HG6 := Lib.hid (grownBy_trans HG5.out hg6)
      have HB6 := Lib.hid (box_calm HB5.out (by simp) hg6)
      have hz6 : w4.heap.size < w6.heap.size := by have := hg6.size; simp at this; omega
      have b0 := HB6.out.1
      have b1 := HB6.out.2
      have hpn : pu = none → cu = 0 := by
        intro h
        obtain ⟨b, off, e, _⟩ := HO6.out.ls.cell (by omega)
        rw [h] at e
        cases e
      have hqn : pv = none → cv = 0 := by
        intro h
        obtain ⟨b, off, e, _⟩ := HO6.out.ps.cell (by omega)
        rw [h] at e
        cases e
      have HPN := Lib.hid hpn
      have HQN := Lib.hid hqn
      clear hg6 hpn hqn
      go_wp2_with fail
      refine (objCopy_c _ _ _ _ _ _ _ _ (labs k) Z _ (by exact HO6.out) (by omega) (by omega) HPN.out HQN.out).mono ?_
      rintro e w7 ⟨u, v, rfl, hown, hg7⟩
      obtain ⟨qu, du, qv, dv, rfl, rfl, hob⟩ := hown.at
      rw [labs_len k] at hob hown ⊢
      have HG7 := Lib.hid (grownBy_trans HG6.out hg7)
      have HO7 := Lib.hid (HO6.out.calm hg7)
      have HB7 := Lib.hid (box_calm HB6.out hz6 hg7)
      have hz7 : w4.heap.size < w7.heap.size := Nat.lt_of_lt_of_le hz6 hg7.size
      have hz67 := hg7.size
      have HOW := Lib.hid hown
      have HP7 := Lib.hid hob
      clear hg7 hown hob b0 b1 hlen
      obtain ⟨gl, curl, rfl, hgl, hbl, hcl⟩ := own_some HOW.out.ls (by omega)
      obtain ⟨gv, curv, rfl, hgv, hbv, hcv⟩ := own_some HOW.out.ps (by omega)
      have hgv7 : gv < w7.heap.size := (Array.getElem?_eq_some_iff.1 hbv).1
      have hgl7 : gl < w7.heap.size := (Array.getElem?_eq_some_iff.1 hbl).1
      have hne : gl ≠ gv := fun e => by subst e; rw [hbl] at hbv; simp at hbv
      have b0 := HB7.out.1
      have b1 := HB7.out.2
      have HOWP := Lib.hid (ownsRow_calm HOW.out.ps (grownBy_trans (World.grownBy_alloc w7 (.cells #[.slice (some ⟨gl, 0, none⟩) k du, .slice (some ⟨gv, 0, none⟩) Z.length dv] 25) none) (World.grownBy_alloc _ (.cells #[.int .i64 k, .int .i64 0] 38) none)))
      rcases (show t % 4 = 0 ∨ t % 4 = 1 ∨ t % 4 = 2 ∨ t % 4 = 3 by omega) with h4 | h4 | h4 | h4
      · have s0 : ((t : Int) % 4 == 0) = true := by simp; omega
        clear h4
        obtain ⟨pb, po, rfl, hp1, hp2, hp3, _⟩ := HO7.out.ps.cell (by omega)
        have hzp : ∀ l, Z = l → PairsAt w7 wr.heap.size w4.heap.size (some ⟨pb, po, none⟩) Z.length l := by intro l e; subst e; exact HO7.out.ps
        have hs1 := pairs_head (hzp _ HRZ.out)
        have hs2 := pairs_drop2 (hzp _ HRZ.out)
        have hbxa := boxAll4 (grownBy_refl (w7.alloc (.cells #[.slice (some ⟨gl, 0, none⟩) k du, .slice (some ⟨gv, 0, none⟩) Z.length dv] 25)) none)
        have hbk8 := World.alloc_heap_new w7 (.cells #[.slice (some ⟨gl, 0, none⟩) k du, .slice (some ⟨gv, 0, none⟩) Z.length dv] 25)
        have hga7 := World.grownBy_alloc w7 (.cells #[.slice (some ⟨gl, 0, none⟩) k du, .slice (some ⟨gv, 0, none⟩) Z.length dv] 25) none
        have hsz8 : (w7.alloc (.cells #[.slice (some ⟨gl, 0, none⟩) k du, .slice (some ⟨gv, 0, none⟩) Z.length dv] 25)).heap.size = w7.heap.size + 1 := by simp
        have b0' := (box_calm HB7.out hz7 hga7).1
        have b1' := (box_calm HB7.out hz7 hga7).2
        go_wp2_with fail
        clear b0 b1
        generalize w7.alloc (.cells #[.slice (some ⟨gl, 0, none⟩) k du, .slice (some ⟨gv, 0, none⟩) Z.length dv] 25) = w8 at *
        have HN1 : Hid (∀ (w' : World), w8.grownBy w' none → ∀ t u, (pcells [(0, 1)])[t]? = some u → w'.cell? ((⟨pb, po, none⟩ : Addr).add t) = some u) := Lib.hid fun w' hg => pairs_news ((hs1.calm hga7).calm hg)
        have HN2 : Hid (∀ (w' : World), w8.grownBy w' none → ∀ t u, (pcells rz)[t]? = some u → w'.cell? ((⟨pb, po + 2 * 2, none⟩ : Addr).add t) = some u) := Lib.hid fun w' hg => pairs_news ((hs2.calm hga7).calm hg)
        have HL2 : Hid ((pcells rz).length = (Z.length - 2) * 2) := Lib.hid (by rw [pcells_len, hs2.len])
        have hrl : rz.length = Z.length - 2 := hs2.len
        have hc1 : 1 ≤ cv := by omega
        have hc2 : 2 ≤ cv := by omega
        have hc3 : ¬ cv = 2 := by omega
        have hc4 : 2 ≤ Z.length := by omega
        have hc5 : 1 ≤ Z.length := by omega
        have hc6 : (1 : Int) ≤ cv := by omega
        have hc7 : (2 : Int) ≤ cv := by omega
        have hc8 : (2 : Int) ≤ Z.length := by omega
        have hc9 : (Z.length : Int) ≤ cv := by omega
        obtain ⟨hx0, hx1, hf0, hf1, hzx⟩ := hbxa
        have HX := Lib.hid (show w8.cell? ⟨w7.heap.size, 0, none⟩ = _ ∧ w8.cell? ⟨w7.heap.size, 1, none⟩ = _ ∧ w8.frozen? ⟨w7.heap.size, 0, none⟩ = false ∧ w8.frozen? ⟨w7.heap.size, 1, none⟩ = false ∧ w7.heap.size < w8.heap.size from ⟨hx0, hx1, hf0, hf1, hzx⟩)
        have HRL := Lib.hid hrl
        clear hx0 hx1 hf0 hf1 hs1 hs2 hzp hrl
        have hszd : w8.heap.size ≤ w8.drew.heap.size := Nat.le_refl _
        have HBO := Lib.hid (show w8.cell? ⟨w4.heap.size, 0, none⟩ = _ ∧ w8.cell? ⟨w4.heap.size, 1, none⟩ = _ from ⟨b0', b1'⟩)
        have hz8 : w4.heap.size < w8.heap.size := by omega
        go_region_law (first
          | (refine step_append_k rfl (.const (.slice none 0 0)) (.tmp 77) 23 rfl w8.heap.size 38 j0 (.agg #[.int .i64 0, .int .i64 0]) 2 16 Tryd.underlying23 jn jz0 jz1 jz2 rfl (by decide) (.slice none 0 0) 0 [] (by simp [Act.eval]) (World.ownsRow_nil _ _ _ _) ⟨pb, po, none⟩ 1 cv (pcells [(0, 1)]) (by simp [Act.eval, Act.put]) rfl (HN1.out _ (by exact grownBy_drewN w8 1 none)) (pcells_one' _) (by unfold maxLen; omega) (by omega) (by exact hszd) ?_; intro pA cA wA hownA hgrowA; have hoA := box_calm HBO.out hz8 (grownBy_trans (grownBy_drewN w8 1 none) hgrowA); have ho0 := hoA.1; have ho1 := hoA.2)
          | (refine step_append_k rfl (.tmp 78) (.tmp 81) 23 rfl w8.heap.size 38 j0 (.agg #[.int .i64 0, .int .i64 0]) 2 16 Tryd.underlying23 jn jz0 jz1 jz2 rfl (by decide) (.slice pA (0 + 1) cA) _ _ (by simp [Act.eval, Act.put]) hownA ⟨pb, po + 2 * 2, none⟩ (Z.length - 2) (cv - 2) (pcells rz) (by simp [Act.eval, Act.put]) HL2.out (HN2.out _ (by exact grownBy_trans (grownBy_drewN w8 1 none) hgrowA)) (pcells_one' _) (by unfold maxLen; omega) (by omega) (by exact Nat.le_trans hszd hgrowA.size) ?_; intro pB cB wB hownB hgrowB; have hgB := grownBy_own (grownBy_trans (grownBy_drewN w8 1 none) hgrowA) hownA hgrowB (Nat.le_refl _); have hxB := boxMore4 HX.out hgB; have hy0 := hxB.1; have hy1 := hxB.2.1; have hy2 := hxB.2.2.1; have hy3 := hxB.2.2.2.1))
        all_goals
          have hgB7 := grownBy_trans hga7 hgB
          have hlz : ((0, 1) :: rz : List (Int × Int)).length = 1 + (Z.length - 2) := by rw [List.length_cons, HRL.out]; omega
          have h1 : wB.ownsRow w8.heap.size 38 2 (.slice pB (1 + (Z.length - 2)) cB) ((0, 1) :: rz : List (Int × Int)).length (pcells ((0, 1) :: rz)) := by
            rw [hlz]
            rw [Nat.zero_add] at hownB
            exact hownB
          have hbkB : wB.heap[w7.heap.size]? = some (.cells #[.slice (some ⟨gl, 0, none⟩) k du, .slice (some ⟨gv, 0, none⟩) Z.length dv] 25 (0, 0)) := (hgB.block w7.heap.size (by omega) (by simp)).trans hbk8
          have h12 := ownsRow_setOther h1 hbkB (by decide) 1 (.slice pB (1 + (Z.length - 2)) cB)
          obtain ⟨p2, c2, e2, hp12⟩ := pairsAt_own h12
          rw [hlz] at e2 hp12
          cases e2
          have hBel : Below w6.heap.size w7 (wB.setCell ⟨w7.heap.size, 1, none⟩ (.slice pB (1 + (Z.length - 2)) cB)) := (grownBy_below hgB7 |>.mono (by omega)).setCell (p := ⟨w7.heap.size, 1, none⟩) hz67 _
          have egl : (wB.setCell ⟨w7.heap.size, 1, none⟩ (.slice pB (1 + (Z.length - 2)) cB)).heap[gl]? = w7.heap[gl]? := (Below.heap_setCell _ _ _ _ (by show gl ≠ w7.heap.size; omega)).trans (hgB7.block gl hgl7 (by simp))
          have hzz9 : w7.heap.size < (wB.setCell ⟨w7.heap.size, 1, none⟩ (.slice pB (1 + (Z.length - 2)) cB)).heap.size := by
            have := hgB.size
            simp [World.setCell]
            omega
          have HEN : Hid (SEnv w (wB.setCell ⟨w7.heap.size, 1, none⟩ (.slice pB (1 + (Z.length - 2)) cB)) w4.heap.size w7.heap.size (.slice pu k cu) (.slice (some ⟨pb, po, none⟩) Z.length cv) (.slice (some ⟨gl, 0, none⟩) k du) (.slice pB (1 + (Z.length - 2)) cB) pu (some ⟨pb, po, none⟩) k Z.length (labs k) Z _ _ (some ⟨gl, 0, none⟩) pB k (1 + (Z.length - 2)) (labs k) ((0, 1) :: rz) w6.heap.size _) := Lib.hid
            ⟨grownBy_belowN HG7.out hBel (by have := HG6.out.size; omega), HT.out, HO7.out.below hBel (by omega), ⟨strs_blk HP7.out.ls egl hgl (by omega) (Nat.le_refl _), ⟨hp12.len, fun hn => by obtain ⟨b, off, e, q1, q2, q3, hc⟩ := hp12.cell hn; exact ⟨b, off, e, by omega, q2, q3, hc⟩⟩⟩,
              (hBel.cell (p := ⟨w4.heap.size, 0, none⟩) hz6).trans HB7.out.1, (hBel.cell (p := ⟨w4.heap.size, 1, none⟩) hz6).trans HB7.out.2,
              (World.cell?_setCell_other _ _ _ _ (by simp)).trans hy0, World.cell?_setCell_same' _ _ _ (by rw [hy1]; rfl), by have := hBel.size; omega, hzz9⟩
          have HC10 : Hid (chk (labs k) ((0, 1) :: rz) = 10) := Lib.hid (less_chk HLB.out (labs_len k) hk3 (by rw [HZZ.out]; exact HRZ.out))
          have HNE : Hid (Z ≠ (0, 1) :: rz) := Lib.hid (by rw [← HZZ.out]; exact less_ne (by rw [HZZ.out]; exact HRZ.out))
          have hm2 : 1 + (Z.length - 2) ≤ 1000000 := by omega
          clear hgB7 hlz h1 hbkB h12 hp12 hBel egl hzz9 hy0 hy1 hy2 hy3 hxB hownA hownB hgrowA hgrowB hgB hoA ho0 ho1
          generalize wB.setCell ⟨w7.heap.size, 1, none⟩ (.slice pB (1 + (Z.length - 2)) cB) = w9 at *
          generalize 1 + (Z.length - 2) = m2 at *
          have p0 := HEN.out.p0
          have p1 := HEN.out.p1
          go_wp2_with fail
          refine (check_c _ _ _ _ _ _ _ _ _ _ 10 _ (by exact HEN.out.p) (by omega) HC10.out).mono ?_
          rintro e wA ⟨rfl, hgA⟩
          have HEA := Lib.hid (HEN.out.calm hgA)
          clear hgA p0 p1
          have p0 := HEA.out.p0
          have p1 := HEA.out.p1
          have o0 := HEA.out.o0
          have o1 := HEA.out.o1
          go_wp2_with fail
          refine (objSame_r _ _ _ _ _ _ _ _ _ _ _ _ _ _ _ _ _ _ _ _ false _ (by exact HEA.out.o) (by exact HEA.out.p) (by omega) (by omega) (by rw [decide_eq_false HNE.out, Bool.and_false])).mono ?_
          rintro e wB ⟨rfl, hgB⟩
          have HEB := Lib.hid (HEA.out.calm hgB)
          clear hgB p0 p1 o0 o1
          have p0 := HEB.out.p0
          have p1 := HEB.out.p1
          go_wp2_with fail
          refine (objRel_c _ _ _ _ _ _ _ _ _ _ _ (by exact HEB.out.p) (by omega)).mono ?_
          rw [objN_no HC10.out]
          rintro e wC ⟨rp, rfl, hrp, hgC⟩
          have HEC := Lib.hid (HEB.out.calm hgC)
          have HRP := Lib.hid hrp
          clear hgC hrp p0 p1
          go_wp2_with fail
          refine (relLen_c _ _ _ 0 _ _ (by exact HRP.out)).mono ?_
          rintro e wD ⟨rfl, h9⟩
          subst wD
          have o0 := HEC.out.o0
          have o1 := HEC.out.o1
          go_wp2_with fail
          refine (is_c _ _ _ _ _ _ _ _ _ _ true _ (by exact HEC.out.o) (by omega) (by rw [HCK.out]; rfl)).mono ?_
          rintro e wE ⟨rfl, hgE⟩
          have HEE := Lib.hid (HEC.out.calm hgE)
          clear hgE o0 o1
          have o0 := HEE.out.o0
          have o1 := HEE.out.o1
          go_wp2_with fail
          refine (objRel_c _ _ _ _ _ _ _ _ _ _ _ (by exact HEE.out.o) (by omega)).mono ?_
          rw [objN_yes HCK.out (labs_len k), objR_yes HCK.out (labs_len k), ← HZZ.out, upL_ofL]
          rintro e wF ⟨ro, rfl, hro, hgF⟩
          have HGF := Lib.hid (HEE.out.calm hgF).g
          have HRO := Lib.hid hro
          clear hgF hro o0 o1
          go_wp2_with fail
          refine (isTotal_c _ _ _ k _ _ (by exact HRO.out)).mono ?_
          rw [upL_tot]
          rintro e wG ⟨rfl, hgG⟩
          have HGG := Lib.hid (grownBy_trans HGF.out hgG)
          clear hgG
          go_wp2
          go_ret
          exact ⟨rfl, HGG.out⟩
      · have s0 : ((t : Int) % 4 == 0) = false := by simp; omega
        have s1 : ((t : Int) % 4 == 1) = true := by simp; omega
        clear h4
        have hcz : (w7.cell? ⟨gv, 0, none⟩ = some (.int .i64 0) ∧ w7.cell? ⟨gv, 1, none⟩ = some (.int .i64 1)) ∧ (w7.cell? ⟨gv, 2, none⟩ = some (.int .i64 0) ∧ w7.cell? ⟨gv, 3, none⟩ = some (.int .i64 2)) := by
          obtain ⟨bb, off, e, _, _, _, hc⟩ := HP7.out.ps.cell (by omega)
          cases e
          have h0 := hc 0 (by omega)
          have h1 := hc 1 (by omega)
          rw [HRZ.out] at h0 h1
          exact ⟨h0, h1⟩
        obtain ⟨⟨z0, z1⟩, ⟨z2, z3⟩⟩ := hcz
        have f0 : w7.frozen? ⟨gv, 0, none⟩ = false := by simp [World.frozen?, hbv]
        have f1 : w7.frozen? ⟨gv, 1, none⟩ = false := by simp [World.frozen?, hbv]
        have f2 : w7.frozen? ⟨gv, 2, none⟩ = false := by simp [World.frozen?, hbv]
        have f3 : w7.frozen? ⟨gv, 3, none⟩ = false := by simp [World.frozen?, hbv]
        have l0 : (0 : Int) < Z.length := by omega
        have l1 : (1 : Int) < Z.length := by omega
        have l2 : 0 < Z.length := by omega
        have l3 : 1 < Z.length := by omega
        go_wp2_with fail
        go_region
        clear z0 z1 z2 z3 f0 f1 f2 f3
        have hsw := swap_pairs (a := (0, 1)) (b := (0, 2)) (r := rz) ((show ∀ l, Z = l → PairsAt w7 w6.heap.size w7.heap.size (some ⟨gv, 0, none⟩) Z.length l by intro l e; subst e; exact HP7.out.ps) _ HRZ.out)
        have hsz7 : (w7.setCell ⟨gv, 0, none⟩ (.int .i64 0)).heap.size = w7.heap.size := by simp [World.setCell]
        have hBs : Below w6.heap.size w7 ((((w7.setCell ⟨gv, 0, none⟩ (.int .i64 0)).setCell ⟨gv, 1, none⟩ (.int .i64 2)).setCell ⟨gv, 2, none⟩ (.int .i64 0)).setCell ⟨gv, 3, none⟩ (.int .i64 1)) :=
          ((((Below.refl _ w7).setCell (p := ⟨gv, 0, none⟩) hgv _).setCell (p := ⟨gv, 1, none⟩) hgv _).setCell (p := ⟨gv, 2, none⟩) hgv _).setCell (p := ⟨gv, 3, none⟩) hgv _
        have egl : ((((w7.setCell ⟨gv, 0, none⟩ (.int .i64 0)).setCell ⟨gv, 1, none⟩ (.int .i64 2)).setCell ⟨gv, 2, none⟩ (.int .i64 0)).setCell ⟨gv, 3, none⟩ (.int .i64 1)).heap[gl]? = w7.heap[gl]? :=
          (Below.heap_setCell _ _ _ _ hne).trans ((Below.heap_setCell _ _ _ _ hne).trans ((Below.heap_setCell _ _ _ _ hne).trans (Below.heap_setCell _ _ _ _ hne)))
        have esz : ((((w7.setCell ⟨gv, 0, none⟩ (.int .i64 0)).setCell ⟨gv, 1, none⟩ (.int .i64 2)).setCell ⟨gv, 2, none⟩ (.int .i64 0)).setCell ⟨gv, 3, none⟩ (.int .i64 1)).heap.size = w7.heap.size := by simp [World.setCell]
        generalize (((w7.setCell ⟨gv, 0, none⟩ (.int .i64 0)).setCell ⟨gv, 1, none⟩ (.int .i64 2)).setCell ⟨gv, 2, none⟩ (.int .i64 0)).setCell ⟨gv, 3, none⟩ (.int .i64 1) = w8 at *
        have hga := grownBy_trans (World.grownBy_alloc w8 (.cells #[.slice (some ⟨gl, 0, none⟩) k du, .slice (some ⟨gv, 0, none⟩) Z.length dv] 25) none) (grownBy_drewN _ 1 none)
        have hbx := box2 (grownBy_drewN (w8.alloc (.cells #[.slice (some ⟨gl, 0, none⟩) k du, .slice (some ⟨gv, 0, none⟩) Z.length dv] 25)) 1 none)
        rw [esz] at hbx
        have hBel := hBs.trans (grownBy_below hga |>.mono (by omega))
        have HEN : Hid (SEnv w (w8.alloc (.cells #[.slice (some ⟨gl, 0, none⟩) k du, .slice (some ⟨gv, 0, none⟩) Z.length dv] 25)).drew w4.heap.size w7.heap.size (.slice pu k cu) (.slice pv Z.length cv) (.slice (some ⟨gl, 0, none⟩) k du) (.slice (some ⟨gv, 0, none⟩) Z.length dv) pu pv k Z.length (labs k) Z _ _ (some ⟨gl, 0, none⟩) (some ⟨gv, 0, none⟩) k Z.length (labs k) ((0, 2) :: (0, 1) :: rz) w6.heap.size w7.heap.size) := Lib.hid
          ⟨grownBy_belowN HG7.out hBel (by have := HG6.out.size; omega), HT.out, HO7.out.below hBel (by omega), ⟨(strs_blk HP7.out.ls egl hgl hgl7 (by omega)).calm hga, hsw.calm hga⟩,
            (hBel.cell (p := ⟨w4.heap.size, 0, none⟩) hz6).trans HB7.out.1, (hBel.cell (p := ⟨w4.heap.size, 1, none⟩) hz6).trans HB7.out.2, hbx.1, hbx.2.1,
            by simp; omega, by simp; omega⟩
        have HC10 : Hid (chk (labs k) ((0, 2) :: (0, 1) :: rz) = 10) := Lib.hid (turn_chk HLB.out)
        have HNE : Hid (Z ≠ (0, 2) :: (0, 1) :: rz) := Lib.hid (by rw [← HZZ.out]; exact turn_ne (by rw [HZZ.out]; exact HRZ.out))
        clear hsw hsz7 hBs egl esz hga hbx hBel
        generalize (w8.alloc (.cells #[.slice (some ⟨gl, 0, none⟩) k du, .slice (some ⟨gv, 0, none⟩) Z.length dv] 25)).drew = w9 at *
        have p0 := HEN.out.p0
        have p1 := HEN.out.p1
        go_wp2_with fail
        refine (check_c _ _ _ _ _ _ _ _ _ _ 10 _ (by exact HEN.out.p) (by omega) HC10.out).mono ?_
        rintro e wA ⟨rfl, hgA⟩
        have HEA := Lib.hid (HEN.out.calm hgA)
        clear hgA p0 p1
        have p0 := HEA.out.p0
        have p1 := HEA.out.p1
        have o0 := HEA.out.o0
        have o1 := HEA.out.o1
        go_wp2_with fail
        refine (objSame_r _ _ _ _ _ _ _ _ _ _ _ _ _ _ _ _ _ _ _ _ false _ (by exact HEA.out.o) (by exact HEA.out.p) (by omega) (by omega) (by rw [decide_eq_false HNE.out, Bool.and_false])).mono ?_
        rintro e wB ⟨rfl, hgB⟩
        have HEB := Lib.hid (HEA.out.calm hgB)
        clear hgB p0 p1 o0 o1
        have p0 := HEB.out.p0
        have p1 := HEB.out.p1
        go_wp2_with fail
        refine (objRel_c _ _ _ _ _ _ _ _ _ _ _ (by exact HEB.out.p) (by omega)).mono ?_
        rw [objN_no HC10.out]
        rintro e wC ⟨rp, rfl, hrp, hgC⟩
        have HEC := Lib.hid (HEB.out.calm hgC)
        have HRP := Lib.hid hrp
        clear hgC hrp p0 p1
        go_wp2_with fail
        refine (relLen_c _ _ _ 0 _ _ (by exact HRP.out)).mono ?_
        rintro e wD ⟨rfl, h9⟩
        subst wD
        have o0 := HEC.out.o0
        have o1 := HEC.out.o1
        go_wp2_with fail
        refine (is_c _ _ _ _ _ _ _ _ _ _ true _ (by exact HEC.out.o) (by omega) (by rw [HCK.out]; rfl)).mono ?_
        rintro e wE ⟨rfl, hgE⟩
        have HEE := Lib.hid (HEC.out.calm hgE)
        clear hgE o0 o1
        have o0 := HEE.out.o0
        have o1 := HEE.out.o1
        go_wp2_with fail
        refine (objRel_c _ _ _ _ _ _ _ _ _ _ _ (by exact HEE.out.o) (by omega)).mono ?_
        rw [objN_yes HCK.out (labs_len k), objR_yes HCK.out (labs_len k), ← HZZ.out, upL_ofL]
        rintro e wF ⟨ro, rfl, hro, hgF⟩
        have HGF := Lib.hid (HEE.out.calm hgF).g
        have HRO := Lib.hid hro
        clear hgF hro o0 o1
        go_wp2_with fail
        refine (isTotal_c _ _ _ k _ _ (by exact HRO.out)).mono ?_
        rw [upL_tot]
        rintro e wG ⟨rfl, hgG⟩
        have HGG := Lib.hid (grownBy_trans HGF.out hgG)
        clear hgG
        go_wp2
        go_ret
        exact ⟨rfl, HGG.out⟩
      · have s0 : ((t : Int) % 4 == 0) = false := by simp; omega
        have s1 : ((t : Int) % 4 == 1) = false := by simp; omega
        have s2 : ((t : Int) % 4 == 2) = true := by simp; omega
        clear h4
        go_wp2_with (at_builtin; refine wpList_append_own _ rfl _ _ 23 rfl w6.heap.size 38 j0 (.agg #[.int .i64 0, .int .i64 0]) 2 16 Tryd.underlying23 jn jz0 jz1 jz2 rfl (by decide) (.slice (some ⟨gv, 0, none⟩) Z.length dv) Z.length (pcells Z) rfl HOWP.out ⟨w7.heap.size + 1, 0, none⟩ 1 1 [.int .i64 k, .int .i64 0] rfl rfl (cell_two_new' _ _ _ _ _) (pcells_one1 _ _) (by unfold maxLen; omega) (by omega) (by simp only [World.size_alloc]; omega) ?_; intro v' w9 hown' hgrow _; have h1 : w9.ownsRow w6.heap.size 38 2 v' (Z ++ [((k : Int), 0)]).length (pcells (Z ++ [((k : Int), 0)])) := (by rw [pcells_snoc, List.length_append]; exact hown'); obtain ⟨p', c', rfl, hp9⟩ := pairsAt_own h1; have hx1 : w9.cell? ⟨w7.heap.size, 1, none⟩ = some (.slice (some ⟨gv, 0, none⟩) Z.length dv) := (World.cell?_of_block (a := ⟨w7.heap.size, 1, none⟩) (hgrow.block w7.heap.size (by simp only [World.size_alloc]; omega) (by intro e; simp [Value.ownBlock] at e; omega))).trans (by simp); have hx2 : w9.frozen? ⟨w7.heap.size, 1, none⟩ = false := (World.frozen?_of_block (a := ⟨w7.heap.size, 1, none⟩) (hgrow.block w7.heap.size (by simp only [World.size_alloc]; omega) (by intro e; simp [Value.ownBlock] at e; omega))).trans (by simp); have hx0 : w9.cell? ⟨w7.heap.size, 0, none⟩ = some (.slice (some ⟨gl, 0, none⟩) k du) := (World.cell?_of_block (a := ⟨w7.heap.size, 0, none⟩) (hgrow.block w7.heap.size (by simp only [World.size_alloc]; omega) (by intro e; simp [Value.ownBlock] at e; omega))).trans (by simp))
        have hgr9 : ((w7.alloc (.cells #[.slice (some ⟨gl, 0, none⟩) k du, .slice (some ⟨gv, 0, none⟩) Z.length dv] 25)).alloc (.cells #[.int .i64 k, .int .i64 0] 38)).grownBy w9 (some gv) := hgrow
        have hbx9 : w9.heap[w7.heap.size]? = some (.cells #[.slice (some ⟨gl, 0, none⟩) k du, .slice (some ⟨gv, 0, none⟩) Z.length dv] 25 (0, 0)) := (hgr9.block w7.heap.size (by simp only [World.size_alloc]; omega) (by intro e; cases e; omega)).trans (((World.grownBy_alloc _ _ none).block w7.heap.size (by simp only [World.size_alloc]; omega) (by simp)).trans (World.alloc_heap_new w7 _))
        have hBel : Below w6.heap.size w7 (w9.setCell ⟨w7.heap.size, 1, none⟩ (.slice p' (Z.length + 1) c')) :=
          ((((Below.refl _ w7).alloc hz67 _).alloc (by simp only [World.size_alloc]; omega) _).grown hgr9 (by simp only [World.size_alloc]; omega) (fun j e => by cases e; exact hgv)).setCell (p := ⟨w7.heap.size, 1, none⟩) hz67 _
        have hzz9 : w7.heap.size < (w9.setCell ⟨w7.heap.size, 1, none⟩ (.slice p' (Z.length + 1) c')).heap.size := by
          have := hgr9.size
          simp only [World.size_alloc] at this
          simp [World.setCell]
          omega
        have egl : (w9.setCell ⟨w7.heap.size, 1, none⟩ (.slice p' (Z.length + 1) c')).heap[gl]? = w7.heap[gl]? :=
          (Below.heap_setCell _ _ _ _ (by show gl ≠ w7.heap.size; omega)).trans ((hgr9.block gl (by simp only [World.size_alloc]; omega) (fun e => by cases e; exact hne rfl)).trans (((World.grownBy_alloc _ _ none).block gl (by simp only [World.size_alloc]; omega) (by simp)).trans ((World.grownBy_alloc w7 _ none).block gl hgl7 (by simp))))
        have h12 := ownsRow_setOther h1 hbx9 (by decide) 1 (.slice p' (Z.length + 1) c')
        obtain ⟨p2, c2, e2, hp12⟩ := pairsAt_own h12
        cases e2
        have HEN : Hid (SEnv w (w9.setCell ⟨w7.heap.size, 1, none⟩ (.slice p' (Z.length + 1) c')) w4.heap.size w7.heap.size (.slice pu k cu) (.slice pv Z.length cv) (.slice (some ⟨gl, 0, none⟩) k du) (.slice p' (Z.length + 1) c') pu pv k Z.length (labs k) Z _ _ (some ⟨gl, 0, none⟩) p' k (Z.length + 1) (labs k) (Z ++ [((k : Int), 0)]) w6.heap.size (w9.setCell ⟨w7.heap.size, 1, none⟩ (.slice p' (Z.length + 1) c')).heap.size) := Lib.hid
          ⟨grownBy_belowN HG7.out hBel (by have := HG6.out.size; omega), HT.out, HO7.out.below hBel (by omega), ⟨strs_blk HP7.out.ls egl hgl (by omega) (Nat.le_refl _), by simpa using hp12⟩,
            (hBel.cell (p := ⟨w4.heap.size, 0, none⟩) hz6).trans HB7.out.1, (hBel.cell (p := ⟨w4.heap.size, 1, none⟩) hz6).trans HB7.out.2,
            (World.cell?_setCell_other _ _ _ _ (by simp)).trans hx0, World.cell?_setCell_same' _ _ _ (by rw [hx1]; rfl), by have := hBel.size; omega, hzz9⟩
        have HC10 : Hid (chk (labs k) (Z ++ [((k : Int), 0)]) = 10) := Lib.hid (more_chk HLB.out (labs_len k))
        have hm7 : Z.length + 1 ≤ 1000000 := by omega
        clear hgrow hown' h1 hp9 hx0 hx1 hx2 hgr9 hbx9 hBel hzz9 egl h12 hp12
        refine (check_c _ _ _ _ _ _ _ _ _ _ 10 _ (by exact HEN.out.p) (by omega) HC10.out).mono ?_
        rintro e wA ⟨rfl, hgA⟩
        have HEA := Lib.hid (HEN.out.calm hgA)
        clear hgA
        have p0 := HEA.out.p0
        have p1 := HEA.out.p1
        have o0 := HEA.out.o0
        have o1 := HEA.out.o1
        go_wp2_with fail
        refine (objSame_r _ _ _ _ _ _ _ _ _ _ _ _ _ _ _ _ _ _ _ _ false _ (by exact HEA.out.o) (by exact HEA.out.p) (by omega) (by omega) (by rw [decide_eq_false more_ne, Bool.and_false])).mono ?_
        rintro e wB ⟨rfl, hgB⟩
        have HEB := Lib.hid (HEA.out.calm hgB)
        clear hgB p0 p1 o0 o1
        have p0 := HEB.out.p0
        have p1 := HEB.out.p1
        go_wp2_with fail
        refine (objRel_c _ _ _ _ _ _ _ _ _ _ _ (by exact HEB.out.p) (by omega)).mono ?_
        rw [objN_no HC10.out]
        rintro e wC ⟨rp, rfl, hrp, hgC⟩
        have HEC := Lib.hid (HEB.out.calm hgC)
        have HRP := Lib.hid hrp
        clear hgC hrp p0 p1
        go_wp2_with fail
        refine (relLen_c _ _ _ 0 _ _ (by exact HRP.out)).mono ?_
        rintro e wD ⟨rfl, h9⟩
        subst wD
        have o0 := HEC.out.o0
        have o1 := HEC.out.o1
        go_wp2_with fail
        refine (is_c _ _ _ _ _ _ _ _ _ _ true _ (by exact HEC.out.o) (by omega) (by rw [HCK.out]; rfl)).mono ?_
        rintro e wE ⟨rfl, hgE⟩
        have HEE := Lib.hid (HEC.out.calm hgE)
        clear hgE o0 o1
        have o0 := HEE.out.o0
        have o1 := HEE.out.o1
        go_wp2_with fail
        refine (objRel_c _ _ _ _ _ _ _ _ _ _ _ (by exact HEE.out.o) (by omega)).mono ?_
        rw [objN_yes HCK.out (labs_len k), objR_yes HCK.out (labs_len k), ← HZZ.out, upL_ofL]
        rintro e wF ⟨ro, rfl, hro, hgF⟩
        have HGF := Lib.hid (HEE.out.calm hgF).g
        have HRO := Lib.hid hro
        clear hgF hro o0 o1
        go_wp2_with fail
        refine (isTotal_c _ _ _ k _ _ (by exact HRO.out)).mono ?_
        rw [upL_tot]
        rintro e wG ⟨rfl, hgG⟩
        have HGG := Lib.hid (grownBy_trans HGF.out hgG)
        clear hgG
        go_wp2
        go_ret
        exact ⟨rfl, HGG.out⟩
      · have s0 : ((t : Int) % 4 == 0) = false := by simp; omega
        have s1 : ((t : Int) % 4 == 1) = false := by simp; omega
        have s2 : ((t : Int) % 4 == 2) = false := by simp; omega
        clear h4
        have hl0 : w7.cell? ⟨gl, 0, none⟩ = some (.string ((labs k)[0]?.getD .empty)) := by
          obtain ⟨bb, off, e, _, _, _, hc⟩ := HP7.out.ls.cell (by omega)
          cases e
          exact hc 0 (by omega)
        have f0 : w7.frozen? ⟨gl, 0, none⟩ = false := by simp [World.frozen?, hbl]
        have hmk : ∀ w : World, (Instr.makeSlice 52 (.int .i64 61) (.int .i64 61)).run Tryd.prog w = .ok (.slice (some ⟨w.heap.size, 0, none⟩) 61 61) (w.alloc (.cells (madeCells #[.int .u8 0] 61) 5)) := fun (w : World) => run_make_row' (P := Tryd.prog) 52 5 (.int .u8 0) 1 Tryd.underlying52 Tryd.infoU5 rfl .i64 .i64 61 (by decide) (by decide) w
        have hl2 : 0 < k := by omega
        have hcv61 := conv_61 (w7.alloc (.cells #[.slice (some ⟨gl, 0, none⟩) k du, .slice (some ⟨gv, 0, none⟩) Z.length dv] 25))
        rw [World.size_alloc] at hcv61
        go_wp2_with fail
        go_region
        obtain ⟨lr, hlr⟩ := labs_cons hl2
        have HLR := Lib.hid hlr
        have hlrl : lr.length < 40 := by have := labs_len k; rw [hlr] at this; simp at this; omega
        have hsw := set_str (s := s61) ((show ∀ l, labs k = l → StrsAt w7 w6.heap.size w7.heap.size (some ⟨gl, 0, none⟩) k l by intro l e; subst e; exact HP7.out.ls) _ hlr)
        have hBs : Below w6.heap.size w7 (w7.setCell ⟨gl, 0, none⟩ (.string s61)) := (Below.refl _ w7).setCell (p := ⟨gl, 0, none⟩) hgl _
        have egv : (w7.setCell ⟨gl, 0, none⟩ (.string s61)).heap[gv]? = w7.heap[gv]? := Below.heap_setCell _ _ _ _ (fun e => hne e.symm)
        have esz : (w7.setCell ⟨gl, 0, none⟩ (.string s61)).heap.size = w7.heap.size := by simp [World.setCell]
        clear hlr hcv61 hmk
        generalize w7.setCell ⟨gl, 0, none⟩ (.string s61) = w8 at *
        have hga := grownBy_trans (World.grownBy_alloc w8 (.cells #[.slice (some ⟨gl, 0, none⟩) k du, .slice (some ⟨gv, 0, none⟩) Z.length dv] 25) none) (grownBy_trans (World.grownBy_alloc _ (.cells (madeCells #[.int .u8 0] 61) 5) none) (grownBy_drewN _ 1 none))
        have hbx := box2 (grownBy_trans (World.grownBy_alloc (w8.alloc (.cells #[.slice (some ⟨gl, 0, none⟩) k du, .slice (some ⟨gv, 0, none⟩) Z.length dv] 25)) (.cells (madeCells #[.int .u8 0] 61) 5) none) (grownBy_drewN _ 1 none))
        rw [esz] at hbx
        have hBel := hBs.trans (grownBy_below hga |>.mono (by omega))
        have HEN : Hid (SEnv w ((w8.alloc (.cells #[.slice (some ⟨gl, 0, none⟩) k du, .slice (some ⟨gv, 0, none⟩) Z.length dv] 25)).alloc (.cells (madeCells #[.int .u8 0] 61) 5)).drew w4.heap.size w7.heap.size (.slice pu k cu) (.slice pv Z.length cv) (.slice (some ⟨gl, 0, none⟩) k du) (.slice (some ⟨gv, 0, none⟩) Z.length dv) pu pv k Z.length (labs k) Z _ _ (some ⟨gl, 0, none⟩) (some ⟨gv, 0, none⟩) k Z.length (s61 :: lr) Z w6.heap.size w7.heap.size) := Lib.hid
          ⟨grownBy_belowN HG7.out hBel (by have := HG6.out.size; omega), HT.out, HO7.out.below hBel (by omega), ⟨hsw.calm hga, (pairs_blk HP7.out.ps egv hgv hgv7 (by omega)).calm hga⟩,
            (hBel.cell (p := ⟨w4.heap.size, 0, none⟩) hz6).trans HB7.out.1, (hBel.cell (p := ⟨w4.heap.size, 1, none⟩) hz6).trans HB7.out.2, hbx.1, hbx.2.1,
            by simp; omega, by simp; omega⟩
        have HC10 : Hid (chk (s61 :: lr) Z = 10) := Lib.hid (long_chk hlrl (by rw [s61_size]; decide) Z)
        have HNE : Hid (labs k ≠ s61 :: lr) := Lib.hid (by rw [HLR.out]; exact long_ne (by rw [s61_size]; decide) (labS_size 0))
        clear hsw hBs egv esz hga hbx hBel hl0 f0
        generalize ((w8.alloc (.cells #[.slice (some ⟨gl, 0, none⟩) k du, .slice (some ⟨gv, 0, none⟩) Z.length dv] 25)).alloc (.cells (madeCells #[.int .u8 0] 61) 5)).drew = w9 at *
        have p0 := HEN.out.p0
        have p1 := HEN.out.p1
        go_wp2_with fail
        refine (check_c _ _ _ _ _ _ _ _ _ _ 10 _ (by exact HEN.out.p) (by omega) HC10.out).mono ?_
        rintro e wA ⟨rfl, hgA⟩
        have HEA := Lib.hid (HEN.out.calm hgA)
        clear hgA p0 p1
        have p0 := HEA.out.p0
        have p1 := HEA.out.p1
        have o0 := HEA.out.o0
        have o1 := HEA.out.o1
        go_wp2_with fail
        refine (objSame_r _ _ _ _ _ _ _ _ _ _ _ _ _ _ _ _ _ _ _ _ false _ (by exact HEA.out.o) (by exact HEA.out.p) (by omega) (by omega) (by rw [decide_eq_false HNE.out, Bool.false_and])).mono ?_
        rintro e wB ⟨rfl, hgB⟩
        have HEB := Lib.hid (HEA.out.calm hgB)
        clear hgB p0 p1 o0 o1
        have p0 := HEB.out.p0
        have p1 := HEB.out.p1
        go_wp2_with fail
        refine (objRel_c _ _ _ _ _ _ _ _ _ _ _ (by exact HEB.out.p) (by omega)).mono ?_
        rw [objN_no HC10.out]
        rintro e wC ⟨rp, rfl, hrp, hgC⟩
        have HEC := Lib.hid (HEB.out.calm hgC)
        have HRP := Lib.hid hrp
        clear hgC hrp p0 p1
        go_wp2_with fail
        refine (relLen_c _ _ _ 0 _ _ (by exact HRP.out)).mono ?_
        rintro e wD ⟨rfl, h9⟩
        subst wD
        have o0 := HEC.out.o0
        have o1 := HEC.out.o1
        go_wp2_with fail
        refine (is_c _ _ _ _ _ _ _ _ _ _ true _ (by exact HEC.out.o) (by omega) (by rw [HCK.out]; rfl)).mono ?_
        rintro e wE ⟨rfl, hgE⟩
        have HEE := Lib.hid (HEC.out.calm hgE)
        clear hgE o0 o1
        have o0 := HEE.out.o0
        have o1 := HEE.out.o1
        go_wp2_with fail
        refine (objRel_c _ _ _ _ _ _ _ _ _ _ _ (by exact HEE.out.o) (by omega)).mono ?_
        rw [objN_yes HCK.out (labs_len k), objR_yes HCK.out (labs_len k), ← HZZ.out, upL_ofL]
        rintro e wF ⟨ro, rfl, hro, hgF⟩
        have HGF := Lib.hid (HEE.out.calm hgF).g
        have HRO := Lib.hid hro
        clear hgF hro o0 o1
        go_wp2_with fail
        refine (isTotal_c _ _ _ k _ _ (by exact HRO.out)).mono ?_
        rw [upL_tot]
        rintro e wG ⟨rfl, hgG⟩
        have HGG := Lib.hid (grownBy_trans HGF.out hgG)
        clear hgG
        go_wp2
        go_ret
        exact ⟨rfl, HGG.out⟩

end Go.Proofs.YtdolcdededmlhaaDoor
