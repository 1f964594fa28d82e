/- Package push: classes, which hands over each class with its place; a law for a range over a function that tells the body of memory which it made. -/
import Derived.Test.YtihkjgiaajgkpaaDoorPusP
namespace Go.Proofs.YtihkjgiaajgkpaaDoor
open Go.RowKit Go.Shelf
attribute [local go_sem] Oper.semAt_some

/-- A range over a function, where the iterator tells the body what comes next and where it lies (Nx), and the body tells the iterator what its round has kept (Kp). No round leaves the loop. -/
theorem rangeTell {F : Fence} {n : Nat} {P : Program} {α : Type} {g : Operand} {ps : Array Tmp} {assign body : Code} {Q : Exit → Act → World → Prop} {a : Act} {w : World}
    (hro : F.round = none) (h1 : 1 ≤ n) {gf : Nat} {lb : Array Value} (hg : a.eval g = .func (.func gf) #[] lb) (hFg : F.fn gf) (eg : ∀ args w, (callFunc gf args).run P w = .ok (.enter gf args) w)
    {encs : α → Array Value} (hps : ∀ x, (encs x).size = ps.size) (I : List α → World → Prop) (hI : OwnFrom w.heap.size I) (h0 : I [] w) (S : List α → Prop)
    (Nx : List α × α → World → Prop) (hNx : OwnFrom w.heap.size Nx)
    (Kp : World → World → Prop) (hKt : ∀ {A B C : World}, Kp A B → Kp B C → Kp A C) (hKb : ∀ (W : World) (l : Nat) (o o' : Obj), w.heap.size ≤ l → W.heap[l]? = some o → o.isCells = false → Kp W (W.putObj l o'))
    (hit : ∀ (l : Nat) (R : World → Prop), (∀ A B, R A → A.grownBy B none → R B) → ∀ W, I [] W → R W →
      (∀ pre x W1, I pre W1 → R W1 → Nx (pre, x) W1 → YieldAt F (n - 1 - 1) P l (encs x) W1 fun e W' => e = .returned (.bool true) ∧ I (pre ++ [x]) W' ∧ R W' ∧ Kp W1 W') →
      CallsIn F (n - 1) P gf (#[.func (.yield l) #[] #[]] ++ lb) W fun e W' => (∃ v, e = .returned v) ∧ ∃ xs, S xs ∧ I xs W' ∧ R W')
    (a₁ : α → Act)
    (hassign : ∀ (l : Nat) (x : α) (W : World) (K : Act → World → Prop), K (a₁ x) W →
      assign.wpIn (F.inRound l) (n - 1 - 1) P (Exit.then K (fun _ _ _ => False)) { tmps := (ps.zip (encs x)).foldl (fun t (p, v) => t.setIfInBounds p v) a.tmps, defers := [] } W)
    (hbody : ∀ (l : Nat) (pre : List α) (x : α) (W : World), w.heap.size ≤ l → (∃ r, W.heap[l]? = some (.loop r)) → I pre W → Nx (pre, x) W → body.wpIn (F.inRound l) (n - 1 - 1) P (fun e _ W' => e = .normal ∧ KeepsFrom w.heap.size W W' ∧ I (pre ++ [x]) W' ∧ Kp W W') (a₁ x) W)
    (hdone : ∀ (D : Nat) (xs : List α) (W : World), w.heap.size ≤ D → S xs → I xs W → W.heap[D]? = some (.deferred (some [])) → Q .normal { a with defers := { target := .collected D, args := #[] } :: a.defers } W) :
    (Code.rangeFunc g ps assign body).wpIn F n P Q a w := by
  refine wpIn_rangeFunc fun fn hfn => ?_
  rw [hro]
  -- the record of the loop, ready, and as it lies
  let L0 : Loop := { state := .ready, pending := none, fn, tmps := a.tmps, params := ps, assign, body, defers := w.heap.size }
  let Rd : World → Prop := fun W => W.heap[w.heap.size]? = some (.deferred (some [])) ∧ W.heap[w.heap.size + 1]? = some (.loop L0)
  have hR : ∀ A B, Rd A → A.grownBy B none → Rd B := fun A B h hg => ⟨(hg.block _ (Array.getElem?_eq_some_iff.1 h.1).1 (by simp)).trans h.1, (hg.block _ (Array.getElem?_eq_some_iff.1 h.2).1 (by simp)).trans h.2⟩
  have hst : Rd ((w.alloc (.deferred (some []))).alloc (.loop L0)) := by
    refine ⟨(heap_alloc_old _ _ (by simp)).trans (heap_alloc_new w _), ?_⟩
    have := heap_alloc_new (w.alloc (.deferred (some []))) (.loop L0)
    rwa [World.size_alloc] at this
  have hI1 : I [] ((w.alloc (.deferred (some []))).alloc (.loop L0)) := hI.alloc _ (hI.alloc _ h0)
  refine ⟨w.heap.size + 1, [{ target := .collected w.heap.size, args := #[] }], (w.alloc (.deferred (some []))).alloc (.loop L0), { target := .fn (.func gf) lb, args := #[.func (.yield (w.heap.size + 1)) #[] #[]] }, (w.alloc (.deferred (some []))).alloc (.loop L0), gf,
    #[.func (.yield (w.heap.size + 1)) #[] #[]] ++ lb, (w.alloc (.deferred (some []))).alloc (.loop L0), run_enterLoop_outer _ _ _ _ _, ?_, ?_, ?_, fun _ => h1, ?_⟩
  · simp only [resolve, hg]
    simp [go_sem, L0]
  · intro f' hf'
    simp [Target.leads] at hf'
    subst hf'
    exact hFg
  · simp [invoke, go_sem, eg]
  · refine (hit (w.heap.size + 1) Rd hR _ hI1 hst ?_).mono ?_
    · intro pre x W hi hr hn
      refine ⟨fn, _, assign, body, run_yield (r := L0) hr.2 (hps x), roundIn_of_wpIn hfn (hassign _ x W _ ⟨_, run_beginRound hr.2 rfl, ?_⟩)⟩
      have hlt := (Array.getElem?_eq_some_iff.1 hr.2).1
      have hb : (W.putObj (w.heap.size + 1) (.loop { L0 with state := .busy })).heap[w.heap.size + 1]? = some (.loop { L0 with state := .busy }) := World.putObj_heap_same hlt
      have hd : (W.putObj (w.heap.size + 1) (.loop { L0 with state := .busy })).heap[w.heap.size]? = some (.deferred (some [])) := (World.putObj_heap_other (by omega)).trans hr.1
      have hk1 := hKb W (w.heap.size + 1) _ (.loop { L0 with state := .busy }) (by omega) hr.2 rfl
      refine wpIn_mono (hbody (w.heap.size + 1) pre x _ (by omega) ⟨_, hb⟩ (hI.putObj _ hi (by omega) hr.2 rfl) (hNx.putObj _ hn (by omega) hr.2 rfl)) ?_
      rintro e a3 W3 ⟨rfl, hk, hi3, hkp⟩
      have hb3 := hk.same _ _ (by omega) hb rfl
      have hd3 := hk.same _ _ (Nat.le_refl _) hd rfl
      exact ⟨_, _, run_endRound none hb3, rfl, hI.putObj _ hi3 (by omega) hb3 rfl, ⟨(World.putObj_heap_other (by omega)).trans hd3, World.putObj_heap_same (Array.getElem?_eq_some_iff.1 hb3).1⟩, hKt hk1 (hKt hkp (hKb W3 _ _ _ (by omega) hb3 rfl))⟩
    · rintro e W2 ⟨⟨v, rfl⟩, xs, hS, hi, hr⟩
      exact ⟨none, _, run_endLoop hr.2 (by simp [L0]), hdone _ xs _ (Nat.le_refl _) hS (hI.putObj _ hi (by omega) hr.2 rfl) ((World.putObj_heap_other (by omega)).trans hr.1)⟩

/-- Cells from n₀ on, but strings, lie as they lay. -/
def KeepG (n₀ : Nat) (W W' : World) : Prop := W.heap.size ≤ W'.heap.size ∧ ∀ (g : Nat) (cur : Array Value) (t : TypeId), n₀ ≤ g → t ≠ 9 → W.heap[g]? = some (.cells cur t (0, 0)) → W'.heap[g]? = some (.cells cur t (0, 0))
theorem KeepG.refl (n₀ : Nat) (W : World) : KeepG n₀ W W := ⟨Nat.le_refl _, fun _ _ _ _ _ h => h⟩
theorem KeepG.trans {n₀ : Nat} {A B C : World} (h : KeepG n₀ A B) (k : KeepG n₀ B C) : KeepG n₀ A C := ⟨Nat.le_trans h.1 k.1, fun g cur t h1 h2 h3 => k.2 g cur t h1 h2 (h.2 g cur t h1 h2 h3)⟩
theorem KeepG.calm {n₀ : Nat} {W W' : World} (h : W.grownBy W' none) : KeepG n₀ W W' := ⟨h.size, fun g cur t _ _ hg => (h.block g (Array.getElem?_eq_some_iff.1 hg).1 (by simp)).trans hg⟩
theorem KeepG.below {n₀ r : Nat} {W W' : World} (h : W.grownBy W' (some r)) (hr : r < n₀) : KeepG n₀ W W' := ⟨h.size, fun g cur t h1 _ hg => (h.block g (Array.getElem?_eq_some_iff.1 hg).1 (by intro e; injection e; omega)).trans hg⟩
theorem KeepG.put {n₀ : Nat} (W : World) (l : Nat) (o o' : Obj) (hl : W.heap[l]? = some o) (ho : o.isCells = false) : KeepG n₀ W (W.putObj l o') := by
  have hg := grownBy_putObj' W l o'
  refine ⟨hg.size, fun g cur t _ _ h => (hg.block g (Array.getElem?_eq_some_iff.1 h).1 ?_).trans h⟩
  intro e
  injection e with e
  subst e
  rw [h] at hl
  cases hl
  cases ho
theorem KeepG.own {n₀ base n size : Nat} {v : Value} {xs : List Value} {W W' : World} (hr : W.ownsRow base 9 size v n xs) (h : W.grownBy W' v.ownBlock) : KeepG n₀ W W' := by
  refine ⟨h.size, fun g cur t _ ht hg => (h.block g (Array.getElem?_eq_some_iff.1 hg).1 ?_).trans hg⟩
  rcases hr.2 with ⟨rfl, _⟩ | ⟨g', cap, cur', rfl, _, hgb, _⟩
  · simp [Value.ownBlock]
  · intro e
    obtain rfl : g = g' := by simpa [Value.ownBlock] using e
    rw [hg] at hgb
    simp at hgb
    exact ht hgb.2

theorem ownsRow_keepG {n₀ base n size : Nat} {e : TypeId} {v : Value} {xs : List Value} {W W' : World} (h : W.ownsRow base e size v n xs) (hb : n₀ ≤ base) (he : e ≠ 9) (hk : KeepG n₀ W W') : W'.ownsRow base e size v n xs := by
  refine ⟨h.1, ?_⟩
  rcases h.2 with h1 | ⟨g, cap, cur, e1, h1, h2, h3⟩
  · exact .inl h1
  · exact .inr ⟨g, cap, cur, e1, h1, hk.2 g cur e (by omega) he h2, h3⟩
theorem Grid.keepG {n₀ base : Nat} {W W' : World} {v : Value} {ls : List (List Nat)} {ib ic : Nat → Nat} (h : Grid W base v ls ib ic) (hb : n₀ ≤ base) (hk : KeepG n₀ W W') : Grid W' base v ls ib ic :=
  ⟨ownsRow_keepG h.out hb (by decide) hk, fun k l hl => ownsRow_keepG (h.row k l hl) hb (by decide) hk, h.ap⟩

/-- A class with its place, as it is handed over. -/
def encC (x : Nat × Value) : Array Value := #[.int .i64 (x.1 : Nat), x.2]
/-- What comes next, and where it lies. -/
def NxC (n₀ : Nat) (L : List Nat) (s : List (Nat × Value) × (Nat × Value)) (W : World) : Prop :=
  s.2.1 = s.1.length ∧ ∃ l g c, (circL (eqC L) L.length)[s.1.length]? = some l ∧ s.2.2 = .slice (some ⟨g, 0, none⟩) l.length c ∧ RowI W n₀ g c l
theorem nxC_own (B n₀ : Nat) (L : List Nat) : OwnFrom B (NxC n₀ L) := by
  rintro s W W' row ⟨h1, l, g, c, h2, h3, h4⟩ hg hr
  refine ⟨h1, l, g, c, h2, h3, h4.kept hg ?_⟩
  intro e
  obtain ⟨_, o, ho, hc⟩ := hr g e
  obtain ⟨c', fz, hk⟩ := h4.kind
  rw [hk] at ho
  cases ho
  cases hc

set_option maxRecDepth 100000 in
set_option maxHeartbeats 4000000 in
theorem classes1_in (n : Nat) (hn : 1 ≤ n) (l Bc n₀ lo hi b : Nat) (L : List Nat) (I : List (Nat × Value) → World → Prop) (R : World → Prop)
    (hab : ∀ pre A B, I pre A → A.grownBy B none → I pre B) (hR : ∀ A B, R A → A.grownBy B none → R B)
    (hU : ∀ W, I [] W → IsUn W lo hi b L ∧ W.cell? ⟨Bc, 0, none⟩ = some (.pointer (some ⟨b, 0, none⟩)) ∧ n₀ ≤ W.heap.size)
    (hY : ∀ pre x W, I pre W → R W → NxC n₀ L (pre, x) W → YieldAt Fence.wide (n - 1) Tryd.prog l (encC x) W fun e W' => e = .returned (.bool true) ∧ I (pre ++ [x]) W' ∧ R W' ∧ KeepG n₀ W W')
    (W : World) (h0 : I [] W) (hr0 : R W) :
    CallsIn Fence.wide n Tryd.prog 72 #[.func (.yield l) #[] #[], .pointer (some ⟨Bc, 0, none⟩)] W fun e W' => (∃ v, e = .returned v) ∧ ∃ xs, xs.length = (circL (eqC L) L.length).length ∧ I xs W' ∧ R W' := by
  obtain ⟨u0, cb, hsz⟩ := hU W h0
  have his := u0.is
  have HL1 : Hid ((circL (eqC L) L.length).length ≤ L.length) := Lib.hid (by rw [circ_len7 his.1]; exact cntR_le _ _)
  have hL2 := his.2
  have HY := Lib.hid hY
  have HAB := Lib.hid hab
  have HR := Lib.hid hR
  have H0 := Lib.hid h0
  have U0 := Lib.hid u0
  clear hY hab hR hU h0 u0 his
  refine callsIn_of_wp Tryd.func72 rfl trivial ?_ rfl
  simp only [Tryd.ntmps72, List.size_toArray, List.length_cons, List.length_nil, Nat.reduceAdd, Nat.reduceSub, Array.replicate_succ, Array.replicate_zero, List.push_toArray, List.append_toArray, List.nil_append, List.cons_append]
  gi_wp2_with fail
  refine ⟨trivial, ?_⟩
  refine (callsIn_wide.2 (classesU_c lo hi b L W U0.out)).mono ?_
  rintro e w1 ⟨v, rfl, ⟨ib, ic, hgrid⟩, hg⟩
  have HGR := Lib.hid hgrid
  have HJ := Lib.hid (HAB.out _ _ _ H0.out hg)
  have HRJ := Lib.hid (HR.out _ _ hr0 hg)
  obtain ⟨p, cap, rfl, hp⟩ := hgrid.slice
  have HP := Lib.hid hp
  have hl1 := HL1.out
  clear hgrid hg hp cb hr0
  generalize hls : circL (eqC L) L.length = ls at *
  have HLS := Lib.hid hls
  clear hls
  generalize hm : ls.length = m at *
  have HM := Lib.hid hm
  clear hm
  gi_wp2
  gi_loopw [8] (fun i wr => ∃ pre : List (Nat × Value), pre.length ≤ m ∧ i = .int .i64 (pre.length : Nat) ∧ I pre wr ∧ R wr ∧ Hid (KeepG n₀ w1 wr)) (fun i _ => m - (intOf i).toNat)
  case atStart => exact ⟨[], Nat.zero_le _, rfl, HJ.out, HRJ.out, Lib.hid (KeepG.refl _ _)⟩
  case round =>
    obtain ⟨pre, hk, rfl, hI, hr, HK⟩ := hrel
    generalize hpk : pre.length = k at *
    have HPK := Lib.hid hpk
    clear hpk
    by_cases hkm : k < m
    · have k0 : (0 : Int) ≤ k := by omega
      have k1 : (k : Int) < m := by omega
      obtain ⟨cl, hcl⟩ : ∃ cl, ls[k]? = some cl := ⟨_, List.getElem?_eq_getElem (by rw [HM.out]; exact hkm)⟩
      obtain ⟨g, rfl, hg1, hg2⟩ := HP.out k hkm
      have hgd := HGR.out.keepG hsz HK.out
      have hcell := hgd.head hcl
      have hrow := hgd.row k cl hcl
      obtain ⟨fn, tmps, assign, body, hyy, hRn⟩ := HY.out pre (k, .slice (some ⟨ib k, 0, none⟩) cl.length (ic k)) wr hI hr ⟨HPK.out.symm, cl, _, _, by show (circL (eqC L) L.length)[pre.length]? = _; rw [HLS.out, HPK.out]; exact hcl, rfl, hrow.mono hsz⟩
      unfold encC at hyy
      clear hgd hrow hcl
      gi_wp2_with fail
      refine hRn.mono ?_
      rintro e9 W3 ⟨rfl, hI3, hr3, hk3⟩
      have HK3 := Lib.hid (HK.out.trans hk3)
      have HL3 := Lib.hid (show (pre ++ [(k, Value.slice (some ⟨ib k, 0, none⟩) cl.length (ic k))]).length = k + 1 by rw [List.length_append, HPK.out]; rfl)
      clear hk3
      gi_wp2
      refine ⟨⟨pre ++ [(k, Value.slice (some ⟨ib k, 0, none⟩) cl.length (ic k))], by rw [HL3.out]; omega, by rw [HL3.out]; go_num, hI3, hr3, HK3⟩, by simp [intOf]; omega⟩
    · obtain rfl : k = m := by omega
      gi_wp2
      go_end0
      exact ⟨⟨_, rfl⟩, pre, HPK.out.trans (by first | rfl | exact HM.out.symm | (rw [HLS.out]; exact HM.out.symm)), hI, hr⟩

set_option maxHeartbeats 1000000 in
theorem classes_in (n : Nat) (p : Option Addr) (w : World) :
    CallsIn Fence.wide n Tryd.prog 52 #[.pointer p] w fun e w' => e = .returned (.func (.func 72) #[] #[.pointer (some ⟨w.heap.size, 0, none⟩)]) ∧ w' = w.alloc (.cells #[.pointer p] 70) := by
  refine callsIn_of_wp Tryd.func52 rfl trivial ?_ rfl
  simp only [Tryd.ntmps52, List.size_toArray, List.length_cons, List.length_nil, Nat.reduceAdd, Nat.reduceSub, Array.replicate_succ, Array.replicate_zero, List.push_toArray, List.append_toArray, List.nil_append, List.cons_append]
  gi_wp2
  go_ret
  exact ⟨rfl, rfl⟩

end Go.Proofs.YtihkjgiaajgkpaaDoor
