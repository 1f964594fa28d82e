/- A range over an iterator whose body writes what the iterator reads; unions in memory; the iterator way; Least, shorten. -/
import Derived.Test.YtihkjgiaajgkpaaDoorUniP
import Derived.Test.YtihkjgiaajgkpaaDoorObja
import Derived.Test.YtihkjgiaajgkpaaDoorArra
namespace Go.Proofs.YtihkjgiaajgkpaaDoor
open Go.RowKit Go.Shelf
attribute [local go_sem] Oper.semAt_some

/-- A range over a function, where the iterator is told what the body's rounds have made of the world so far (I), and tells the body what comes next (Nx). No round leaves the loop. -/
theorem rangeTold {F : Fence} {n : Nat} {P : Program} {α : Type} {g : Operand} {ps : Array Tmp} {assign body : Code} {Q : Exit → Act → World → Prop} {a : Act} {w : World}
    (hro : F.round = none) (h1 : 1 ≤ n) {gf : Nat} {lb : Array Value} (hg : a.eval g = .func (.func gf) #[] lb) (hFg : F.fn gf) (eg : ∀ args w, (callFunc gf args).run P w = .ok (.enter gf args) w)
    {encs : α → Array Value} (hps : ∀ x, (encs x).size = ps.size) (I : List α → World → Prop) (hI : OwnFrom w.heap.size I) (h0 : I [] w) (S : List α → Prop) (Nx : List α → α → Prop)
    (hit : ∀ (l : Nat) (R : World → Prop), (∀ A B, R A → A.grownBy B none → R B) → ∀ W, I [] W → R W →
      (∀ pre x W1, I pre W1 → R W1 → Nx pre x → YieldAt F (n - 1 - 1) P l (encs x) W1 fun e W' => e = .returned (.bool true) ∧ I (pre ++ [x]) W' ∧ R W') →
      CallsIn F (n - 1) P gf (#[.func (.yield l) #[] #[]] ++ lb) W fun e W' => (∃ v, e = .returned v) ∧ ∃ xs, S xs ∧ I xs W' ∧ R W')
    (a₁ : α → Act)
    (hassign : ∀ (l : Nat) (x : α) (W : World) (K : Act → World → Prop), K (a₁ x) W →
      assign.wpIn (F.inRound l) (n - 1 - 1) P (Exit.then K (fun _ _ _ => False)) { tmps := (ps.zip (encs x)).foldl (fun t (p, v) => t.setIfInBounds p v) a.tmps, defers := [] } W)
    (hbody : ∀ (l : Nat) (pre : List α) (x : α) (W : World), I pre W → Nx pre x → body.wpIn (F.inRound l) (n - 1 - 1) P (fun e _ W' => e = .normal ∧ KeepsFrom w.heap.size W W' ∧ I (pre ++ [x]) W') (a₁ x) W)
    (hdone : ∀ (D : Nat) (xs : List α) (W : World), w.heap.size ≤ D → S xs → I xs W → W.heap[D]? = some (.deferred (some [])) → Q .normal { a with defers := { target := .collected D, args := #[] } :: a.defers } W) :
    (Code.rangeFunc g ps assign body).wpIn F n P Q a w := by
  refine wpIn_rangeFunc fun fn hfn => ?_
  rw [hro]
  -- the record of the loop, ready, and as it lies
  let L0 : Loop := { state := .ready, pending := none, fn, tmps := a.tmps, params := ps, assign, body, defers := w.heap.size }
  let Rd : World → Prop := fun W => W.heap[w.heap.size]? = some (.deferred (some [])) ∧ W.heap[w.heap.size + 1]? = some (.loop L0)
  have hR : ∀ A B, Rd A → A.grownBy B none → Rd B := fun A B h hg => ⟨(hg.block _ (Array.getElem?_eq_some_iff.1 h.1).1 (by simp)).trans h.1, (hg.block _ (Array.getElem?_eq_some_iff.1 h.2).1 (by simp)).trans h.2⟩
  have hst : Rd ((w.alloc (.deferred (some []))).alloc (.loop L0)) := by
    refine ⟨(heap_alloc_old _ _ (by simp)).trans (heap_alloc_new w _), ?_⟩
    have := heap_alloc_new (w.alloc (.deferred (some []))) (.loop L0)
    rwa [World.size_alloc] at this
  have hI1 : I [] ((w.alloc (.deferred (some []))).alloc (.loop L0)) := hI.alloc _ (hI.alloc _ h0)
  refine ⟨w.heap.size + 1, [{ target := .collected w.heap.size, args := #[] }], (w.alloc (.deferred (some []))).alloc (.loop L0), { target := .fn (.func gf) lb, args := #[.func (.yield (w.heap.size + 1)) #[] #[]] }, (w.alloc (.deferred (some []))).alloc (.loop L0), gf,
    #[.func (.yield (w.heap.size + 1)) #[] #[]] ++ lb, (w.alloc (.deferred (some []))).alloc (.loop L0), run_enterLoop_outer _ _ _ _ _, ?_, ?_, ?_, fun _ => h1, ?_⟩
  · simp only [resolve, hg]
    simp [go_sem, L0]
  · intro f' hf'
    simp [Target.leads] at hf'
    subst hf'
    exact hFg
  · simp [invoke, go_sem, eg]
  · refine (hit (w.heap.size + 1) Rd hR _ hI1 hst ?_).mono ?_
    · intro pre x W hi hr hn
      refine ⟨fn, _, assign, body, run_yield (r := L0) hr.2 (hps x), roundIn_of_wpIn hfn (hassign _ x W _ ⟨_, run_beginRound hr.2 rfl, ?_⟩)⟩
      have hlt := (Array.getElem?_eq_some_iff.1 hr.2).1
      have hb : (W.putObj (w.heap.size + 1) (.loop { L0 with state := .busy })).heap[w.heap.size + 1]? = some (.loop { L0 with state := .busy }) := World.putObj_heap_same hlt
      have hd : (W.putObj (w.heap.size + 1) (.loop { L0 with state := .busy })).heap[w.heap.size]? = some (.deferred (some [])) := (World.putObj_heap_other (by omega)).trans hr.1
      refine wpIn_mono (hbody (w.heap.size + 1) pre x _ (hI.putObj _ hi (by omega) hr.2 rfl) hn) ?_
      rintro e a3 W3 ⟨rfl, hk, hi3⟩
      have hb3 := hk.same _ _ (by omega) hb rfl
      have hd3 := hk.same _ _ (Nat.le_refl _) hd rfl
      exact ⟨_, _, run_endRound none hb3, rfl, hI.putObj _ hi3 (by omega) hb3 rfl, (World.putObj_heap_other (by omega)).trans hd3, World.putObj_heap_same (Array.getElem?_eq_some_iff.1 hb3).1⟩
    · rintro e W2 ⟨⟨v, rfl⟩, xs, hS, hi, hr⟩
      exact ⟨none, _, run_endLoop hr.2 (by simp [L0]), hdone _ xs _ (Nat.le_refl _) hS (hI.putObj _ hi (by omega) hr.2 rfl) ((World.putObj_heap_other (by omega)).trans hr.1)⟩

/-- A union in memory: a box that holds a row of what lies next to each element. -/
structure IsUg (t : TypeId) (w : World) (lo hi b : Nat) (p : Option Addr) (c : Nat) (F : List Nat) : Prop where
  h1 : lo ≤ b
  h2 : b < hi
  h3 : hi ≤ w.heap.size
  small : F.length ≤ 1000
  nil : p = none → c = 0
  box : w.heap[b]? = some (.cells #[.slice p F.length c] t (0, 0))
  row : 0 < F.length → ∃ g, p = some ⟨g, 0, none⟩ ∧ g < hi ∧ RowI w lo g c F
theorem IsUg.cell {t : TypeId} {w : World} {lo hi b c : Nat} {p : Option Addr} {F : List Nat} (h : IsUg t w lo hi b p c F) : w.cell? ⟨b, 0, none⟩ = some (.slice p F.length c) := by
  simp [World.cell?, h.box]
theorem IsUg.calm {t : TypeId} {w w' : World} {lo hi b c : Nat} {p : Option Addr} {F : List Nat} (h : IsUg t w lo hi b p c F) (hg : w.grownBy w' none) : IsUg t w' lo hi b p c F :=
  ⟨h.h1, h.h2, Nat.le_trans h.h3 hg.size, h.small, h.nil, (hg.block b (by have := h.h2; have := h.h3; omega) (by simp)).trans h.box, fun hn => by
    obtain ⟨g, e, k1, k2⟩ := h.row hn
    exact ⟨g, e, k1, k2.calm hg⟩⟩
theorem RowI.block {w w' : World} {base g c : Nat} {l : List Nat} (h : RowI w base g c l) (hb : w'.heap[g]? = w.heap[g]?) : RowI w' base g c l := by
  refine ⟨h.1, ?_⟩
  rcases h.2 with ⟨h0, _⟩ | ⟨g', cap, cur, hv, h1, h2, h3⟩
  · cases h0
  · cases hv
    exact .inr ⟨g, c, cur, rfl, h1, hb.trans h2, h3⟩
theorem IsUg.apart {t : TypeId} {w w' : World} {lo hi lo' hi' b c : Nat} {p : Option Addr} {F : List Nat} (h : IsUg t w lo hi b p c F) (hg : Kept lo' hi' w w') (hd : hi ≤ lo' ∨ hi' ≤ lo) : IsUg t w' lo hi b p c F :=
  ⟨h.h1, h.h2, Nat.le_trans h.h3 hg.size, h.small, h.nil, (hg.block b (by have := h.h2; have := h.h3; omega) (by have := h.h1; have := h.h2; omega)).trans h.box, fun hn => by
    obtain ⟨g, e, k1, k2⟩ := h.row hn
    have := k2.lt
    exact ⟨g, e, k1, k2.block (hg.block g this.2 (by omega))⟩⟩
theorem IsUg.wider {t : TypeId} {w : World} {lo hi lo' hi' b c : Nat} {p : Option Addr} {F : List Nat} (h : IsUg t w lo hi b p c F) (h1 : lo' ≤ lo) (h2 : hi ≤ hi') (h3 : hi' ≤ w.heap.size) : IsUg t w lo' hi' b p c F :=
  ⟨Nat.le_trans h1 h.h1, Nat.lt_of_lt_of_le h.h2 h2, h3, h.small, h.nil, h.box, fun hn => by
    obtain ⟨g, e, k1, k2⟩ := h.row hn
    exact ⟨g, e, Nat.lt_of_lt_of_le k1 h2, k2.mono h1⟩⟩

theorem nx_get {F : List Nat} {e : Nat} (he : e < F.length) : F[e]? = some (nx F e) := by unfold nx; rw [List.getElem?_eq_getElem he]; rfl

/-- The way of whatever number. -/
def wayZ (F : List Nat) (z : Int) : List Nat := if hasZ F.length z then way F z.toNat else []

set_option maxRecDepth 100000 in
set_option maxHeartbeats 4000000 in
theorem way1_in (n : Nat) (hn : 1 ≤ n) (l Ba Bu lo hi b c : Nat) (p : Option Addr) (F : List Nat) (a : Int) (G : List Nat → List Nat) (I : List Nat → World → Prop) (R : World → Prop)
    (hab : ∀ pre A B, I pre A → A.grownBy B none → I pre B) (hR : ∀ A B, R A → A.grownBy B none → R B)
    (hU : ∀ pre W, I pre W → IsUg 99 W lo hi b p c (G pre) ∧ W.cell? ⟨Ba, 0, none⟩ = some (.int .i64 a) ∧ W.cell? ⟨Bu, 0, none⟩ = some (.pointer (some ⟨b, 0, none⟩)))
    (hGl : ∀ pre, (G pre).length = F.length) (hGe : ∀ pre e, e < F.length → e ∉ pre → nx (G pre) e = nx F e) (hd : downF F) (hs : F.length ≤ 1000)
    (hY : ∀ pre x W, I pre W → R W → pre ++ [x] <+: wayZ F a → YieldAt Fence.wide (n - 1) Tryd.prog l #[.int .i64 (x : Nat)] W fun e W' => e = .returned (.bool true) ∧ I (pre ++ [x]) W' ∧ R W')
    (W : World) (h0 : I [] W) (hr0 : R W) :
    CallsIn Fence.wide n Tryd.prog 119 #[.func (.yield l) #[] #[], .pointer (some ⟨Ba, 0, none⟩), .pointer (some ⟨Bu, 0, none⟩)] W fun e W' => (∃ v, e = .returned v) ∧ ∃ xs, xs = wayZ F a ∧ I xs W' ∧ R W' := by
  obtain ⟨u0, ca, cu⟩ := hU [] W h0
  have cb := u0.cell
  rw [hGl] at cb
  have HY := Lib.hid hY
  have HAB := Lib.hid hab
  have HR := Lib.hid hR
  have HU := Lib.hid hU
  have HGL := Lib.hid hGl
  have HGE := Lib.hid hGe
  have HD := Lib.hid hd
  have H0 := Lib.hid h0
  clear hY hab hR hU hGl hGe hd h0 u0
  refine callsIn_of_wp Tryd.func119 rfl trivial ?_ rfl
  simp only [Tryd.ntmps119, List.size_toArray, List.length_cons, List.length_nil, Nat.reduceAdd, Nat.reduceSub, Array.replicate_succ, Array.replicate_zero, List.push_toArray, List.append_toArray, List.nil_append, List.cons_append]
  by_cases a0 : a < 0
  · have hz : wayZ F a = [] := by unfold wayZ; rw [hasZ_not.2 (.inl a0)]; rfl
    have HZ := Lib.hid hz
    clear hz
    gi_wp2
    gi_region
    all_goals
      gi_wp2
      refine bodyPost_ret (results_none rfl _ _ _) rfl ?_
      exact ⟨⟨_, rfl⟩, _, HZ.out.symm, HAB.out _ _ _ H0.out (grownBy_drewN W 1 none), HR.out _ _ hr0 (grownBy_drewN W 1 none)⟩
  · have d0 : decide (a < 0) = false := by simpa using a0
    by_cases a1 : a < F.length
    · have d1 : decide ((F.length : Int) ≤ a) = false := by simp; omega
      obtain ⟨a, rfl⟩ := Int.eq_ofNat_of_zero_le (show 0 ≤ a by omega)
      have hz : wayZ F a = way F a := by unfold wayZ; rw [hasZ_iff.2 ⟨by omega, a1⟩]; rfl
      have HZ := Lib.hid hz
      have HA1 := Lib.hid (show a < F.length by omega)
      have d2 : decide (F.length ≤ a) = false := by simp; omega
      clear hz
      gi_wp2
      gi_region
      all_goals
        try simp only [d2]
        clear d1 d2 d0
        have HJ := Lib.hid (HAB.out _ _ _ H0.out (grownBy_drewN W 1 none))
        have HRJ := Lib.hid (HR.out _ _ hr0 (grownBy_drewN W 1 none))
        gi_wp2
        gi_loopw [4] (fun i wr => ∃ (e : Nat) (pre : List Nat), i = .int .i64 e ∧ Hid (e < F.length) ∧ Hid (way F a = pre ++ way F e) ∧ Hid (∀ x ∈ pre, e < x) ∧ I pre wr ∧ R wr) (fun i _ => (intOf i).toNat)
        case atStart => exact ⟨a, [], rfl, HA1, Lib.hid rfl, Lib.hid (by simp), HJ.out, HRJ.out⟩
        case round =>
          obtain ⟨e, pre, rfl, HE, HW, HP, hI, hr⟩ := hrel
          clear HJ HRJ ca cu cb
          obtain ⟨u1, ca, cu⟩ := HU.out pre wr hI
          have cb := u1.cell
          obtain ⟨g, hpg, hgh, hrow⟩ := u1.row (by rw [HGL.out]; have := HE.out; omega)
          have cr := hrow.cell (j := e) (nx_get (by rw [HGL.out]; exact HE.out))
          rw [HGE.out pre e HE.out (fun h => by have := HP.out e h; omega)] at cr
          rw [HGL.out] at cb
          have e0 : (0 : Int) ≤ e := by omega
          have e1 : (e : Int) < F.length := by have := HE.out; omega
          have hle := HD.out e HE.out
          have hpx : pre ++ [e] <+: wayZ F a := by
            rw [HZ.out, HW.out]
            by_cases h : nx F e < e
            · rw [way_step h]; exact ⟨way F (nx F e), by simp⟩
            · rw [way_end h]; exact List.prefix_refl _
          obtain ⟨fn, tmps, assign, body, hyy, hRn⟩ := HY.out pre e wr hI hr hpx
          subst hpg
          by_cases h : nx F e < e
          · have HN := Lib.hid (show way F a = (pre ++ [e]) ++ way F (nx F e) by rw [HW.out, way_step h]; simp)
            have HQ := Lib.hid (show ∀ x ∈ pre ++ [e], nx F e < x by
              intro x hx
              rw [List.mem_append, List.mem_singleton] at hx
              rcases hx with hx | hx
              · have := HP.out x hx; omega
              · omega)
            have hne : ((nx F e : Int) == (e : Int)) = false := by simp; omega
            have HL := Lib.hid (show nx F e < F.length by have := HE.out; omega)
            clear u1 hrow hpx hI hle
            generalize nx F e = y at *
            gi_wp2_with fail
            refine hRn.mono ?_
            rintro e9 W3 ⟨rfl, hI3, hr3⟩
            gi_wp2
            exact ⟨⟨y, pre ++ [e], rfl, HL, HN, HQ, hI3, hr3⟩, by simp [intOf]; omega⟩
          · have hne : ((nx F e : Int) == (e : Int)) = true := by simp; omega
            have HN := Lib.hid (show way F a = pre ++ [e] by rw [HW.out, way_end h])
            clear u1 hrow hpx hI hle
            generalize nx F e = y at *
            gi_wp2_with fail
            refine hRn.mono ?_
            rintro e9 W3 ⟨rfl, hI3, hr3⟩
            gi_wp2
            refine bodyPost_ret (results_none rfl _ _ _) rfl ?_
            exact ⟨⟨_, rfl⟩, _, by rw [HZ.out, HN.out], hI3, hr3⟩
    · have d1 : decide ((F.length : Int) ≤ a) = true := by simp; omega
      have hz : wayZ F a = [] := by unfold wayZ; rw [hasZ_not.2 (.inr (by omega))]; rfl
      have HZ := Lib.hid hz
      have a2 : (F.length : Int) ≤ a := by omega
      clear hz
      gi_wp2
      gi_region
      all_goals
        gi_wp2
        refine bodyPost_ret (results_none rfl _ _ _) rfl ?_
        exact ⟨⟨_, rfl⟩, _, HZ.out.symm, HAB.out _ _ _ H0.out (grownBy_drewN W 1 none), HR.out _ _ hr0 (grownBy_drewN W 1 none)⟩

end Go.Proofs.YtihkjgiaajgkpaaDoor
