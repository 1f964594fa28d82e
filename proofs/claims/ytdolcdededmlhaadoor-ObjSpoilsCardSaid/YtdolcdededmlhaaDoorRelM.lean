/- The contracts of New and Copy of package rel: a relation of its own. -/
import Derived.Test.YtdolcdededmlhaaDoorRelW
namespace Go.Proofs.YtdolcdededmlhaaDoor
open Go.RowKit

theorem Tryd.info62 : (Tryd.prog.info? 62).map (fun i => (i.zero, i.size, i.bytes)) = some (some (.pointer none), 1, 8) := by kernel_rfl

/-- What makes a relation of its own. -/
def MadePost (n : Nat) (T : Nat → Nat → Bool) (w : World) (e : Ending) (w' : World) : Prop :=
  ∃ p, e = .returned (.pointer (some ⟨p, 0, none⟩)) ∧ IsRel w' w.heap.size w'.heap.size p n T ∧ w.grownBy w' none

/-- A relation under way: k rows are there, the others are nil. -/
structure Half (w0 w : World) (p pb n k : Nat) (R : Nat → Nat → Bool) : Prop where
  rows : ∃ bs ws, Rows' w w0.heap.size w.heap.size p pb n k bs ws R
  rest : ∀ a, a < n → (∃ v, w.cell? ⟨pb, a, none⟩ = some v) ∧ w.frozen? ⟨pb, a, none⟩ = false
  grown : w0.grownBy w none

/-- A row made is laid. -/
theorem Half.step {w0 w w1 : World} {p pb n k b wb : Nat} {R T : Nat → Nat → Bool} (h : Half w0 w p pb n k R) (hk : k < n) (hg : w.grownBy w1 none) (hb : w.heap.size ≤ b) (hwb : w.heap.size ≤ wb) (hs : IsSet w1 b wb n (T k)) (ht : ∀ a, a < k → T a = R a) :
    Half w0 (w1.setCell ⟨pb, k, none⟩ (.pointer (some ⟨b, 0, none⟩))) p pb n (k + 1) T := by
  obtain ⟨bs, ws, hr⟩ := h.rows
  have hgs := grownBy_setCell w1 ⟨pb, k, none⟩ (.pointer (some ⟨b, 0, none⟩))
  have hsz := hg.size
  have hsz2 : (w1.setCell ⟨pb, k, none⟩ (.pointer (some ⟨b, 0, none⟩))).heap.size = w1.heap.size := by simp [World.setCell]
  have hq2 := hr.q2
  have hp2 := hr.p2
  have hq1 := hr.q1
  have hr1 : Rows' w1 w0.heap.size w.heap.size p pb n k bs ws R := hr.kept hsz fun i _ h2 => hg.block i h2 (by simp)
  obtain ⟨u, hrow, hon⟩ := hs
  have hbl := hrow.hb
  have hwl := hrow.hw
  have hne := hrow.ne
  obtain ⟨cap, hc⟩ := hr1.c0
  have hcell : ∃ v, w1.cell? ⟨pb, k, none⟩ = some v := by
    obtain ⟨⟨v, hv⟩, _⟩ := h.rest k hk
    exact ⟨v, (World.cell?_of_block (a := ⟨pb, k, none⟩) (hg.block pb hq2 (by simp))).trans hv⟩
  obtain ⟨v0, hv0⟩ := hcell
  refine ⟨⟨fun a => if a = k then b else bs a, fun a => if a = k then wb else ws a, ?_⟩, ?_, ?_⟩
  · refine ⟨Nat.le_refl _, hr1.p1, by rw [hsz2]; omega, hr1.q1, by rw [hsz2]; omega, hr1.pq, ⟨cap, ?_⟩, ?_, ?_, ?_, ?_, ?_⟩
    · exact (World.cell?_of_block (a := ⟨p, 0, none⟩) (hgs.block p (by omega) (fun e => hr1.pq (by simpa using e)))).trans hc
    · intro a ha
      by_cases e : a = k
      · subst e
        rw [if_pos rfl]
        exact World.cell?_setCell_same' _ _ _ (by rw [hv0]; rfl)
      · rw [if_neg e, ← hr1.cp a (by omega)]
        (apply World.cell?_setCell_other; intro e'; cases e'; exact e rfl)
    · intro a ha
      by_cases e : a = k
      · subst e
        simp only [if_pos]
        exact ⟨u, hrow.grown hgs (fun e => by have := Option.some.inj e; simp at this; omega) (fun e => by have := Option.some.inj e; simp at this; omega), hon⟩
      · simp only [if_neg e]
        rw [ht a (by omega)]
        obtain ⟨a1, a2, a3⟩ := hr1.ap a (by omega)
        exact (hr1.row a (by omega)).grown hgs (fun e => a3 (by simpa using e)) (fun e => a2 (by simpa using e))
    · intro a ha
      by_cases e : a = k
      · subst e
        simp only [if_pos]
        have := h.grown.size
        rw [hsz2]
        omega
      · simp only [if_neg e]
        have := hr1.inb a (by omega)
        rw [hsz2]
        omega
    · intro a ha
      by_cases e : a = k
      · subst e
        simp only [if_pos]
        omega
      · simp only [if_neg e]
        exact hr1.ap a (by omega)
    · intro a ha c hc
      by_cases e : a = k
      · subst e
        simp only [if_pos]
        by_cases e2 : c = a
        · subst e2
          simp only [if_pos]
          exact ⟨fun e => hne e.symm, fun e => absurd rfl e⟩
        · simp only [if_neg e2]
          have := hr1.inb c (by omega)
          exact ⟨by omega, fun _ => by omega⟩
      · simp only [if_neg e]
        have := hr1.inb a (by omega)
        by_cases e2 : c = k
        · subst e2
          simp only [if_pos]
          exact ⟨by omega, fun _ => by omega⟩
        · simp only [if_neg e2]
          exact hr1.ap2 a (by omega) c (by omega)
  · intro a ha
    obtain ⟨⟨v, hv⟩, hf⟩ := h.rest a ha
    have hv1 := (World.cell?_of_block (a := ⟨pb, a, none⟩) (hg.block pb hq2 (by simp))).trans hv
    have hf1 := (World.frozen?_of_block (a := ⟨pb, a, none⟩) (hg.block pb hq2 (by simp))).trans hf
    constructor
    · by_cases e : a = k
      · subst e
        exact ⟨_, World.cell?_setCell_same' _ _ _ (by rw [hv1]; rfl)⟩
      · refine ⟨v, ?_⟩
        rw [← hv1]
        (apply World.cell?_setCell_other; intro e'; cases e'; exact e rfl)
    · rw [World.frozen?_setCell]
      exact hf1
  · exact grownBy_new (grownBy_trans h.grown hg) hgs (by have := h.grown.size; show w0.heap.size ≤ pb; omega)

/-- The relation's own cells, before any row is laid. -/
theorem Half.start (w : World) (n : Nat) :
    Half w ((w.alloc (.cells (madeCells #[.pointer none] n) 62)).alloc (.cells #[.slice (some ⟨w.heap.size, 0, none⟩) n n] 61)) (w.heap.size + 1) w.heap.size n 0 (fun _ _ => false) := by
  refine ⟨⟨fun _ => 0, fun _ => 0, ?_⟩, ?_, grownBy_trans (World.grownBy_alloc w _ none) (World.grownBy_alloc _ _ none)⟩
  · refine ⟨Nat.le_refl _, by omega, by simp, Nat.le_refl _, by simp; omega, by omega, ⟨n, by simp⟩, ?_, ?_, ?_, ?_, ?_⟩ <;> (intro a ha; omega)
  · intro a ha
    refine ⟨⟨.pointer none, ?_⟩, ?_⟩
    · rw [World.cell?_alloc2_first, made_get _ _ _ ha]
    · rw [World.frozen?_alloc2_first]

theorem Half.end {w0 w : World} {p pb n : Nat} {R : Nat → Nat → Bool} (h : Half w0 w p pb n n R) (hn : n ≤ 200) (hs : Supp n R) : IsRel w w0.heap.size w.heap.size p n R ∧ w0.grownBy w none := by
  obtain ⟨bs, ws, hr⟩ := h.rows
  exact ⟨⟨hn, hs, pb, bs, ws, hr⟩, h.grown⟩

/-- New of bits beside a cell that stays. -/
theorem newK_c (n p pb m cap : Nat) (w : World) (hn : n ≤ 200) (hp : p < w.heap.size) (hc : w.cell? ⟨p, 0, none⟩ = some (.slice (some ⟨pb, 0, none⟩) m cap)) : Calls Tryd.prog 45 #[.int .i64 n] w fun e w' => NewPost n w e w' ∧ w'.cell? ⟨p, 0, none⟩ = some (.slice (some ⟨pb, 0, none⟩) m cap) :=
  (new_mid n w (by omega)).mono fun _ w' ⟨b, wb, h1, h2, h3, h4, h5⟩ => ⟨⟨b, wb, h1, h2, h3, h4, h5⟩, (World.cell?_of_block (w' := w') (a := ⟨p, 0, none⟩) (h5.block p hp (by simp))).trans hc⟩

set_option maxHeartbeats 1000000 in
theorem relNew_mid (n : Nat) (w : World) (hn : n ≤ 200) : Calls Tryd.prog 25 #[.int .i64 n] w (MadePost n (fun _ _ => false) w) := by
  have hmk := run_make_row' (P := Tryd.prog) 59 62 (.pointer none) 8 Tryd.underlying59 Tryd.info62 rfl .i64 .i64 n (by omega) (by omega)
  have h0 : (0 : Int) ≤ n := by omega
  have h1 : (n : Int) ≤ 200 := by omega
  have HS := Lib.hid (Half.start w n)
  go_enter Tryd.func25, Tryd.ntmps25
  go_wp2
  go_loopw [16] (fun i wr => ∃ k : Nat, k ≤ n ∧ i = .int .i64 k ∧ Half w wr (w.heap.size + 1) w.heap.size n k (fun _ _ => false)) (fun i _ => n - (intOf i).toNat)
  case atStart => exact ⟨0, Nat.zero_le _, rfl, HS.out⟩
  case round =>
    obtain ⟨k, hk, rfl, hhalf⟩ := hrel
    by_cases hkn : k < n
    · have HH := Lib.hid hhalf
      obtain ⟨bs, ws, hrows⟩ := hhalf.rows
      obtain ⟨cap, hc⟩ := hrows.c0
      obtain ⟨⟨v, hv⟩, hf⟩ := hhalf.rest k hkn
      have hp2 := hrows.p2
      have hq2 := hrows.q2
      have k0 : (0 : Int) ≤ k := by omega
      have k1 : (k : Int) < n := by omega
      clear hhalf hrows
      go_wp2
      go_region_held3 (fun w' => w'.cell? ⟨w.heap.size + 1, 0, none⟩ = some (.slice (some ⟨w.heap.size, 0, none⟩) n cap)) (first | exact hkeep | go_keep)
        (first | (go_at_call 45; refine (newK_c n (w.heap.size + 1) w.heap.size n cap _ hn (by exact hp2) (by exact hc)).mono ?_; rintro e w1 ⟨⟨b, wb, rfl, hb, hwb, hs, hg⟩, hkeep⟩; have hv1 := (World.cell?_of_block (a := ⟨w.heap.size, k, none⟩) (hg.block w.heap.size (by exact hq2) (by simp))).trans hv; have hf1 := (World.frozen?_of_block (a := ⟨w.heap.size, k, none⟩) (hg.block w.heap.size (by exact hq2) (by simp))).trans hf))
      all_goals go_wp2
      exact ⟨⟨k + 1, by omega, by go_num, HH.out.step hkn (grownBy_trans (grownBy_drewN wr 1 none) hg) hb hwb hs (fun _ _ => rfl)⟩, by simp [intOf]; omega⟩
    · obtain rfl : k = n := by omega
      have HE := Lib.hid (hhalf.end hn (supp_none k))
      clear hhalf
      go_wp2
      go_ret
      exact ⟨_, rfl, HE.out.1, HE.out.2⟩

/-- Copy of a row beside a cell that stays. -/
theorem copyK_c (b wb n p pb m cap : Nat) (S : Nat → Bool) (w : World) (h : IsSet w b wb n S) (hp : p < w.heap.size) (hc : w.cell? ⟨p, 0, none⟩ = some (.slice (some ⟨pb, 0, none⟩) m cap)) : Calls Tryd.prog 63 #[.pointer (some ⟨b, 0, none⟩)] w fun e w' => CopyPost n S w e w' ∧ w'.cell? ⟨p, 0, none⟩ = some (.slice (some ⟨pb, 0, none⟩) m cap) :=
  (copy_c b wb n S w h).mono fun _ w' ⟨b', wb', h1, h2, h3, h4, h5⟩ => ⟨⟨b', wb', h1, h2, h3, h4, h5⟩, (World.cell?_of_block (w' := w') (a := ⟨p, 0, none⟩) (h5.block p hp (by simp))).trans hc⟩

/-- The first k rows of R. -/
def firstR (R : Nat → Nat → Bool) (k : Nat) (a b : Nat) : Bool := if a < k then R a b else false
theorem firstR_zero (R : Nat → Nat → Bool) : firstR R 0 = fun _ _ => false := by funext a b; simp [firstR]
theorem firstR_all {n : Nat} {R : Nat → Nat → Bool} (h : Supp n R) : firstR R n = R := by
  funext a b
  unfold firstR
  split
  · rfl
  · cases hr : R a b
    · rfl
    · exact absurd (h a b hr).1 (by assumption)

set_option maxHeartbeats 1000000 in
theorem relCopy_c (lo hi p n : Nat) (R : Nat → Nat → Bool) (w : World) (h : IsRel w lo hi p n R) : Calls Tryd.prog 56 #[.pointer (some ⟨p, 0, none⟩)] w (MadePost n R w) := by
  have HI := Lib.hid h
  obtain ⟨hn, hsu, qb, cs, us, h3⟩ := h
  obtain ⟨cap0, hc0⟩ := h3.c0
  have hmk := run_make_row' (P := Tryd.prog) 59 62 (.pointer none) 8 Tryd.underlying59 Tryd.info62 rfl .i64 .i64 n (by omega) (by omega)
  have HS := Lib.hid (Half.start w n)
  have HSU := Lib.hid hsu
  have H3 := Lib.hid h3
  have hpl : p < w.heap.size := by have := h3.p2; have := h3.top; omega
  clear h3 hsu
  have hc0' : ((w.alloc (.cells (madeCells #[.pointer none] n) 62)).alloc (.cells #[.slice (some ⟨w.heap.size, 0, none⟩) n n] 61)).cell? ⟨p, 0, none⟩ = some (.slice (some ⟨qb, 0, none⟩) n cap0) :=
    (World.cell?_of_block (a := ⟨p, 0, none⟩) ((grownBy_trans (World.grownBy_alloc w _ none) (World.grownBy_alloc _ _ none)).block p hpl (by simp))).trans hc0
  go_enter Tryd.func56, Tryd.ntmps56
  go_wp2
  go_loopw [19] (fun i wr => ∃ k : Nat, k ≤ n ∧ i = .int .i64 k ∧ Half w wr (w.heap.size + 1) w.heap.size n k (firstR R k)) (fun i _ => n - (intOf i).toNat)
  case atStart => exact ⟨0, Nat.zero_le _, rfl, by rw [firstR_zero]; exact HS.out⟩
  case round =>
    obtain ⟨k, hk, rfl, hhalf⟩ := hrel
    by_cases hkn : k < n
    · have HH := Lib.hid hhalf
      obtain ⟨bs, ws, hrows⟩ := hhalf.rows
      obtain ⟨cap, hc⟩ := hrows.c0
      obtain ⟨⟨v, hv⟩, hf⟩ := hhalf.rest k hkn
      have hp2 := hrows.p2
      have hq2 := hrows.q2
      have k0 : (0 : Int) ≤ k := by omega
      have k1 : (k : Int) < n := by omega
      have h3' : Rows' wr lo hi p qb n n cs us R := H3.out.kept hhalf.grown.size fun i _ h2 => hhalf.grown.block i (Nat.lt_of_lt_of_le h2 H3.out.top) (by simp)
      have hcp := h3'.cp k hkn
      have hrow := Lib.hid (h3'.row k hkn)
      clear hhalf hrows h3'
      go_wp2
      go_region_held3 (fun w' => w'.cell? ⟨w.heap.size + 1, 0, none⟩ = some (.slice (some ⟨w.heap.size, 0, none⟩) n cap)) (first | exact hkeep | go_keep)
        (first | (go_at_call 63; refine (copyK_c (cs k) (us k) n (w.heap.size + 1) w.heap.size n cap (R k) _ (by exact hrow.out.drewN 1) (by exact hp2) (by exact hc)).mono ?_; rintro e w1 ⟨⟨b, wb, rfl, hb, hwb, hs, hg⟩, hkeep⟩; have hv1 := (World.cell?_of_block (a := ⟨w.heap.size, k, none⟩) (hg.block w.heap.size (by exact hq2) (by simp))).trans hv; have hf1 := (World.frozen?_of_block (a := ⟨w.heap.size, k, none⟩) (hg.block w.heap.size (by exact hq2) (by simp))).trans hf))
      all_goals go_wp2
      refine ⟨⟨k + 1, by omega, by go_num, HH.out.step hkn (grownBy_trans (grownBy_drewN wr 1 none) hg) hb hwb (hs.congr fun i => by simp [firstR]) (fun a ha => ?_)⟩, by simp [intOf]; omega⟩
      funext b
      unfold firstR
      rw [if_pos (by omega), if_pos ha]
    · obtain rfl : k = n := by omega
      rw [firstR_all HSU.out] at hhalf
      have HE := Lib.hid (hhalf.end hn HSU.out)
      clear hhalf
      go_wp2
      go_ret
      exact ⟨_, rfl, HE.out.1, HE.out.2⟩

set_option maxHeartbeats 400000 in
theorem closure_c (lo hi p n : Nat) (R : Nat → Nat → Bool) (w : World) (h : IsRel w lo hi p n R) : Calls Tryd.prog 43 #[.pointer (some ⟨p, 0, none⟩)] w (MadePost n (clo n R) w) := by
  have H := Lib.hid h
  clear h
  go_enter Tryd.func43, Tryd.ntmps43
  go_wp2_with fail
  refine (relCopy_c lo hi p n R _ H.out).mono ?_
  rintro e w1 ⟨q, rfl, h1, hg1⟩
  have H1 := Lib.hid h1
  have HG := Lib.hid hg1
  clear h1 hg1
  go_wp2_with fail
  refine (complete_c _ _ q n R _ H1.out).mono ?_
  rintro e w2 ⟨rfl, h2, hk2⟩
  have H2 := Lib.hid h2
  have HK := Lib.hid hk2
  clear h2 hk2
  go_wp2
  go_ret
  have ht := H2.out.top
  refine ⟨q, rfl, ?_, Kept.new HG.out HK.out (Nat.le_refl _)⟩
  exact H2.out.wider ht

set_option maxHeartbeats 400000 in
theorem isTrans_c (lo hi p n : Nat) (R : Nat → Nat → Bool) (w : World) (h : IsRel w lo hi p n R) : Calls Tryd.prog 51 #[.pointer (some ⟨p, 0, none⟩)] w fun e w' => e = .returned (.bool (!grewC n R n)) ∧ w.grownBy w' none := by
  have H := Lib.hid h
  clear h
  go_enter Tryd.func51, Tryd.ntmps51
  go_wp2_with fail
  refine (relCopy_c lo hi p n R _ H.out).mono ?_
  rintro e w1 ⟨q, rfl, h1, hg1⟩
  have H1 := Lib.hid h1
  have HG := Lib.hid hg1
  clear h1 hg1
  go_wp2_with fail
  refine (complete_c _ _ q n R _ H1.out).mono ?_
  rintro e w2 ⟨rfl, h2, hk2⟩
  have HK := Lib.hid hk2
  clear h2 hk2
  go_wp2
  go_ret
  exact ⟨rfl, Kept.new HG.out HK.out (Nat.le_refl _)⟩

/-- Whether joining a pair tells that anything became so. -/
def joinB (n : Nat) (R : Nat → Nat → Bool) (a b : Int) : Bool := newI n R a b || grewC n (addI n R (a, b)) n

/-- A pair joined: it, and the closure, if both are elements. -/
def joinI (n : Nat) (R : Nat → Nat → Bool) (p : Int × Int) : Nat → Nat → Bool := if inI n p.1 p.2 then clo n (addI n R p) else R
def joinG (n : Nat) (R : Nat → Nat → Bool) (a b : Int) : Bool := decide (inI n a b) && joinB n R a b

end Go.Proofs.YtdolcdededmlhaaDoor
