/- StateRows: patches in memory whose parts lie in blocks of other elements than patches. -/
import Derived.Test.YtnknejokneddbaaGreatDoorRowP
namespace Go.Proofs.YtnknejokneddbaaGreatDoor
open Go.RowKit

/-- It lies there, whatever becomes of rows of patches. -/
def Firm (W : World) (y : HP) : Prop := ∀ W' : World, W.heap.size ≤ W'.heap.size → (∀ (g : Nat) (cur : Array Value) (t : TypeId), W.heap[g]? = some (.cells cur t (0, 0)) → t ≠ 56 → W'.heap[g]? = W.heap[g]?) → HpAt W' 0 W'.heap.size y
theorem Firm.now {W : World} {y : HP} (h : Firm W y) : HpAt W 0 W.heap.size y := h W (Nat.le_refl _) fun _ _ _ _ _ => rfl
theorem Firm.step {W X : World} {y : HP} (h : Firm W y) (hs : W.heap.size ≤ X.heap.size) (hx : ∀ (g : Nat) (cur : Array Value) (t : TypeId), W.heap[g]? = some (.cells cur t (0, 0)) → t ≠ 56 → X.heap[g]? = W.heap[g]?) : Firm X y :=
 fun W' h1 h2 => h W' (Nat.le_trans hs h1) fun g cur t hg ht => (h2 g cur t ((hx g cur t hg ht).trans hg) ht).trans (hx g cur t hg ht)
theorem Firm.calm {W X : World} {y : HP} (h : Firm W y) (hg : W.grownBy X none) : Firm X y := h.step hg.size fun g cur t h1 _ => hg.block g (Array.getElem?_eq_some_iff.1 h1).1 (by simp)
/-- Behind an append to a row of patches. -/
theorem Firm.app {W X : World} {y : HP} {base n : Nat} {v : Value} {xs : List Value} (h : Firm W y) (hr : W.ownsRow base 56 5 v n xs) (hg : W.grownBy X v.ownBlock) : Firm X y := h.step hg.size fun g cur t h1 h2 => hg.block g (Array.getElem?_eq_some_iff.1 h1).1 fun e => by
 rcases hr.2 with ⟨rfl, _⟩ | ⟨g', cap, cur', rfl, _, x2, _⟩
 ·cases e
 ·obtain rfl : g = g' := Option.some.inj e
  rw [x2] at h1
  simp only [Option.some.injEq, Obj.cells.injEq] at h1
  exact h2 h1.2.1.symm
theorem box_kept {W W' : World} {g : Nat} {vs : List Value} {t : TypeId} (h : BoxV W g vs t) (ht : t ≠ 56) (hk : ∀ (g : Nat) (cur : Array Value) (t : TypeId), W.heap[g]? = some (.cells cur t (0, 0)) → t ≠ 56 → W'.heap[g]? = W.heap[g]?) : BoxV W' g vs t := (hk g _ t h ht).trans h
theorem firm_0 {W : World} {g : Nat} (b0 : BoxV W g [.string rF] 9) (b1 : BoxV W (g + 1) [.string r0] 9) (b2 : BoxV W (g + 1 + 1) [.string rF, .slice (some ⟨g + 1, 0, none⟩) 1 1, .slice none 0 0, .slice none 0 0] 68) :
  Firm W (rw0, (none, 0, 0), (some ⟨g, 0, none⟩, 1, 1), (none, 0, 0), (some ⟨g + 1 + 1, 0, none⟩, 1, 1)) := fun W' _ hk => by
 have c0 := box_kept b0 (by decide) hk
 have c1 := box_kept b1 (by decide) hk
 have c2 := box_kept b2 (by decide) hk
 exact {
  num := rfl
  deps := ⟨rfl, fun e => absurd e (Nat.lt_irrefl 0)⟩
  makes := ⟨rfl, fun _ => ⟨g, 0, rfl, Nat.zero_le _, c0.lt, Nat.le_refl _, fun k hk => by
   obtain rfl : k = 0 := Nat.lt_one_iff.1 hk
   exact c0.cell (k := 0) rfl⟩⟩
  drops := ⟨rfl, fun e => absurd e (Nat.lt_irrefl 0)⟩
  hunks := ⟨rfl, fun _ => ⟨g + 1 + 1, 0, rfl, Nat.zero_le _, c2.lt, Nat.le_refl _, fun i hi => by
   obtain rfl : i = 0 := Nat.lt_one_iff.1 hi
   refine ⟨some ⟨g + 1, 0, none⟩, 1, 1, none, 0, 0, none, 0, 0, c2.cell (k := 0) rfl, c2.cell (k := 1) rfl, c2.cell (k := 2) rfl, c2.cell (k := 3) rfl, ?_⟩
   exact {
    adds := ⟨rfl, fun _ => ⟨g + 1, 0, rfl, Nat.zero_le _, c1.lt, Nat.le_refl _, fun k hk => by
     obtain rfl : k = 0 := Nat.lt_one_iff.1 hk
     exact c1.cell (k := 0) rfl⟩⟩
    edges := ⟨rfl, fun e => absurd e (Nat.lt_irrefl 0)⟩
    kills := ⟨rfl, fun e => absurd e (Nat.lt_irrefl 0)⟩
    la := Nat.le_refl _
    le := Nat.le_refl _
    lk := Nat.le_refl _
    za := fun e => by cases e
    ze := fun _ => rfl
    zk := fun _ => rfl }⟩⟩
  ld := Nat.le_refl _
  lm := Nat.le_refl _
  lx := Nat.le_refl _
  lh := Nat.le_refl _
  zd := fun _ => rfl
  zm := fun e => by cases e
  zx := fun _ => rfl
  zh := fun e => by cases e }
theorem firm_I {W : World} {g i : Nat} (b0 : BoxV W g [.int .u32 ((i + 1 : Nat) : Int)] 52) (b1 : BoxV W (g + 1) [.string rX] 9) (b2 : BoxV W (g + 1 + 1) [.int .u32 ((i + 1 : Nat) : Int), .int .i64 0, .int .u32 ((i + 2 : Nat) : Int), .int .i64 0] 70)
  (b3 : BoxV W (g + 1 + 1 + 1) [.string rF, .slice (some ⟨g + 1, 0, none⟩) 1 1, .slice (some ⟨g + 1 + 1, 0, none⟩) 1 1, .slice none 0 0] 68) :
  Firm W (rwI i, (some ⟨g, 0, none⟩, 1, 1), (none, 0, 0), (none, 0, 0), (some ⟨g + 1 + 1 + 1, 0, none⟩, 1, 1)) := fun W' _ hk => by
 have c0 := box_kept b0 (by decide) hk
 have c1 := box_kept b1 (by decide) hk
 have c2 := box_kept b2 (by decide) hk
 have c3 := box_kept b3 (by decide) hk
 exact {
  num := rfl
  deps := ⟨rfl, fun _ => ⟨g, 0, rfl, Nat.zero_le _, c0.lt, Nat.le_refl _, fun k hk => by
   obtain rfl : k = 0 := Nat.lt_one_iff.1 hk
   exact c0.cell (k := 0) rfl⟩⟩
  makes := ⟨rfl, fun e => absurd e (Nat.lt_irrefl 0)⟩
  drops := ⟨rfl, fun e => absurd e (Nat.lt_irrefl 0)⟩
  hunks := ⟨rfl, fun _ => ⟨g + 1 + 1 + 1, 0, rfl, Nat.zero_le _, c3.lt, Nat.le_refl _, fun j hj => by
   obtain rfl : j = 0 := Nat.lt_one_iff.1 hj
   refine ⟨some ⟨g + 1, 0, none⟩, 1, 1, some ⟨g + 1 + 1, 0, none⟩, 1, 1, none, 0, 0, c3.cell (k := 0) rfl, c3.cell (k := 1) rfl, c3.cell (k := 2) rfl, c3.cell (k := 3) rfl, ?_⟩
   exact {
    adds := ⟨rfl, fun _ => ⟨g + 1, 0, rfl, Nat.zero_le _, c1.lt, Nat.le_refl _, fun k hk => by
     obtain rfl : k = 0 := Nat.lt_one_iff.1 hk
     exact c1.cell (k := 0) rfl⟩⟩
    edges := ⟨rfl, fun _ => ⟨g + 1 + 1, 0, rfl, Nat.zero_le _, c2.lt, Nat.le_refl _, fun k hk => by
     obtain rfl : k = 0 := Nat.lt_one_iff.1 hk
     exact ⟨c2.cell (k := 0) rfl, c2.cell (k := 1) rfl, c2.cell (k := 2) rfl, c2.cell (k := 3) rfl⟩⟩⟩
    kills := ⟨rfl, fun e => absurd e (Nat.lt_irrefl 0)⟩
    la := Nat.le_refl _
    le := Nat.le_refl _
    lk := Nat.le_refl _
    za := fun e => by cases e
    ze := fun e => by cases e
    zk := fun _ => rfl }⟩⟩
  ld := Nat.le_refl _
  lm := Nat.le_refl _
  lx := Nat.le_refl _
  lh := Nat.le_refl _
  zd := fun e => by cases e
  zm := fun _ => rfl
  zx := fun _ => rfl
  zh := fun e => by cases e }
theorem firm_K {W : World} {g d : Nat} (b0 : BoxV W g [.int .u32 ((d : Nat) : Int)] 52) (b1 : BoxV W (g + 1) [.int .u32 ((d : Nat) : Int), .int .i64 0] 60) (b2 : BoxV W (g + 1 + 1) [.string rF, .slice none 0 0, .slice none 0 0, .slice (some ⟨g + 1, 0, none⟩) 1 1] 68) :
  Firm W (rwK d, (some ⟨g, 0, none⟩, 1, 1), (none, 0, 0), (none, 0, 0), (some ⟨g + 1 + 1, 0, none⟩, 1, 1)) := fun W' _ hk => by
 have c0 := box_kept b0 (by decide) hk
 have c1 := box_kept b1 (by decide) hk
 have c2 := box_kept b2 (by decide) hk
 exact {
  num := rfl
  deps := ⟨rfl, fun _ => ⟨g, 0, rfl, Nat.zero_le _, c0.lt, Nat.le_refl _, fun k hk => by
   obtain rfl : k = 0 := Nat.lt_one_iff.1 hk
   exact c0.cell (k := 0) rfl⟩⟩
  makes := ⟨rfl, fun e => absurd e (Nat.lt_irrefl 0)⟩
  drops := ⟨rfl, fun e => absurd e (Nat.lt_irrefl 0)⟩
  hunks := ⟨rfl, fun _ => ⟨g + 1 + 1, 0, rfl, Nat.zero_le _, c2.lt, Nat.le_refl _, fun j hj => by
   obtain rfl : j = 0 := Nat.lt_one_iff.1 hj
   refine ⟨none, 0, 0, none, 0, 0, some ⟨g + 1, 0, none⟩, 1, 1, c2.cell (k := 0) rfl, c2.cell (k := 1) rfl, c2.cell (k := 2) rfl, c2.cell (k := 3) rfl, ?_⟩
   exact {
    adds := ⟨rfl, fun e => absurd e (Nat.lt_irrefl 0)⟩
    edges := ⟨rfl, fun e => absurd e (Nat.lt_irrefl 0)⟩
    kills := ⟨rfl, fun _ => ⟨g + 1, 0, rfl, Nat.zero_le _, c1.lt, Nat.le_refl _, fun k hk => by
     obtain rfl : k = 0 := Nat.lt_one_iff.1 hk
     exact ⟨c1.cell (k := 0) rfl, c1.cell (k := 1) rfl⟩⟩⟩
    la := Nat.le_refl _
    le := Nat.le_refl _
    lk := Nat.le_refl _
    za := fun _ => rfl
    ze := fun _ => rfl
    zk := fun e => by cases e }⟩⟩
  ld := Nat.le_refl _
  lm := Nat.le_refl _
  lx := Nat.le_refl _
  lh := Nat.le_refl _
  zd := fun e => by cases e
  zm := fun _ => rfl
  zx := fun _ => rfl
  zh := fun e => by cases e }
/-- All but the first one. -/
theorem pts_drop1 {w : World} {lo hi n b o : Nat} {l : List Pt} (h : PtsAt w lo hi (some ⟨b, o, none⟩) (n + 1) l) : PtsAt w lo hi (some ⟨b, o + 5, none⟩) n (l.drop 1) :=
 ⟨by rw [List.length_drop, h.len]; omega, fun hn => by
  obtain ⟨b', o', e, h1, h2, h3, hc⟩ := h.cell (by omega)
  cases e
  refine ⟨b, o + 5, rfl, h1, h2, h3, fun i hi => ?_⟩
  have := hc (i + 1) (by omega)
  have e1 : o + (i + 1) * 5 = o + 5 + i * 5 := by omega
  rw [e1] at this
  rw [List.getElem?_drop, Nat.add_comm 1 i]
  exact this⟩
/-- What the literals lay. -/
def os0 (g : Nat) : List (List Value × TypeId) := [([.string rF], 9), ([.string r0], 9), ([.string rF, .slice (some ⟨g + 1, 0, none⟩) 1 1, .slice none 0 0, .slice none 0 0], 68),
 ([.int .u32 1, .slice none 0 0, .slice (some ⟨g, 0, none⟩) 1 1, .slice none 0 0, .slice (some ⟨g + 1 + 1, 0, none⟩) 1 1], 56)]
def osI (g : Nat) (a b : Int) : List (List Value × TypeId) := [([.int .u32 a], 52), ([.string rX], 9), ([.int .u32 a, .int .i64 0, .int .u32 b, .int .i64 0], 70),
 ([.string rF, .slice (some ⟨g + 1, 0, none⟩) 1 1, .slice (some ⟨g + 1 + 1, 0, none⟩) 1 1, .slice none 0 0], 68), ([.int .u32 b, .slice (some ⟨g, 0, none⟩) 1 1, .slice none 0 0, .slice none 0 0, .slice (some ⟨g + 1 + 1 + 1, 0, none⟩) 1 1], 56)]
def osK (g : Nat) (d : Int) : List (List Value × TypeId) := [([.int .u32 d], 52), ([.int .u32 d, .int .i64 0], 60), ([.string rF, .slice none 0 0, .slice none 0 0, .slice (some ⟨g + 1, 0, none⟩) 1 1], 68),
 ([.int .u32 99, .slice (some ⟨g, 0, none⟩) 1 1, .slice none 0 0, .slice none 0 0, .slice (some ⟨g + 1 + 1, 0, none⟩) 1 1], 56)]
def y0H (g : Nat) : HP := (rw0, (none, 0, 0), (some ⟨g, 0, none⟩, 1, 1), (none, 0, 0), (some ⟨g + 1 + 1, 0, none⟩, 1, 1))
def yIH (g i : Nat) : HP := (rwI i, (some ⟨g, 0, none⟩, 1, 1), (none, 0, 0), (none, 0, 0), (some ⟨g + 1 + 1 + 1, 0, none⟩, 1, 1))
def yKH (g d : Nat) : HP := (rwK d, (some ⟨g, 0, none⟩, 1, 1), (none, 0, 0), (none, 0, 0), (some ⟨g + 1 + 1, 0, none⟩, 1, 1))
theorem box_srcR {W : World} {g : Nat} {vs : List Value} {t : TypeId} (h : BoxV W g vs t) : ∀ j u, vs[j]? = some u → W.cell? ((⟨g, 0, none⟩ : Addr).add j) = some u := fun j u hu => by
 rw [add_off, Nat.zero_add]
 exact h.cell hu
theorem lay_all {w : World} {os : List (List Value × TypeId)} {g : Nat} (hg : w.heap.size = g) : (∀ i o, os[i]? = some o → BoxV (layB w os) (g + i) o.1 o.2) ∧ w.grownBy (layB w os) none :=
 ⟨fun i o h => by rw [← hg]; exact layB_at os w i o h, (layB_gr os w).1⟩
theorem os0_of (w : World) (g : Nat) (hg : w.heap.size = g) : Firm (layB w (os0 g)) (y0H g) ∧ BoxV (layB w (os0 g)) (g + 1 + 1 + 1) (encP (y0H g)) 56 ∧ w.grownBy (layB w (os0 g)) none := by
 obtain ⟨hb, h⟩ := lay_all (os := os0 g) hg
 exact ⟨firm_0 (hb 0 _ rfl) (hb 1 _ rfl) (hb 2 _ rfl), hb 3 _ rfl, h⟩
theorem osI_of (w : World) (g i : Nat) (a b : Int) (ha : a = ((i + 1 : Nat) : Int)) (hb' : b = ((i + 2 : Nat) : Int)) (hg : w.heap.size = g) : Firm (layB w (osI g a b)) (yIH g i) ∧ BoxV (layB w (osI g a b)) (g + 1 + 1 + 1 + 1) [.int .u32 b, .slice (some ⟨g, 0, none⟩) 1 1, .slice none 0 0, .slice none 0 0, .slice (some ⟨g + 1 + 1 + 1, 0, none⟩) 1 1] 56 ∧ w.grownBy (layB w (osI g a b)) none ∧
  encP (yIH g i) = [.int .u32 b, .slice (some ⟨g, 0, none⟩) 1 1, .slice none 0 0, .slice none 0 0, .slice (some ⟨g + 1 + 1 + 1, 0, none⟩) 1 1] := by
 obtain ⟨hb, h⟩ := lay_all (os := osI g a b) hg
 refine ⟨?_, hb 4 _ rfl, h, by rw [hb']; rfl⟩
 subst ha
 subst hb'
 exact firm_I (hb 0 _ rfl) (hb 1 _ rfl) (hb 2 _ rfl) (hb 3 _ rfl)
theorem osK_of (w : World) (g d : Nat) (hg : w.heap.size = g) : Firm (layB w (osK g (d : Int))) (yKH g d) ∧ BoxV (layB w (osK g (d : Int))) (g + 1 + 1 + 1) (encP (yKH g d)) 56 ∧ w.grownBy (layB w (osK g (d : Int))) none := by
 obtain ⟨hb, h⟩ := lay_all (os := osK g (d : Int)) hg
 exact ⟨firm_K (hb 0 _ rfl) (hb 1 _ rfl) (hb 2 _ rfl), hb 3 _ rfl, h⟩
/-- The patches so far. -/
structure RwE (w0 W : World) (v : Value) (ys : List HP) (i : Nat) : Prop where
 row : W.ownsRow w0.heap.size 56 5 v i (hpcells ys)
 len : ys.length = i
 firm : ∀ y ∈ ys, Firm W y
 g : w0.grownBy W none
theorem RwE.app {w0 W W5 X : World} {v v' : Value} {ys : List HP} {y : HP} {i : Nat} (h : RwE w0 W v ys i) (h5 : W.grownBy W5 none) (hr5 : W5.ownsRow w0.heap.size 56 5 v i (hpcells ys)) (hy : Firm W5 y) (hg : W5.grownBy X v.ownBlock)
  (hr : X.ownsRow w0.heap.size 56 5 v' (i + 1) (hpcells ys ++ encP y)) : RwE w0 X v' (ys ++ [y]) (i + 1) :=
 ⟨by rw [hpcells_snoc]; exact hr, by rw [List.length_append, h.len]; rfl, fun z hz => by
  rcases List.mem_append.1 hz with hz | hz
  ·exact ((h.firm z hz).calm h5).app hr5 hg
  ·obtain rfl := List.mem_singleton.1 hz
   exact hy.app hr5 hg, ownsRow_new (grownBy_trans h.g h5) hr5 hg⟩
theorem RwE.start {w0 W : World} {g : Nat} (hg : w0.heap.size = g) (hb : BoxV W (g + 1 + 1 + 1) (encP (y0H g)) 56) (hf : Firm W (y0H g)) (h : w0.grownBy W none) : RwE w0 W (.slice (some ⟨g + 1 + 1 + 1, 0, none⟩) 1 1) [y0H g] 1 :=
 ⟨⟨rfl, .inr ⟨g + 1 + 1 + 1, 1, _, rfl, by omega, hb, Nat.le_refl _, by unfold maxLen; omega, rfl, rfl⟩⟩, rfl, fun y hy => by rw [List.mem_singleton.1 hy]; exact hf, h⟩
theorem row_calm {W X : World} {base n : Nat} {v : Value} {xs : List Value} {e : TypeId} {size : Nat} (h : W.ownsRow base e size v n xs) (hg : W.grownBy X none) : X.ownsRow base e size v n xs := row_kept h hg (fun g _ e => by cases e)
theorem rw_half {kk km np : Nat} (hk : kk = km + 1) (hm : km < 13) (hnp : np = (km + 1) * km / 2) : ((np : Int) = wrap64 ((wrap64 ((kk : Int) * ((kk : Int) - 1))).tdiv 2)) = True := by
 subst hk
 subst hnp
 have h : ∀ km < 13, decide ((((km + 1) * km / 2 : Nat) : Int) = wrap64 ((wrap64 (((km + 1 : Nat) : Int) * (((km + 1 : Nat) : Int) - 1))).tdiv 2)) = true := by decide +kernel
 exact eq_true (of_decide_eq_true (h km hm))
theorem RwE.pts {w0 W : World} {v : Value} {ys : List HP} {i : Nat} (h : RwE w0 W v ys i) : ∃ p c, v = .slice p i c ∧ PtsAt W 0 W.heap.size p i (ys.map Prod.fst) ∧ i ≤ c := by
 obtain ⟨hr, rfl, hf, _⟩ := h
 obtain ⟨p, c, e, hp⟩ := pts_own hr fun y hy => (hf y hy).now
 refine ⟨p, c, e, hp, ?_⟩
 rcases hr.2 with ⟨_, h0⟩ | ⟨g, cap, cur, e2, _, _, hle, _⟩
 ·omega
 ·rw [e] at e2
  cases e2
  exact hle

end Go.Proofs.YtnknejokneddbaaGreatDoor
