/- PushLines: what is asked, in plain lists; what lies while its rows are made. -/
import Derived.Test.YtihkjgiaajgkpaaDoorRow7
import Derived.Test.YtihkjgiaajgkpaaDoorSamA
namespace Go.Proofs.YtihkjgiaajgkpaaDoor
open Go.RowKit

def sT : ByteArray := ⟨#[116, 111, 112]⟩
def sE : ByteArray := ⟨#[101, 110, 100]⟩
def sB : ByteArray := ⟨#[98]⟩
def sC : ByteArray := ⟨#[99]⟩
def lineL (x : Nat) (s : ByteArray) : List ByteArray := sT :: (List.replicate x s ++ [sE])
theorem lineL_len (x : Nat) (s : ByteArray) : (lineL x s).length = x + 2 := by simp [lineL]
theorem lineL_ok {x : Nat} {s : ByteArray} (hx : x < 6) (hs : okS s = true) : labErr (lineL x s) = 0 := by
  refine lab_of_all (by rw [lineL_len]; omega) ?_
  rw [List.all_eq_true]
  intro t ht
  unfold lineL at ht
  rcases List.mem_cons.1 ht with rfl | ht
  · decide
  · rcases List.mem_append.1 ht with ht | ht
    · rw [List.eq_of_mem_replicate ht]; exact hs
    · rw [List.mem_singleton.1 ht]; decide
theorem lineL_last (x : Nat) (s : ByteArray) : (lineL x s)[x + 1]?.getD .empty = sE := by
  unfold lineL
  rw [List.getElem?_cons_succ, List.getElem?_append_right (by simp)]
  simp
theorem rowP_two : rowP 2 = [(0, 1)] := by decide
theorem ends_ok : chk [sT, sE] (rowP 2) = 0 := rowP_obj (lab_of_all (by decide) (by decide)) rfl
theorem linF_len (x : Nat) : (linF x).length = 2 := rfl
theorem lin_arrow {x : Nat} {s : ByteArray} (hx : x < 6) (hs : okS s = true) : arB [sT, sE] (rowP 2) (lineL x s) (rowP (x + 2)) (linF x) = true := by
  refine arB_mk ends_ok (rowP_obj (lineL_ok hx hs) (lineL_len x s)) rfl (fun i hi => ?_) (fun z hz => ?_)
  · rw [linF_len] at hi
    match i, hi with
    | 0, _ =>
      refine ⟨hasZ_iff.2 ⟨Int.le_refl _, ?_⟩, rfl⟩
      show (0 : Int) < ((lineL x s).length : Int)
      rw [lineL_len]
      omega
    | 1, _ =>
      have h1 : (linF x)[1]?.getD 0 = (x : Int) + 1 := rfl
      rw [h1]
      refine ⟨hasZ_iff.2 ⟨by omega, by rw [lineL_len]; omega⟩, ?_⟩
      rw [show ((x : Int) + 1).toNat = x + 1 by omega, lineL_last]
      rfl
  · rw [rowP_two, List.mem_singleton] at hz
    subst hz
    have : ((0 : Nat), ((x + 1 : Nat))) = (0, x + 1) := rfl
    have h1 := (rowP_mem (n := x + 2) (a := 0) (b := x + 1)).2 (by omega)
    have h2 : (((0 : Nat) : Int), ((x + 1 : Nat) : Int)) = ((0 : Int), (x : Int) + 1) := by simp
    rw [h2] at h1
    exact h1
/-- What Push answers. -/
structure LinA (x y K : Nat) (A : List ByteArray) (B : List (Int × Int)) (I J : List Int) : Prop where
  a : A.length = 2 + x + y
  b : B.length = K
  il : I.length = x + 2
  jl : J.length = y + 2
  i0 : I[0]?.getD 0 = 0
  i1 : I[x + 1]?.getD 0 = (x : Int) + 1
  j0 : J[0]?.getD 0 = 0
  j1 : J[y + 1]?.getD 0 = (x : Int) + 1
  ck : chk A B = 0
theorem lin_ans {x y : Nat} (hx : x < 6) (hy : y < 6) : LinA x y ((x + 2) * (x + 1) / 2 + (y + 2) * (y + 1) / 2 - 1) (labG (lineL x sB ++ lineL y sC) (joinsL (x + 2 + (y + 2)) (linF x) (shL (x + 2) (linF y)))) (gluP (joinsL (x + 2 + (y + 2)) (linF x) (shL (x + 2) (linF y))) (rowP (x + 2) ++ shP (x + 2) (rowP (y + 2)))) ((atZ (joinsL (x + 2 + (y + 2)) (linF x) (shL (x + 2) (linF y)))).take (x + 2)) ((atZ (joinsL (x + 2 + (y + 2)) (linF x) (shL (x + 2) (linF y)))).drop (x + 2)) := by
  have h := linOK_at hx hy
  unfold linOK at h
  simp only [Bool.and_eq_true, decide_eq_true_eq] at h
  obtain ⟨e1, e2, e3, e4, e5, e6, e7⟩ := h
  have hl : (linJ x y).length = x + 2 + (y + 2) := joinsL_len _ _ _
  change LinA x y _ (labG (lineL x sB ++ lineL y sC) (linJ x y)) (gluP (linJ x y) (rowP (x + 2) ++ shP (x + 2) (rowP (y + 2)))) ((atZ (linJ x y)).take (x + 2)) ((atZ (linJ x y)).drop (x + 2))
  refine ⟨by rw [labG_len, e1]; omega, ?_, by rw [List.length_take, atZ_len, hl]; omega, by rw [List.length_drop, atZ_len, hl]; omega, by rw [at_take (by omega)]; exact e4, by rw [at_take (by omega)]; exact e5, by rw [at_drop]; exact e6, by rw [at_drop]; exact e7, glu_obj _ (by rw [hl, List.length_append, lineL_len, lineL_len]) (lab_app (lineL_ok hx (by decide)) (lineL_ok hy (by decide)) (by rw [lineL_len, lineL_len]; omega))⟩
  have hs := gluR_supp (linJ x y) (rowP (x + 2) ++ shP (x + 2) (rowP (y + 2)))
  unfold gluP
  rw [e1] at hs ⊢
  rw [agreeR_eq hs (linT_supp x y) e2, clo_of_trans (linT_trans x y)]
  exact e3

theorem own_two {W W' : World} {base n size : Nat} {e : TypeId} {g c : Nat} {xs : List Value} {row : Option Nat} (h : W.ownsRow base e size (.slice (some ⟨g, 0, none⟩) n c) n xs) (hr : row ≠ some g) (hl : g < W.heap.size) (hg : W.grownBy W' row) : W'.ownsRow base e size (.slice (some ⟨g, 0, none⟩) n c) n xs := by
  refine ⟨h.1, ?_⟩
  rcases h.2 with ⟨h1, _⟩ | ⟨g', cap, cur, e1, h1, h2, h3⟩
  · injection h1 with h1
    cases h1
  · injection e1 with e1 e2 e3
    injection e1 with e1
    injection e1 with e1
    subst e1 e3
    exact .inr ⟨g, c, cur, rfl, h1, (hg.block g hl (fun e => hr e.symm)).trans h2, h3⟩
/-- Two rows of labels, each in a block of its own. -/
structure LE (w W : World) (gb cb nb gc cc nc : Nat) (Lb Lc : List ByteArray) : Prop where
  gr : w.grownBy W none
  b : W.ownsRow w.heap.size 9 1 (.slice (some ⟨gb, 0, none⟩) nb cb) nb (scells Lb)
  c : W.ownsRow w.heap.size 9 1 (.slice (some ⟨gc, 0, none⟩) nc cc) nc (scells Lc)
  ne : gb ≠ gc
  bl : gb < W.heap.size
  cl : gc < W.heap.size
theorem LE.calm {w W W' : World} {gb cb nb gc cc nc : Nat} {Lb Lc : List ByteArray} (h : LE w W gb cb nb gc cc nc Lb Lc) (hg : W.grownBy W' none) : LE w W' gb cb nb gc cc nc Lb Lc :=
  ⟨grownBy_trans h.gr hg, ownsRow_calm h.b hg, ownsRow_calm h.c hg, h.ne, Nat.lt_of_lt_of_le h.bl hg.size, Nat.lt_of_lt_of_le h.cl hg.size⟩
theorem LE.start (w : World) : LE w ((w.alloc (.cells #[.string sT] 9)).alloc (.cells #[.string sT] 9)) w.heap.size 1 1 (w.heap.size + 1) 1 1 [sT] [sT] := by
  have g1 := World.grownBy_alloc w (.cells #[.string sT] 9) none
  have g2 := World.grownBy_alloc (w.alloc (.cells #[.string sT] 9)) (.cells #[.string sT] 9) none
  have o1 : (w.alloc (.cells #[.string sT] 9)).ownsRow w.heap.size 9 1 (.slice (some ⟨w.heap.size, 0, none⟩) 1 1) 1 (scells [sT]) := World.ownsRow_lit w #[.string sT] 1 (Nat.le_refl _) (by decide) rfl
  have o2 : ((w.alloc (.cells #[.string sT] 9)).alloc (.cells #[.string sT] 9)).ownsRow w.heap.size 9 1 (.slice (some ⟨(w.alloc (.cells #[.string sT] 9)).heap.size, 0, none⟩) 1 1) 1 (scells [sT]) := World.ownsRow_lit _ #[.string sT] 1 (by rw [World.size_alloc]; omega) (by decide) rfl
  rw [World.size_alloc] at o2
  exact ⟨grownBy_trans g1 g2, ownsRow_calm o1 g2, o2, by omega, by simp; omega, by simp⟩
theorem LE.bnext {w W W' : World} {gb gb' cb cb' nb gc cc nc H : Nat} {Lb Lc : List ByteArray} {s : ByteArray} (h : LE w W gb cb nb gc cc nc Lb Lc) (ho : W'.ownsRow w.heap.size 9 1 (.slice (some ⟨gb', 0, none⟩) (nb + 1) cb') (nb + 1) (scells Lb ++ [.string s])) (hg : W.grownBy W' (Value.slice (some ⟨gb, 0, none⟩) nb cb).ownBlock) (hb : (Value.slice (some ⟨gb, 0, none⟩) nb cb).ownBlock = some gb' ∨ gb' = H) (hH : gc < H) (hlt : gb' < W'.heap.size) : LE w W' gb' cb' (nb + 1) gc cc nc (Lb ++ [s]) Lc := by
  have hg' : W.grownBy W' (some gb) := hg
  have hne : gb' ≠ gc := by
    rcases hb with hb | hb
    · have : gb = gb' := by injection hb
      have := h.ne
      omega
    · omega
  exact ⟨ownsRow_new h.gr h.b hg, by simpa [scells] using ho, own_two h.c (fun e => h.ne (by injection e)) h.cl hg', hne, hlt, Nat.lt_of_lt_of_le h.cl hg.size⟩
theorem LE.cnext {w W W' : World} {gb cb nb gc gc' cc cc' nc H : Nat} {Lb Lc : List ByteArray} {s : ByteArray} (h : LE w W gb cb nb gc cc nc Lb Lc) (ho : W'.ownsRow w.heap.size 9 1 (.slice (some ⟨gc', 0, none⟩) (nc + 1) cc') (nc + 1) (scells Lc ++ [.string s])) (hg : W.grownBy W' (Value.slice (some ⟨gc, 0, none⟩) nc cc).ownBlock) (hb : (Value.slice (some ⟨gc, 0, none⟩) nc cc).ownBlock = some gc' ∨ gc' = H) (hH : gb < H) (hlt : gc' < W'.heap.size) : LE w W' gb cb nb gc' cc' (nc + 1) Lb (Lc ++ [s]) := by
  have hg' : W.grownBy W' (some gc) := hg
  have hne : gb ≠ gc' := by
    rcases hb with hb | hb
    · have : gc = gc' := by injection hb
      have := h.ne
      omega
    · omega
  exact ⟨ownsRow_new h.gr h.c hg, own_two h.b (fun e => h.ne (by injection e with e; exact e.symm)) h.bl hg', by simpa [scells] using ho, hne, Nat.lt_of_lt_of_le h.bl hg.size, hlt⟩

/-- What lies while the call of Push is made ready: the maps, the box, what else stays. -/
structure SL (Wx W : World) (x y : Nat) (F G D : Option Nat) (Q : World → Prop) : Prop where
  gr : Wx.grownBy W none
  ff : ∀ g, F = some g → RowZ W g (linF x)
  gg : ∀ g, G = some g → RowZ W g (linF y)
  bx : ∀ g, D = some g → Wx.heap.size ≤ g ∧ BoxO W g (.slice none 0 0) (.slice none 0 0)
  st : ∀ W W', World.grownBy W W' none → Q W → Q W'
  q : Q W
theorem SL.calm {Wx W W' : World} {x y : Nat} {F G D : Option Nat} {Q : World → Prop} (h : SL Wx W x y F G D Q) (hg : W.grownBy W' none) : SL Wx W' x y F G D Q :=
  ⟨grownBy_trans h.gr hg, fun g e => (h.ff g e).calm hg, fun g e => (h.gg g e).calm hg, fun g e => ⟨(h.bx g e).1, (h.bx g e).2.calm hg⟩, h.st, h.st _ _ hg h.q⟩
theorem SL.and {Wx W : World} {x y : Nat} {F G D : Option Nat} {Q : World → Prop} (h : SL Wx W x y F G D Q) (R : World → Prop) (hs : ∀ W W', World.grownBy W W' none → R W → R W') (hr : R W) : SL Wx W x y F G D (fun W => Q W ∧ R W) :=
  ⟨h.gr, h.ff, h.gg, h.bx, fun W W' g a => ⟨h.st W W' g a.1, hs W W' g a.2⟩, h.q, hr⟩
theorem SL.start (Wx : World) (x y : Nat) : SL Wx Wx.drew x y none none none (fun _ => True) := by
  refine ⟨grownBy_drewN Wx 1 none, ?_, ?_, ?_, fun _ _ _ h => h, trivial⟩
  · intro _ e
    cases e
  · intro _ e
    cases e
  · intro _ e
    cases e
theorem rowZ_lit (W : World) (x : Nat) : RowZ (W.alloc (.cells #[.int .i64 0, .int .i64 ((x : Int) + 1)] 3)) W.heap.size (linF x) := World.alloc_heap_new W _
theorem SL.F {Wx W : World} {x y : Nat} {G D : Option Nat} {Q : World → Prop} (h : SL Wx W x y none G D Q) : SL Wx (W.alloc (.cells #[.int .i64 0, .int .i64 ((x : Int) + 1)] 3)) x y (some W.heap.size) G D Q := by
  have h1 := h.calm (World.grownBy_alloc W (.cells #[.int .i64 0, .int .i64 ((x : Int) + 1)] 3) none)
  exact ⟨h1.gr, fun g e => by cases e; exact rowZ_lit W x, h1.gg, h1.bx, h1.st, h1.q⟩
theorem SL.G {Wx W : World} {x y : Nat} {F D : Option Nat} {Q : World → Prop} (h : SL Wx W x y F none D Q) : SL Wx (W.alloc (.cells #[.int .i64 0, .int .i64 ((y : Int) + 1)] 3)) x y F (some W.heap.size) D Q := by
  have h1 := h.calm (World.grownBy_alloc W (.cells #[.int .i64 0, .int .i64 ((y : Int) + 1)] 3) none)
  exact ⟨h1.gr, h1.ff, fun g e => by cases e; exact rowZ_lit W y, h1.bx, h1.st, h1.q⟩
theorem SL.D {Wx W : World} {x y : Nat} {F G : Option Nat} {Q : World → Prop} (h : SL Wx W x y F G none Q) : SL Wx (W.alloc (.cells #[.slice none 0 0, .slice none 0 0] 25)) x y F G (some W.heap.size) Q := by
  have h1 := h.calm (World.grownBy_alloc W (.cells #[.slice none 0 0, .slice none 0 0] 25) none)
  exact ⟨h1.gr, h1.ff, h1.gg, fun g e => by cases e; exact ⟨h.gr.size, BoxO.new W _ _⟩, h1.st, h1.q⟩
theorem SL.FG {Wx W : World} {x y : Nat} {D : Option Nat} {Q : World → Prop} (h : SL Wx W x y none none D Q) : SL Wx ((W.alloc (.cells #[.int .i64 0, .int .i64 ((x : Int) + 1)] 3)).alloc (.cells #[.int .i64 0, .int .i64 ((y : Int) + 1)] 3)) x y (some (W.heap.size)) (some (W.heap.size + 1)) D Q := by
  have h1 := h.F.G
  simp only [World.size_alloc] at h1
  exact h1
theorem SL.FD {Wx W : World} {x y : Nat} {G : Option Nat} {Q : World → Prop} (h : SL Wx W x y none G none Q) : SL Wx ((W.alloc (.cells #[.int .i64 0, .int .i64 ((x : Int) + 1)] 3)).alloc (.cells #[.slice none 0 0, .slice none 0 0] 25)) x y (some (W.heap.size)) G (some (W.heap.size + 1)) Q := by
  have h1 := h.F.D
  simp only [World.size_alloc] at h1
  exact h1
theorem SL.GF {Wx W : World} {x y : Nat} {D : Option Nat} {Q : World → Prop} (h : SL Wx W x y none none D Q) : SL Wx ((W.alloc (.cells #[.int .i64 0, .int .i64 ((y : Int) + 1)] 3)).alloc (.cells #[.int .i64 0, .int .i64 ((x : Int) + 1)] 3)) x y (some (W.heap.size + 1)) (some (W.heap.size)) D Q := by
  have h1 := h.G.F
  simp only [World.size_alloc] at h1
  exact h1
theorem SL.GD {Wx W : World} {x y : Nat} {F : Option Nat} {Q : World → Prop} (h : SL Wx W x y F none none Q) : SL Wx ((W.alloc (.cells #[.int .i64 0, .int .i64 ((y : Int) + 1)] 3)).alloc (.cells #[.slice none 0 0, .slice none 0 0] 25)) x y F (some (W.heap.size)) (some (W.heap.size + 1)) Q := by
  have h1 := h.G.D
  simp only [World.size_alloc] at h1
  exact h1
theorem SL.DF {Wx W : World} {x y : Nat} {G : Option Nat} {Q : World → Prop} (h : SL Wx W x y none G none Q) : SL Wx ((W.alloc (.cells #[.slice none 0 0, .slice none 0 0] 25)).alloc (.cells #[.int .i64 0, .int .i64 ((x : Int) + 1)] 3)) x y (some (W.heap.size + 1)) G (some (W.heap.size)) Q := by
  have h1 := h.D.F
  simp only [World.size_alloc] at h1
  exact h1
theorem SL.DG {Wx W : World} {x y : Nat} {F : Option Nat} {Q : World → Prop} (h : SL Wx W x y F none none Q) : SL Wx ((W.alloc (.cells #[.slice none 0 0, .slice none 0 0] 25)).alloc (.cells #[.int .i64 0, .int .i64 ((y : Int) + 1)] 3)) x y F (some (W.heap.size + 1)) (some (W.heap.size)) Q := by
  have h1 := h.D.G
  simp only [World.size_alloc] at h1
  exact h1
theorem SL.FGD {Wx W : World} {x y : Nat} {Q : World → Prop} (h : SL Wx W x y none none none Q) : SL Wx (((W.alloc (.cells #[.int .i64 0, .int .i64 ((x : Int) + 1)] 3)).alloc (.cells #[.int .i64 0, .int .i64 ((y : Int) + 1)] 3)).alloc (.cells #[.slice none 0 0, .slice none 0 0] 25)) x y (some (W.heap.size)) (some (W.heap.size + 1)) (some (W.heap.size + 1 + 1)) Q := by
  have h1 := h.F.G.D
  simp only [World.size_alloc] at h1
  exact h1
theorem SL.FDG {Wx W : World} {x y : Nat} {Q : World → Prop} (h : SL Wx W x y none none none Q) : SL Wx (((W.alloc (.cells #[.int .i64 0, .int .i64 ((x : Int) + 1)] 3)).alloc (.cells #[.slice none 0 0, .slice none 0 0] 25)).alloc (.cells #[.int .i64 0, .int .i64 ((y : Int) + 1)] 3)) x y (some (W.heap.size)) (some (W.heap.size + 1 + 1)) (some (W.heap.size + 1)) Q := by
  have h1 := h.F.D.G
  simp only [World.size_alloc] at h1
  exact h1
theorem SL.GFD {Wx W : World} {x y : Nat} {Q : World → Prop} (h : SL Wx W x y none none none Q) : SL Wx (((W.alloc (.cells #[.int .i64 0, .int .i64 ((y : Int) + 1)] 3)).alloc (.cells #[.int .i64 0, .int .i64 ((x : Int) + 1)] 3)).alloc (.cells #[.slice none 0 0, .slice none 0 0] 25)) x y (some (W.heap.size + 1)) (some (W.heap.size)) (some (W.heap.size + 1 + 1)) Q := by
  have h1 := h.G.F.D
  simp only [World.size_alloc] at h1
  exact h1
theorem SL.GDF {Wx W : World} {x y : Nat} {Q : World → Prop} (h : SL Wx W x y none none none Q) : SL Wx (((W.alloc (.cells #[.int .i64 0, .int .i64 ((y : Int) + 1)] 3)).alloc (.cells #[.slice none 0 0, .slice none 0 0] 25)).alloc (.cells #[.int .i64 0, .int .i64 ((x : Int) + 1)] 3)) x y (some (W.heap.size + 1 + 1)) (some (W.heap.size)) (some (W.heap.size + 1)) Q := by
  have h1 := h.G.D.F
  simp only [World.size_alloc] at h1
  exact h1
theorem SL.DFG {Wx W : World} {x y : Nat} {Q : World → Prop} (h : SL Wx W x y none none none Q) : SL Wx (((W.alloc (.cells #[.slice none 0 0, .slice none 0 0] 25)).alloc (.cells #[.int .i64 0, .int .i64 ((x : Int) + 1)] 3)).alloc (.cells #[.int .i64 0, .int .i64 ((y : Int) + 1)] 3)) x y (some (W.heap.size + 1)) (some (W.heap.size + 1 + 1)) (some (W.heap.size)) Q := by
  have h1 := h.D.F.G
  simp only [World.size_alloc] at h1
  exact h1
theorem SL.DGF {Wx W : World} {x y : Nat} {Q : World → Prop} (h : SL Wx W x y none none none Q) : SL Wx (((W.alloc (.cells #[.slice none 0 0, .slice none 0 0] 25)).alloc (.cells #[.int .i64 0, .int .i64 ((y : Int) + 1)] 3)).alloc (.cells #[.int .i64 0, .int .i64 ((x : Int) + 1)] 3)) x y (some (W.heap.size + 1 + 1)) (some (W.heap.size + 1)) (some (W.heap.size)) Q := by
  have h1 := h.D.G.F
  simp only [World.size_alloc] at h1
  exact h1
theorem SL.sF (Wx : World) (x y : Nat) : SL Wx (Wx.alloc (.cells #[.int .i64 0, .int .i64 ((x : Int) + 1)] 3)).drew x y (some (Wx.heap.size)) none none (fun _ => True) := (SL.start Wx x y).F
theorem SL.sG (Wx : World) (x y : Nat) : SL Wx (Wx.alloc (.cells #[.int .i64 0, .int .i64 ((y : Int) + 1)] 3)).drew x y none (some (Wx.heap.size)) none (fun _ => True) := (SL.start Wx x y).G
theorem SL.sD (Wx : World) (x y : Nat) : SL Wx (Wx.alloc (.cells #[.slice none 0 0, .slice none 0 0] 25)).drew x y none none (some (Wx.heap.size)) (fun _ => True) := (SL.start Wx x y).D
theorem SL.sFG (Wx : World) (x y : Nat) : SL Wx ((Wx.alloc (.cells #[.int .i64 0, .int .i64 ((x : Int) + 1)] 3)).alloc (.cells #[.int .i64 0, .int .i64 ((y : Int) + 1)] 3)).drew x y (some (Wx.heap.size)) (some (Wx.heap.size + 1)) none (fun _ => True) := (SL.start Wx x y).FG
theorem SL.sFD (Wx : World) (x y : Nat) : SL Wx ((Wx.alloc (.cells #[.int .i64 0, .int .i64 ((x : Int) + 1)] 3)).alloc (.cells #[.slice none 0 0, .slice none 0 0] 25)).drew x y (some (Wx.heap.size)) none (some (Wx.heap.size + 1)) (fun _ => True) := (SL.start Wx x y).FD
theorem SL.sGF (Wx : World) (x y : Nat) : SL Wx ((Wx.alloc (.cells #[.int .i64 0, .int .i64 ((y : Int) + 1)] 3)).alloc (.cells #[.int .i64 0, .int .i64 ((x : Int) + 1)] 3)).drew x y (some (Wx.heap.size + 1)) (some (Wx.heap.size)) none (fun _ => True) := (SL.start Wx x y).GF
theorem SL.sGD (Wx : World) (x y : Nat) : SL Wx ((Wx.alloc (.cells #[.int .i64 0, .int .i64 ((y : Int) + 1)] 3)).alloc (.cells #[.slice none 0 0, .slice none 0 0] 25)).drew x y none (some (Wx.heap.size)) (some (Wx.heap.size + 1)) (fun _ => True) := (SL.start Wx x y).GD
theorem SL.sDF (Wx : World) (x y : Nat) : SL Wx ((Wx.alloc (.cells #[.slice none 0 0, .slice none 0 0] 25)).alloc (.cells #[.int .i64 0, .int .i64 ((x : Int) + 1)] 3)).drew x y (some (Wx.heap.size + 1)) none (some (Wx.heap.size)) (fun _ => True) := (SL.start Wx x y).DF
theorem SL.sDG (Wx : World) (x y : Nat) : SL Wx ((Wx.alloc (.cells #[.slice none 0 0, .slice none 0 0] 25)).alloc (.cells #[.int .i64 0, .int .i64 ((y : Int) + 1)] 3)).drew x y none (some (Wx.heap.size + 1)) (some (Wx.heap.size)) (fun _ => True) := (SL.start Wx x y).DG
theorem SL.sFGD (Wx : World) (x y : Nat) : SL Wx (((Wx.alloc (.cells #[.int .i64 0, .int .i64 ((x : Int) + 1)] 3)).alloc (.cells #[.int .i64 0, .int .i64 ((y : Int) + 1)] 3)).alloc (.cells #[.slice none 0 0, .slice none 0 0] 25)).drew x y (some (Wx.heap.size)) (some (Wx.heap.size + 1)) (some (Wx.heap.size + 1 + 1)) (fun _ => True) := (SL.start Wx x y).FGD
theorem SL.sFDG (Wx : World) (x y : Nat) : SL Wx (((Wx.alloc (.cells #[.int .i64 0, .int .i64 ((x : Int) + 1)] 3)).alloc (.cells #[.slice none 0 0, .slice none 0 0] 25)).alloc (.cells #[.int .i64 0, .int .i64 ((y : Int) + 1)] 3)).drew x y (some (Wx.heap.size)) (some (Wx.heap.size + 1 + 1)) (some (Wx.heap.size + 1)) (fun _ => True) := (SL.start Wx x y).FDG
theorem SL.sGFD (Wx : World) (x y : Nat) : SL Wx (((Wx.alloc (.cells #[.int .i64 0, .int .i64 ((y : Int) + 1)] 3)).alloc (.cells #[.int .i64 0, .int .i64 ((x : Int) + 1)] 3)).alloc (.cells #[.slice none 0 0, .slice none 0 0] 25)).drew x y (some (Wx.heap.size + 1)) (some (Wx.heap.size)) (some (Wx.heap.size + 1 + 1)) (fun _ => True) := (SL.start Wx x y).GFD
theorem SL.sGDF (Wx : World) (x y : Nat) : SL Wx (((Wx.alloc (.cells #[.int .i64 0, .int .i64 ((y : Int) + 1)] 3)).alloc (.cells #[.slice none 0 0, .slice none 0 0] 25)).alloc (.cells #[.int .i64 0, .int .i64 ((x : Int) + 1)] 3)).drew x y (some (Wx.heap.size + 1 + 1)) (some (Wx.heap.size)) (some (Wx.heap.size + 1)) (fun _ => True) := (SL.start Wx x y).GDF
theorem SL.sDFG (Wx : World) (x y : Nat) : SL Wx (((Wx.alloc (.cells #[.slice none 0 0, .slice none 0 0] 25)).alloc (.cells #[.int .i64 0, .int .i64 ((x : Int) + 1)] 3)).alloc (.cells #[.int .i64 0, .int .i64 ((y : Int) + 1)] 3)).drew x y (some (Wx.heap.size + 1)) (some (Wx.heap.size + 1 + 1)) (some (Wx.heap.size)) (fun _ => True) := (SL.start Wx x y).DFG
theorem SL.sDGF (Wx : World) (x y : Nat) : SL Wx (((Wx.alloc (.cells #[.slice none 0 0, .slice none 0 0] 25)).alloc (.cells #[.int .i64 0, .int .i64 ((y : Int) + 1)] 3)).alloc (.cells #[.int .i64 0, .int .i64 ((x : Int) + 1)] 3)).drew x y (some (Wx.heap.size + 1 + 1)) (some (Wx.heap.size + 1)) (some (Wx.heap.size)) (fun _ => True) := (SL.start Wx x y).DGF

end Go.Proofs.YtihkjgiaajgkpaaDoor
