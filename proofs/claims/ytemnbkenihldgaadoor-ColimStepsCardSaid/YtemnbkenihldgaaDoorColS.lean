/- Plain: three put together over what neighbours have in common, from the left or from the right: as large as all at once. -/
import Derived.Test.YtemnbkenihldgaaDoorColP
namespace Go.Proofs.YtemnbkenihldgaaDoor

theorem inj_len {α β : Type} [DecidableEq β] (f : α → β) : ∀ (l1 : List α) (l2 : List β), l1.Nodup → (∀ x ∈ l1, f x ∈ l2) → (∀ x ∈ l1, ∀ y ∈ l1, f x = f y → x = y) → l1.length ≤ l2.length
  | [], _, _, _, _ => Nat.zero_le _
  | a :: l, l2, hn, hm, hi => by
    rw [List.nodup_cons] at hn
    have h1 := hm a (by simp)
    have h2 := inj_len f l (l2.erase (f a)) hn.2 (fun x hx => by
      have h3 : f x ≠ f a := fun e => hn.1 (by rw [← hi x (by simp [hx]) a (by simp) e]; exact hx)
      exact (List.mem_erase_of_ne h3).2 (hm x (by simp [hx]))) (fun x hx y hy e => hi x (by simp [hx]) y (by simp [hy]) e)
    have h3 := List.length_erase_of_mem h1
    have h4 : 0 < l2.length := List.length_pos_of_mem h1
    rw [List.length_cons]
    omega

/-- What has the one way out to whatever legs are led out of a diagram. -/
structure UniA (Ns : List Nd) (As : List Ar) (A : List ByteArray) (B : List (Int × Int)) (Ls : List (List Int)) : Prop where
  legs : LegsA Ns As A B Ls
  reach : ∀ e, e < A.length → ∃ k, k < Ns.length ∧ ∃ x, x < (lgA Ls k).length ∧ (lgA Ls k)[x]?.getD 0 = (e : Int)
  way : ∀ (D : List ByteArray) (Q : List (Int × Int)) (Hs : List (List Int)), LegsA Ns As D Q Hs → ∃ U, arB A B D Q U = true ∧ ∀ k, k < Ns.length → thenL (lgA Ls k) U = lgA Hs k
theorem ColA.uni {Ns : List Nd} {As : List Ar} {A : List ByteArray} {B : List (Int × Int)} {Ls : List (List Int)} (h : ColA Ns As A B Ls) : UniA Ns As A B Ls := ⟨h.legs, h.reach, fun D Q Hs hH => ⟨_, h.way D Q Hs hH⟩⟩
theorem uni_le {Ns : List Nd} {As : List Ar} {A A' : List ByteArray} {B B' : List (Int × Int)} {Ls Ms : List (List Int)} (h : UniA Ns As A B Ls) (h' : UniA Ns As A' B' Ms) : A.length ≤ A'.length ∧ B.length ≤ B'.length := by
  obtain ⟨U, hU, hu⟩ := h.way A' B' Ms h'.legs
  obtain ⟨V, hV, hv⟩ := h'.way A B Ls h.legs
  have hUl := (arB_hasZ hU).1
  have hUr := (arB_hasZ hU).2
  have back : ∀ e, e < A.length → V[(U[e]?.getD 0).toNat]?.getD 0 = (e : Int) := fun e he => by
    obtain ⟨k, hk, x, hx, e1⟩ := h.reach e he
    have h1 := thenL_get (f := lgA Ls k) (g := U) hx
    rw [hu k hk, e1, Int.toNat_natCast] at h1
    have hl : (lgA Ms k).length = (lgA Ls k).length := by rw [(arB_hasZ (h'.legs.arr k hk)).1, (arB_hasZ (h.legs.arr k hk)).1]
    have h2 := thenL_get (f := lgA Ms k) (g := V) (i := x) (by rw [hl]; exact hx)
    rw [hv k hk, e1, h1] at h2
    exact h2.symm
  have inr : ∀ e, e < A.length → 0 ≤ U[e]?.getD 0 ∧ U[e]?.getD 0 < A'.length := fun e he => hUr _ (by rw [List.getElem?_eq_getElem (by omega)]; exact List.getElem_mem _)
  have inj : ∀ e, e < A.length → ∀ e', e' < A.length → U[e]?.getD 0 = U[e']?.getD 0 → e = e' := fun e he e' he' q => by
    have h1 := back e he
    have h2 := back e' he'
    rw [q] at h1
    exact Int.ofNat.inj (h1.symm.trans h2)
  constructor
  · have := inj_len (fun e : Nat => (U[e]?.getD 0).toNat) (List.range A.length) (List.range A'.length) List.nodup_range (fun e he => by
      have := inr e (List.mem_range.1 he)
      exact List.mem_range.2 (by omega)) (fun e he e' he' q => by
      have h1 := inr e (List.mem_range.1 he)
      have h2 := inr e' (List.mem_range.1 he')
      exact inj e (List.mem_range.1 he) e' (List.mem_range.1 he') (by omega))
    rwa [List.length_range, List.length_range] at this
  · have hin := (chk_in h.legs.obj).2.2.1
    have hup := rises_up (chk_in h.legs.obj).2.1
    refine inj_len (fun z : Int × Int => (U[z.1.toNat]?.getD 0, U[z.2.toNat]?.getD 0)) B B' (hup.imp (fun {x y} hl e => by subst e; exact LtQ.irrefl _ hl)) (fun z hz => arB_pairs hU z hz) (fun z hz y hy q => ?_)
    have h1 := in_of hin hz
    have h2 := in_of hin hy
    simp only [Prod.mk.injEq] at q
    have h3 := inj z.1.toNat (by omega) y.1.toNat (by omega) q.1
    have h4 := inj z.2.toNat (by omega) y.2.toNat (by omega) q.2
    exact Prod.ext (by omega) (by omega)
theorem uni_same {Ns : List Nd} {As : List Ar} {A A' : List ByteArray} {B B' : List (Int × Int)} {Ls Ms : List (List Int)} (h : UniA Ns As A B Ls) (h' : UniA Ns As A' B' Ms) : A.length = A'.length ∧ B.length = B'.length := by
  have h1 := uni_le h h'
  have h2 := uni_le h' h
  omega

theorem then_assoc9 {L L' L'' : List ByteArray} {P P' P'' : List (Int × Int)} {f g h : List Int} (hf : arB L P L' P' f = true) (hg : arB L' P' L'' P'' g = true) : thenL (thenL f g) h = thenL f (thenL g h) := by
  have h1 := (arB_hasZ hf)
  have h2 := (arB_hasZ hg).1
  refine ext0 (by simp [thenL_len]) (fun k hk => ?_)
  rw [thenL_len, thenL_len] at hk
  have hz := h1.2 (f[k]?.getD 0) (by rw [List.getElem?_eq_getElem hk]; exact List.getElem_mem _)
  rw [thenL_get (by rw [thenL_len]; exact hk), thenL_get hk, thenL_get hk, thenL_get (by omega)]

/-- Three objects, and one each that neighbours have in common. -/
def sN (b c e x y : Nd) : List Nd := [b, c, e, x, y]
def sA (f g h k : List Int) : List Ar := [(3, 0, f), (3, 1, g), (4, 1, h), (4, 2, k)]
structure StpA (b c e x y : Nd) (f g h k : List Int) : Prop where
  f : arB x.1 x.2 b.1 b.2 f = true
  g : arB x.1 x.2 c.1 c.2 g = true
  h : arB y.1 y.2 c.1 c.2 h = true
  k : arB y.1 y.2 e.1 e.2 k = true
theorem StpA.diag {b c e x y : Nd} {f g h k : List Int} (s : StpA b c e x y f g h k) : DiagA (sN b c e x y) (sA f g h k) := by
  refine ⟨by show 5 ≤ 6; decide, by show 4 ≤ 8; decide, fun i hi => ?_, fun a ha => ?_⟩
  · match i, hi with
    | 0, _ => exact (arB_chk s.f).2
    | 1, _ => exact (arB_chk s.g).2
    | 2, _ => exact (arB_chk s.k).2
    | 3, _ => exact (arB_chk s.f).1
    | 4, _ => exact (arB_chk s.h).1
  · match a, ha with
    | 0, _ => exact ⟨⟨by show (0 : Int) ≤ 3; decide, by show (3 : Int) < ((5 : Nat) : Int); decide⟩, ⟨by show (0 : Int) ≤ 0; decide, by show (0 : Int) < ((5 : Nat) : Int); decide⟩, s.f⟩
    | 1, _ => exact ⟨⟨by show (0 : Int) ≤ 3; decide, by show (3 : Int) < ((5 : Nat) : Int); decide⟩, ⟨by show (0 : Int) ≤ 1; decide, by show (1 : Int) < ((5 : Nat) : Int); decide⟩, s.g⟩
    | 2, _ => exact ⟨⟨by show (0 : Int) ≤ 4; decide, by show (4 : Int) < ((5 : Nat) : Int); decide⟩, ⟨by show (0 : Int) ≤ 1; decide, by show (1 : Int) < ((5 : Nat) : Int); decide⟩, s.h⟩
    | 3, _ => exact ⟨⟨by show (0 : Int) ≤ 4; decide, by show (4 : Int) < ((5 : Nat) : Int); decide⟩, ⟨by show (0 : Int) ≤ 2; decide, by show (2 : Int) < ((5 : Nat) : Int); decide⟩, s.k⟩
/-- Legs out of them, by those of the three. -/
theorem StpA.legs {b c e x y : Nd} {f g h k : List Int} (s : StpA b c e x y f g h k) {D : List ByteArray} {Q : List (Int × Int)} {lb lc le : List Int} (h0 : arB b.1 b.2 D Q lb = true) (h1 : arB c.1 c.2 D Q lc = true) (h2 : arB e.1 e.2 D Q le = true) (hx : thenL f lb = thenL g lc) (hy : thenL h lc = thenL k le) :
    LegsA (sN b c e x y) (sA f g h k) D Q [lb, lc, le, thenL f lb, thenL h lc] := by
  refine ⟨s.diag, (arB_chk h0).2, rfl, fun i hi => ?_, fun a ha => ?_⟩
  · match i, hi with
    | 0, _ => exact h0
    | 1, _ => exact h1
    | 2, _ => exact h2
    | 3, _ => exact arB_then s.f h0
    | 4, _ => exact arB_then s.h h1
  · match a, ha with
    | 0, _ => rfl
    | 1, _ => exact hx.symm
    | 2, _ => rfl
    | 3, _ => exact hy.symm
theorem StpA.of {b c e x y : Nd} {f g h k : List Int} {D : List ByteArray} {Q : List (Int × Int)} {Hs : List (List Int)} (hl : LegsA (sN b c e x y) (sA f g h k) D Q Hs) :
    arB b.1 b.2 D Q (lgA Hs 0) = true ∧ arB c.1 c.2 D Q (lgA Hs 1) = true ∧ arB e.1 e.2 D Q (lgA Hs 2) = true ∧ thenL f (lgA Hs 0) = lgA Hs 3 ∧ thenL g (lgA Hs 1) = lgA Hs 3 ∧ thenL h (lgA Hs 1) = lgA Hs 4 ∧ thenL k (lgA Hs 2) = lgA Hs 4 :=
  ⟨hl.arr 0 (by show 0 < 5; decide), hl.arr 1 (by show 1 < 5; decide), hl.arr 2 (by show 2 < 5; decide), hl.one 0 (by show 0 < 4; decide), hl.one 1 (by show 1 < 4; decide), hl.one 2 (by show 2 < 4; decide), hl.one 3 (by show 3 < 4; decide)⟩

/-- From the left. -/
theorem steps_left {b c e x y : Nd} {f g h k : List Int} (s : StpA b c e x y f g h k) {P L : List ByteArray} {PB LB : List (Int × Int)} {i j a1 a2 : List Int} (hp : PushA x.1 b.1 c.1 P x.2 b.2 c.2 PB f g i j) (hl : PushA y.1 P e.1 L y.2 PB e.2 LB (thenL h j) k a1 a2) :
    UniA (sN b c e x y) (sA f g h k) L LB [thenL i a1, thenL j a1, a2, thenL f (thenL i a1), thenL h (thenL j a1)] := by
  have hi := hp.squ.ai
  have hj := hp.squ.aj
  have h1 := hl.squ.ai
  have h2 := hl.squ.aj
  refine ⟨s.legs (arB_then hi h1) (arB_then hj h1) h2 ?_ ?_, fun d hd => ?_, fun D Q Hs hH => ?_⟩
  · rw [← then_assoc9 s.f hi, ← then_assoc9 s.g hj, hp.squ.same]
  · rw [← then_assoc9 s.h hj, hl.squ.same]
  · rcases hl.reach d hd with ⟨z, hz, ez⟩ | ⟨z, hz, ez⟩
    · rw [(arB_hasZ h1).1] at hz
      rcases hp.reach z hz with ⟨t, ht, et⟩ | ⟨t, ht, et⟩
      · exact ⟨0, by show 0 < 5; decide, t, by show t < (thenL i a1).length; rw [thenL_len]; exact ht, by show (thenL i a1)[t]?.getD 0 = _; rw [thenL_get ht, et, Int.toNat_natCast, ez]⟩
      · exact ⟨1, by show 1 < 5; decide, t, by show t < (thenL j a1).length; rw [thenL_len]; exact ht, by show (thenL j a1)[t]?.getD 0 = _; rw [thenL_get ht, et, Int.toNat_natCast, ez]⟩
    · exact ⟨2, by show 2 < 5; decide, z, hz, ez⟩
  · obtain ⟨b0, c0, e0, x0, x1, y0, y1⟩ := StpA.of hH
    obtain ⟨w1, w2, w3⟩ := hp.way D Q _ _ b0 c0 (x0.trans x1.symm)
    obtain ⟨v1, v2, v3⟩ := hl.way D Q _ _ w1 e0 (by rw [then_assoc9 s.h hj, w3]; exact y0.trans y1.symm)
    refine ⟨_, v1, fun q hq => ?_⟩
    match q, hq with
    | 0, _ => show thenL (thenL i a1) _ = _; rw [then_assoc9 hi h1, v2, w2]
    | 1, _ => show thenL (thenL j a1) _ = _; rw [then_assoc9 hj h1, v2, w3]
    | 2, _ => exact v3
    | 3, _ => show thenL (thenL f (thenL i a1)) _ = _; rw [then_assoc9 s.f (arB_then hi h1), then_assoc9 hi h1, v2, w2]; exact x0
    | 4, _ => show thenL (thenL h (thenL j a1)) _ = _; rw [then_assoc9 s.h (arB_then hj h1), then_assoc9 hj h1, v2, w3]; exact y0
/-- From the right. -/
theorem steps_right {b c e x y : Nd} {f g h k : List Int} (s : StpA b c e x y f g h k) {O R : List ByteArray} {OB RB : List (Int × Int)} {i j b1 b2 : List Int} (ho : PushA y.1 c.1 e.1 O y.2 c.2 e.2 OB h k i j) (hr : PushA x.1 b.1 O R x.2 b.2 OB RB f (thenL g i) b1 b2) :
    UniA (sN b c e x y) (sA f g h k) R RB [b1, thenL i b2, thenL j b2, thenL f b1, thenL h (thenL i b2)] := by
  have hi := ho.squ.ai
  have hj := ho.squ.aj
  have h1 := hr.squ.ai
  have h2 := hr.squ.aj
  refine ⟨s.legs h1 (arB_then hi h2) (arB_then hj h2) ?_ ?_, fun d hd => ?_, fun D Q Hs hH => ?_⟩
  · rw [hr.squ.same, then_assoc9 s.g hi]
  · rw [← then_assoc9 s.h hi, ← then_assoc9 s.k hj, ho.squ.same]
  · rcases hr.reach d hd with ⟨z, hz, ez⟩ | ⟨z, hz, ez⟩
    · exact ⟨0, by show 0 < 5; decide, z, hz, ez⟩
    · rw [(arB_hasZ h2).1] at hz
      rcases ho.reach z hz with ⟨t, ht, et⟩ | ⟨t, ht, et⟩
      · exact ⟨1, by show 1 < 5; decide, t, by show t < (thenL i b2).length; rw [thenL_len]; exact ht, by show (thenL i b2)[t]?.getD 0 = _; rw [thenL_get ht, et, Int.toNat_natCast, ez]⟩
      · exact ⟨2, by show 2 < 5; decide, t, by show t < (thenL j b2).length; rw [thenL_len]; exact ht, by show (thenL j b2)[t]?.getD 0 = _; rw [thenL_get ht, et, Int.toNat_natCast, ez]⟩
  · obtain ⟨b0, c0, e0, x0, x1, y0, y1⟩ := StpA.of hH
    obtain ⟨w1, w2, w3⟩ := ho.way D Q _ _ c0 e0 (y0.trans y1.symm)
    obtain ⟨v1, v2, v3⟩ := hr.way D Q _ _ b0 w1 (by rw [then_assoc9 s.g hi, w2]; exact x0.trans x1.symm)
    refine ⟨_, v1, fun q hq => ?_⟩
    match q, hq with
    | 0, _ => exact v2
    | 1, _ => show thenL (thenL i b2) _ = _; rw [then_assoc9 hi h2, v3, w2]
    | 2, _ => show thenL (thenL j b2) _ = _; rw [then_assoc9 hj h2, v3, w3]
    | 3, _ => show thenL (thenL f b1) _ = _; rw [then_assoc9 s.f h1, v2]; exact x0
    | 4, _ => show thenL (thenL h (thenL i b2)) _ = _; rw [then_assoc9 s.h (arB_then hi h2), then_assoc9 hi h2, v3, w2]; exact y0

end Go.Proofs.YtemnbkenihldgaaDoor
