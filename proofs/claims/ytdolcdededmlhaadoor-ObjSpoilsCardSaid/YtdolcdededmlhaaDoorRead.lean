/- The contracts of read, Check, Is, Rel of package obj. -/
import Derived.Test.YtdolcdededmlhaaDoorRise
namespace Go.Proofs.YtdolcdededmlhaaDoor
open Go.RowKit

/-- Labels and pairs in memory. -/
structure ObjAt (w : World) (lo hi : Nat) (p : Option Addr) (n : Nat) (q : Option Addr) (m : Nat) (L : List ByteArray) (P : List (Int × Int)) : Prop where
  ls : StrsAt w lo hi p n L
  ps : PairsAt w lo hi q m P
theorem ObjAt.calm {w w' : World} {lo hi : Nat} {p : Option Addr} {n : Nat} {q : Option Addr} {m : Nat} {L : List ByteArray} {P : List (Int × Int)} (h : ObjAt w lo hi p n q m L P) (hg : w.grownBy w' none) : ObjAt w' lo hi p n q m L P := ⟨h.ls.calm hg, h.ps.calm hg⟩

/-- Whether labels and pairs are an object: what Check answers. -/
def chk (L : List ByteArray) (P : List (Int × Int)) : Int := if labErr L ≠ 0 then labErr L else if risesB P && (allIn L.length P && !grewC L.length (ofL L.length P) L.length) then 0 else 10

theorem box2 {w w1 : World} {x y : Value} {t : TypeId} (hg : (w.alloc (.cells #[x, y] t)).grownBy w1 none) : w1.cell? ⟨w.heap.size, 0, none⟩ = some x ∧ w1.cell? ⟨w.heap.size, 1, none⟩ = some y ∧ w.grownBy w1 none := by
  have hb : w1.heap[w.heap.size]? = (w.alloc (.cells #[x, y] t)).heap[w.heap.size]? := hg.block _ (by simp) (by simp)
  refine ⟨(World.cell?_of_block (a := ⟨w.heap.size, 0, none⟩) hb).trans ?_, (World.cell?_of_block (a := ⟨w.heap.size, 1, none⟩) hb).trans ?_, grownBy_trans (World.grownBy_alloc w _ none) hg⟩
  · simp
  · simp

theorem chk_lab {L : List ByteArray} {P : List (Int × Int)} {k : Int} (h : labErr L = k) (hk : k ≠ 0) : chk L P = k := by unfold chk; rw [h, if_pos hk]
theorem chk_no {L : List ByteArray} {P : List (Int × Int)} (h : labErr L = 0) (hk : (risesB P && (allIn L.length P && !grewC L.length (ofL L.length P) L.length)) = false) : chk L P = 10 := by unfold chk; rw [h, if_neg (by simp), hk]; rfl
theorem chk_ok {L : List ByteArray} {P : List (Int × Int)} (h : labErr L = 0) (hk : (risesB P && (allIn L.length P && !grewC L.length (ofL L.length P) L.length)) = true) : chk L P = 0 := by unfold chk; rw [h, if_neg (by simp), hk]; rfl
theorem lab_small {L : List ByteArray} (h : labErr L = 0) : L.length ≤ 40 := by
  unfold labErr at h
  by_cases e : 40 < L.length
  · rw [if_pos e] at h; cases h
  · omega

def ReadPost (L : List ByteArray) (P : List (Int × Int)) (w : World) (e : Ending) (w' : World) : Prop :=
  w.grownBy w' none ∧ ((chk L P = 0 ∧ ∃ r, e = .returned (.tuple #[.pointer (some ⟨r, 0, none⟩), .int .i64 0]) ∧ IsRel w' w.heap.size w'.heap.size r L.length (ofL L.length P)) ∨
    (chk L P ≠ 0 ∧ e = .returned (.tuple #[.pointer none, .int .i64 (chk L P)])))

set_option maxRecDepth 20000 in
set_option maxHeartbeats 1000000 in
theorem read_c (p q : Option Addr) (n c m d lo hi : Nat) (L : List ByteArray) (P : List (Int × Int)) (w : World) (h : ObjAt w lo hi p n q m L P) (hm : m ≤ 1000000) :
    Calls Tryd.prog 29 #[.agg #[.slice p n c, .slice q m d]] w (ReadPost L P w) := by
  have h1 := h.calm (World.grownBy_alloc w (.cells #[.slice p n c, .slice q m d] 25) none)
  have H1 := Lib.hid h1
  have HN := Lib.hid h.ls.len
  clear h h1
  by_cases hl : labErr L = 0
  · have hn := lab_small hl
    have HL := Lib.hid hl
    have HSM : n ≤ 40 := by rw [← HN.out]; exact hn
    clear hl hn
    go_enter Tryd.func29, Tryd.ntmps29
    go_wp2_with fail
    refine (checkLabels_c _ _ _ _ _ L 0 _ (by exact H1.out.ls) HL.out).mono ?_
    rintro e w1 ⟨rfl, h9⟩
    subst w1
    cases hr : risesB P
    · have HR := Lib.hid hr
      clear hr
      go_wp2_with fail
      refine (rises_c _ _ _ _ _ P false _ hm (by exact H1.out.ps) HR.out).mono ?_
      rintro e w1 ⟨rfl, hg⟩
      obtain ⟨b0, b1, hg1⟩ := box2 hg
      have HC := Lib.hid (chk_no HL.out (P := P) (by rw [HR.out]; rfl))
      go_wp2
      go_ret2
      exact ⟨hg1, .inr ⟨by rw [HC.out]; decide, by rw [HC.out]; rfl⟩⟩
    · have HR := Lib.hid hr
      clear hr
      go_wp2_with fail
      refine (rises_c _ _ _ _ _ P true _ hm (by exact H1.out.ps) HR.out).mono ?_
      rintro e w1 ⟨rfl, hg⟩
      obtain ⟨b0, b1, hg1⟩ := box2 hg
      have H2 := Lib.hid (H1.out.calm hg)
      have HG1 := Lib.hid hg1
      clear hg hg1
      cases ha : allIn n P
      · have HA := Lib.hid ha
        have HE : Hid (ofErr (n : Int) P = 10) := Lib.hid (by unfold ofErr; rw [if_neg (by omega), Int.toNat_natCast, HA.out]; rfl)
        have HC := Lib.hid (chk_no HL.out (P := P) (by rw [HR.out, HN.out, HA.out]; rfl))
        clear ha
        go_wp2_with fail
        refine (relOf_err n 10 _ _ _ _ _ P _ (by exact H2.out.ps) hm HE.out (by decide)).mono ?_
        rintro e w2 ⟨rfl, hg2⟩
        have hg3 := grownBy_trans HG1.out hg2
        go_wp2
        go_ret2
        exact ⟨hg3, .inr ⟨by rw [HC.out]; decide, by rw [HC.out]; rfl⟩⟩
      · have HA := Lib.hid ha
        have HE : Hid (ofErr (n : Int) P = 0) := Lib.hid (by unfold ofErr; rw [if_neg (by omega), Int.toNat_natCast, HA.out]; rfl)
        clear ha
        go_wp2_with fail
        refine (relOf_ok n _ _ _ _ _ P _ (by exact H2.out.ps) hm HE.out).mono ?_
        rintro e w2 ⟨r, rfl, hR, hg2⟩
        have hg3 := grownBy_trans HG1.out hg2
        have HR2 := Lib.hid (hR.outer (lo' := w.heap.size) HG1.out.size (Nat.le_refl _))
        have HG3 := Lib.hid hg3
        clear hR hg2 hg3
        cases ht : grewC n (ofL n P) n
        · have HT := Lib.hid ht
          have HC := Lib.hid (chk_ok HL.out (P := P) (by rw [HR.out, HN.out, HA.out, HT.out]; rfl))
          clear ht
          go_wp2_with fail
          refine (isTrans_b _ _ _ _ _ true _ (by exact HR2.out) (by rw [HT.out]; rfl)).mono ?_
          rintro e w3 ⟨rfl, hg4⟩
          have HR3 := Lib.hid (HR2.out.calm hg4)
          have hsz := hg4.size
          have HG4 := Lib.hid (grownBy_trans HG3.out hg4)
          clear hg4
          go_wp2
          go_ret2
          refine ⟨HG4.out, .inl ⟨HC.out, r, rfl, ?_⟩⟩
          rw [HN.out]
          exact HR3.out.wider hsz
        · have HT := Lib.hid ht
          have HC := Lib.hid (chk_no HL.out (P := P) (by rw [HR.out, HN.out, HA.out, HT.out]; rfl))
          clear ht
          go_wp2_with fail
          refine (isTrans_b _ _ _ _ _ false _ (by exact HR2.out) (by rw [HT.out]; rfl)).mono ?_
          rintro e w3 ⟨rfl, hg4⟩
          have HG4 := Lib.hid (grownBy_trans HG3.out hg4)
          clear hg4
          go_wp2
          go_ret2
          exact ⟨HG4.out, .inr ⟨by rw [HC.out]; decide, by rw [HC.out]; rfl⟩⟩
  · have HC := Lib.hid (chk_lab (P := P) rfl hl)
    have hb : (labErr L != 0) = true := by simpa using hl
    have HL := Lib.hid hl
    clear hl
    have hgr := World.grownBy_alloc w (.cells #[.slice p n c, .slice q m d] 25) none
    generalize hk : labErr L = k at *
    have HK := Lib.hid hk
    clear hk
    go_enter Tryd.func29, Tryd.ntmps29
    go_wp2_with fail
    refine (checkLabels_c _ _ _ _ _ L k _ (by exact H1.out.ls) HK.out).mono ?_
    rintro e w1 ⟨rfl, h9⟩
    subst w1
    go_wp2
    go_ret2
    exact ⟨hgr, .inr ⟨by rw [HC.out]; exact HL.out, by rw [HC.out]; rfl⟩⟩

set_option maxHeartbeats 1000000 in
theorem check_c (p q : Option Addr) (n c m d lo hi : Nat) (L : List ByteArray) (P : List (Int × Int)) (k : Int) (w : World) (h : ObjAt w lo hi p n q m L P) (hm : m ≤ 1000000) (hk : chk L P = k) :
    Calls Tryd.prog 14 #[.agg #[.slice p n c, .slice q m d]] w fun e w' => e = .returned (.int .i64 k) ∧ w.grownBy w' none := by
  have h1 := h.calm (World.grownBy_alloc w (.cells #[.slice p n c, .slice q m d] 25) none)
  have H1 := Lib.hid h1
  have HK := Lib.hid hk
  clear h h1 hk
  go_enter Tryd.func14, Tryd.ntmps14
  go_wp2_with fail
  refine (read_c _ _ _ _ _ _ _ _ L P _ (by exact H1.out) hm).mono ?_
  rintro e w1 ⟨hg, ⟨h0, r, rfl, _⟩ | ⟨h0, rfl⟩⟩
  · obtain rfl : k = 0 := by rw [← HK.out]; exact h0
    have HG := Lib.hid (box2 hg).2.2
    clear hg h0
    go_wp2
    go_ret
    exact ⟨rfl, HG.out⟩
  · rw [HK.out]
    have HG := Lib.hid (box2 hg).2.2
    clear hg h0
    go_wp2
    go_ret
    exact ⟨rfl, HG.out⟩

set_option maxHeartbeats 1000000 in
theorem is_c (p q : Option Addr) (n c m d lo hi : Nat) (L : List ByteArray) (P : List (Int × Int)) (r : Bool) (w : World) (h : ObjAt w lo hi p n q m L P) (hm : m ≤ 1000000) (hk : (chk L P == 0) = r) :
    Calls Tryd.prog 16 #[.agg #[.slice p n c, .slice q m d]] w fun e w' => e = .returned (.bool r) ∧ w.grownBy w' none := by
  have h1 := h.calm (World.grownBy_alloc w (.cells #[.slice p n c, .slice q m d] 25) none)
  have H1 := Lib.hid h1
  have HK := Lib.hid hk
  clear h h1 hk
  generalize hq : chk L P = k at *
  have HQ := Lib.hid hq
  clear hq
  go_enter Tryd.func16, Tryd.ntmps16
  go_wp2_with fail
  refine (check_c _ _ _ _ _ _ _ _ L P k _ (by exact H1.out) hm HQ.out).mono ?_
  rintro e w1 ⟨rfl, hg⟩
  have HG := Lib.hid (box2 hg).2.2
  clear hg
  go_wp2
  go_ret
  exact ⟨by rw [HK.out]; rfl, HG.out⟩

/-- The object's elements, its relation. -/
def objN (L : List ByteArray) (P : List (Int × Int)) : Nat := if chk L P = 0 then L.length else 0
def objR (L : List ByteArray) (P : List (Int × Int)) : Nat → Nat → Bool := if chk L P = 0 then ofL L.length P else fun _ _ => false

set_option maxHeartbeats 1000000 in
theorem objRel_c (p q : Option Addr) (n c m d lo hi : Nat) (L : List ByteArray) (P : List (Int × Int)) (w : World) (h : ObjAt w lo hi p n q m L P) (hm : m ≤ 1000000) :
    Calls Tryd.prog 9 #[.agg #[.slice p n c, .slice q m d]] w (MadePost (objN L P) (objR L P) w) := by
  have h1 := h.calm (World.grownBy_alloc w (.cells #[.slice p n c, .slice q m d] 25) none)
  have H1 := Lib.hid h1
  clear h h1
  go_enter Tryd.func9, Tryd.ntmps9
  go_wp2_with fail
  refine (read_c _ _ _ _ _ _ _ _ L P _ (by exact H1.out) hm).mono ?_
  rintro e w1 ⟨hg, ⟨h0, r, rfl, hR⟩ | ⟨h0, rfl⟩⟩
  · have HO : Hid (objN L P = L.length ∧ objR L P = ofL L.length P) := Lib.hid ⟨by unfold objN; rw [if_pos h0], by unfold objR; rw [if_pos h0]⟩
    have HG := Lib.hid (box2 hg).2.2
    have HR := Lib.hid hR
    clear hg h0 hR
    go_wp2
    go_ret
    refine ⟨r, rfl, ?_, HG.out⟩
    rw [HO.out.1, HO.out.2]
    exact HR.out.outer (by simp) (Nat.le_refl _)
  · have HO : Hid (objN L P = 0 ∧ objR L P = fun _ _ => false) := Lib.hid ⟨by unfold objN; rw [if_neg h0], by unfold objR; rw [if_neg h0]⟩
    have hb : (chk L P != 0) = true := by simpa using h0
    have HG := Lib.hid (box2 hg).2.2
    clear hg h0
    generalize chk L P = k at *
    go_wp2_with fail
    refine (relNew_mid 0 _ (by omega)).mono ?_
    rintro e w2 ⟨r, rfl, hR, hg2⟩
    have HG2 := Lib.hid (grownBy_trans HG.out hg2)
    have HR := Lib.hid hR
    have hsz := HG.out.size
    clear hg2 hR
    go_wp2
    go_ret
    refine ⟨r, rfl, ?_, HG2.out⟩
    rw [HO.out.1, HO.out.2]
    exact HR.out.outer hsz (Nat.le_refl _)

end Go.Proofs.YtdolcdededmlhaaDoor
