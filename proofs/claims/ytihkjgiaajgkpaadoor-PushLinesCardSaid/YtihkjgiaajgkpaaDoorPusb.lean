/- Package push: beside: two objects, one behind the other. -/
import Derived.Test.YtihkjgiaajgkpaaDoorPusa
import Derived.Test.YtihkjgiaajgkpaaDoorArrb
namespace Go.Proofs.YtihkjgiaajgkpaaDoor
open Go.RowKit Go.Shelf

/-- A box that holds an object. -/
def BoxO (w : World) (g : Nat) (u v : Value) : Prop := w.heap[g]? = some (.cells #[u, v] 25 (0, 0))
theorem BoxO.lt {w : World} {g : Nat} {u v : Value} (h : BoxO w g u v) : g < w.heap.size := (Array.getElem?_eq_some_iff.1 h).1
theorem BoxO.new (w : World) (u v : Value) : BoxO (w.alloc (.cells #[u, v] 25)) w.heap.size u v := heap_alloc_new w _
theorem BoxO.c0 {w : World} {g : Nat} {u v : Value} (h : BoxO w g u v) : w.cell? ⟨g, 0, none⟩ = some u := by
  have h' : w.heap[g]? = some (.cells #[u, v] 25 (0, 0)) := h
  simp [World.cell?, h']
theorem BoxO.c1 {w : World} {g : Nat} {u v : Value} (h : BoxO w g u v) : w.cell? ⟨g, 1, none⟩ = some v := by
  have h' : w.heap[g]? = some (.cells #[u, v] 25 (0, 0)) := h
  simp [World.cell?, h']
theorem BoxO.free {w : World} {g : Nat} {u v : Value} (h : BoxO w g u v) (k : Nat) : w.frozen? ⟨g, k, none⟩ = false := by
  have h' : w.heap[g]? = some (.cells #[u, v] 25 (0, 0)) := h
  simp [World.frozen?, h']
theorem BoxO.calm {w w' : World} {g : Nat} {u v : Value} (h : BoxO w g u v) (hg : w.grownBy w' none) : BoxO w' g u v := (hg.block g h.lt (by simp)).trans h
theorem BoxO.other {w w' : World} {g : Nat} {u v : Value} {row : Option Nat} (h : BoxO w g u v) (hg : w.grownBy w' row) (hr : some g ≠ row) : BoxO w' g u v := (hg.block g h.lt hr).trans h
theorem BoxO.set0 {w : World} {g : Nat} {u v : Value} (h : BoxO w g u v) (x : Value) : BoxO (w.setCell ⟨g, 0, none⟩ x) g x v := by
  have h' : w.heap[g]? = some (.cells #[u, v] 25 (0, 0)) := h
  have := h.lt
  rw [BoxO]; simp only [World.setCell]; rw [Array.getElem?_modify, if_pos rfl, h']; simp
theorem BoxO.set1 {w : World} {g : Nat} {u v : Value} (h : BoxO w g u v) (x : Value) : BoxO (w.setCell ⟨g, 1, none⟩ x) g u x := by
  have h' : w.heap[g]? = some (.cells #[u, v] 25 (0, 0)) := h
  have := h.lt
  rw [BoxO]; simp only [World.setCell]; rw [Array.getElem?_modify, if_pos rfl, h']; simp

/-- Pairs, with n elements ahead of theirs. -/
def shP (n : Nat) (P : List (Int × Int)) : List (Int × Int) := P.map fun x => ((n : Int) + x.1, (n : Int) + x.2)
theorem shP_take {n : Nat} {P : List (Int × Int)} {k : Nat} (h : k < P.length) : shP n (P.take (k + 1)) = shP n (P.take k) ++ [((n : Int) + (P[k]?.getD (0, 0)).1, (n : Int) + (P[k]?.getD (0, 0)).2)] := by
  have : P.take (k + 1) = P.take k ++ [P[k]?.getD (0, 0)] := by rw [List.take_add_one, List.getElem?_eq_getElem h]; rfl
  rw [this]
  simp [shP]
theorem shP_len (n : Nat) (P : List (Int × Int)) : (shP n P).length = P.length := by simp [shP]
theorem shP_lenK {n k : Nat} {P : List (Int × Int)} (h : k ≤ P.length) : (shP n (P.take k)).length = k := by rw [shP_len, List.length_take]; omega

theorem ownsRow_set {w : World} {base : Nat} {e : TypeId} {size n : Nat} {v : Value} {xs : List Value} (h : w.ownsRow base e size v n xs) {p : Addr} (hp : p.block < base) (x : Value) : (w.setCell p x).ownsRow base e size v n xs := by
  refine ⟨h.1, ?_⟩
  rcases h.2 with h1 | ⟨g, cap, cur, e1, h1, h2, h3⟩
  · exact .inl h1
  · refine .inr ⟨g, cap, cur, e1, h1, ?_, h3⟩
    exact ((grownBy_setCell w p x).block g (Array.getElem?_eq_some_iff.1 h2).1 (by intro e; injection e; omega)).trans h2

theorem own_ne {w : World} {g n size : Nat} {e : TypeId} {v : Value} {xs : List Value} (h : w.ownsRow (g + 1) e size v n xs) : some g ≠ v.ownBlock := by
  rcases h.2 with ⟨rfl, _⟩ | ⟨g', cap, cur, rfl, h1, _⟩
  · simp [Value.ownBlock]
  · simp [Value.ownBlock]; omega
theorem ownsRow_new2 {w wr w2 : World} {base : Nat} {e : TypeId} {size n : Nat} {v : Value} {xs : List Value} (h : w.grownBy wr none) (ho : wr.ownsRow base e size v n xs) (hb : w.heap.size ≤ base) (hg : wr.grownBy w2 v.ownBlock) : w.grownBy w2 none :=
  ownsRow_new h (ownsRow_down ho hb) hg

set_option maxRecDepth 20000 in
set_option maxHeartbeats 2000000 in
theorem beside_c (p q p' q' : Option Addr) (n c m d n' c' m' d' lo hi : Nat) (L L' : List ByteArray) (P P' : List (Int × Int)) (w : World) (h : ObjAt w lo hi p n q m L P) (h' : ObjAt w lo hi p' n' q' m' L' P') (hn : n ≤ 1000000) (hn' : n' ≤ 1000000) (hm : m ≤ 1000000) (hm' : m' ≤ 1000000)
    (hp0 : p = none → c = 0) (hp0' : p' = none → c' = 0) (hq0 : q = none → d = 0) (hin : allIn n' P' = true) :
    Calls Tryd.prog 32 #[.agg #[.slice p n c, .slice q m d], .agg #[.slice p' n' c', .slice q' m' d']] w (CopyPost' (L ++ L') (P ++ shP n P') w) := by
  obtain ⟨i0, hi0, hz0, hz1, hz2⟩ := info_parts Tryd.info56
  have H := Lib.hid h
  have H' := Lib.hid h'
  have HIN := Lib.hid hin
  have HP0 := Lib.hid hp0
  have HP0' := Lib.hid hp0'
  have HQ0 := Lib.hid hq0
  have HL := Lib.hid h.ps.len
  have HL' := Lib.hid h'.ps.len
  clear h h' hin hp0 hp0' hq0
  go_enter Tryd.func32, Tryd.ntmps32
  go_wp2_with fail
  have hb0 := BoxO.new w (.slice p n c) (.slice q m d)
  have hb1 := BoxO.new (w.alloc (.cells #[.slice p n c, .slice q m d] 25)) (.slice p' n' c') (.slice q' m' d')
  have hb2 := BoxO.new ((w.alloc (.cells #[.slice p n c, .slice q m d] 25)).alloc (.cells #[.slice p' n' c', .slice q' m' d'] 25)) (.slice none 0 0) (.slice none 0 0)
  have hc4 := heap_alloc_new (((w.alloc (.cells #[.slice p n c, .slice q m d] 25)).alloc (.cells #[.slice p' n' c', .slice q' m' d'] 25)).alloc (.cells #[.slice none 0 0, .slice none 0 0] 25)) (.cells #[.slice p n c, .slice p' n' c'] 22)
  generalize hW1 : w.alloc (.cells #[.slice p n c, .slice q m d] 25) = W1 at *
  have g1 : w.grownBy W1 none := by rw [← hW1]; exact World.grownBy_alloc _ _ none
  have e1 : W1.heap.size = w.heap.size + 1 := by rw [← hW1]; simp
  generalize hW2 : W1.alloc (.cells #[.slice p' n' c', .slice q' m' d'] 25) = W2 at *
  have g2 : W1.grownBy W2 none := by rw [← hW2]; exact World.grownBy_alloc _ _ none
  have e2 : W2.heap.size = w.heap.size + 1 + 1 := by rw [← hW2]; simp [e1]
  generalize hW3 : W2.alloc (.cells #[.slice none 0 0, .slice none 0 0] 25) = W3 at *
  have g3 : W2.grownBy W3 none := by rw [← hW3]; exact World.grownBy_alloc _ _ none
  have e3 : W3.heap.size = w.heap.size + 1 + 1 + 1 := by rw [← hW3]; simp [e2]
  generalize hW4 : W3.alloc (.cells #[.slice p n c, .slice p' n' c'] 22) = W4 at *
  have g4 : W3.grownBy W4 none := by rw [← hW4]; exact World.grownBy_alloc _ _ none
  have e4 : W4.heap.size = w.heap.size + 1 + 1 + 1 + 1 := by rw [← hW4]; simp [e3]
  rw [e1] at hb1
  rw [e2] at hb2
  rw [e3] at hc4
  have HB0 := Lib.hid (hb0.calm (grownBy_trans g2 (grownBy_trans g3 g4)))
  have HB1 := Lib.hid (hb1.calm (grownBy_trans g3 g4))
  have HB2 := Lib.hid (hb2.calm g4)
  have HGW := Lib.hid (grownBy_trans g1 (grownBy_trans g2 (grownBy_trans g3 g4)))
  clear hW1 hW2 hW3 hW4 g1 g2 g3 g4 hb0 hb1 hb2 e1 e2 e3
  refine (concat_c 2 _ lo hi (fun k => if k = 0 then p else p') (fun k => if k = 0 then n else n') (fun k => if k = 0 then c else c') (fun k => if k = 0 then L else L') W4 (Nat.le_refl _) (by intro k _; by_cases e : k = 0 <;> simp [e] <;> omega) (by
    intro k hk
    rcases (show k = 0 ∨ k = 1 by omega) with rfl | rfl
    · exact ⟨by simp [World.cell?, hc4], H.out.ls.calm HGW.out, HP0.out⟩
    · exact ⟨by simp [World.cell?, hc4], H'.out.ls.calm HGW.out, HP0'.out⟩) (by omega)).mono ?_
  rw [show joinS (fun k => if k = 0 then L else L') 2 = L ++ L' by simp [joinS]]
  generalize L ++ L' = LL at *
  rintro e w1 ⟨v, rfl, hv, hg⟩
  obtain ⟨pl, cl, rfl⟩ := ownsRow_sl hv
  generalize hnl : LL.length = nl at *
  have HNL := Lib.hid hnl
  clear hnl
  have HV := Lib.hid hv
  have HG := Lib.hid hg
  have c00 := (HB0.out.calm hg).c1
  have c10 := (HB1.out.calm hg).c1
  have hsz := hg.size
  clear hv hg
  go_upto_region 3 with fail
  have hbx := BoxO.new w1 (.slice pl nl cl) (.slice none 0 0)
  have hgx := World.grownBy_alloc w1 (.cells #[.slice pl nl cl, .slice none 0 0] 25) none
  have ex : (w1.alloc (.cells #[.slice pl nl cl, .slice none 0 0] 25)).heap.size = w1.heap.size + 1 := by simp
  have d00 := ((HB0.out.calm HG.out).calm hgx).c1
  have HPS := Lib.hid (((H.out.ps.calm HGW.out).calm HG.out).calm hgx)
  generalize hWx : w1.alloc (.cells #[.slice pl nl cl, .slice none 0 0] 25) = wx at *
  have HBX := Lib.hid hbx
  have HGX := Lib.hid hgx
  have x1 := hbx.c1
  clear hbx hgx hWx c00 c10
  go_cut [23] (fun s23 wy => ∃ (pm : Option Addr) (cm : Nat), s23 = .slice pm m cm ∧ BoxO wy w1.heap.size (.slice pl nl cl) (.slice pm m cm) ∧ wy.ownsRow (w1.heap.size + 1) 56 2 (.slice pm m cm) m (pcells P) ∧ w1.grownBy wy none)
  case first =>
    cases hq : q with
    | none =>
      subst hq
      have z0 := HQ0.out rfl
      subst z0
      have hm0 : m = 0 := by
        rcases Nat.eq_zero_or_pos m with e | e
        · exact e
        · obtain ⟨_, _, e, _⟩ := HPS.out.cell e; cases e
      subst hm0
      have hPn : P = [] := List.eq_nil_of_length_eq_zero HL.out
      subst hPn
      have xf := HBX.out.free 1
      go_wp2_with (at_builtin; refine wpList_append_own_none rfl _ _ 23 rfl (w1.heap.size + 1) 56 i0 2 Tryd.underlying23 hi0 (.slice none 0 0) 0 [] rfl (World.ownsRow_nil _ _ _ _) rfl ?_)
      go_meet
      exact ⟨none, 0, rfl, HBX.out.set1 _, World.ownsRow_nil _ _ _ _, grownBy_setCell_new _ HGX.out (Nat.le_refl _)⟩
    | some ad =>
      subst hq
      have hnews := Lib.hid (pairs_news HPS.out)
      have hl1 := HL.out
      go_wp2_with (at_builtin; refine wpList_append_own _ rfl _ _ 23 rfl (w1.heap.size + 1) 56 i0 (.agg #[.int .i64 0, .int .i64 0]) 2 16 Tryd.underlying23 hi0 hz0 hz1 hz2 rfl (by decide) (.slice none 0 0) 0 [] rfl (World.ownsRow_nil _ _ _ _) ad m d (pcells P) rfl (by rw [pcells_len, hl1]) hnews.out (pcells_one' _) (by unfold maxLen; omega) (by omega) (by omega) ?_; intro v' w2 hown' hgrow _; rw [Nat.zero_add, List.nil_append] at hown'; obtain ⟨p2, c2, rfl⟩ := ownsRow_sl hown'; have HBX2 := Lib.hid (HBX.out.calm hgrow); have xf := HBX2.out.free 1; have xc := HBX2.out.c1; have HO2 := Lib.hid hown'; have HG2 := Lib.hid (grownBy_trans HGX.out hgrow); clear hown' hgrow)
      go_meet
      exact ⟨p2, c2, rfl, HBX2.out.set1 _, ownsRow_set HO2.out (by show w1.heap.size < _; omega) _, grownBy_setCell_new _ HG2.out (Nat.le_refl _)⟩
  case rest =>
    obtain ⟨pm, cm, rfl, hbx, hown, hgx⟩ := hcut
    have HBX2 := Lib.hid hbx
    have HOW := Lib.hid hown
    have HGC := Lib.hid hgx
    have c10 := (HB1.out.calm (grownBy_trans HG.out hgx)).c1
    have HP2 := Lib.hid (H'.out.ps.calm (grownBy_trans HGW.out HG.out))
    clear hbx hown hgx x1 d00 HBX HGX HPS ex
    go_wp2
    generalize hgg : w1.heap.size = g at *
    have HGG := Lib.hid hgg
    clear hgg
    go_loopw [28] (fun i wr => ∃ (k : Nat) (pk : Option Addr) (ck : Nat), k ≤ m' ∧ i = .int .i64 k ∧ BoxO wr g (.slice pl nl cl) (.slice pk (m + k) ck) ∧ wr.ownsRow (g + 1) 56 2 (.slice pk (m + k) ck) (m + k) (pcells (P ++ shP n (P'.take k))) ∧ w1.grownBy wr none) (fun i _ => m' - (intOf i).toNat)
    case atStart => exact ⟨0, pm, cm, Nat.zero_le _, rfl, HBX2.out, by simpa [shP] using HOW.out, HGC.out⟩
    case round =>
      obtain ⟨k, pk, ck, hk, rfl, hbx, hown, hgr⟩ := hrel
      have HBK := Lib.hid hbx
      have HOK := Lib.hid hown
      have HGR := Lib.hid hgr
      have x1 := hbx.c1
      have hgl := hbx.lt
      clear HBX2 HOW HGC
      by_cases hkm : k < m'
      · have k0 : (0 : Int) ≤ k := by omega
        have k1 : (k : Int) < m' := by omega
        obtain ⟨bp, op, rfl, q1, q2, q3, hcp⟩ := (HP2.out.calm hgr).cell (by omega)
        obtain ⟨y0, y1⟩ := hcp k hkm
        have HI := Lib.hid (inI_of_all (k := k) HIN.out (by rw [HL'.out]; exact hkm))
        have HST := Lib.hid (shP_take (n := n) (P := P') (k := k) (by rw [HL'.out]; exact hkm))
        have d10 := (HB1.out.calm (grownBy_trans HG.out hgr)).c1
        clear hcp hbx hown hgr c10
        obtain ⟨x, hx⟩ : ∃ x, x = P'[k]?.getD (0, 0) := ⟨_, rfl⟩
        rw [← hx] at y0 y1 HI HST
        clear hx
        obtain ⟨xa, xb⟩ := x
        obtain ⟨a0, a1, a2, a3⟩ : 0 ≤ xa ∧ xa < n' ∧ 0 ≤ xb ∧ xb < n' := by have := HI.out; unfold inI at this; simp only at this; omega
        simp only at y0 y1
        have hgA := World.grownBy_alloc wr (.cells #[.int .i64 xa, .int .i64 xb] 56) none
        have hgB := World.grownBy_alloc (wr.alloc (.cells #[.int .i64 xa, .int .i64 xb] 56)) (.cells #[.int .i64 ((n : Int) + xa), .int .i64 ((n : Int) + xb)] 56) none
        have HGAB := Lib.hid (grownBy_trans hgA hgB)
        have HBK2 := Lib.hid (HBK.out.calm HGAB.out)
        have HOK2 := Lib.hid (ownsRow_calm HOK.out HGAB.out)
        have bx1 := (HBK.out.calm hgA).c1
        have hnw := cell_two_new (wr.alloc (.cells #[.int .i64 xa, .int .i64 xb] 56)) (.int .i64 ((n : Int) + xa)) (.int .i64 ((n : Int) + xb)) 56
        have HNW := Lib.hid hnw
        clear hgA hgB hnw
        go_wp2_with (at_builtin; refine wpList_append_own _ rfl _ _ 23 rfl (g + 1) 56 i0 (.agg #[.int .i64 0, .int .i64 0]) 2 16 Tryd.underlying23 hi0 hz0 hz1 hz2 rfl (by decide) (.slice pk (m + k) ck) (m + k) _ rfl HOK2.out ⟨wr.heap.size + 1, 0, none⟩ 1 1 [.int .i64 ((n : Int) + xa), .int .i64 ((n : Int) + xb)] rfl rfl (by simpa using HNW.out) (by simp [Value.oneCell']) (by unfold maxLen; omega) (by omega) (by simp only [World.size_alloc]; omega) ?_; intro v' w2 hown' hgrow _; obtain ⟨p2, c2, rfl⟩ := ownsRow_sl hown'; have HBX2 := Lib.hid (HBK2.out.other hgrow (own_ne HOK2.out)); have xf := HBX2.out.free 1; have xc := HBX2.out.c1; have HO2 := Lib.hid hown'; have HG2 := Lib.hid (ownsRow_new2 (grownBy_trans HGR.out HGAB.out) HOK2.out (by rw [HGG.out]; omega) hgrow); clear hown' hgrow)
        refine ⟨⟨k + 1, p2, c2, by omega, by go_num, HBX2.out.set1 _, ?_, grownBy_setCell_new _ HG2.out (by rw [HGG.out]; exact Nat.le_refl _)⟩, by simp [intOf]; omega⟩
        have := ownsRow_set HO2.out (p := ⟨g, 1, none⟩) (by show g < _; omega) (.slice p2 (m + k + 1) c2)
        rw [HST.out, ← List.append_assoc, pcells_snoc]
        exact this
      · obtain rfl : k = m' := by omega
        have x0 := hbx.c0
        have hb2 := HB2.out.calm (grownBy_trans HG.out hgr)
        have b0 := hb2.c0
        have b1 := hb2.c1
        have f0 := hb2.free 0
        have f1 := hb2.free 1
        have HB9 := Lib.hid hb2
        have HLL := Lib.hid (show (P ++ shP n P').length = m + k by rw [List.length_append, shP_len, HL.out, HL'.out])
        clear hbx hown hgr hb2
        go_wp2
        refine bodyPost_ret (v := .agg #[.slice pl nl cl, .slice pk (m + k) ck]) (by simp [results, Tryd.results32, go_sem, b0, b1]) rfl ⟨_, _, rfl, ?_, ?_⟩
        · have hp9 : wr.ownsRow (w.heap.size + 1 + 1 + 1) 56 2 (.slice pk (m + k) ck) (m + k) (pcells (P ++ shP n P')) := by
            have := HOK.out
            rw [← HL'.out, List.take_length, HL'.out] at this
            exact ownsRow_down this (by omega)
          have hl9 : wr.ownsRow (w.heap.size + 1 + 1 + 1) 9 1 (.slice pl nl cl) nl (scells LL) := ownsRow_down (ownsRow_calm HV.out HGR.out) (by omega)
          have hA : OwnObj wr (w.heap.size + 1 + 1 + 1) (.slice pl nl cl) (.slice pk (m + k) ck) LL (P ++ shP n P') := ⟨by rw [HNL.out]; exact hl9, by rw [HLL.out]; exact hp9⟩
          have hB := (hA.set (p := ⟨w.heap.size + 1 + 1, 0, none⟩) (by show w.heap.size + 1 + 1 < _; omega) (.slice pl nl cl)).set (p := ⟨w.heap.size + 1 + 1, 1, none⟩) (by show w.heap.size + 1 + 1 < _; omega) (.slice pk (m + k) ck)
          exact ⟨ownsRow_down hB.ls (by omega), ownsRow_down hB.ps (by omega)⟩
        · exact grownBy_setCell_new _ (grownBy_setCell_new _ (grownBy_trans HGW.out (grownBy_trans HG.out HGR.out)) (by show _ ≤ w.heap.size + 1 + 1; omega)) (by show _ ≤ w.heap.size + 1 + 1; omega)

end Go.Proofs.YtihkjgiaajgkpaaDoor
