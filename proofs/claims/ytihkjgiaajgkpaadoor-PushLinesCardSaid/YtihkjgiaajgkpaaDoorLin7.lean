/- The walk of the statement PushLines: at every input it answers true and leaves all that lay as it lay. Condition: the table of the lowest places is in memory. -/
import Derived.Test.YtihkjgiaajgkpaaDoorLinA
namespace Go.Proofs.YtihkjgiaajgkpaaDoor
open Go.RowKit

theorem SL.last {Wx W : World} {x y lo hi na nb ni nj c5 d5 : Nat} {F G : Option Nat} {Q : World → Prop} {p5 q5 pi pj : Option Addr} {A : List ByteArray} {B : List (Int × Int)} {I J : List Int} (h : SL Wx W x y F G none Q) (h1 : ObjAt W lo hi p5 na q5 nb A B) (h2 : ZsAt W lo hi pi ni I) (h3 : ZsAt W lo hi pj nj J) :
    SD Wx (W.alloc (.cells #[.slice p5 na c5, .slice q5 nb d5] 25)) W.heap.size p5 c5 q5 d5 pi pj na nb ni nj A B I J := by
  have hg := World.grownBy_alloc W (.cells #[.slice p5 na c5, .slice q5 nb d5] 25) none
  exact ⟨grownBy_trans h.gr hg, BoxO.new W _ _, lo, hi, h1.calm hg, h2.calm hg, h3.calm hg⟩
theorem SL.set {Wx W : World} {x y g lo hi na nb ni nj c5 d5 : Nat} {F G : Option Nat} {Q : World → Prop} {p5 q5 pi pj : Option Addr} {A : List ByteArray} {B : List (Int × Int)} {I J : List Int} (h : SL Wx W x y F G (some g) Q) (hl : g < lo) (h1 : ObjAt W lo hi p5 na q5 nb A B) (h2 : ZsAt W lo hi pi ni I) (h3 : ZsAt W lo hi pj nj J) :
    SD Wx ((W.setCell ⟨g, 0, none⟩ (.slice p5 na c5)).setCell ⟨g, 1, none⟩ (.slice q5 nb d5)) g p5 c5 q5 d5 pi pj na nb ni nj A B I J := by
  obtain ⟨hx, hb⟩ := h.bx g rfl
  have k1 := Kept.row (grownBy_setCell W ⟨g, 0, none⟩ (.slice p5 na c5)) (Nat.le_refl _) (Nat.lt_succ_self _)
  have k2 := Kept.row (grownBy_setCell (W.setCell ⟨g, 0, none⟩ (.slice p5 na c5)) ⟨g, 1, none⟩ (.slice q5 nb d5)) (Nat.le_refl _) (Nat.lt_succ_self _)
  exact ⟨grownBy_setCell_new _ (grownBy_setCell_new _ h.gr hx) hx, (hb.set0 _).set1 _, lo, hi, (h1.set (a := ⟨g, 0, none⟩) hl _).set (a := ⟨g, 1, none⟩) hl _, (h2.apart k1 (.inr hl)).apart k2 (.inr hl), (h3.apart k1 (.inr hl)).apart k2 (.inr hl)⟩

theorem SL.set9 {Wx W : World} {x y g lo hi na nb ni nj c5 d5 : Nat} {F G : Option Nat} {Q : World → Prop} {p5 q5 pi pj : Option Addr} {A : List ByteArray} {B : List (Int × Int)} {I J : List Int} (h : SL Wx W x y F G (some g) Q) (h1 : ObjAt W lo hi p5 na q5 nb A B) (h2 : ZsAt W lo hi pi ni I) (h3 : ZsAt W lo hi pj nj J) (hl : hi ≤ g) :
    SD Wx ((W.setCell ⟨g, 0, none⟩ (.slice p5 na c5)).setCell ⟨g, 1, none⟩ (.slice q5 nb d5)) g p5 c5 q5 d5 pi pj na nb ni nj A B I J := by
  obtain ⟨hx, hb⟩ := h.bx g rfl
  have k1 := Kept.row (grownBy_setCell W ⟨g, 0, none⟩ (.slice p5 na c5)) (Nat.le_refl _) (Nat.lt_succ_self _)
  have k2 := Kept.row (grownBy_setCell (W.setCell ⟨g, 0, none⟩ (.slice p5 na c5)) ⟨g, 1, none⟩ (.slice q5 nb d5)) (Nat.le_refl _) (Nat.lt_succ_self _)
  exact ⟨grownBy_setCell_new _ (grownBy_setCell_new _ h.gr hx) hx, (hb.set0 _).set1 _, lo, hi, ⟨(h1.ls.apart k1 (.inl hl)).apart k2 (.inl hl), (h1.ps.apart k1 (.inl hl)).apart k2 (.inl hl)⟩, (h2.apart k1 (.inl hl)).apart k2 (.inl hl), (h3.apart k1 (.inl hl)).apart k2 (.inl hl)⟩
theorem zsTop {w : World} {lo hi n : Nat} {p : Option Addr} {l : List Int} (h : ZsAt w lo hi p n l) (hn : 0 < n) : hi ≤ w.heap.size := by
  obtain ⟨_, _, _, _, _, q, _⟩ := h.cell hn
  exact q
theorem held_three {P : Program} {Q : Exit → Act → World → Prop} {S : World → Prop} {ops : Array Oper} {fuel : Nat} {listed : Array Bool} {a : Act} {w : World} (i k l : Nat) (hr : Region.ready .any ops listed = [i, k, l]) {o o' o2 : Oper} (ho : ops[i]? = some o) (ho' : ops[k]? = some o') (ho2 : ops[l]? = some o2)
    (h : ∀ K : Act → World → Prop, (∀ a' w', S w' → wpAnyH P .any ops Q S fuel (listed.setIfInBounds i true) a' w' → K a' w') → if Region.wanted o (yielded ops a.tmps) = true then Oper.wp P o a w K Q else K (a.put o.dst undef) w)
    (h' : ∀ K : Act → World → Prop, (∀ a' w', S w' → wpAnyH P .any ops Q S fuel (listed.setIfInBounds k true) a' w' → K a' w') → if Region.wanted o' (yielded ops a.tmps) = true then Oper.wp P o' a w K Q else K (a.put o'.dst undef) w)
    (h2 : ∀ K : Act → World → Prop, (∀ a' w', S w' → wpAnyH P .any ops Q S fuel (listed.setIfInBounds l true) a' w' → K a' w') → if Region.wanted o2 (yielded ops a.tmps) = true then Oper.wp P o2 a w K Q else K (a.put o2.dst undef) w) : wpAnyH P .any ops Q S (fuel + 1) listed a w := by
  refine wpAnyH_all hr (by simp) fun j hj => ?_
  rcases (by simpa using hj : j = i ∨ j = k ∨ j = l) with rfl | rfl | rfl
  · exact wpOp_step ho (fun K hK => h K fun a' w' h1 h2 => hK a' w' ⟨h1, h2⟩)
  · exact wpOp_step ho' (fun K hK => h' K fun a' w' h1 h2 => hK a' w' ⟨h1, h2⟩)
  · exact wpOp_step ho2 (fun K hK => h2 K fun a' w' h1 h2 => hK a' w' ⟨h1, h2⟩)
theorem held_four {P : Program} {Q : Exit → Act → World → Prop} {S : World → Prop} {ops : Array Oper} {fuel : Nat} {listed : Array Bool} {a : Act} {w : World} (i k l m : Nat) (hr : Region.ready .any ops listed = [i, k, l, m]) {o o' o2 o3 : Oper} (ho : ops[i]? = some o) (ho' : ops[k]? = some o') (ho2 : ops[l]? = some o2) (ho3 : ops[m]? = some o3)
    (h : ∀ K : Act → World → Prop, (∀ a' w', S w' → wpAnyH P .any ops Q S fuel (listed.setIfInBounds i true) a' w' → K a' w') → if Region.wanted o (yielded ops a.tmps) = true then Oper.wp P o a w K Q else K (a.put o.dst undef) w)
    (h' : ∀ K : Act → World → Prop, (∀ a' w', S w' → wpAnyH P .any ops Q S fuel (listed.setIfInBounds k true) a' w' → K a' w') → if Region.wanted o' (yielded ops a.tmps) = true then Oper.wp P o' a w K Q else K (a.put o'.dst undef) w)
    (h2 : ∀ K : Act → World → Prop, (∀ a' w', S w' → wpAnyH P .any ops Q S fuel (listed.setIfInBounds l true) a' w' → K a' w') → if Region.wanted o2 (yielded ops a.tmps) = true then Oper.wp P o2 a w K Q else K (a.put o2.dst undef) w)
    (h3 : ∀ K : Act → World → Prop, (∀ a' w', S w' → wpAnyH P .any ops Q S fuel (listed.setIfInBounds m true) a' w' → K a' w') → if Region.wanted o3 (yielded ops a.tmps) = true then Oper.wp P o3 a w K Q else K (a.put o3.dst undef) w) : wpAnyH P .any ops Q S (fuel + 1) listed a w := by
  refine wpAnyH_all hr (by simp) fun j hj => ?_
  rcases (by simpa using hj : j = i ∨ j = k ∨ j = l ∨ j = m) with rfl | rfl | rfl | rfl
  · exact wpOp_step ho (fun K hK => h K fun a' w' h1 h2 => hK a' w' ⟨h1, h2⟩)
  · exact wpOp_step ho' (fun K hK => h' K fun a' w' h1 h2 => hK a' w' ⟨h1, h2⟩)
  · exact wpOp_step ho2 (fun K hK => h2 K fun a' w' h1 h2 => hK a' w' ⟨h1, h2⟩)
  · exact wpOp_step ho3 (fun K hK => h3 K fun a' w' h1 h2 => hK a' w' ⟨h1, h2⟩)
theorem linSum {i j K : Nat} (hi : i < 6) (hj : j < 6) (h : (i + 2) * (i + 1) / 2 + (j + 2) * (j + 1) / 2 - 1 = K) : wrap64 (wrap64 (wrap64 ((wrap64 (((i : Int) + 2) * ((i : Int) + 1))).tdiv 2) + wrap64 ((wrap64 (((j : Int) + 2) * ((j : Int) + 1))).tdiv 2)) - 1) = (K : Int) := by
  subst h
  have h6 : i = 0 ∨ i = 1 ∨ i = 2 ∨ i = 3 ∨ i = 4 ∨ i = 5 := by omega
  have h7 : j = 0 ∨ j = 1 ∨ j = 2 ∨ j = 3 ∨ j = 4 ∨ j = 5 := by omega
  rcases h6 with rfl | rfl | rfl | rfl | rfl | rfl <;> rcases h7 with rfl | rfl | rfl | rfl | rfl | rfl <;> decide +kernel
/-- A state of such a walk, shown once. -/
theorem linTail {P : Program} {md : Region.Mode} {ops : Array Oper} {Q : Exit → Act → World → Prop} {S : World → Prop} {fuel : Nat} {listed : Array Bool} {a : Act} {w : World} (n : Nat) (Z : Act → Array Bool → Act → World → Prop) (h1 : ∀ L A W, Z a L A W → wpAnyH P md ops Q S n L A W)
    (h2 : (∀ L A W, Z a L A W → wpAnyH P md ops Q S n L A W) → wpAnyH P md ops Q S fuel listed a w) : wpAnyH P md ops Q S fuel listed a w := h2 h1
theorem hidGrow {W : World} {S : World → Prop} (_h : Hid (∀ W', W.grownBy W' none → S W')) : W.grownBy W.drew none := grownBy_drewN W 1 none
theorem linHold {W : World} {g i1 j1 nb nc bi oi bj oj l h l' h' : Nat} {u v : Value} {I J : List Int} {v1 v2 : Int} (hb : BoxO W g u v) (hi : ZsAt W l h (some ⟨bi, oi, none⟩) nb I) (hj : ZsAt W l' h' (some ⟨bj, oj, none⟩) nc J) (hi1 : i1 < nb) (hj1 : j1 < nc) (a0 : I[0]?.getD 0 = 0) (a1 : I[i1]?.getD 0 = v1) (_hz : 0 < nb) (e0 : J[0]?.getD 0 = 0) (e1 : J[j1]?.getD 0 = v2) :
    Hid (∀ W', W.grownBy W' none → (W'.cell? ⟨g, 0, none⟩ = some u ∧ W'.cell? ⟨g, 1, none⟩ = some v) ∧ (W'.cell? ⟨bi, oi, none⟩ = some (.int .i64 0) ∧ W'.cell? ⟨bi, oi + i1, none⟩ = some (.int .i64 v1)) ∧ W'.cell? ⟨bj, oj, none⟩ = some (.int .i64 0) ∧ W'.cell? ⟨bj, oj + j1, none⟩ = some (.int .i64 v2)) := Lib.hid (fun W' hg => by
  obtain ⟨b1, o1, q1, _, _, _, hc1⟩ := (hi.calm hg).cell (by omega)
  obtain ⟨b2, o2, q2, _, _, _, hc2⟩ := (hj.calm hg).cell (by omega)
  cases q1
  cases q2
  have x0 := hc1 0 (by omega)
  have x1 := hc1 i1 hi1
  have y0 := hc2 0 (by omega)
  have y1 := hc2 j1 hj1
  rw [a0, Nat.add_zero] at x0
  rw [a1] at x1
  rw [e0, Nat.add_zero] at y0
  rw [e1] at y1
  exact ⟨⟨(hb.calm hg).c0, (hb.calm hg).c1⟩, ⟨x0, x1⟩, y0, y1⟩)

set_option maxRecDepth 20000 in
set_option maxHeartbeats 40000000 in
theorem pushLines_in (n m x y : Nat) (w : World) (hn : n < 256) (hm : m < 256) (hxx : n % 6 = x) (hyy : m % 6 = y) (ht : Tab w) : Calls Tryd.prog 7 #[.int .u8 n, .int .u8 m] w fun e w' => e = .returned (.bool true) ∧ w.grownBy w' none := by
  obtain ⟨i0, hi', hz0, hz1, hz2⟩ := info_parts Tryd.info9
  have n0 : (0 : Int) ≤ n := by omega
  have n1 : (n : Int) < 256 := by omega
  have m0 : (0 : Int) ≤ m := by omega
  have m1 : (m : Int) < 256 := by omega
  have hx6 : x < 6 := by omega
  have hy6 : y < 6 := by omega
  have HX := Lib.hid (show (n : Int) % 6 = (x : Int) by omega)
  have HY := Lib.hid (show (m : Int) % 6 = (y : Int) by omega)
  have HT := Lib.hid ht
  clear hxx hyy ht
  go_enter Tryd.func7, Tryd.ntmps7
  go_wp2_with fail
  refine (known7_c _ HT.out).mono ?_
  rintro e w1 ⟨rfl, hg1⟩
  have HG1 := Lib.hid hg1
  clear hg1
  go_wp2_with fail
  rw [HX.out, HY.out]
  have hga := World.grownBy_alloc w1 (.cells #[.string sT, .string sE] 9) none
  have hst0 : ∃ hi, StrsAt (w1.alloc (.cells #[.string sT, .string sE] 9)) w1.heap.size hi (some ⟨w1.heap.size, 0, none⟩) 2 [sT, sE] := by
    obtain ⟨p, c, e, h⟩ := strsAt_own (l := [sT, sE]) (World.ownsRow_lit w1 #[.string sT, .string sE] 2 (Nat.le_refl _) (by decide) rfl)
    cases e
    exact ⟨_, h⟩
  obtain ⟨hiA, hst⟩ := hst0
  refine (row7_c (some ⟨w1.heap.size, 0, none⟩) 2 2 _ _ [sT, sE] _ hst (by omega)).mono ?_
  rintro e wA ⟨qa, da, rfl, hoa, _, hgA⟩
  have HGA := Lib.hid (grownBy_trans HG1.out (grownBy_trans hga hgA))
  have hgb := World.grownBy_alloc wA (.cells #[.slice (some ⟨w1.heap.size, 0, none⟩) 2 2, .slice qa (rowP 2).length da] 25) none
  have HB7 := Lib.hid (BoxO.new wA (.slice (some ⟨w1.heap.size, 0, none⟩) 2 2) (.slice qa (rowP 2).length da))
  have HOA := Lib.hid (hoa.calm hgb)
  have HG3 := Lib.hid (grownBy_trans HGA.out hgb)
  obtain ⟨ga, hga9⟩ : ∃ ga, w1.heap.size = ga := ⟨_, rfl⟩
  rw [hga9] at HB7 HOA HG3 ⊢
  clear hst hga hoa hgA hgb HGA HG1
  go_upto_region 5 with fail
  try rw [hga9]
  obtain ⟨g7, hg7⟩ : ∃ g7, wA.heap.size = g7 := ⟨_, rfl⟩
  rw [hg7] at HB7 ⊢
  clear hga9 hg7
  generalize wA.alloc (.cells #[.slice (some ⟨ga, 0, none⟩) 2 2, .slice qa (rowP 2).length da] 25) = w3 at *
  have HLE := Lib.hid (LE.start w3)
  go_wp2_with fail
  go_loopw [8, 10] (fun sb si wr => ∃ (gb cb gc i : Nat), i ≤ x ∧ sb = .slice (some ⟨gb, 0, none⟩) (i + 1) cb ∧ si = .int .i64 i ∧ gc = w3.heap.size + 1 ∧ LE w3 wr gb cb (i + 1) gc 1 1 (sT :: List.replicate i sB) [sT]) (fun _ si _ => x - (intOf si).toNat)
  case atStart => exact ⟨_, _, _, 0, Nat.zero_le _, rfl, rfl, rfl, HLE.out⟩
  case round =>
    obtain ⟨gb, cb, gc, i, hi, rfl, rfl, hgc, hle⟩ := hrel
    by_cases hix : i < x
    · have k0 : (0 : Int) ≤ i := by omega
      have k1 : (i : Int) < x := by omega
      have hs1 := hle.gr.size
      have cl := hle.cl
      have HL0 := Lib.hid (hle.calm (World.grownBy_alloc wr (.cells #[.string sB] 9) none))
      clear hle
      go_wp2_with (at_builtin; refine wpList_append_lies _ rfl _ _ 22 rfl w3.heap.size 9 i0 (.string .empty) 1 16 Tryd.underlying22 hi' hz0 hz1 hz2 rfl (by decide) (.slice (some ⟨gb, 0, none⟩) (i + 1) cb) (i + 1) (scells (sT :: List.replicate i sB)) rfl HL0.out.b ⟨wr.heap.size, 0, none⟩ 1 1 [.string sB] rfl rfl (World.news_of_block (heap_new wr _)) (by simp [Value.oneCell']) (by decide) (by unfold maxLen; omega) (by omega) (by simp; omega) (wr.heap.size + 1) (by simp) ?_; intro g3 c3 w5 hown3 hgrow3 hb3 hlt3; have HL1 := Lib.hid (HL0.out.bnext hown3 hgrow3 hb3 (by omega) hlt3); clear hown3 hgrow3 hb3 hlt3 HL0)
      refine ⟨⟨g3, c3, gc, i + 1, by omega, rfl, by go_num, hgc, ?_⟩, by simp [intOf]; omega⟩
      have := HL1.out
      rw [List.cons_append, ← List.replicate_succ'] at this
      exact this
    · obtain rfl : i = x := by omega
      have k1 : ¬ ((i : Int) < i) := by omega
      have HLE := Lib.hid hle
      have HGC := Lib.hid hgc
      rw [← hgc]
      clear hle hgc
      generalize wr = w4 at *
      go_wp2
      try rw [← HGC.out]
      clear HGC
      go_loopw [9, 11] (fun sc si wr => ∃ (gc cc j : Nat), j ≤ y ∧ sc = .slice (some ⟨gc, 0, none⟩) (j + 1) cc ∧ si = .int .i64 j ∧ LE w3 wr gb cb (i + 1) gc cc (j + 1) (sT :: List.replicate i sB) (sT :: List.replicate j sC)) (fun _ si _ => y - (intOf si).toNat)
      case atStart => exact ⟨gc, 1, 0, Nat.zero_le _, rfl, rfl, HLE.out⟩
      case round =>
        obtain ⟨gc, cc, j, hj, rfl, rfl, hle⟩ := hrel
        by_cases hjy : j < y
        · have k0 : (0 : Int) ≤ j := by omega
          have k1 : (j : Int) < y := by omega
          have hs1 := hle.gr.size
          have bl := hle.bl
          have HL0 := Lib.hid (hle.calm (World.grownBy_alloc wr (.cells #[.string sC] 9) none))
          clear hle
          go_wp2_with (at_builtin; refine wpList_append_lies _ rfl _ _ 22 rfl w3.heap.size 9 i0 (.string .empty) 1 16 Tryd.underlying22 hi' hz0 hz1 hz2 rfl (by decide) (.slice (some ⟨gc, 0, none⟩) (j + 1) cc) (j + 1) (scells (sT :: List.replicate j sC)) rfl HL0.out.c ⟨wr.heap.size, 0, none⟩ 1 1 [.string sC] rfl rfl (World.news_of_block (heap_new wr _)) (by simp [Value.oneCell']) (by decide) (by unfold maxLen; omega) (by omega) (by simp; omega) (wr.heap.size + 1) (by simp) ?_; intro g3 c3 w5 hown3 hgrow3 hb3 hlt3; have HL1 := Lib.hid (HL0.out.cnext hown3 hgrow3 hb3 (by omega) hlt3); clear hown3 hgrow3 hb3 hlt3 HL0)
          refine ⟨⟨g3, c3, j + 1, by omega, rfl, by go_num, ?_⟩, by simp [intOf]; omega⟩
          have := HL1.out
          rw [List.cons_append, ← List.replicate_succ'] at this
          exact this
        · obtain rfl : j = y := by omega
          have k1 : ¬ ((j : Int) < j) := by omega
          have hs1 := hle.gr.size
          have bl := hle.bl
          have cl := hle.cl
          have HL0 := Lib.hid (hle.calm (World.grownBy_alloc wr (.cells #[.string sE] 9) none))
          clear hle
          go_upto_region 15 with (at_builtin; (first
            | (refine wpList_append_lies _ rfl _ _ 22 rfl w3.heap.size 9 i0 (.string .empty) 1 16 Tryd.underlying22 hi' hz0 hz1 hz2 rfl (by decide) (.slice (some ⟨gb, 0, none⟩) (i + 1) cb) (i + 1) (scells (sT :: List.replicate i sB)) rfl HL0.out.b ⟨wr.heap.size, 0, none⟩ 1 1 [.string sE] rfl rfl (World.news_of_block (heap_new wr _)) (by simp [Value.oneCell']) (by decide) (by unfold maxLen; omega) (by omega) (by simp; omega) (wr.heap.size + 1) (by simp) ?_; intro g3 c3 w5 hown3 hgrow3 hb3 hlt3; have hl1 := HL0.out.bnext hown3 hgrow3 hb3 (by omega) hlt3; have HL1 := Lib.hid (hl1.calm (World.grownBy_alloc w5 (.cells #[.string sE] 9) none)); have hs5 := hl1.gr.size; have bl5 := hl1.bl; clear hown3 hgrow3 hb3 hlt3 hl1 HL0)
            | (refine wpList_append_lies _ rfl _ _ 22 rfl w3.heap.size 9 i0 (.string .empty) 1 16 Tryd.underlying22 hi' hz0 hz1 hz2 rfl (by decide) (.slice (some ⟨gc, 0, none⟩) (j + 1) cc) (j + 1) (scells (sT :: List.replicate j sC)) rfl HL1.out.c ⟨w5.heap.size, 0, none⟩ 1 1 [.string sE] rfl rfl (World.news_of_block (heap_new w5 _)) (by simp [Value.oneCell']) (by decide) (by unfold maxLen; omega) (by omega) (by simp; omega) (w5.heap.size + 1) (by simp) ?_; intro g6 c6 w9 hown3 hgrow3 hb3 hlt3; have HL2 := Lib.hid (HL1.out.cnext hown3 hgrow3 hb3 (by omega) hlt3); clear hown3 hgrow3 hb3 hlt3 HL1)))
          have hg9 : w.grownBy w9 none := grownBy_trans HG3.out HL2.out.gr
          have HG9 := Lib.hid hg9
          have hstb : StrsAt w9 w3.heap.size w9.heap.size (some ⟨g3, 0, none⟩) (i + 1 + 1) (lineL i sB) := by
            obtain ⟨p, c, e, h⟩ := strsAt_own (l := lineL i sB) (by rw [lineL_len]; exact HL2.out.b)
            rw [lineL_len] at e h
            injection e with e1 e2 e3
            subst e1
            exact h
          have hstc : StrsAt w9 w3.heap.size w9.heap.size (some ⟨g6, 0, none⟩) (j + 1 + 1) (lineL j sC) := by
            obtain ⟨p, c, e, h⟩ := strsAt_own (l := lineL j sC) (by rw [lineL_len]; exact HL2.out.c)
            rw [lineL_len] at e h
            injection e with e1 e2 e3
            subst e1
            exact h
          have HSTB := Lib.hid hstb
          have HSTC := Lib.hid hstc
          have HRB := Lib.hid (fun W (hg : w9.grownBy W none) => row7_c (some ⟨g3, 0, none⟩) (i + 1 + 1) c3 _ _ (lineL i sB) W (HSTB.out.calm hg) (by omega))
          have HRC := Lib.hid (fun W (hg : w9.grownBy W none) => row7_c (some ⟨g6, 0, none⟩) (j + 1 + 1) c6 _ _ (lineL j sC) W (HSTC.out.calm hg) (by omega))
          have HB9 := Lib.hid (HB7.out.calm HL2.out.gr)
          have HOA9 := Lib.hid (HOA.out.calm HL2.out.gr)
          have hmx : ∀ k, k ≤ 10 → (rowP k).length ≤ 400000 := fun k hk => by
            have h1 := pairsL_len k (rowR k) k
            have h2 : k * k ≤ 10 * 10 := Nat.mul_le_mul hk hk
            unfold rowP
            omega
          obtain ⟨KK, hKK⟩ : ∃ KK, (i + 2) * (i + 1) / 2 + (j + 2) * (j + 1) / 2 - 1 = KK := ⟨_, rfl⟩
          obtain ⟨NA, hNA⟩ : ∃ NA, 2 + i + j = NA := ⟨_, rfl⟩
          obtain ⟨A, B, I, J, hla, HPU⟩ : ∃ A B I J, LinA i j KK A B I J ∧ Hid (∀ W q1 d1 q2 d2 gF gG, w9.grownBy W none → (∃ hi, ObjAt W 0 hi (some ⟨g3, 0, none⟩) (i + 1 + 1) q1 (rowP (i + 1 + 1)).length (lineL i sB) (rowP (i + 1 + 1))) → (∃ hi, ObjAt W 0 hi (some ⟨g6, 0, none⟩) (j + 1 + 1) q2 (rowP (j + 1 + 1)).length (lineL j sC) (rowP (j + 1 + 1))) → (q1 = none → d1 = 0) → RowZ W gF (linF i) → RowZ W gG (linF j) →
              Calls Tryd.prog 12 #[.agg #[.slice (some ⟨ga, 0, none⟩) 2 2, .slice qa (rowP 2).length da], .agg #[.slice (some ⟨g3, 0, none⟩) (i + 1 + 1) c3, .slice q1 (rowP (i + 1 + 1)).length d1], .agg #[.slice (some ⟨g6, 0, none⟩) (j + 1 + 1) c6, .slice q2 (rowP (j + 1 + 1)).length d2], .slice (some ⟨gF, 0, none⟩) 2 2, .slice (some ⟨gG, 0, none⟩) 2 2] W (ResN NA KK (i + 1 + 1) (j + 1 + 1) A B I J 0 W)) := by
            have hans := lin_ans hx6 hy6
            rw [hKK] at hans
            refine ⟨_, _, _, _, hans, Lib.hid (fun W q1 d1 q2 d2 gF gG hg ⟨h1, o1⟩ ⟨h2, o2⟩ hq hF hG => ?_)⟩
            exact (push_ok (some ⟨ga, 0, none⟩) qa (some ⟨g3, 0, none⟩) q1 (some ⟨g6, 0, none⟩) q2 (some ⟨gF, 0, none⟩) (some ⟨gG, 0, none⟩) 2 2 (rowP 2).length da (i + 1 + 1) c3 (rowP (i + 1 + 1)).length d1 (j + 1 + 1) c6 (rowP (j + 1 + 1)).length d2 2 2 2 _ _ _ _ _ _ gF (gF + 1) gG (gG + 1) [sT, sE] (lineL i sB) (lineL j sC) (rowP 2) (rowP (i + 1 + 1)) (rowP (j + 1 + 1)) (linF i) (linF j) W (HOA9.out.calm hg) o1 o2 hF.at1 hG.at1 (hmx 2 (by omega)) (hmx _ (by omega)) (hmx _ (by omega)) (by omega) (by omega) (by omega) (lin_arrow hx6 (by decide)) (lin_arrow hy6 (by decide)) (HT.out.grown (grownBy_trans HG9.out hg) (by simp)) (fun e => by cases e) (fun e => by cases e) hq).mono fun e w' h => resN_of h (hans.a.trans hNA) hans.b hans.il hans.jl
          have HLA := Lib.hid hla
          have HKK := Lib.hid hKK
          have HNA := Lib.hid hNA
          have hwi : IntKind.i64.wrap ((i : Int) + 1) = (i : Int) + 1 := wrap_few _ (by omega) (by omega)
          have hwj : IntKind.i64.wrap ((j : Int) + 1) = (j : Int) + 1 := wrap_few _ (by omega) (by omega)
          have HNB := Lib.hid (show i + 1 + 1 = i + 2 from rfl)
          have HNC := Lib.hid (show j + 1 + 1 = j + 2 from rfl)
          have HS7 := Lib.hid (fun W (hg : w9.grownBy W none) => (show W.cell? ⟨g7, 0, none⟩ = some (.slice (some ⟨ga, 0, none⟩) 2 2) ∧ W.cell? ⟨g7, 1, none⟩ = some (.slice qa (rowP 2).length da) from ⟨(HB9.out.calm hg).c0, (HB9.out.calm hg).c1⟩))
          clear hstb hstc hla hKK hNA HB7 HOA hg9 hs1 bl cl hs5 bl5 hmx HL2 HSTB HSTC HLE HG3
          generalize hnb : i + 1 + 1 = nb at *
          generalize hnc : j + 1 + 1 = nc at *
          go_cut [12, 13, 14, 15] (fun s12 s13 s14 s15 wy => ∃ g p5 c5 q5 d5 pi ci pj cj, s12 = .pointer (some ⟨g, 0, none⟩) ∧ s13 = .slice pi nb ci ∧ s14 = .slice pj nc cj ∧ s15 = .int .i64 0 ∧ SD w9 wy g p5 c5 q5 d5 pi pj NA KK nb nc A B I J)
          case first =>
            go_wp2_with fail
            have hsl := SL.start w9 i j
            have hS0 : (fun w' => w'.cell? ⟨g7, 0, none⟩ = some (.slice (some ⟨ga, 0, none⟩) 2 2) ∧ w'.cell? ⟨g7, 1, none⟩ = some (.slice qa (rowP 2).length da)) w9.drew := HS7.out _ hsl.gr
            refine wp_region_held (S := (fun w' => w'.cell? ⟨g7, 0, none⟩ = some (.slice (some ⟨ga, 0, none⟩) 2 2) ∧ w'.cell? ⟨g7, 1, none⟩ = some (.slice qa (rowP 2).length da))) (by kernel_rfl) ?_
            change wpAnyH _ _ _ _ _ _ _ _ w9.drew
            generalize w9.drew = W at hsl hS0 ⊢
            refine wpAnyH_take (i := 0) (v := .agg #[.slice (some ⟨ga, 0, none⟩) 2 2, .slice qa (rowP 2).length da]) rfl (by kernel_rfl) (by kernel_rfl) (by kernel_rfl) (fun _ _ _ h => h) (.inl ⟨by rfl, ?_⟩) hS0 ?_
            · rintro w' ⟨t0, t1⟩
              go_simp
            refine wpAnyH_take (i := 1) (v := .slice (some ⟨g3, 0, none⟩) nb c3) rfl (by kernel_rfl) (by kernel_rfl) (by kernel_rfl) (fun _ _ _ h => h) (.inl ⟨by rfl, ?_⟩) hS0 ?_
            · rintro w' ⟨t0, t1⟩
              go_simp
            refine wpAnyH_take (i := 3) (v := .slice (some ⟨g6, 0, none⟩) nc c6) rfl (by kernel_rfl) (by kernel_rfl) (by kernel_rfl) (fun _ _ _ h => h) (.inl ⟨by rfl, ?_⟩) hS0 ?_
            · rintro w' ⟨t0, t1⟩
              go_simp
            refine wpAnyH_take (i := 5) (v := .int .i64 i) rfl (by kernel_rfl) (by kernel_rfl) (by kernel_rfl) (fun _ _ _ h => h) (.inl ⟨by rfl, ?_⟩) hS0 ?_
            · rintro w' ⟨t0, t1⟩
              go_simp
            refine wpAnyH_take (i := 6) (v := .int .i64 ((i : Int) + 1)) rfl (by kernel_rfl) (by kernel_rfl) (by kernel_rfl) (fun _ _ _ h => h) (.inl ⟨by rfl, ?_⟩) hS0 ?_
            · rintro w' ⟨t0, t1⟩
              go_simp
            refine wpAnyH_take (i := 8) (v := .int .i64 j) rfl (by kernel_rfl) (by kernel_rfl) (by kernel_rfl) (fun _ _ _ h => h) (.inl ⟨by rfl, ?_⟩) hS0 ?_
            · rintro w' ⟨t0, t1⟩
              go_simp
            refine wpAnyH_take (i := 9) (v := .int .i64 ((j : Int) + 1)) rfl (by kernel_rfl) (by kernel_rfl) (by kernel_rfl) (fun _ _ _ h => h) (.inl ⟨by rfl, ?_⟩) hS0 ?_
            · rintro w' ⟨t0, t1⟩
              go_simp
            refine linTail 9 (fun a1 ll aa W => ∃ (q1 q2 p5 q5 pi pj : Option Addr) (d1 d2 gF gG gD c5 d5 ci cj l5 h5 : Nat), ll = #[true, true, true, true, true, true, true, true, true, true, true, true, false, false, false, false, false, true, false, false, false, false] ∧ aa = (Act.put (Act.put (Act.put (Act.put (Act.put (Act.put a1 (some 54) (.agg #[.slice (some ⟨g3, 0, none⟩) nb c3, .slice q1 (rowP nb).length d1])) (some 56) (.agg #[.slice (some ⟨g6, 0, none⟩) nc c6, .slice q2 (rowP nc).length d2])) (some 59) (.slice (some ⟨gF, 0, none⟩) 2 2)) (some 62) (.slice (some ⟨gG, 0, none⟩) 2 2)) (some 12) (.pointer (some ⟨gD, 0, none⟩))) (some 63) (.tuple #[.agg #[.slice p5 NA c5, .slice q5 KK d5], .slice pi nb ci, .slice pj nc cj, .int .i64 0])) ∧ SL w9 W i j (some gF) (some gG) (some gD) (fun W => (True ∧ (fun W => ∃ hi, ObjAt W 0 hi (some ⟨g3, 0, none⟩) nb q1 (rowP nb).length (lineL i sB) (rowP nb)) W) ∧ (fun W => ∃ hi, ObjAt W 0 hi (some ⟨g6, 0, none⟩) nc q2 (rowP nc).length (lineL j sC) (rowP nc)) W) ∧ ObjAt W l5 h5 p5 NA q5 KK A B ∧ ZsAt W l5 h5 pi nb I ∧ ZsAt W l5 h5 pj nc J ∧ gD < l5) ?_ (fun hzbcFGDP => ?_)
            · rintro ll aa W ⟨q1, q2, p5, q5, pi, pj, d1, d2, gF, gG, gD, c5, d5, ci, cj, l5, h5, rfl, rfl, hsl, ho5, hi5, hj5, hgl⟩
              have hS0 : (fun w' => w'.cell? ⟨g7, 0, none⟩ = some (.slice (some ⟨ga, 0, none⟩) 2 2) ∧ w'.cell? ⟨g7, 1, none⟩ = some (.slice qa (rowP 2).length da)) W := HS7.out _ hsl.gr
              refine wpAnyH_take (i := 12) (v := .tuple #[.agg #[.slice p5 NA c5, .slice q5 KK d5], .slice pi nb ci, .slice pj nc cj, .int .i64 0]) rfl (by kernel_rfl) (by kernel_rfl) (by kernel_rfl) (fun _ _ _ h => h) (.inl ⟨by rfl, ?_⟩) hS0 ?_
              · rintro w' ⟨t0, t1⟩
                go_simp
              refine wpAnyH_take (i := 13) (v := .agg #[.slice p5 NA c5, .slice q5 KK d5]) rfl (by kernel_rfl) (by kernel_rfl) (by kernel_rfl) (fun _ _ _ h => h) (.inl ⟨by rfl, ?_⟩) hS0 ?_
              · rintro w' ⟨t0, t1⟩
                go_simp
              refine wpAnyH_take (i := 14) (v := .slice pi nb ci) rfl (by kernel_rfl) (by kernel_rfl) (by kernel_rfl) (fun _ _ _ h => h) (.inl ⟨by rfl, ?_⟩) hS0 ?_
              · rintro w' ⟨t0, t1⟩
                go_simp
              refine wpAnyH_take (i := 15) (v := .slice pj nc cj) rfl (by kernel_rfl) (by kernel_rfl) (by kernel_rfl) (fun _ _ _ h => h) (.inl ⟨by rfl, ?_⟩) hS0 ?_
              · rintro w' ⟨t0, t1⟩
                go_simp
              refine wpAnyH_take (i := 16) (v := .int .i64 0) rfl (by kernel_rfl) (by kernel_rfl) (by kernel_rfl) (fun _ _ _ h => h) (.inl ⟨by rfl, ?_⟩) hS0 ?_
              · rintro w' ⟨t0, t1⟩
                go_simp
              have hbD := (hsl.bx _ rfl).2
              obtain ⟨W2, hW2⟩ : ∃ W2, W2 = W := ⟨_, rfl⟩
              subst hW2
              have x60 := hbD.c0
              have x61 := hbD.c1
              have y60 := hbD.free 0
              have y61 := hbD.free 1
              have hgs := grownBy_setCell_new (.slice q5 KK d5) (p := ⟨gD, 1, none⟩) (grownBy_setCell_new (.slice p5 NA c5) (p := ⟨gD, 0, none⟩) hsl.gr (hsl.bx _ rfl).1) (hsl.bx _ rfl).1
              have hS9 := HS7.out _ hgs
              refine held_next 18 (by kernel_rfl) rfl ?_
              intro K hK
              go_simp
              refine hK _ _ hS9 ?_
              clear hK K
              refine held_next 19 (by kernel_rfl) rfl ?_
              intro K hK
              go_simp
              refine hK _ _ hS9 ?_
              clear hK K
              refine held_next 20 (by kernel_rfl) rfl ?_
              intro K hK
              go_simp
              refine hK _ _ hS9 ?_
              clear hK K
              refine held_next 21 (by kernel_rfl) rfl ?_
              intro K hK
              go_simp
              refine hK _ _ hS9 ?_
              clear hK K
              refine wpAnyH_done (by kernel_rfl) ?_ _
              try go_wp2
              go_meet
              exact ⟨_, _, _, _, _, _, _, _, _, rfl, rfl, rfl, rfl, hsl.set hgl ho5 hi5 hj5⟩
            refine linTail 10 (fun a1 ll aa W => ∃ (q1 q2 p5 q5 pi pj : Option Addr) (d1 d2 gF gG gD c5 d5 ci cj l5 h5 : Nat), ll = #[true, true, true, true, true, true, true, true, true, true, true, true, false, false, false, false, false, false, false, false, false, false] ∧ aa = (Act.put (Act.put (Act.put (Act.put (Act.put a1 (some 54) (.agg #[.slice (some ⟨g3, 0, none⟩) nb c3, .slice q1 (rowP nb).length d1])) (some 56) (.agg #[.slice (some ⟨g6, 0, none⟩) nc c6, .slice q2 (rowP nc).length d2])) (some 59) (.slice (some ⟨gF, 0, none⟩) 2 2)) (some 62) (.slice (some ⟨gG, 0, none⟩) 2 2)) (some 63) (.tuple #[.agg #[.slice p5 NA c5, .slice q5 KK d5], .slice pi nb ci, .slice pj nc cj, .int .i64 0])) ∧ SL w9 W i j (some gF) (some gG) none (fun W => (True ∧ (fun W => ∃ hi, ObjAt W 0 hi (some ⟨g3, 0, none⟩) nb q1 (rowP nb).length (lineL i sB) (rowP nb)) W) ∧ (fun W => ∃ hi, ObjAt W 0 hi (some ⟨g6, 0, none⟩) nc q2 (rowP nc).length (lineL j sC) (rowP nc)) W) ∧ ObjAt W l5 h5 p5 NA q5 KK A B ∧ ZsAt W l5 h5 pi nb I ∧ ZsAt W l5 h5 pj nc J) ?_ (fun hzbcFGP => ?_)
            · rintro ll aa W ⟨q1, q2, p5, q5, pi, pj, d1, d2, gF, gG, gD, c5, d5, ci, cj, l5, h5, rfl, rfl, hsl, ho5, hi5, hj5⟩
              have hS0 : (fun w' => w'.cell? ⟨g7, 0, none⟩ = some (.slice (some ⟨ga, 0, none⟩) 2 2) ∧ w'.cell? ⟨g7, 1, none⟩ = some (.slice qa (rowP 2).length da)) W := HS7.out _ hsl.gr
              refine wpAnyH_take (i := 12) (v := .tuple #[.agg #[.slice p5 NA c5, .slice q5 KK d5], .slice pi nb ci, .slice pj nc cj, .int .i64 0]) rfl (by kernel_rfl) (by kernel_rfl) (by kernel_rfl) (fun _ _ _ h => h) (.inl ⟨by rfl, ?_⟩) hS0 ?_
              · rintro w' ⟨t0, t1⟩
                go_simp
              refine wpAnyH_take (i := 13) (v := .agg #[.slice p5 NA c5, .slice q5 KK d5]) rfl (by kernel_rfl) (by kernel_rfl) (by kernel_rfl) (fun _ _ _ h => h) (.inl ⟨by rfl, ?_⟩) hS0 ?_
              · rintro w' ⟨t0, t1⟩
                go_simp
              refine wpAnyH_take (i := 14) (v := .slice pi nb ci) rfl (by kernel_rfl) (by kernel_rfl) (by kernel_rfl) (fun _ _ _ h => h) (.inl ⟨by rfl, ?_⟩) hS0 ?_
              · rintro w' ⟨t0, t1⟩
                go_simp
              refine wpAnyH_take (i := 15) (v := .slice pj nc cj) rfl (by kernel_rfl) (by kernel_rfl) (by kernel_rfl) (fun _ _ _ h => h) (.inl ⟨by rfl, ?_⟩) hS0 ?_
              · rintro w' ⟨t0, t1⟩
                go_simp
              refine wpAnyH_take (i := 16) (v := .int .i64 0) rfl (by kernel_rfl) (by kernel_rfl) (by kernel_rfl) (fun _ _ _ h => h) (.inl ⟨by rfl, ?_⟩) hS0 ?_
              · rintro w' ⟨t0, t1⟩
                go_simp
              have hle := zsTop hi5 (by omega)
              refine held_next 17 (by kernel_rfl) rfl ?_
              intro K hK
              go_simp
              have hsl := hsl.D
              refine hK _ _ (HS7.out _ hsl.gr) ?_
              clear hK K
              have hgy := World.grownBy_alloc W (.cells #[.slice none 0 0, .slice none 0 0] 25) none
              have ho5 := ho5.calm hgy
              have hi5 := hi5.calm hgy
              have hj5 := hj5.calm hgy
              have hbD := (hsl.bx _ rfl).2
              obtain ⟨gD, hgD⟩ : ∃ gD, W.heap.size = gD := ⟨_, rfl⟩
              rw [hgD] at hbD hsl hle ⊢
              clear hgy hS0
              generalize W.alloc (.cells #[.slice none 0 0, .slice none 0 0] 25) = W2 at *
              have x60 := hbD.c0
              have x61 := hbD.c1
              have y60 := hbD.free 0
              have y61 := hbD.free 1
              have hgs := grownBy_setCell_new (.slice q5 KK d5) (p := ⟨gD, 1, none⟩) (grownBy_setCell_new (.slice p5 NA c5) (p := ⟨gD, 0, none⟩) hsl.gr (hsl.bx _ rfl).1) (hsl.bx _ rfl).1
              have hS9 := HS7.out _ hgs
              refine held_next 18 (by kernel_rfl) rfl ?_
              intro K hK
              go_simp
              refine hK _ _ hS9 ?_
              clear hK K
              refine held_next 19 (by kernel_rfl) rfl ?_
              intro K hK
              go_simp
              refine hK _ _ hS9 ?_
              clear hK K
              refine held_next 20 (by kernel_rfl) rfl ?_
              intro K hK
              go_simp
              refine hK _ _ hS9 ?_
              clear hK K
              refine held_next 21 (by kernel_rfl) rfl ?_
              intro K hK
              go_simp
              refine hK _ _ hS9 ?_
              clear hK K
              refine wpAnyH_done (by kernel_rfl) ?_ _
              try go_wp2
              go_meet
              exact ⟨_, _, _, _, _, _, _, _, _, rfl, rfl, rfl, rfl, hsl.set9 ho5 hi5 hj5 hle⟩
            refine linTail 10 (fun a1 ll aa W => ∃ (q1 q2 : Option Addr) (d1 d2 gF gG gD : Nat), ll = #[true, true, true, true, true, true, true, true, true, true, true, false, false, false, false, false, false, true, false, false, false, false] ∧ aa = (Act.put (Act.put (Act.put (Act.put (Act.put a1 (some 54) (.agg #[.slice (some ⟨g3, 0, none⟩) nb c3, .slice q1 (rowP nb).length d1])) (some 56) (.agg #[.slice (some ⟨g6, 0, none⟩) nc c6, .slice q2 (rowP nc).length d2])) (some 59) (.slice (some ⟨gF, 0, none⟩) 2 2)) (some 62) (.slice (some ⟨gG, 0, none⟩) 2 2)) (some 12) (.pointer (some ⟨gD, 0, none⟩))) ∧ SL w9 W i j (some gF) (some gG) (some gD) (fun W => (True ∧ (fun W => ∃ hi, ObjAt W 0 hi (some ⟨g3, 0, none⟩) nb q1 (rowP nb).length (lineL i sB) (rowP nb)) W) ∧ (fun W => ∃ hi, ObjAt W 0 hi (some ⟨g6, 0, none⟩) nc q2 (rowP nc).length (lineL j sC) (rowP nc)) W) ∧ (q1 = none → d1 = 0)) ?_ (fun hzbcFGD => ?_)
            · rintro ll aa W ⟨q1, q2, d1, d2, gF, gG, gD, rfl, rfl, hsl, hq1⟩
              refine held_next 11 (by kernel_rfl) rfl (fun K hK => ?_)
              · go_simp
                refine (HPU.out _ q1 d1 q2 d2 gF gG hsl.gr hsl.q.1.2 hsl.q.2 hq1 (hsl.ff _ rfl) (hsl.gg _ rfl)).mono ?_
                rintro e wP ⟨p5, c5, q5, d5, pi, ci, pj, cj, l5, h5, rfl, hlo, ho5, hi5, hj5, hg5⟩
                have hsl2 := hsl.calm hg5
                refine hK _ _ (HS7.out _ hsl2.gr) ?_
                clear hK K
                exact hzbcFGDP _ _ _ ⟨q1, q2, p5, q5, pi, pj, d1, d2, gF, gG, gD, c5, d5, ci, cj, l5, h5, by kernel_rfl, by kernel_rfl, hsl2, ho5, hi5, hj5, Nat.lt_of_lt_of_le (hsl.bx gD rfl).2.lt hlo⟩
            refine linTail 11 (fun a1 ll aa W => ∃ (q1 q2 : Option Addr) (d1 d2 gF gG gD : Nat), ll = #[true, true, true, true, true, true, true, true, true, true, true, false, false, false, false, false, false, false, false, false, false, false] ∧ aa = (Act.put (Act.put (Act.put (Act.put a1 (some 54) (.agg #[.slice (some ⟨g3, 0, none⟩) nb c3, .slice q1 (rowP nb).length d1])) (some 56) (.agg #[.slice (some ⟨g6, 0, none⟩) nc c6, .slice q2 (rowP nc).length d2])) (some 59) (.slice (some ⟨gF, 0, none⟩) 2 2)) (some 62) (.slice (some ⟨gG, 0, none⟩) 2 2)) ∧ SL w9 W i j (some gF) (some gG) none (fun W => (True ∧ (fun W => ∃ hi, ObjAt W 0 hi (some ⟨g3, 0, none⟩) nb q1 (rowP nb).length (lineL i sB) (rowP nb)) W) ∧ (fun W => ∃ hi, ObjAt W 0 hi (some ⟨g6, 0, none⟩) nc q2 (rowP nc).length (lineL j sC) (rowP nc)) W) ∧ (q1 = none → d1 = 0)) ?_ (fun hzbcFG => ?_)
            · rintro ll aa W ⟨q1, q2, d1, d2, gF, gG, gD, rfl, rfl, hsl, hq1⟩
              refine held_two 11 17 (by kernel_rfl) rfl rfl (fun K hK => ?_) (fun K hK => ?_)
              · go_simp
                refine (HPU.out _ q1 d1 q2 d2 gF gG hsl.gr hsl.q.1.2 hsl.q.2 hq1 (hsl.ff _ rfl) (hsl.gg _ rfl)).mono ?_
                rintro e wP ⟨p5, c5, q5, d5, pi, ci, pj, cj, l5, h5, rfl, hlo, ho5, hi5, hj5, hg5⟩
                have hsl2 := hsl.calm hg5
                refine hK _ _ (HS7.out _ hsl2.gr) ?_
                clear hK K
                exact hzbcFGP _ _ _ ⟨q1, q2, p5, q5, pi, pj, d1, d2, gF, gG, gD, c5, d5, ci, cj, l5, h5, by kernel_rfl, by kernel_rfl, hsl2, ho5, hi5, hj5⟩
              · go_simp
                have hsl2 := hsl.D
                refine hK _ _ (HS7.out _ hsl2.gr) ?_
                clear hK K
                exact hzbcFGD _ _ _ ⟨q1, q2, d1, d2, gF, gG, W.heap.size, by kernel_rfl, by kernel_rfl, hsl2, hq1⟩
            refine linTail 11 (fun a1 ll aa W => ∃ (q1 q2 : Option Addr) (d1 d2 gF gG gD : Nat), ll = #[true, true, true, true, true, true, true, true, true, true, false, false, false, false, false, false, false, true, false, false, false, false] ∧ aa = (Act.put (Act.put (Act.put (Act.put a1 (some 54) (.agg #[.slice (some ⟨g3, 0, none⟩) nb c3, .slice q1 (rowP nb).length d1])) (some 56) (.agg #[.slice (some ⟨g6, 0, none⟩) nc c6, .slice q2 (rowP nc).length d2])) (some 59) (.slice (some ⟨gF, 0, none⟩) 2 2)) (some 12) (.pointer (some ⟨gD, 0, none⟩))) ∧ SL w9 W i j (some gF) none (some gD) (fun W => (True ∧ (fun W => ∃ hi, ObjAt W 0 hi (some ⟨g3, 0, none⟩) nb q1 (rowP nb).length (lineL i sB) (rowP nb)) W) ∧ (fun W => ∃ hi, ObjAt W 0 hi (some ⟨g6, 0, none⟩) nc q2 (rowP nc).length (lineL j sC) (rowP nc)) W) ∧ (q1 = none → d1 = 0)) ?_ (fun hzbcFD => ?_)
            · rintro ll aa W ⟨q1, q2, d1, d2, gF, gG, gD, rfl, rfl, hsl, hq1⟩
              refine held_next 10 (by kernel_rfl) rfl (fun K hK => ?_)
              · go_simp
                have hsl2 := hsl.G
                refine hK _ _ (HS7.out _ hsl2.gr) ?_
                clear hK K
                exact hzbcFGD _ _ _ ⟨q1, q2, d1, d2, gF, W.heap.size, gD, by kernel_rfl, by kernel_rfl, hsl2, hq1⟩
            refine linTail 11 (fun a1 ll aa W => ∃ (q1 q2 : Option Addr) (d1 d2 gF gG gD : Nat), ll = #[true, true, true, true, true, true, true, false, true, true, true, false, false, false, false, false, false, true, false, false, false, false] ∧ aa = (Act.put (Act.put (Act.put (Act.put a1 (some 54) (.agg #[.slice (some ⟨g3, 0, none⟩) nb c3, .slice q1 (rowP nb).length d1])) (some 56) (.agg #[.slice (some ⟨g6, 0, none⟩) nc c6, .slice q2 (rowP nc).length d2])) (some 62) (.slice (some ⟨gG, 0, none⟩) 2 2)) (some 12) (.pointer (some ⟨gD, 0, none⟩))) ∧ SL w9 W i j none (some gG) (some gD) (fun W => (True ∧ (fun W => ∃ hi, ObjAt W 0 hi (some ⟨g3, 0, none⟩) nb q1 (rowP nb).length (lineL i sB) (rowP nb)) W) ∧ (fun W => ∃ hi, ObjAt W 0 hi (some ⟨g6, 0, none⟩) nc q2 (rowP nc).length (lineL j sC) (rowP nc)) W) ∧ (q1 = none → d1 = 0)) ?_ (fun hzbcGD => ?_)
            · rintro ll aa W ⟨q1, q2, d1, d2, gF, gG, gD, rfl, rfl, hsl, hq1⟩
              refine held_next 7 (by kernel_rfl) rfl (fun K hK => ?_)
              · go_simp
                have hsl2 := hsl.F
                refine hK _ _ (HS7.out _ hsl2.gr) ?_
                clear hK K
                exact hzbcFGD _ _ _ ⟨q1, q2, d1, d2, W.heap.size, gG, gD, by kernel_rfl, by kernel_rfl, hsl2, hq1⟩
            refine linTail 11 (fun a1 ll aa W => ∃ (q1 q2 : Option Addr) (d1 d2 gF gG gD : Nat), ll = #[true, true, true, true, false, true, true, true, true, true, true, false, false, false, false, false, false, true, false, false, false, false] ∧ aa = (Act.put (Act.put (Act.put (Act.put a1 (some 54) (.agg #[.slice (some ⟨g3, 0, none⟩) nb c3, .slice q1 (rowP nb).length d1])) (some 59) (.slice (some ⟨gF, 0, none⟩) 2 2)) (some 62) (.slice (some ⟨gG, 0, none⟩) 2 2)) (some 12) (.pointer (some ⟨gD, 0, none⟩))) ∧ SL w9 W i j (some gF) (some gG) (some gD) (fun W => True ∧ (fun W => ∃ hi, ObjAt W 0 hi (some ⟨g3, 0, none⟩) nb q1 (rowP nb).length (lineL i sB) (rowP nb)) W) ∧ (q1 = none → d1 = 0)) ?_ (fun hzbFGD => ?_)
            · rintro ll aa W ⟨q1, q2, d1, d2, gF, gG, gD, rfl, rfl, hsl, hq1⟩
              refine held_next 4 (by kernel_rfl) rfl (fun K hK => ?_)
              · go_simp
                refine (HRC.out _ hsl.gr).mono ?_
                rintro e wC ⟨q2, d2, rfl, ho2, hq2, hgC⟩
                have hsl2 := (hsl.calm hgC).and (fun W => ∃ hi, ObjAt W 0 hi (some ⟨g6, 0, none⟩) nc q2 (rowP nc).length (lineL j sC) (rowP nc)) (fun _ _ g ⟨hi, a⟩ => ⟨hi, a.calm g⟩) ⟨_, ho2⟩
                refine hK _ _ (HS7.out _ hsl2.gr) ?_
                clear hK K
                exact hzbcFGD _ _ _ ⟨q1, q2, d1, d2, gF, gG, gD, by kernel_rfl, by kernel_rfl, hsl2, hq1⟩
            refine linTail 12 (fun a1 ll aa W => ∃ (q1 q2 : Option Addr) (d1 d2 gF gG gD : Nat), ll = #[true, true, true, true, true, true, true, true, true, true, false, false, false, false, false, false, false, false, false, false, false, false] ∧ aa = (Act.put (Act.put (Act.put a1 (some 54) (.agg #[.slice (some ⟨g3, 0, none⟩) nb c3, .slice q1 (rowP nb).length d1])) (some 56) (.agg #[.slice (some ⟨g6, 0, none⟩) nc c6, .slice q2 (rowP nc).length d2])) (some 59) (.slice (some ⟨gF, 0, none⟩) 2 2)) ∧ SL w9 W i j (some gF) none none (fun W => (True ∧ (fun W => ∃ hi, ObjAt W 0 hi (some ⟨g3, 0, none⟩) nb q1 (rowP nb).length (lineL i sB) (rowP nb)) W) ∧ (fun W => ∃ hi, ObjAt W 0 hi (some ⟨g6, 0, none⟩) nc q2 (rowP nc).length (lineL j sC) (rowP nc)) W) ∧ (q1 = none → d1 = 0)) ?_ (fun hzbcF => ?_)
            · rintro ll aa W ⟨q1, q2, d1, d2, gF, gG, gD, rfl, rfl, hsl, hq1⟩
              refine held_two 10 17 (by kernel_rfl) rfl rfl (fun K hK => ?_) (fun K hK => ?_)
              · go_simp
                have hsl2 := hsl.G
                refine hK _ _ (HS7.out _ hsl2.gr) ?_
                clear hK K
                exact hzbcFG _ _ _ ⟨q1, q2, d1, d2, gF, W.heap.size, gD, by kernel_rfl, by kernel_rfl, hsl2, hq1⟩
              · go_simp
                have hsl2 := hsl.D
                refine hK _ _ (HS7.out _ hsl2.gr) ?_
                clear hK K
                exact hzbcFD _ _ _ ⟨q1, q2, d1, d2, gF, gG, W.heap.size, by kernel_rfl, by kernel_rfl, hsl2, hq1⟩
            refine linTail 12 (fun a1 ll aa W => ∃ (q1 q2 : Option Addr) (d1 d2 gF gG gD : Nat), ll = #[true, true, true, true, true, true, true, false, true, true, true, false, false, false, false, false, false, false, false, false, false, false] ∧ aa = (Act.put (Act.put (Act.put a1 (some 54) (.agg #[.slice (some ⟨g3, 0, none⟩) nb c3, .slice q1 (rowP nb).length d1])) (some 56) (.agg #[.slice (some ⟨g6, 0, none⟩) nc c6, .slice q2 (rowP nc).length d2])) (some 62) (.slice (some ⟨gG, 0, none⟩) 2 2)) ∧ SL w9 W i j none (some gG) none (fun W => (True ∧ (fun W => ∃ hi, ObjAt W 0 hi (some ⟨g3, 0, none⟩) nb q1 (rowP nb).length (lineL i sB) (rowP nb)) W) ∧ (fun W => ∃ hi, ObjAt W 0 hi (some ⟨g6, 0, none⟩) nc q2 (rowP nc).length (lineL j sC) (rowP nc)) W) ∧ (q1 = none → d1 = 0)) ?_ (fun hzbcG => ?_)
            · rintro ll aa W ⟨q1, q2, d1, d2, gF, gG, gD, rfl, rfl, hsl, hq1⟩
              refine held_two 7 17 (by kernel_rfl) rfl rfl (fun K hK => ?_) (fun K hK => ?_)
              · go_simp
                have hsl2 := hsl.F
                refine hK _ _ (HS7.out _ hsl2.gr) ?_
                clear hK K
                exact hzbcFG _ _ _ ⟨q1, q2, d1, d2, W.heap.size, gG, gD, by kernel_rfl, by kernel_rfl, hsl2, hq1⟩
              · go_simp
                have hsl2 := hsl.D
                refine hK _ _ (HS7.out _ hsl2.gr) ?_
                clear hK K
                exact hzbcGD _ _ _ ⟨q1, q2, d1, d2, gF, gG, W.heap.size, by kernel_rfl, by kernel_rfl, hsl2, hq1⟩
            refine linTail 12 (fun a1 ll aa W => ∃ (q1 q2 : Option Addr) (d1 d2 gF gG gD : Nat), ll = #[true, true, true, true, true, true, true, false, true, true, false, false, false, false, false, false, false, true, false, false, false, false] ∧ aa = (Act.put (Act.put (Act.put a1 (some 54) (.agg #[.slice (some ⟨g3, 0, none⟩) nb c3, .slice q1 (rowP nb).length d1])) (some 56) (.agg #[.slice (some ⟨g6, 0, none⟩) nc c6, .slice q2 (rowP nc).length d2])) (some 12) (.pointer (some ⟨gD, 0, none⟩))) ∧ SL w9 W i j none none (some gD) (fun W => (True ∧ (fun W => ∃ hi, ObjAt W 0 hi (some ⟨g3, 0, none⟩) nb q1 (rowP nb).length (lineL i sB) (rowP nb)) W) ∧ (fun W => ∃ hi, ObjAt W 0 hi (some ⟨g6, 0, none⟩) nc q2 (rowP nc).length (lineL j sC) (rowP nc)) W) ∧ (q1 = none → d1 = 0)) ?_ (fun hzbcD => ?_)
            · rintro ll aa W ⟨q1, q2, d1, d2, gF, gG, gD, rfl, rfl, hsl, hq1⟩
              refine held_two 7 10 (by kernel_rfl) rfl rfl (fun K hK => ?_) (fun K hK => ?_)
              · go_simp
                have hsl2 := hsl.F
                refine hK _ _ (HS7.out _ hsl2.gr) ?_
                clear hK K
                exact hzbcFD _ _ _ ⟨q1, q2, d1, d2, W.heap.size, gG, gD, by kernel_rfl, by kernel_rfl, hsl2, hq1⟩
              · go_simp
                have hsl2 := hsl.G
                refine hK _ _ (HS7.out _ hsl2.gr) ?_
                clear hK K
                exact hzbcGD _ _ _ ⟨q1, q2, d1, d2, gF, W.heap.size, gD, by kernel_rfl, by kernel_rfl, hsl2, hq1⟩
            refine linTail 12 (fun a1 ll aa W => ∃ (q1 q2 : Option Addr) (d1 d2 gF gG gD : Nat), ll = #[true, true, true, true, false, true, true, true, true, true, true, false, false, false, false, false, false, false, false, false, false, false] ∧ aa = (Act.put (Act.put (Act.put a1 (some 54) (.agg #[.slice (some ⟨g3, 0, none⟩) nb c3, .slice q1 (rowP nb).length d1])) (some 59) (.slice (some ⟨gF, 0, none⟩) 2 2)) (some 62) (.slice (some ⟨gG, 0, none⟩) 2 2)) ∧ SL w9 W i j (some gF) (some gG) none (fun W => True ∧ (fun W => ∃ hi, ObjAt W 0 hi (some ⟨g3, 0, none⟩) nb q1 (rowP nb).length (lineL i sB) (rowP nb)) W) ∧ (q1 = none → d1 = 0)) ?_ (fun hzbFG => ?_)
            · rintro ll aa W ⟨q1, q2, d1, d2, gF, gG, gD, rfl, rfl, hsl, hq1⟩
              refine held_two 4 17 (by kernel_rfl) rfl rfl (fun K hK => ?_) (fun K hK => ?_)
              · go_simp
                refine (HRC.out _ hsl.gr).mono ?_
                rintro e wC ⟨q2, d2, rfl, ho2, hq2, hgC⟩
                have hsl2 := (hsl.calm hgC).and (fun W => ∃ hi, ObjAt W 0 hi (some ⟨g6, 0, none⟩) nc q2 (rowP nc).length (lineL j sC) (rowP nc)) (fun _ _ g ⟨hi, a⟩ => ⟨hi, a.calm g⟩) ⟨_, ho2⟩
                refine hK _ _ (HS7.out _ hsl2.gr) ?_
                clear hK K
                exact hzbcFG _ _ _ ⟨q1, q2, d1, d2, gF, gG, gD, by kernel_rfl, by kernel_rfl, hsl2, hq1⟩
              · go_simp
                have hsl2 := hsl.D
                refine hK _ _ (HS7.out _ hsl2.gr) ?_
                clear hK K
                exact hzbFGD _ _ _ ⟨q1, q2, d1, d2, gF, gG, W.heap.size, by kernel_rfl, by kernel_rfl, hsl2, hq1⟩
            refine linTail 12 (fun a1 ll aa W => ∃ (q1 q2 : Option Addr) (d1 d2 gF gG gD : Nat), ll = #[true, true, true, true, false, true, true, true, true, true, false, false, false, false, false, false, false, true, false, false, false, false] ∧ aa = (Act.put (Act.put (Act.put a1 (some 54) (.agg #[.slice (some ⟨g3, 0, none⟩) nb c3, .slice q1 (rowP nb).length d1])) (some 59) (.slice (some ⟨gF, 0, none⟩) 2 2)) (some 12) (.pointer (some ⟨gD, 0, none⟩))) ∧ SL w9 W i j (some gF) none (some gD) (fun W => True ∧ (fun W => ∃ hi, ObjAt W 0 hi (some ⟨g3, 0, none⟩) nb q1 (rowP nb).length (lineL i sB) (rowP nb)) W) ∧ (q1 = none → d1 = 0)) ?_ (fun hzbFD => ?_)
            · rintro ll aa W ⟨q1, q2, d1, d2, gF, gG, gD, rfl, rfl, hsl, hq1⟩
              refine held_two 4 10 (by kernel_rfl) rfl rfl (fun K hK => ?_) (fun K hK => ?_)
              · go_simp
                refine (HRC.out _ hsl.gr).mono ?_
                rintro e wC ⟨q2, d2, rfl, ho2, hq2, hgC⟩
                have hsl2 := (hsl.calm hgC).and (fun W => ∃ hi, ObjAt W 0 hi (some ⟨g6, 0, none⟩) nc q2 (rowP nc).length (lineL j sC) (rowP nc)) (fun _ _ g ⟨hi, a⟩ => ⟨hi, a.calm g⟩) ⟨_, ho2⟩
                refine hK _ _ (HS7.out _ hsl2.gr) ?_
                clear hK K
                exact hzbcFD _ _ _ ⟨q1, q2, d1, d2, gF, gG, gD, by kernel_rfl, by kernel_rfl, hsl2, hq1⟩
              · go_simp
                have hsl2 := hsl.G
                refine hK _ _ (HS7.out _ hsl2.gr) ?_
                clear hK K
                exact hzbFGD _ _ _ ⟨q1, q2, d1, d2, gF, W.heap.size, gD, by kernel_rfl, by kernel_rfl, hsl2, hq1⟩
            refine linTail 12 (fun a1 ll aa W => ∃ (q1 q2 : Option Addr) (d1 d2 gF gG gD : Nat), ll = #[true, true, true, true, false, true, true, false, true, true, true, false, false, false, false, false, false, true, false, false, false, false] ∧ aa = (Act.put (Act.put (Act.put a1 (some 54) (.agg #[.slice (some ⟨g3, 0, none⟩) nb c3, .slice q1 (rowP nb).length d1])) (some 62) (.slice (some ⟨gG, 0, none⟩) 2 2)) (some 12) (.pointer (some ⟨gD, 0, none⟩))) ∧ SL w9 W i j none (some gG) (some gD) (fun W => True ∧ (fun W => ∃ hi, ObjAt W 0 hi (some ⟨g3, 0, none⟩) nb q1 (rowP nb).length (lineL i sB) (rowP nb)) W) ∧ (q1 = none → d1 = 0)) ?_ (fun hzbGD => ?_)
            · rintro ll aa W ⟨q1, q2, d1, d2, gF, gG, gD, rfl, rfl, hsl, hq1⟩
              refine held_two 4 7 (by kernel_rfl) rfl rfl (fun K hK => ?_) (fun K hK => ?_)
              · go_simp
                refine (HRC.out _ hsl.gr).mono ?_
                rintro e wC ⟨q2, d2, rfl, ho2, hq2, hgC⟩
                have hsl2 := (hsl.calm hgC).and (fun W => ∃ hi, ObjAt W 0 hi (some ⟨g6, 0, none⟩) nc q2 (rowP nc).length (lineL j sC) (rowP nc)) (fun _ _ g ⟨hi, a⟩ => ⟨hi, a.calm g⟩) ⟨_, ho2⟩
                refine hK _ _ (HS7.out _ hsl2.gr) ?_
                clear hK K
                exact hzbcGD _ _ _ ⟨q1, q2, d1, d2, gF, gG, gD, by kernel_rfl, by kernel_rfl, hsl2, hq1⟩
              · go_simp
                have hsl2 := hsl.F
                refine hK _ _ (HS7.out _ hsl2.gr) ?_
                clear hK K
                exact hzbFGD _ _ _ ⟨q1, q2, d1, d2, W.heap.size, gG, gD, by kernel_rfl, by kernel_rfl, hsl2, hq1⟩
            refine linTail 12 (fun a1 ll aa W => ∃ (q1 q2 : Option Addr) (d1 d2 gF gG gD : Nat), ll = #[true, true, false, true, false, true, true, true, true, true, true, false, false, false, false, false, false, true, false, false, false, false] ∧ aa = (Act.put (Act.put (Act.put a1 (some 59) (.slice (some ⟨gF, 0, none⟩) 2 2)) (some 62) (.slice (some ⟨gG, 0, none⟩) 2 2)) (some 12) (.pointer (some ⟨gD, 0, none⟩))) ∧ SL w9 W i j (some gF) (some gG) (some gD) (fun _ => True) ∧ (q1 = none → d1 = 0)) ?_ (fun hzFGD => ?_)
            · rintro ll aa W ⟨q1, q2, d1, d2, gF, gG, gD, rfl, rfl, hsl, hq1⟩
              refine held_next 2 (by kernel_rfl) rfl (fun K hK => ?_)
              · go_simp
                refine (HRB.out _ hsl.gr).mono ?_
                rintro e wB ⟨q1, d1, rfl, ho1, hq1, hgB⟩
                have hsl2 := (hsl.calm hgB).and (fun W => ∃ hi, ObjAt W 0 hi (some ⟨g3, 0, none⟩) nb q1 (rowP nb).length (lineL i sB) (rowP nb)) (fun _ _ g ⟨hi, a⟩ => ⟨hi, a.calm g⟩) ⟨_, ho1⟩
                refine hK _ _ (HS7.out _ hsl2.gr) ?_
                clear hK K
                exact hzbFGD _ _ _ ⟨q1, q2, d1, d2, gF, gG, gD, by kernel_rfl, by kernel_rfl, hsl2, hq1⟩
            refine linTail 13 (fun a1 ll aa W => ∃ (q1 q2 : Option Addr) (d1 d2 gF gG gD : Nat), ll = #[true, true, true, true, true, true, true, false, true, true, false, false, false, false, false, false, false, false, false, false, false, false] ∧ aa = (Act.put (Act.put a1 (some 54) (.agg #[.slice (some ⟨g3, 0, none⟩) nb c3, .slice q1 (rowP nb).length d1])) (some 56) (.agg #[.slice (some ⟨g6, 0, none⟩) nc c6, .slice q2 (rowP nc).length d2])) ∧ SL w9 W i j none none none (fun W => (True ∧ (fun W => ∃ hi, ObjAt W 0 hi (some ⟨g3, 0, none⟩) nb q1 (rowP nb).length (lineL i sB) (rowP nb)) W) ∧ (fun W => ∃ hi, ObjAt W 0 hi (some ⟨g6, 0, none⟩) nc q2 (rowP nc).length (lineL j sC) (rowP nc)) W) ∧ (q1 = none → d1 = 0)) ?_ (fun hzbc => ?_)
            · rintro ll aa W ⟨q1, q2, d1, d2, gF, gG, gD, rfl, rfl, hsl, hq1⟩
              refine held_three 7 10 17 (by kernel_rfl) rfl rfl rfl (fun K hK => ?_) (fun K hK => ?_) (fun K hK => ?_)
              · go_simp
                have hsl2 := hsl.F
                refine hK _ _ (HS7.out _ hsl2.gr) ?_
                clear hK K
                exact hzbcF _ _ _ ⟨q1, q2, d1, d2, W.heap.size, gG, gD, by kernel_rfl, by kernel_rfl, hsl2, hq1⟩
              · go_simp
                have hsl2 := hsl.G
                refine hK _ _ (HS7.out _ hsl2.gr) ?_
                clear hK K
                exact hzbcG _ _ _ ⟨q1, q2, d1, d2, gF, W.heap.size, gD, by kernel_rfl, by kernel_rfl, hsl2, hq1⟩
              · go_simp
                have hsl2 := hsl.D
                refine hK _ _ (HS7.out _ hsl2.gr) ?_
                clear hK K
                exact hzbcD _ _ _ ⟨q1, q2, d1, d2, gF, gG, W.heap.size, by kernel_rfl, by kernel_rfl, hsl2, hq1⟩
            refine linTail 13 (fun a1 ll aa W => ∃ (q1 q2 : Option Addr) (d1 d2 gF gG gD : Nat), ll = #[true, true, true, true, false, true, true, true, true, true, false, false, false, false, false, false, false, false, false, false, false, false] ∧ aa = (Act.put (Act.put a1 (some 54) (.agg #[.slice (some ⟨g3, 0, none⟩) nb c3, .slice q1 (rowP nb).length d1])) (some 59) (.slice (some ⟨gF, 0, none⟩) 2 2)) ∧ SL w9 W i j (some gF) none none (fun W => True ∧ (fun W => ∃ hi, ObjAt W 0 hi (some ⟨g3, 0, none⟩) nb q1 (rowP nb).length (lineL i sB) (rowP nb)) W) ∧ (q1 = none → d1 = 0)) ?_ (fun hzbF => ?_)
            · rintro ll aa W ⟨q1, q2, d1, d2, gF, gG, gD, rfl, rfl, hsl, hq1⟩
              refine held_three 4 10 17 (by kernel_rfl) rfl rfl rfl (fun K hK => ?_) (fun K hK => ?_) (fun K hK => ?_)
              · go_simp
                refine (HRC.out _ hsl.gr).mono ?_
                rintro e wC ⟨q2, d2, rfl, ho2, hq2, hgC⟩
                have hsl2 := (hsl.calm hgC).and (fun W => ∃ hi, ObjAt W 0 hi (some ⟨g6, 0, none⟩) nc q2 (rowP nc).length (lineL j sC) (rowP nc)) (fun _ _ g ⟨hi, a⟩ => ⟨hi, a.calm g⟩) ⟨_, ho2⟩
                refine hK _ _ (HS7.out _ hsl2.gr) ?_
                clear hK K
                exact hzbcF _ _ _ ⟨q1, q2, d1, d2, gF, gG, gD, by kernel_rfl, by kernel_rfl, hsl2, hq1⟩
              · go_simp
                have hsl2 := hsl.G
                refine hK _ _ (HS7.out _ hsl2.gr) ?_
                clear hK K
                exact hzbFG _ _ _ ⟨q1, q2, d1, d2, gF, W.heap.size, gD, by kernel_rfl, by kernel_rfl, hsl2, hq1⟩
              · go_simp
                have hsl2 := hsl.D
                refine hK _ _ (HS7.out _ hsl2.gr) ?_
                clear hK K
                exact hzbFD _ _ _ ⟨q1, q2, d1, d2, gF, gG, W.heap.size, by kernel_rfl, by kernel_rfl, hsl2, hq1⟩
            refine linTail 13 (fun a1 ll aa W => ∃ (q1 q2 : Option Addr) (d1 d2 gF gG gD : Nat), ll = #[true, true, true, true, false, true, true, false, true, true, true, false, false, false, false, false, false, false, false, false, false, false] ∧ aa = (Act.put (Act.put a1 (some 54) (.agg #[.slice (some ⟨g3, 0, none⟩) nb c3, .slice q1 (rowP nb).length d1])) (some 62) (.slice (some ⟨gG, 0, none⟩) 2 2)) ∧ SL w9 W i j none (some gG) none (fun W => True ∧ (fun W => ∃ hi, ObjAt W 0 hi (some ⟨g3, 0, none⟩) nb q1 (rowP nb).length (lineL i sB) (rowP nb)) W) ∧ (q1 = none → d1 = 0)) ?_ (fun hzbG => ?_)
            · rintro ll aa W ⟨q1, q2, d1, d2, gF, gG, gD, rfl, rfl, hsl, hq1⟩
              refine held_three 4 7 17 (by kernel_rfl) rfl rfl rfl (fun K hK => ?_) (fun K hK => ?_) (fun K hK => ?_)
              · go_simp
                refine (HRC.out _ hsl.gr).mono ?_
                rintro e wC ⟨q2, d2, rfl, ho2, hq2, hgC⟩
                have hsl2 := (hsl.calm hgC).and (fun W => ∃ hi, ObjAt W 0 hi (some ⟨g6, 0, none⟩) nc q2 (rowP nc).length (lineL j sC) (rowP nc)) (fun _ _ g ⟨hi, a⟩ => ⟨hi, a.calm g⟩) ⟨_, ho2⟩
                refine hK _ _ (HS7.out _ hsl2.gr) ?_
                clear hK K
                exact hzbcG _ _ _ ⟨q1, q2, d1, d2, gF, gG, gD, by kernel_rfl, by kernel_rfl, hsl2, hq1⟩
              · go_simp
                have hsl2 := hsl.F
                refine hK _ _ (HS7.out _ hsl2.gr) ?_
                clear hK K
                exact hzbFG _ _ _ ⟨q1, q2, d1, d2, W.heap.size, gG, gD, by kernel_rfl, by kernel_rfl, hsl2, hq1⟩
              · go_simp
                have hsl2 := hsl.D
                refine hK _ _ (HS7.out _ hsl2.gr) ?_
                clear hK K
                exact hzbGD _ _ _ ⟨q1, q2, d1, d2, gF, gG, W.heap.size, by kernel_rfl, by kernel_rfl, hsl2, hq1⟩
            refine linTail 13 (fun a1 ll aa W => ∃ (q1 q2 : Option Addr) (d1 d2 gF gG gD : Nat), ll = #[true, true, true, true, false, true, true, false, true, true, false, false, false, false, false, false, false, true, false, false, false, false] ∧ aa = (Act.put (Act.put a1 (some 54) (.agg #[.slice (some ⟨g3, 0, none⟩) nb c3, .slice q1 (rowP nb).length d1])) (some 12) (.pointer (some ⟨gD, 0, none⟩))) ∧ SL w9 W i j none none (some gD) (fun W => True ∧ (fun W => ∃ hi, ObjAt W 0 hi (some ⟨g3, 0, none⟩) nb q1 (rowP nb).length (lineL i sB) (rowP nb)) W) ∧ (q1 = none → d1 = 0)) ?_ (fun hzbD => ?_)
            · rintro ll aa W ⟨q1, q2, d1, d2, gF, gG, gD, rfl, rfl, hsl, hq1⟩
              refine held_three 4 7 10 (by kernel_rfl) rfl rfl rfl (fun K hK => ?_) (fun K hK => ?_) (fun K hK => ?_)
              · go_simp
                refine (HRC.out _ hsl.gr).mono ?_
                rintro e wC ⟨q2, d2, rfl, ho2, hq2, hgC⟩
                have hsl2 := (hsl.calm hgC).and (fun W => ∃ hi, ObjAt W 0 hi (some ⟨g6, 0, none⟩) nc q2 (rowP nc).length (lineL j sC) (rowP nc)) (fun _ _ g ⟨hi, a⟩ => ⟨hi, a.calm g⟩) ⟨_, ho2⟩
                refine hK _ _ (HS7.out _ hsl2.gr) ?_
                clear hK K
                exact hzbcD _ _ _ ⟨q1, q2, d1, d2, gF, gG, gD, by kernel_rfl, by kernel_rfl, hsl2, hq1⟩
              · go_simp
                have hsl2 := hsl.F
                refine hK _ _ (HS7.out _ hsl2.gr) ?_
                clear hK K
                exact hzbFD _ _ _ ⟨q1, q2, d1, d2, W.heap.size, gG, gD, by kernel_rfl, by kernel_rfl, hsl2, hq1⟩
              · go_simp
                have hsl2 := hsl.G
                refine hK _ _ (HS7.out _ hsl2.gr) ?_
                clear hK K
                exact hzbGD _ _ _ ⟨q1, q2, d1, d2, gF, W.heap.size, gD, by kernel_rfl, by kernel_rfl, hsl2, hq1⟩
            refine linTail 13 (fun a1 ll aa W => ∃ (q1 q2 : Option Addr) (d1 d2 gF gG gD : Nat), ll = #[true, true, false, true, false, true, true, true, true, true, true, false, false, false, false, false, false, false, false, false, false, false] ∧ aa = (Act.put (Act.put a1 (some 59) (.slice (some ⟨gF, 0, none⟩) 2 2)) (some 62) (.slice (some ⟨gG, 0, none⟩) 2 2)) ∧ SL w9 W i j (some gF) (some gG) none (fun _ => True) ∧ (q1 = none → d1 = 0)) ?_ (fun hzFG => ?_)
            · rintro ll aa W ⟨q1, q2, d1, d2, gF, gG, gD, rfl, rfl, hsl, hq1⟩
              refine held_two 2 17 (by kernel_rfl) rfl rfl (fun K hK => ?_) (fun K hK => ?_)
              · go_simp
                refine (HRB.out _ hsl.gr).mono ?_
                rintro e wB ⟨q1, d1, rfl, ho1, hq1, hgB⟩
                have hsl2 := (hsl.calm hgB).and (fun W => ∃ hi, ObjAt W 0 hi (some ⟨g3, 0, none⟩) nb q1 (rowP nb).length (lineL i sB) (rowP nb)) (fun _ _ g ⟨hi, a⟩ => ⟨hi, a.calm g⟩) ⟨_, ho1⟩
                refine hK _ _ (HS7.out _ hsl2.gr) ?_
                clear hK K
                exact hzbFG _ _ _ ⟨q1, q2, d1, d2, gF, gG, gD, by kernel_rfl, by kernel_rfl, hsl2, hq1⟩
              · go_simp
                have hsl2 := hsl.D
                refine hK _ _ (HS7.out _ hsl2.gr) ?_
                clear hK K
                exact hzFGD _ _ _ ⟨q1, q2, d1, d2, gF, gG, W.heap.size, by kernel_rfl, by kernel_rfl, hsl2, hq1⟩
            refine linTail 13 (fun a1 ll aa W => ∃ (q1 q2 : Option Addr) (d1 d2 gF gG gD : Nat), ll = #[true, true, false, true, false, true, true, true, true, true, false, false, false, false, false, false, false, true, false, false, false, false] ∧ aa = (Act.put (Act.put a1 (some 59) (.slice (some ⟨gF, 0, none⟩) 2 2)) (some 12) (.pointer (some ⟨gD, 0, none⟩))) ∧ SL w9 W i j (some gF) none (some gD) (fun _ => True) ∧ (q1 = none → d1 = 0)) ?_ (fun hzFD => ?_)
            · rintro ll aa W ⟨q1, q2, d1, d2, gF, gG, gD, rfl, rfl, hsl, hq1⟩
              refine held_two 2 10 (by kernel_rfl) rfl rfl (fun K hK => ?_) (fun K hK => ?_)
              · go_simp
                refine (HRB.out _ hsl.gr).mono ?_
                rintro e wB ⟨q1, d1, rfl, ho1, hq1, hgB⟩
                have hsl2 := (hsl.calm hgB).and (fun W => ∃ hi, ObjAt W 0 hi (some ⟨g3, 0, none⟩) nb q1 (rowP nb).length (lineL i sB) (rowP nb)) (fun _ _ g ⟨hi, a⟩ => ⟨hi, a.calm g⟩) ⟨_, ho1⟩
                refine hK _ _ (HS7.out _ hsl2.gr) ?_
                clear hK K
                exact hzbFD _ _ _ ⟨q1, q2, d1, d2, gF, gG, gD, by kernel_rfl, by kernel_rfl, hsl2, hq1⟩
              · go_simp
                have hsl2 := hsl.G
                refine hK _ _ (HS7.out _ hsl2.gr) ?_
                clear hK K
                exact hzFGD _ _ _ ⟨q1, q2, d1, d2, gF, W.heap.size, gD, by kernel_rfl, by kernel_rfl, hsl2, hq1⟩
            refine linTail 13 (fun a1 ll aa W => ∃ (q1 q2 : Option Addr) (d1 d2 gF gG gD : Nat), ll = #[true, true, false, true, false, true, true, false, true, true, true, false, false, false, false, false, false, true, false, false, false, false] ∧ aa = (Act.put (Act.put a1 (some 62) (.slice (some ⟨gG, 0, none⟩) 2 2)) (some 12) (.pointer (some ⟨gD, 0, none⟩))) ∧ SL w9 W i j none (some gG) (some gD) (fun _ => True) ∧ (q1 = none → d1 = 0)) ?_ (fun hzGD => ?_)
            · rintro ll aa W ⟨q1, q2, d1, d2, gF, gG, gD, rfl, rfl, hsl, hq1⟩
              refine held_two 2 7 (by kernel_rfl) rfl rfl (fun K hK => ?_) (fun K hK => ?_)
              · go_simp
                refine (HRB.out _ hsl.gr).mono ?_
                rintro e wB ⟨q1, d1, rfl, ho1, hq1, hgB⟩
                have hsl2 := (hsl.calm hgB).and (fun W => ∃ hi, ObjAt W 0 hi (some ⟨g3, 0, none⟩) nb q1 (rowP nb).length (lineL i sB) (rowP nb)) (fun _ _ g ⟨hi, a⟩ => ⟨hi, a.calm g⟩) ⟨_, ho1⟩
                refine hK _ _ (HS7.out _ hsl2.gr) ?_
                clear hK K
                exact hzbGD _ _ _ ⟨q1, q2, d1, d2, gF, gG, gD, by kernel_rfl, by kernel_rfl, hsl2, hq1⟩
              · go_simp
                have hsl2 := hsl.F
                refine hK _ _ (HS7.out _ hsl2.gr) ?_
                clear hK K
                exact hzFGD _ _ _ ⟨q1, q2, d1, d2, W.heap.size, gG, gD, by kernel_rfl, by kernel_rfl, hsl2, hq1⟩
            refine linTail 14 (fun a1 ll aa W => ∃ (q1 q2 : Option Addr) (d1 d2 gF gG gD : Nat), ll = #[true, true, true, true, false, true, true, false, true, true, false, false, false, false, false, false, false, false, false, false, false, false] ∧ aa = (Act.put a1 (some 54) (.agg #[.slice (some ⟨g3, 0, none⟩) nb c3, .slice q1 (rowP nb).length d1])) ∧ SL w9 W i j none none none (fun W => True ∧ (fun W => ∃ hi, ObjAt W 0 hi (some ⟨g3, 0, none⟩) nb q1 (rowP nb).length (lineL i sB) (rowP nb)) W) ∧ (q1 = none → d1 = 0)) ?_ (fun hzb => ?_)
            · rintro ll aa W ⟨q1, q2, d1, d2, gF, gG, gD, rfl, rfl, hsl, hq1⟩
              refine held_four 4 7 10 17 (by kernel_rfl) rfl rfl rfl rfl (fun K hK => ?_) (fun K hK => ?_) (fun K hK => ?_) (fun K hK => ?_)
              · go_simp
                refine (HRC.out _ hsl.gr).mono ?_
                rintro e wC ⟨q2, d2, rfl, ho2, hq2, hgC⟩
                have hsl2 := (hsl.calm hgC).and (fun W => ∃ hi, ObjAt W 0 hi (some ⟨g6, 0, none⟩) nc q2 (rowP nc).length (lineL j sC) (rowP nc)) (fun _ _ g ⟨hi, a⟩ => ⟨hi, a.calm g⟩) ⟨_, ho2⟩
                refine hK _ _ (HS7.out _ hsl2.gr) ?_
                clear hK K
                exact hzbc _ _ _ ⟨q1, q2, d1, d2, gF, gG, gD, by kernel_rfl, by kernel_rfl, hsl2, hq1⟩
              · go_simp
                have hsl2 := hsl.F
                refine hK _ _ (HS7.out _ hsl2.gr) ?_
                clear hK K
                exact hzbF _ _ _ ⟨q1, q2, d1, d2, W.heap.size, gG, gD, by kernel_rfl, by kernel_rfl, hsl2, hq1⟩
              · go_simp
                have hsl2 := hsl.G
                refine hK _ _ (HS7.out _ hsl2.gr) ?_
                clear hK K
                exact hzbG _ _ _ ⟨q1, q2, d1, d2, gF, W.heap.size, gD, by kernel_rfl, by kernel_rfl, hsl2, hq1⟩
              · go_simp
                have hsl2 := hsl.D
                refine hK _ _ (HS7.out _ hsl2.gr) ?_
                clear hK K
                exact hzbD _ _ _ ⟨q1, q2, d1, d2, gF, gG, W.heap.size, by kernel_rfl, by kernel_rfl, hsl2, hq1⟩
            refine linTail 14 (fun a1 ll aa W => ∃ (q1 q2 : Option Addr) (d1 d2 gF gG gD : Nat), ll = #[true, true, false, true, false, true, true, true, true, true, false, false, false, false, false, false, false, false, false, false, false, false] ∧ aa = (Act.put a1 (some 59) (.slice (some ⟨gF, 0, none⟩) 2 2)) ∧ SL w9 W i j (some gF) none none (fun _ => True) ∧ (q1 = none → d1 = 0)) ?_ (fun hzF => ?_)
            · rintro ll aa W ⟨q1, q2, d1, d2, gF, gG, gD, rfl, rfl, hsl, hq1⟩
              refine held_three 2 10 17 (by kernel_rfl) rfl rfl rfl (fun K hK => ?_) (fun K hK => ?_) (fun K hK => ?_)
              · go_simp
                refine (HRB.out _ hsl.gr).mono ?_
                rintro e wB ⟨q1, d1, rfl, ho1, hq1, hgB⟩
                have hsl2 := (hsl.calm hgB).and (fun W => ∃ hi, ObjAt W 0 hi (some ⟨g3, 0, none⟩) nb q1 (rowP nb).length (lineL i sB) (rowP nb)) (fun _ _ g ⟨hi, a⟩ => ⟨hi, a.calm g⟩) ⟨_, ho1⟩
                refine hK _ _ (HS7.out _ hsl2.gr) ?_
                clear hK K
                exact hzbF _ _ _ ⟨q1, q2, d1, d2, gF, gG, gD, by kernel_rfl, by kernel_rfl, hsl2, hq1⟩
              · go_simp
                have hsl2 := hsl.G
                refine hK _ _ (HS7.out _ hsl2.gr) ?_
                clear hK K
                exact hzFG _ _ _ ⟨q1, q2, d1, d2, gF, W.heap.size, gD, by kernel_rfl, by kernel_rfl, hsl2, hq1⟩
              · go_simp
                have hsl2 := hsl.D
                refine hK _ _ (HS7.out _ hsl2.gr) ?_
                clear hK K
                exact hzFD _ _ _ ⟨q1, q2, d1, d2, gF, gG, W.heap.size, by kernel_rfl, by kernel_rfl, hsl2, hq1⟩
            refine linTail 14 (fun a1 ll aa W => ∃ (q1 q2 : Option Addr) (d1 d2 gF gG gD : Nat), ll = #[true, true, false, true, false, true, true, false, true, true, true, false, false, false, false, false, false, false, false, false, false, false] ∧ aa = (Act.put a1 (some 62) (.slice (some ⟨gG, 0, none⟩) 2 2)) ∧ SL w9 W i j none (some gG) none (fun _ => True) ∧ (q1 = none → d1 = 0)) ?_ (fun hzG => ?_)
            · rintro ll aa W ⟨q1, q2, d1, d2, gF, gG, gD, rfl, rfl, hsl, hq1⟩
              refine held_three 2 7 17 (by kernel_rfl) rfl rfl rfl (fun K hK => ?_) (fun K hK => ?_) (fun K hK => ?_)
              · go_simp
                refine (HRB.out _ hsl.gr).mono ?_
                rintro e wB ⟨q1, d1, rfl, ho1, hq1, hgB⟩
                have hsl2 := (hsl.calm hgB).and (fun W => ∃ hi, ObjAt W 0 hi (some ⟨g3, 0, none⟩) nb q1 (rowP nb).length (lineL i sB) (rowP nb)) (fun _ _ g ⟨hi, a⟩ => ⟨hi, a.calm g⟩) ⟨_, ho1⟩
                refine hK _ _ (HS7.out _ hsl2.gr) ?_
                clear hK K
                exact hzbG _ _ _ ⟨q1, q2, d1, d2, gF, gG, gD, by kernel_rfl, by kernel_rfl, hsl2, hq1⟩
              · go_simp
                have hsl2 := hsl.F
                refine hK _ _ (HS7.out _ hsl2.gr) ?_
                clear hK K
                exact hzFG _ _ _ ⟨q1, q2, d1, d2, W.heap.size, gG, gD, by kernel_rfl, by kernel_rfl, hsl2, hq1⟩
              · go_simp
                have hsl2 := hsl.D
                refine hK _ _ (HS7.out _ hsl2.gr) ?_
                clear hK K
                exact hzGD _ _ _ ⟨q1, q2, d1, d2, gF, gG, W.heap.size, by kernel_rfl, by kernel_rfl, hsl2, hq1⟩
            refine linTail 14 (fun a1 ll aa W => ∃ (q1 q2 : Option Addr) (d1 d2 gF gG gD : Nat), ll = #[true, true, false, true, false, true, true, false, true, true, false, false, false, false, false, false, false, true, false, false, false, false] ∧ aa = (Act.put a1 (some 12) (.pointer (some ⟨gD, 0, none⟩))) ∧ SL w9 W i j none none (some gD) (fun _ => True) ∧ (q1 = none → d1 = 0)) ?_ (fun hzD => ?_)
            · rintro ll aa W ⟨q1, q2, d1, d2, gF, gG, gD, rfl, rfl, hsl, hq1⟩
              refine held_three 2 7 10 (by kernel_rfl) rfl rfl rfl (fun K hK => ?_) (fun K hK => ?_) (fun K hK => ?_)
              · go_simp
                refine (HRB.out _ hsl.gr).mono ?_
                rintro e wB ⟨q1, d1, rfl, ho1, hq1, hgB⟩
                have hsl2 := (hsl.calm hgB).and (fun W => ∃ hi, ObjAt W 0 hi (some ⟨g3, 0, none⟩) nb q1 (rowP nb).length (lineL i sB) (rowP nb)) (fun _ _ g ⟨hi, a⟩ => ⟨hi, a.calm g⟩) ⟨_, ho1⟩
                refine hK _ _ (HS7.out _ hsl2.gr) ?_
                clear hK K
                exact hzbD _ _ _ ⟨q1, q2, d1, d2, gF, gG, gD, by kernel_rfl, by kernel_rfl, hsl2, hq1⟩
              · go_simp
                have hsl2 := hsl.F
                refine hK _ _ (HS7.out _ hsl2.gr) ?_
                clear hK K
                exact hzFD _ _ _ ⟨q1, q2, d1, d2, W.heap.size, gG, gD, by kernel_rfl, by kernel_rfl, hsl2, hq1⟩
              · go_simp
                have hsl2 := hsl.G
                refine hK _ _ (HS7.out _ hsl2.gr) ?_
                clear hK K
                exact hzGD _ _ _ ⟨q1, q2, d1, d2, gF, W.heap.size, gD, by kernel_rfl, by kernel_rfl, hsl2, hq1⟩
            obtain ⟨q1, hq0⟩ : ∃ q1 : Option Addr, q1 = none := ⟨_, rfl⟩
            obtain ⟨d1, hd0⟩ : ∃ d1 : Nat, d1 = 0 := ⟨_, rfl⟩
            have hq1 : q1 = none → d1 = 0 := fun _ => hd0
            clear hq0 hd0
            have hnn : ∃ (q2 : Option Addr) (d2 gF gG gD : Nat), True := ⟨none, 0, 0, 0, 0, trivial⟩
            obtain ⟨q2, d2, gF, gG, gD, _⟩ := hnn
            refine held_four 2 7 10 17 (by kernel_rfl) rfl rfl rfl rfl (fun K hK => ?_) (fun K hK => ?_) (fun K hK => ?_) (fun K hK => ?_)
            · go_simp
              refine (HRB.out _ hsl.gr).mono ?_
              rintro e wB ⟨q1, d1, rfl, ho1, hq1, hgB⟩
              have hsl2 := (hsl.calm hgB).and (fun W => ∃ hi, ObjAt W 0 hi (some ⟨g3, 0, none⟩) nb q1 (rowP nb).length (lineL i sB) (rowP nb)) (fun _ _ g ⟨hi, a⟩ => ⟨hi, a.calm g⟩) ⟨_, ho1⟩
              refine hK _ _ (HS7.out _ hsl2.gr) ?_
              clear hK K
              exact hzb _ _ _ ⟨q1, q2, d1, d2, gF, gG, gD, by kernel_rfl, by kernel_rfl, hsl2, hq1⟩
            · go_simp
              have hsl2 := hsl.F
              refine hK _ _ (HS7.out _ hsl2.gr) ?_
              clear hK K
              exact hzF _ _ _ ⟨q1, q2, d1, d2, W.heap.size, gG, gD, by kernel_rfl, by kernel_rfl, hsl2, hq1⟩
            · go_simp
              have hsl2 := hsl.G
              refine hK _ _ (HS7.out _ hsl2.gr) ?_
              clear hK K
              exact hzG _ _ _ ⟨q1, q2, d1, d2, gF, W.heap.size, gD, by kernel_rfl, by kernel_rfl, hsl2, hq1⟩
            · go_simp
              have hsl2 := hsl.D
              refine hK _ _ (HS7.out _ hsl2.gr) ?_
              clear hK K
              exact hzD _ _ _ ⟨q1, q2, d1, d2, gF, gG, W.heap.size, by kernel_rfl, by kernel_rfl, hsl2, hq1⟩
          case rest =>
            obtain ⟨g, p5, c5, q5, d5, pi, ci, pj, cj, rfl, rfl, rfl, rfl, hsd⟩ := hcut
            go_upto_region 16 with fail
            go_cut [16] (fun s16 wy => s16 = .int .i64 KK ∧ SD w9 wy g p5 c5 q5 d5 pi pj NA KK nb nc A B I J)
            case first =>
              have HSD := Lib.hid hsd
              have HKV := Lib.hid (linSum (i := i) (j := j) (K := KK) hx6 hy6 (by have h9 := HKK.out; rw [← hnb, ← hnc] at h9; exact h9))
              clear hsd HPU HRB HRC HS7 HLA HNA HNB HNC HB9 HOA9
              go_wp2
              go_meet
              exact ⟨by rw [HKV.out], HSD.out⟩
            case rest =>
              obtain ⟨rfl, g1, hbo, l7, h7, ho7, hi7, hj7⟩ := hcut
              have hNA9 := HNA.out
              have hnb2 : nb = i + 2 := by omega
              have hnc2 : nc = j + 2 := by omega
              obtain ⟨i1, hi1⟩ : ∃ i1, i1 = i + 1 := ⟨_, rfl⟩
              obtain ⟨j1, hj1⟩ : ∃ j1, j1 = j + 1 := ⟨_, rfl⟩
              obtain ⟨bi, oi, hpi, _, _, _, _⟩ := hi7.cell (by omega)
              obtain ⟨bj, oj, hpj, _, _, _, _⟩ := hj7.cell (by omega)
              subst hpi hpj
              have hi1c : (i1 : Int) = (i : Int) + 1 := by omega
              have v1 : I[i1]?.getD 0 = (i1 : Int) := by rw [hi1, HLA.out.i1]; omega
              have v2 : J[j1]?.getD 0 = (i1 : Int) := by rw [hj1, HLA.out.j1]; omega
              have HS := linHold hbo hi7 hj7 (by omega) (by omega) HLA.out.i0 v1 (by omega) HLA.out.j0 v2
              have HGE := Lib.hid (grownBy_trans HG9.out g1)
              have HO7 := Lib.hid ho7
              have HCK := Lib.hid (show (chk A B == 0) = true by rw [HLA.out.ck]; rfl)
              have hkb : KK ≤ 1000000 := by
                have h1 : (i + 2) * (i + 1) ≤ 7 * 6 := Nat.mul_le_mul (by omega) (by omega)
                have h2 : (j + 2) * (j + 1) ≤ 7 * 6 := Nat.mul_le_mul (by omega) (by omega)
                have h3 := HKK.out
                rw [hnb2, hnc2] at h3
                omega
              have z1 : IntKind.i64.wrap ((i : Int) + 1) = (i1 : Int) := by rw [hi1c]; exact hwi
              have z2 : IntKind.i64.wrap ((j : Int) + 1) = (j1 : Int) := by rw [show (j1 : Int) = (j : Int) + 1 by omega]; exact hwj
              obtain ⟨i2, hi2⟩ : ∃ i2, i2 = 2 + i := ⟨_, rfl⟩
              have z3 : IntKind.i64.wrap (2 + (i : Int)) = (i2 : Int) := by rw [show (i2 : Int) = 2 + (i : Int) by omega]; exact wrap_few _ (by omega) (by omega)
              have z4 : IntKind.i64.wrap ((i2 : Int) + (j : Int)) = (NA : Int) := by rw [show (NA : Int) = (i2 : Int) + (j : Int) by omega]; exact wrap_few _ (by omega) (by omega)
              have z5 : (0 : Int) ≤ i1 := by omega
              have z6 : (i1 : Int) < nb := by omega
              have z7 : (0 : Int) ≤ j1 := by omega
              have z8 : (j1 : Int) < nc := by omega
              have z9 : (0 : Int) < nb := by omega
              have z10 : (0 : Int) < nc := by omega
              have z11 : 0 < nb := by omega
              have z12 : 0 < nc := by omega
              have hE := hidGrow HS
              have hbx := HS.out _ hE
              clear hbo hi7 hj7 ho7 g1 v1 v2 hwi hwj hi1c HNA HNB HNC HPU HRB HRC HS7 HLA HKK HB9 HOA9 hnb hnc hnb2 hnc2 hi1 hj1 hi2 hNA9
              go_wp2_with fail
              go_region_held3 (fun W => (W.cell? ⟨g, 0, none⟩ = some (.slice p5 NA c5) ∧ W.cell? ⟨g, 1, none⟩ = some (.slice q5 KK d5)) ∧ (W.cell? ⟨bi, oi, none⟩ = some (.int .i64 0) ∧ W.cell? ⟨bi, oi + i1, none⟩ = some (.int .i64 i1)) ∧ W.cell? ⟨bj, oj, none⟩ = some (.int .i64 0) ∧ W.cell? ⟨bj, oj + j1, none⟩ = some (.int .i64 i1)) (first | exact hbx | exact HS.out _ hE | go_keep)
                (first
                  | (go_at_call 28; refine (refIs_c p5 q5 NA c5 KK d5 _ _ A B true _ (HO7.out.calm hE) hkb HCK.out).mono ?_; rintro e wE ⟨rfl, hgE⟩; have hE := grownBy_trans hE hgE; have hbx := HS.out _ hE))
              all_goals
                have HEND := Lib.hid (grownBy_trans HGE.out hE)
                clear hE hbx
                go_wp2
                go_ret
                exact ⟨rfl, HEND.out⟩

end Go.Proofs.YtihkjgiaajgkpaaDoor
