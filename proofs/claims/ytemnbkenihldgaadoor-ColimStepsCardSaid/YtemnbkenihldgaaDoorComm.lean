/- centolaw9's own functions behind, common. -/
import Derived.Test.YtemnbkenihldgaaDoorFew9
import Derived.Test.YtemnbkenihldgaaDoorColE
import Derived.Test.YtemnbkenihldgaaDoorRefar
namespace Go.Proofs.YtemnbkenihldgaaDoor
open Go.RowKit Go.Shelf

/-- What behind hands back. -/
theorem behind9_c (p q : Option Addr) (n c m d lo hi lo' hi' : Nat) (f g : List Int) (w : World) (hf : ZsAt w lo hi p n f) (hg : ZsAt w lo' hi' q m g) (hn : n ≤ 1000000) (hb : thenB f g.length = true) :
    Calls Tryd.prog 9 #[.slice p n c, .slice q m d] w fun e w' => ∃ pp cc, e = .returned (.slice pp n cc) ∧ ZsAt w' w.heap.size w'.heap.size pp n (thenL f g) ∧ w.grownBy w' none := by
  have HF := Lib.hid hf
  have HG := Lib.hid hg
  have HB := Lib.hid hb
  have hl := hf.len
  clear hf hg hb
  go_enter Tryd.func9, Tryd.ntmps9
  go_wp2_with fail
  refine (refThen_c _ _ _ _ _ _ _ _ _ _ f g _ HF.out HG.out hn).mono ?_
  rintro e w8 ⟨hg8, hpost⟩
  obtain ⟨gb, gc, rfl, hrow⟩ := (hpost.resolve_right (fun h => by rw [HB.out] at h; cases h.1)).2
  rw [hl] at hrow ⊢
  have HR := Lib.hid hrow
  have HG8 := Lib.hid hg8
  clear hpost hrow hg8 hl
  go_wp2
  go_ret
  exact ⟨_, _, rfl, HR.out, HG8.out⟩

/-- A common element of two objects: what it is, and where it goes; or none. -/
def CommPost (L L' : List ByteArray) (w : World) (e : Ending) (w' : World) : Prop :=
  w.grownBy w' none ∧ (e = .returned (.tuple #[.agg #[.slice none 0 0, .slice none 0 0], .slice none 0 0, .slice none 0 0, .bool false]) ∨
    ∃ (gl gx gy x y : Nat) (lab : ByteArray), e = .returned (.tuple #[.agg #[.slice (some ⟨gl, 0, none⟩) 1 1, .slice none 0 0], .slice (some ⟨gx, 0, none⟩) 1 1, .slice (some ⟨gy, 0, none⟩) 1 1, .bool true]) ∧
      x < L.length ∧ y < L'.length ∧ L[x]?.getD .empty = lab ∧ L'[y]?.getD .empty = lab ∧ StrsAt w' 0 w'.heap.size (some ⟨gl, 0, none⟩) 1 [lab] ∧ ZsAt w' 0 w'.heap.size (some ⟨gx, 0, none⟩) 1 [(x : Int)] ∧ ZsAt w' 0 w'.heap.size (some ⟨gy, 0, none⟩) 1 [(y : Int)])

set_option maxRecDepth 20000 in
set_option maxHeartbeats 4000000 in
theorem common9_c (p q p' q' : Option Addr) (n c m d n' c' m' d' lo hi lo' hi' t : Nat) (L L' : List ByteArray) (P P' : List (Int × Int)) (w : World) (h : ObjAt w lo hi p n q m L P) (h' : ObjAt w lo' hi' p' n' q' m' L' P') (hn : n ≤ 40) (hn' : n' ≤ 40) (ht : t < 256) :
    Calls Tryd.prog 7 #[.agg #[.slice p n c, .slice q m d], .agg #[.slice p' n' c', .slice q' m' d'], .int .i64 t] w (CommPost L L' w) := by
  have H := Lib.hid h
  have H' := Lib.hid h'
  have HL := Lib.hid h.ls.len
  have HL' := Lib.hid h'.ls.len
  have he := boxEnv_three w (.slice p n c) (.slice q m d) (.slice p' n' c') (.slice q' m' d') (.slice none 0 0) (.slice none 0 0)
  clear h h'
  go_enter Tryd.func7, Tryd.ntmps7
  go_wp2_with fail
  generalize ((w.alloc (.cells #[.slice p n c, .slice q m d] 25)).alloc (.cells #[.slice p' n' c', .slice q' m' d'] 25)).alloc (.cells #[.slice none 0 0, .slice none 0 0] 25) = W0 at *
  have HE := Lib.hid he
  clear he
  go_loopw [10] (fun si wr => ∃ i : Nat, i ≤ n ∧ si = .int .i64 i ∧ BoxEnv w wr [(.slice p n c, .slice q m d), (.slice p' n' c', .slice q' m' d'), (.slice none 0 0, .slice none 0 0)]) (fun si _ => n - (intOf si).toNat)
  case atStart => exact ⟨0, Nat.zero_le _, rfl, HE.out⟩
  case round =>
    obtain ⟨i, hi, rfl, he⟩ := hrel
    have HEW := Lib.hid he
    obtain ⟨x00, x01, x10, x11, x20, x21⟩ := he.three
    obtain ⟨b20, b21, f20, f21⟩ := he.third
    by_cases hin : i < n
    · have i0 : (0 : Int) ≤ i := by omega
      have i1 : (i : Int) < n := by omega
      obtain ⟨x, hx⟩ : ∃ x, x = (i + t) % n := ⟨_, rfl⟩
      have hxn : x < n := by rw [hx]; exact Nat.mod_lt _ (by omega)
      have hmod : ((i : Int) + (t : Int)) % (n : Int) = (x : Int) := by rw [hx]; rfl
      have n0 : (0 : Int) < n := by omega
      have hnz : ¬ ((n : Int) = 0) := by omega
      clear hx he
      go_wp2
      clear x00 x01 x10 x11 x20 x21 b20 b21 f20 f21
      go_loopw [12] (fun sj wx => ∃ j : Nat, j ≤ n' ∧ sj = .int .i64 j ∧ BoxEnv w wx [(.slice p n c, .slice q m d), (.slice p' n' c', .slice q' m' d'), (.slice none 0 0, .slice none 0 0)]) (fun sj _ => n' - (intOf sj).toNat)
      case atStart => exact ⟨0, Nat.zero_le _, rfl, HEW.out⟩
      case round =>
        obtain ⟨j, hj, rfl, he⟩ := hrel
        generalize wr = wx at *
        have HEX := Lib.hid he
        obtain ⟨x00, x01, x10, x11, x20, x21⟩ := he.three
        obtain ⟨b20, b21, f20, f21⟩ := he.third
        by_cases hjn : j < n'
        · have j0 : (0 : Int) ≤ j := by omega
          have j1 : (j : Int) < n' := by omega
          have xi0 : (0 : Int) ≤ x := by omega
          have xi1 : (x : Int) < n := by omega
          obtain ⟨pb, po, rfl, _, q2, q3, hcl⟩ := (H.out.ls.calm he.1).cell (by omega)
          have cx := hcl x hxn
          obtain ⟨pb', po', rfl, _, r2, r3, hcl'⟩ := (H'.out.ls.calm he.1).cell (by omega)
          have cy := hcl' j hjn
          obtain ⟨la, hla⟩ : ∃ la, L[x]?.getD .empty = la := ⟨_, rfl⟩
          obtain ⟨lb, hlb⟩ : ∃ lb, L'[j]?.getD .empty = lb := ⟨_, rfl⟩
          rw [hla] at cx
          rw [hlb] at cy
          have HLA := Lib.hid hla
          have HLB := Lib.hid hlb
          clear hcl hcl' hla hlb he
          by_cases hs : la = lb
          · have hN : (la.toList == lb.toList) = true := by rw [str_eq]; simpa using hs
            have HS := Lib.hid hs
            clear hs
            go_wp2
            go_quiet (fail)
            have hd := grownBy_drewN wx nq none
            have hez := HEX.out.calm hd
            have cz := cell_calm hd cx (by omega)
            clear x00 x01 x10 x11 x20 x21 b20 b21 f20 f21 cx cy hd
            generalize wx.drewN nq = wz at *
            obtain ⟨x00, x01, x10, x11, x20, x21⟩ := hez.three
            have hfac := allocL_facts [.cells #[.string la] 9, .cells #[.int .i64 x] 3, .cells #[.int .i64 j] 3] wz
            have he3 : BoxEnv w (((wz.alloc (.cells #[.string la] 9)).alloc (.cells #[.int .i64 x] 3)).alloc (.cells #[.int .i64 j] 3)) [(.slice (some ⟨pb, po, none⟩) n c, .slice q m d), (.slice (some ⟨pb', po', none⟩) n' c', .slice q' m' d'), (.slice none 0 0, .slice none 0 0)] := hez.calm hfac.1
            obtain ⟨b20, b21, f20, f21⟩ := he3.third
            have hlt : w.heap.size + 1 + 1 < wz.heap.size := (hez.2 2 _ rfl).lt
            have HFIN : Hid (∀ W8, W8 = ((((wz.alloc (.cells #[.string la] 9)).alloc (.cells #[.int .i64 x] 3)).alloc (.cells #[.int .i64 j] 3)).setCell ⟨w.heap.size + 1 + 1, 0, none⟩ (.slice (some ⟨wz.heap.size, 0, none⟩) 1 1)).setCell ⟨w.heap.size + 1 + 1, 1, none⟩ (.slice none 0 0) →
                W8.cell? ⟨w.heap.size + 1 + 1, 0, none⟩ = some (.slice (some ⟨wz.heap.size, 0, none⟩) 1 1) ∧ W8.cell? ⟨w.heap.size + 1 + 1, 1, none⟩ = some (.slice none 0 0) ∧
                CommPost L L' w (.returned (.tuple #[.agg #[.slice (some ⟨wz.heap.size, 0, none⟩) 1 1, .slice none 0 0], .slice (some ⟨wz.heap.size + 1, 0, none⟩) 1 1, .slice (some ⟨wz.heap.size + 1 + 1, 0, none⟩) 1 1, .bool true])) W8) := Lib.hid (by
              rintro W8 rfl
              have hbx := (show BoxO (((wz.alloc (.cells #[.string la] 9)).alloc (.cells #[.int .i64 x] 3)).alloc (.cells #[.int .i64 j] 3)) (w.heap.size + 1 + 1) _ _ from he3.2 2 _ rfl).set0 (.slice (some ⟨wz.heap.size, 0, none⟩) 1 1) |>.set1 (.slice none 0 0)
              have q1 := grownBy_setCell (((wz.alloc (.cells #[.string la] 9)).alloc (.cells #[.int .i64 x] 3)).alloc (.cells #[.int .i64 j] 3)) ⟨w.heap.size + 1 + 1, 0, none⟩ (.slice (some ⟨wz.heap.size, 0, none⟩) 1 1)
              have q2 := grownBy_setCell ((((wz.alloc (.cells #[.string la] 9)).alloc (.cells #[.int .i64 x] 3)).alloc (.cells #[.int .i64 j] 3)).setCell ⟨w.heap.size + 1 + 1, 0, none⟩ (.slice (some ⟨wz.heap.size, 0, none⟩) 1 1)) ⟨w.heap.size + 1 + 1, 1, none⟩ (.slice none 0 0)
              have hkeep : ∀ i, i < 3 → ∀ o, (((wz.alloc (.cells #[.string la] 9)).alloc (.cells #[.int .i64 x] 3)).alloc (.cells #[.int .i64 j] 3)).heap[wz.heap.size + i]? = some o → (((((wz.alloc (.cells #[.string la] 9)).alloc (.cells #[.int .i64 x] 3)).alloc (.cells #[.int .i64 j] 3)).setCell ⟨w.heap.size + 1 + 1, 0, none⟩ (.slice (some ⟨wz.heap.size, 0, none⟩) 1 1)).setCell ⟨w.heap.size + 1 + 1, 1, none⟩ (.slice none 0 0)).heap[wz.heap.size + i]? = some o := fun i _ o ho => by
                have hl := (Array.getElem?_eq_some_iff.1 ho).1
                have hne : some (wz.heap.size + i) ≠ some (w.heap.size + 1 + 1) := by intro e; have := Option.some.inj e; omega
                have k1 := (q1.block _ hl hne).trans ho
                exact (q2.block _ (Nat.lt_of_lt_of_le hl q1.size) hne).trans k1
              have h0 := hkeep 0 (by decide) _ (hfac.2 0 (by simp))
              have h1 := hkeep 1 (by decide) _ (hfac.2 1 (by simp))
              have h2 := hkeep 2 (by decide) _ (hfac.2 2 (by simp))
              refine ⟨hbx.c0, hbx.c1, grownBy_setCell_new _ (grownBy_setCell_new _ he3.1 (by show _ ≤ w.heap.size + 1 + 1; omega)) (by show _ ≤ w.heap.size + 1 + 1; omega), .inr ⟨_, _, _, x, j, la, rfl, by rw [HL.out]; exact hxn, by rw [HL'.out]; exact hjn, HLA.out, HLB.out.trans HS.out.symm, ?_, ?_, ?_⟩⟩
              · exact (strs_of (l := [la]) h0).wide
              · exact zs_of (l := [(x : Int)]) h1
              · exact zs_of (l := [(j : Int)]) h2)
            clear hfac he3 hez hlt
            go_wp2
            obtain ⟨y0, y1, hres⟩ := HFIN.out _ rfl
            exact bodyPost_ret (v := .tuple #[.agg #[.slice (some ⟨wz.heap.size, 0, none⟩) 1 1, .slice none 0 0], .slice (some ⟨wz.heap.size + 1, 0, none⟩) 1 1, .slice (some ⟨wz.heap.size + 1 + 1, 0, none⟩) 1 1, .bool true]) (by simp [results, Tryd.results7, go_sem, y0, y1]) rfl hres
          · have hN : (la.toList == lb.toList) = false := by rw [str_eq]; simpa using hs
            go_wp2
            go_quiet (fail)
            go_wp2
            exact ⟨⟨j + 1, by omega, by go_num, HEX.out.calm (grownBy_drewN wx _ none)⟩, by simp [intOf]; omega⟩
        · obtain rfl : j = n' := by omega
          have j1 : ¬ ((j : Int) < j) := by omega
          clear he
          go_wp2
          exact ⟨⟨i + 1, by omega, by go_num, HEX.out⟩, by simp [intOf]; omega⟩
    · obtain rfl : i = n := by omega
      have i1 : ¬ ((i : Int) < i) := by omega
      have HG := Lib.hid (he.gr2 (b := w.heap.size + 1 + 1) (by omega) (.slice none 0 0) (.slice none 0 0))
      clear he
      go_wp2
      exact bodyPost_ret (v := .tuple #[.agg #[.slice none 0 0, .slice none 0 0], .slice none 0 0, .slice none 0 0, .bool false]) (by simp [results, Tryd.results7, go_sem, b20, b21]) rfl ⟨HG.out, .inl rfl⟩

end Go.Proofs.YtemnbkenihldgaaDoor
