/- Package union: the contracts of way, Least, shorten. -/
import Derived.Test.YtihkjgiaajgkpaaDoorUnia
namespace Go.Proofs.YtihkjgiaajgkpaaDoor
open Go.RowKit Go.Shelf
attribute [local go_sem] Oper.semAt_some

set_option maxHeartbeats 1000000 in
theorem way_in (n : Nat) (p : Option Addr) (z : Int) (w : World) :
    CallsIn Fence.wide n Tryd.prog 101 #[.pointer p, .int .i64 z] w fun e w' => e = .returned (.func (.func 119) #[] #[.pointer (some ⟨w.heap.size + 1, 0, none⟩), .pointer (some ⟨w.heap.size, 0, none⟩)]) ∧
      w' = (w.alloc (.cells #[.pointer p] 70)).alloc (.cells #[.int .i64 z] 3) := by
  refine callsIn_of_wp Tryd.func101 rfl trivial ?_ rfl
  simp only [Tryd.ntmps101, List.size_toArray, List.length_cons, List.length_nil, Nat.reduceAdd, Nat.reduceSub, Array.replicate_succ, Array.replicate_zero, List.push_toArray, List.append_toArray, List.nil_append, List.cons_append]
  gi_wp2
  go_ret
  exact ⟨rfl, rfl⟩

/-- The last of those that were handed over; -1 of none. -/
def lastI (pre : List Nat) : Int := (pre.map fun y : Nat => (y : Int)).getLastD (-1)
theorem lastI_snoc (pre : List Nat) (x : Nat) : lastI (pre ++ [x]) = x := by simp [lastI]
theorem lastI_way (F : List Nat) (e : Nat) : lastI (way F e) = root F e := by
  have h : ∀ (l : List Nat) (x : Nat), lastI (x :: l) = ((x :: l).getLastD 0 : Nat) := by
    intro l
    induction l with
    | nil => intro x; rfl
    | cons y l ih =>
      intro x
      have := ih y
      simp only [lastI, List.map_cons, List.getLastD_cons] at this ⊢
      exact this
  have := way_last F e 0
  by_cases hx : nx F e < e
  · rw [way_step hx] at this ⊢; rw [h, this]
  · rw [way_end hx] at this ⊢; rw [h, this]
/-- The least one of z's class; -1 of none. -/
def leastZ (F : List Nat) (z : Int) : Int := if hasZ F.length z then (root F z.toNat : Int) else -1
theorem lastI_wayZ (F : List Nat) (z : Int) : lastI (wayZ F z) = leastZ F z := by
  unfold wayZ leastZ
  split
  · exact lastI_way F _
  · rfl

set_option maxRecDepth 100000 in
set_option maxHeartbeats 4000000 in
theorem least_in (n : Nat) (hn : 3 ≤ n) (lo hi b c : Nat) (p : Option Addr) (F : List Nat) (z : Int) (w : World) (hu : IsUg 99 w lo hi b p c F) (hd : downF F) :
    CallsIn Fence.wide n Tryd.prog 70 #[.pointer (some ⟨b, 0, none⟩), .int .i64 z] w fun e w' => e = .returned (.int .i64 (leastZ F z)) ∧ w.grownBy w' none := by
  have h1 : 1 ≤ n := by omega
  have hro : Fence.wide.round = none := rfl
  have HU := Lib.hid hu
  have HD := Lib.hid hd
  clear hu hd
  refine callsIn_of_wp_marks Tryd.func70 rfl trivial ?_ hro
  simp only [Tryd.ntmps70, List.size_toArray, List.length_cons, List.length_nil, Nat.reduceAdd, Nat.reduceSub, Array.replicate_succ, Array.replicate_zero, List.push_toArray, List.append_toArray, List.nil_append, List.cons_append]
  gi_wp2_with (refine ⟨trivial, ?_⟩; gi_at_call 101; refine (way_in (n - 1) _ _ _).mono ?_; rintro e w9 ⟨rfl, rfl⟩)
  have b1 := Boxed.new w 3 (.int .i64 (-1))
  have b2 := Boxed.new (w.alloc (.cells #[.int .i64 (-1)] 3)) 70 (.pointer (some ⟨b, 0, none⟩))
  have b3 := Boxed.new ((w.alloc (.cells #[.int .i64 (-1)] 3)).alloc (.cells #[.pointer (some ⟨b, 0, none⟩)] 70)) 3 (.int .i64 z)
  rw [World.size_alloc] at b2
  rw [World.size_alloc, World.size_alloc] at b3
  have hB0 : Below w.heap.size w (((w.alloc (.cells #[.int .i64 (-1)] 3)).alloc (.cells #[.pointer (some ⟨b, 0, none⟩)] 70)).alloc (.cells #[.int .i64 z] 3)) :=
    (((Below.refl _ w).alloc (Nat.le_refl _) _).alloc (by simp) _).alloc (by simp; omega) _
  refine rangeTold hro h1 (gf := 119) (lb := #[.pointer (some ⟨w.heap.size + 1 + 1, 0, none⟩), .pointer (some ⟨w.heap.size + 1, 0, none⟩)]) rfl trivial (enters_of Tryd.func119 (by kernel_rfl) rfl)
    (encs := fun x : Nat => #[.int .i64 (x : Nat)]) (fun _ => rfl)
    (fun pre W => Boxed W w.heap.size 3 (.int .i64 (lastI pre)) ∧ Boxed W (w.heap.size + 1) 70 (.pointer (some ⟨b, 0, none⟩)) ∧ Boxed W (w.heap.size + 1 + 1) 3 (.int .i64 z) ∧ Below w.heap.size w W)
    (OwnFrom.and (Own.from (boxed_own w.heap.size 3 (fun pre => .int .i64 (lastI pre))) _) (OwnFrom.and (Own.from (boxed_own (w.heap.size + 1) 70 (fun _ => .pointer (some ⟨b, 0, none⟩))) _) (OwnFrom.and (Own.from (boxed_own (w.heap.size + 1 + 1) 3 (fun _ => .int .i64 z)) _) (ownFrom_below (Nat.le_refl _) (by simp; omega)))))
    ⟨(b1.alloc _).alloc _, b2.alloc _, b3, hB0⟩
    (fun xs => xs = wayZ F z) (fun pre x => pre ++ [x] <+: wayZ F z) ?hit
    (fun x => { tmps := #[.pointer (some ⟨b, 0, none⟩), .int .i64 z, undef, undef, .int .i64 0, .pointer (some ⟨w.heap.size, 0, none⟩), .int .i64 (x : Nat), .pointer (some ⟨b, 0, none⟩), .int .i64 z, .func (.func 119) #[] #[.pointer (some ⟨w.heap.size + 1 + 1, 0, none⟩), .pointer (some ⟨w.heap.size + 1, 0, none⟩)], .int .i64 (x : Nat), undef, undef], defers := [] }) ?assign ?body ?done
  case hit =>
    intro l R hR W hI hr hY
    exact way1_in (n - 1) (by omega) l (w.heap.size + 1 + 1) (w.heap.size + 1) lo hi b c p F z (fun _ => F) _ R
      (fun pre A B h hg => ⟨h.1.kept hg (by simp), h.2.1.kept hg (by simp), h.2.2.1.kept hg (by simp), h.2.2.2.trans ((grownBy_below hg).mono h.2.2.2.size)⟩) hR
      (fun pre W h => ⟨HU.out.calm (below_grownBy h.2.2.2), h.2.2.1.cell, h.2.1.cell⟩) (fun _ => rfl) (fun _ _ _ _ => rfl) HD.out HU.out.small hY W hI hr
  case assign =>
    intro l x W K hK
    gi_wp2
    exact hK
  case body =>
    rintro l pre x W ⟨hv, hv2, hv3, hB⟩ _
    have hc := hv.cell
    have hf := hv.frozen
    gi_wp2
    refine ⟨(KeepsOthers.setCell _ _ _).from _, ?_, hv2.other (by omega) _, hv3.other (by omega) _, hB.setCell (p := ⟨w.heap.size, 0, none⟩) (Nat.le_refl _) _⟩
    rw [lastI_snoc]
    exact hv.set _
  case done =>
    rintro D ys W hD rfl ⟨hv, hv2, hv3, hB⟩ hK
    have hc := hv.cell
    have HB := Lib.hid hB
    clear hB hv2 hv3
    rw [lastI_wayZ] at hc
    gi_wp2
    refine ⟨by simp, .inl ⟨_, _, rfl, run_takeDeferred hK, ?_⟩⟩
    exact ⟨_, results_tmp rfl _ _ _, rfl, below_grownBy (HB.out.trans (belowK_b (w := w) (Nat.le_refl _) W D _ _ (by simp at hD; omega) hK rfl rfl))⟩

/-- Least: the least of its class; -1 of none. -/
theorem least_c (lo hi b c : Nat) (p : Option Addr) (F : List Nat) (z : Int) (w : World) (hu : IsUg 99 w lo hi b p c F) (hd : downF F) :
    Calls Tryd.prog 70 #[.pointer (some ⟨b, 0, none⟩), .int .i64 z] w fun e w' => e = .returned (.int .i64 (leastZ F z)) ∧ w.grownBy w' none :=
  callsIn_wide.1 (least_in 3 (Nat.le_refl _) lo hi b c p F z w hu hd)

theorem ownFrom_ug {β : Type} {t : TypeId} {lo hi b c B : Nat} {p : Option Addr} (f : β → List Nat) (hB : hi ≤ B) : OwnFrom B (fun s W => IsUg t W lo hi b p c (f s)) :=
  fun s A C row h hg hr => ⟨h.h1, h.h2, Nat.le_trans h.h3 hg.size, h.small, h.nil, (hg.block b (by have := h.h2; have := h.h3; omega) (fun e => by have := (hr b e.symm).1; have := h.h2; omega)).trans h.box, fun hn => by
    obtain ⟨g, e, k1, k2⟩ := h.row hn
    exact ⟨g, e, k1, k2.kept hg (fun e => by have := (hr g e).1; omega)⟩⟩
theorem ownFrom_kept {β : Type} {lo hi B : Nat} {w : World} (hB : w.heap.size ≤ B) : OwnFrom B (fun (_ : β) W => Kept lo hi w W) :=
  fun _ A C row h hg hr => ⟨hg.os.trans h.os, hg.tape.trans h.tape, hg.output.trans h.output, Nat.le_trans h.size hg.size, fun i hi hn => (hg.block i (Nat.lt_of_lt_of_le hi h.size) (fun e => by have := (hr i e.symm).1; omega)).trans (h.block i hi hn)⟩
theorem IsUg.set {t : TypeId} {w : World} {lo hi b c g : Nat} {F : List Nat} (h : IsUg t w lo hi b (some ⟨g, 0, none⟩) c F) (ht : t ≠ 3) (hn : 0 < F.length) (x v : Nat) : IsUg t (w.setCell ⟨g, x, none⟩ (.int .i64 v)) lo hi b (some ⟨g, 0, none⟩) c (F.set x v) := by
  obtain ⟨g', e, k1, k2⟩ := h.row hn
  cases e
  have hne : b ≠ g := by
    rintro rfl
    obtain ⟨c', fz, e⟩ := k2.kind
    rw [h.box] at e
    simp at e
    exact ht e.2.1
  refine ⟨h.h1, h.h2, by simpa [World.setCell] using h.h3, by simpa using h.small, h.nil, ?_, fun _ => ⟨g, rfl, k1, k2.set v⟩⟩
  rw [List.length_set]
  exact ((grownBy_setCell w ⟨g, x, none⟩ (.int .i64 v)).block b (by have := h.h2; have := h.h3; omega) (by simpa using hne)).trans h.box
theorem way_lt {F : List Nat} {z : Int} {x : Nat} (h : x ∈ wayZ F z) : x < F.length := by
  unfold wayZ at h
  split at h
  · rename_i hz
    have := (mem_way h).1
    have := hasZ_iff.1 hz
    omega
  · simp at h

set_option maxRecDepth 100000 in
set_option maxHeartbeats 4000000 in
theorem shorten_in (n : Nat) (hn : 3 ≤ n) (lo hi b c : Nat) (p : Option Addr) (F : List Nat) (z : Int) (v : Nat) (w : World) (hu : IsUg 99 w lo hi b p c F) (hd : downF F) :
    CallsIn Fence.wide n Tryd.prog 71 #[.pointer (some ⟨b, 0, none⟩), .int .i64 z, .int .i64 v] w fun e w' => e = .returned (.tuple #[]) ∧ IsUg 99 w' lo hi b p c (setL F (wayZ F z) v) ∧ Kept lo hi w w' := by
  have h1 : 1 ≤ n := by omega
  have hro : Fence.wide.round = none := rfl
  have HU := Lib.hid hu
  have HD := Lib.hid hd
  clear hu hd
  refine callsIn_of_wp_marks Tryd.func71 rfl trivial ?_ hro
  simp only [Tryd.ntmps71, List.size_toArray, List.length_cons, List.length_nil, Nat.reduceAdd, Nat.reduceSub, Array.replicate_succ, Array.replicate_zero, List.push_toArray, List.append_toArray, List.nil_append, List.cons_append]
  gi_wp2_with (refine ⟨trivial, ?_⟩; gi_at_call 101; refine (way_in (n - 1) _ _ _).mono ?_; rintro e w9 ⟨rfl, rfl⟩)
  have b1 := Boxed.new w 70 (.pointer (some ⟨b, 0, none⟩))
  have b2 := Boxed.new (w.alloc (.cells #[.pointer (some ⟨b, 0, none⟩)] 70)) 3 (.int .i64 (v : Nat))
  have b3 := Boxed.new ((w.alloc (.cells #[.pointer (some ⟨b, 0, none⟩)] 70)).alloc (.cells #[.int .i64 (v : Nat)] 3)) 70 (.pointer (some ⟨b, 0, none⟩))
  have b4 := Boxed.new (((w.alloc (.cells #[.pointer (some ⟨b, 0, none⟩)] 70)).alloc (.cells #[.int .i64 (v : Nat)] 3)).alloc (.cells #[.pointer (some ⟨b, 0, none⟩)] 70)) 3 (.int .i64 z)
  rw [World.size_alloc] at b2
  rw [World.size_alloc, World.size_alloc] at b3
  rw [World.size_alloc, World.size_alloc, World.size_alloc] at b4
  have hB0 : Below w.heap.size w ((((w.alloc (.cells #[.pointer (some ⟨b, 0, none⟩)] 70)).alloc (.cells #[.int .i64 (v : Nat)] 3)).alloc (.cells #[.pointer (some ⟨b, 0, none⟩)] 70)).alloc (.cells #[.int .i64 z] 3)) :=
    ((((Below.refl _ w).alloc (Nat.le_refl _) _).alloc (by simp) _).alloc (by simp; omega) _).alloc (by simp; omega) _
  have hh := HU.out.h3
  have hb := HU.out.h2
  refine rangeTold hro h1 (gf := 119) (lb := #[.pointer (some ⟨w.heap.size + 1 + 1 + 1, 0, none⟩), .pointer (some ⟨w.heap.size + 1 + 1, 0, none⟩)]) rfl trivial (enters_of Tryd.func119 (by kernel_rfl) rfl)
    (encs := fun x : Nat => #[.int .i64 (x : Nat)]) (fun _ => rfl)
    (fun pre W => Boxed W w.heap.size 70 (.pointer (some ⟨b, 0, none⟩)) ∧ Boxed W (w.heap.size + 1) 3 (.int .i64 (v : Nat)) ∧ Boxed W (w.heap.size + 1 + 1) 70 (.pointer (some ⟨b, 0, none⟩)) ∧ Boxed W (w.heap.size + 1 + 1 + 1) 3 (.int .i64 z) ∧ IsUg 99 W lo hi b p c (setL F pre v) ∧ Kept lo hi w W)
    (OwnFrom.and (Own.from (boxed_own w.heap.size 70 (fun _ => .pointer (some ⟨b, 0, none⟩))) _) (OwnFrom.and (Own.from (boxed_own (w.heap.size + 1) 3 (fun _ => .int .i64 (v : Nat))) _) (OwnFrom.and (Own.from (boxed_own (w.heap.size + 1 + 1) 70 (fun _ => .pointer (some ⟨b, 0, none⟩))) _) (OwnFrom.and (Own.from (boxed_own (w.heap.size + 1 + 1 + 1) 3 (fun _ => .int .i64 z)) _) (OwnFrom.and (ownFrom_ug (fun pre => setL F pre v) (by simp; omega)) (ownFrom_kept (by simp; omega)))))))
    ⟨((b1.alloc _).alloc _).alloc _, (b2.alloc _).alloc _, b3.alloc _, b4, HU.out.calm (below_grownBy hB0), Kept.calm (below_grownBy hB0)⟩
    (fun xs => xs = wayZ F z) (fun pre x => pre ++ [x] <+: wayZ F z) ?hit
    (fun x => { tmps := #[.pointer (some ⟨b, 0, none⟩), .int .i64 z, .int .i64 (v : Nat), .pointer (some ⟨w.heap.size, 0, none⟩), undef, .pointer (some ⟨w.heap.size + 1, 0, none⟩), .int .i64 (x : Nat), .pointer (some ⟨b, 0, none⟩), .int .i64 z, .func (.func 119) #[] #[.pointer (some ⟨w.heap.size + 1 + 1 + 1, 0, none⟩), .pointer (some ⟨w.heap.size + 1 + 1, 0, none⟩)], .int .i64 (x : Nat), undef, undef, undef, undef, undef, undef, undef], defers := [] }) ?assign ?body ?done
  case hit =>
    intro l R hR W hI hr hY
    exact way1_in (n - 1) (by omega) l (w.heap.size + 1 + 1 + 1) (w.heap.size + 1 + 1) lo hi b c p F z (fun pre => setL F pre v) _ R
      (fun pre A B h hg => ⟨h.1.kept hg (by simp), h.2.1.kept hg (by simp), h.2.2.1.kept hg (by simp), h.2.2.2.1.kept hg (by simp), h.2.2.2.2.1.calm hg, h.2.2.2.2.2.trans (Kept.calm hg)⟩) hR
      (fun pre W h => ⟨h.2.2.2.2.1, h.2.2.2.1.cell, h.2.2.1.cell⟩) (fun pre => setL_len6 F pre v) (fun pre e he hm => by rw [nx_setL he, if_neg hm]) HD.out HU.out.small hY W hI hr
  case assign =>
    intro l x W K hK
    gi_wp2
    exact hK
  case body =>
    rintro l pre x W ⟨hv1, hv2, hv3, hv4, hU, hK⟩ hpx
    have hxl : x < F.length := way_lt (hpx.subset (by simp))
    have hl := setL_len6 F pre v
    have hrow := hU.row (by omega)
    obtain ⟨g, rfl, hgh, hrow⟩ := hrow
    have c1 := hv1.cell
    have c2 := hv2.cell
    have cb := hU.cell
    rw [hl] at cb
    have cr := hrow.cell (j := x) (nx_get (by omega))
    have fr := hrow.free x
    have x0 : (0 : Int) ≤ x := by omega
    have x1 : (x : Int) < F.length := by omega
    have HPOST : Hid (∀ W', W' = (W.drewN 1).setCell ⟨g, x, none⟩ (.int .i64 (v : Nat)) → KeepsFrom (w.heap.size + 1 + 1 + 1 + 1) W W' ∧ (Boxed W' w.heap.size 70 (.pointer (some ⟨b, 0, none⟩)) ∧ Boxed W' (w.heap.size + 1) 3 (.int .i64 (v : Nat)) ∧ Boxed W' (w.heap.size + 1 + 1) 70 (.pointer (some ⟨b, 0, none⟩)) ∧ Boxed W' (w.heap.size + 1 + 1 + 1) 3 (.int .i64 z) ∧ IsUg 99 W' lo hi b (some ⟨g, 0, none⟩) c (setL F (pre ++ [x]) v) ∧ Kept lo hi w W')) := Lib.hid (by
      rintro W' rfl
      have hs : W.grownBy ((W.drewN 1).setCell ⟨g, x, none⟩ (.int .i64 (v : Nat))) (some g) := grownBy_trans (grownBy_drewN W 1 _) (grownBy_setCell (W.drewN 1) ⟨g, x, none⟩ _)
      have hlg := hrow.lt.1
      refine ⟨KeepsFrom.of_grownBy hs (fun j e => by cases e; omega), hv1.kept hs (by simp; omega), hv2.kept hs (by simp; omega), hv3.kept hs (by simp; omega), hv4.kept hs (by simp; omega), ?_, hK.trans (Kept.row hs hlg hgh)⟩
      rw [setL_snoc6]
      exact (hU.calm (grownBy_drewN W 1 none)).set (by decide) (by omega) x v)
    clear hv1 hv2 hv3 hv4 hU hK hrow hpx
    gi_wp2
    gi_region
    all_goals
      gi_wp2
      obtain ⟨k1, k2⟩ := HPOST.out _ rfl
      exact ⟨k1, k2⟩
  case done =>
    rintro D ys W hD rfl ⟨hv1, hv2, hv3, hv4, hU, hK'⟩ hK
    have HU2 := Lib.hid hU
    have HK2 := Lib.hid hK'
    clear hU hK' hv1 hv2 hv3 hv4
    gi_wp2
    refine ⟨by simp, .inl ⟨_, _, rfl, run_takeDeferred hK, ?_⟩⟩
    have hg := grownBy_putObj' W D (.deferred none)
    simp at hD
    refine ⟨_, results_none rfl _ _ _, rfl, ?_, ?_⟩
    · exact HU2.out.apart (Kept.row (lo := D) (hi := D + 1) hg (Nat.le_refl _) (by omega)) (.inl (by omega))
    · have h9 := HK2.out
      exact ⟨hg.os.trans h9.os, hg.tape.trans h9.tape, hg.output.trans h9.output, Nat.le_trans h9.size hg.size, fun i hi hn => (hg.block i (Nat.lt_of_lt_of_le hi h9.size) (by simp; omega)).trans (h9.block i hi hn)⟩

/-- shorten: all on z's way lead to v. -/
theorem shorten_c (lo hi b c : Nat) (p : Option Addr) (F : List Nat) (z : Int) (v : Nat) (w : World) (hu : IsUg 99 w lo hi b p c F) (hd : downF F) :
    Calls Tryd.prog 71 #[.pointer (some ⟨b, 0, none⟩), .int .i64 z, .int .i64 v] w fun e w' => e = .returned (.tuple #[]) ∧ IsUg 99 w' lo hi b p c (setL F (wayZ F z) v) ∧ Kept lo hi w w' :=
  callsIn_wide.1 (shorten_in 3 (Nat.le_refl _) lo hi b c p F z v w hu hd)

end Go.Proofs.YtihkjgiaajgkpaaDoor
