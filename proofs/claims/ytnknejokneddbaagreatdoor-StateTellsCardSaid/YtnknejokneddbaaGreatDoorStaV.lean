/- Package state: arePatches. -/
import Derived.Test.YtnknejokneddbaaGreatDoorStaS
import Derived.Test.YtnknejokneddbaaGreatDoorStaP
import Derived.Test.YtnknejokneddbaaGreatDoorPut
import Derived.Test.YtnknejokneddbaaGreatDoorApps
import Derived.Test.YtnknejokneddbaaGreatDoorSrtA
import Derived.Test.YtnknejokneddbaaGreatDoorStaM
namespace Go.Proofs.YtnknejokneddbaaGreatDoor
set_option maxRecDepth 100000
set_option maxHeartbeats 4000000
open Go.RowKit Go.Shelf
attribute [local go_sem] Oper.semAt_some
structure PsIn (w : World) (lo hi : Nat) (p : Option Addr) (n : Nat) (xs : List HP) : Prop where
 at_ : HpsAt w lo hi p n xs
 of : ∀ x ∈ xs, HpAt w lo hi x
 few : ∀ x ∈ xs, PFew x.1
 small : n <= 16
 top : hi <= w.heap.size
theorem below_stay {w W : World} {n₀ lo hi : Nat} (h : Below n₀ w W) (hh : hi <= n₀) : Stay lo hi w W := ⟨h.size, fun i _ h2 => h.block i (by omega)⟩
theorem PsIn.calm {w w' : World} {lo hi : Nat} {p : Option Addr} {n : Nat} {xs : List HP} (h : PsIn w lo hi p n xs) (hg : w.grownBy w' none) : PsIn w' lo hi p n xs :=
 ⟨h.at_.calm hg, fun x hx => (h.of x hx).calm hg, h.few, h.small, Zn h.top hg.size⟩
theorem PsIn.below {w W : World} {n₀ lo hi : Nat} {p : Option Addr} {n : Nat} {xs : List HP} (h : PsIn w lo hi p n xs) (hg : Below n₀ w W) (hh : hi <= n₀) : PsIn W lo hi p n xs :=
 ⟨h.at_.below hg hh, fun x hx => PtAt.stay (h.of x hx) (below_stay hg hh), h.few, h.small, Zn h.top hg.size⟩
abbrev nmL {xs : List HP} (pre : List { x : HP // x ∈ xs }) : List Nat := pre.map fun x => pID x.1.1
def lastN (l : List Nat) : Nat := l.getLast?.getD 0
theorem lastN_snoc (l : List Nat) (x : Nat) : lastN (l ++ [x]) = x := by simp [lastN]
def GoodN (l : List Nat) : Prop := l.Pairwise (· <= ·) -> l.Pairwise (· < ·)
theorem GoodN.snoc {l : List Nat} {x : Nat} (h : GoodN l) (hx : x ≠ lastN l) : GoodN (l ++ [x]) := by
 intro hp
 obtain ⟨h1, _, h3⟩ := Vj.1 hp
 refine Vj.2 ⟨h h1, Vg .., fun a ha b hb => ?_⟩
 obtain rfl := Yu.1 hb
 rcases List.eq_nil_or_concat l with rfl | ⟨l', z, rfl⟩
 ·cases ha
 ·rw [List.concat_eq_append] at *
  rw [lastN_snoc] at hx
  have hz : z <= b := h3 z (by simp) b hb
  have haz : a <= z := by
   rcases Va.1 ha with ha | ha
   ·exact (Vj.1 h1).2.2 a ha z (by simp)
   ·rw [Yu.1 ha]; exact Zc _
  show a < b
  omega
theorem srt_ids {xs : List HP} {zs : List { x : HP // x ∈ xs }} (h : SrtP (zs.map Subtype.val) xs) : (nmL zs).Pairwise (· <= ·) /\ (nmL zs).Perm ((xs.map Prod.fst).map pID) := by
 refine ⟨?_, ?_⟩
 ·have := h.2
  rw [Vi] at this
  exact Vi.2 this
 ·have := (h.1.map Prod.fst).map pID
  rwa [List.map_map, List.map_map] at this
theorem all_of_good {xs : List HP} {zs : List { x : HP // x ∈ xs }} (h : SrtP (zs.map Subtype.val) xs) (hg : GoodN (nmL zs)) (hi : ∀ x ∈ zs, IsPt x.1.1) : IsAll (xs.map Prod.fst) := by
 obtain ⟨h1, h2⟩ := srt_ids h
 refine ⟨fun x hx => ?_, h2.nodup ((hg h1).imp fun h => Nat.ne_of_lt h)⟩
 obtain ⟨y, hy, rfl⟩ := Yi.1 hx
 obtain ⟨z, hz, e⟩ := Yi.1 (h.1.mem_iff.2 hy)
 rw [<- e]
 exact hi z hz
theorem not_all_of {xs : List HP} {zs ini : List { x : HP // x ∈ xs }} {x : { x : HP // x ∈ xs }} (h : SrtP (zs.map Subtype.val) xs) (hp : ini ++ [x] <+: zs) (hx : ¬ IsPt x.1.1 ∨ pID x.1.1 = lastN (nmL ini)) : ¬ IsAll (xs.map Prod.fst) := by
 rintro ⟨h1, h2⟩
 have hI := h1 x.1.1 (Yi.2 ⟨x.1, x.2, rfl⟩)
 rcases hx with hx | hx
 ·exact hx hI
 ·have hn := (srt_ids h).2.symm.nodup h2
  obtain ⟨t, rfl⟩ := hp
  rcases List.eq_nil_or_concat ini with rfl | ⟨ini', y, rfl⟩
  ·exact hI.id hx
  ·rw [List.concat_eq_append] at *
   unfold nmL at hn hx
   rw [Xj, Xj, Xj] at hn
   rw [Xj, List.map_cons, List.map_nil, lastN_snoc] at hx
   have h3 := (List.nodup_append.1 hn).1
   have h4 := (List.nodup_append.1 h3).2.2
   exact h4 (pID y.1.1) (by simp) (pID x.1.1) (by simp) hx.symm
theorem keepsFrom_calm {B : Nat} {W W' : World} (hg : W.grownBy W' none) : KeepsFrom B W W' := ⟨hg.size, fun k _ _ h _ => (hg.block k (Zp.1 h).1 (by simp)).trans h⟩
theorem arePatches_in (n : Nat) (hn : 8 <= n) (hS : SortU) (lo hi : Nat) (p : Option Addr) (len cap : Nat) (xs : List HP) (r : Bool) (w : World) (h : PsIn w lo hi p len xs) (hr : r = true ↔ IsAll (xs.map Prod.fst)) :
  CallsIn Fence.wide n Tryz.prog 33 #[.slice p len cap] w fun e w' => e = .returned (.bool r) /\ w.grownBy w' none := by
 have h1 : 1 <= n := by omega
 have hro : Fence.wide.round = none := rfl
 have HR := Za hr
 have H := Za h
 have hsm := h.small
 have htop := h.top
 clear hr h
 refine callsIn_of_wp_marks Tryz.func33 rfl trivial ?_ hro
 simp only [Tryz.ntmps33, Xg, Zt, Xh, Nat.reduceAdd, Nat.reduceSub, Xl, Xk, Xn, Xm, Ys, Xd]
 gi_wp2_with (refine ⟨trivial, ?_⟩; gi_at_call 42; refine (rising_in (n - 1) _ _ _ _).mono ?_; rintro e w9 ⟨rfl, rfl⟩)
 have b0 := Boxed.new w 4 (.bool false)
 have b1 := Boxed.new (w.alloc (.cells #[.bool false] 4)) 52 (.int .u32 0)
 have b2 := Boxed.new ((w.alloc (.cells #[.bool false] 4)).alloc (.cells #[.int .u32 0] 52)) 22 (.slice p len cap)
 rw [Yw] at b1
 rw [Yw, Yw] at b2
 have hB0 : Below w.heap.size w (((w.alloc (.cells #[.bool false] 4)).alloc (.cells #[.int .u32 0] 52)).alloc (.cells #[.slice p len cap] 22)) :=
  (((Below.refl _ w).alloc (Zc _) _).alloc (by simp) _).alloc (by simp; omega) _
 refine wpIn_rangeFunc_ownH hro h1 (gf := 75) (lb := #[.pointer (some ⟨w.heap.size + 1 + 1, 0, none⟩)]) rfl trivial (enters_of Tryz.func75 (by kernel_rfl) rfl)
  (rising_stops (n - 1) (by omega) (w.heap.size + 1 + 1) w.heap.size lo hi p len cap xs (by omega) _ (by simp) b2.cell (H.out.at_.calm (Xp hB0)) (by simp; omega) (by simp; omega)) keepR_t (keepR_b (by simp; omega)) (Below.refl _ _) (fun _ => rfl)
  (fun pre W => Boxed W w.heap.size 4 (.bool false) /\ Boxed W (w.heap.size + 1) 52 (.int .u32 ((lastN (nmL pre) : Nat) : Int)) /\ (GoodN (nmL pre) /\ ∀ x ∈ pre, IsPt x.1.1) /\ Below w.heap.size w W)
  (fun c pre W => c = .ret /\ Boxed W w.heap.size 4 (.bool false) /\ (∃ ini x, pre = ini ++ [x] /\ (¬ IsPt x.1.1 ∨ pID x.1.1 = lastN (nmL ini))) /\ Below w.heap.size w W)
  (OwnFrom.and (Own.from (boxed_own w.heap.size 4 (fun _ => .bool false)) _) (OwnFrom.and (Own.from (boxed_own (w.heap.size + 1) 52 (fun pre : List { x : HP // x ∈ xs } => .int .u32 ((lastN (nmL pre) : Nat) : Int))) _) (OwnFrom.and (ownFrom_pure _ _) (ownFrom_below (Zc _) (by simp; omega)))))
  (fun c => OwnFrom.and (ownFrom_pure _ _) (OwnFrom.and (Own.from (boxed_own w.heap.size 4 (fun _ => .bool false)) _) (OwnFrom.and (ownFrom_pure _ _) (ownFrom_below (Zc _) (by simp; omega)))))
  ⟨(b0.alloc _).alloc _, b1.alloc _, ⟨fun _ => Vb, fun x hx => by cases hx⟩, hB0⟩
  (fun x a' W => ∃ B, PatBox x.1 B W /\ w.heap.size + 1 < B /\ a' = { tmps := #[.slice p len cap, undef, .pointer (some ⟨w.heap.size, 0, none⟩), .pointer (some ⟨w.heap.size + 1, 0, none⟩), .pointer (some ⟨B, 0, none⟩), .slice p len cap, .func (.func 75) #[] #[.pointer (some ⟨w.heap.size + 1 + 1, 0, none⟩)], (patV x.1)[0]!, undef, undef, undef, undef, undef, undef, undef, undef, undef, undef, undef], defers := [] })
  ?hAx ?assign ?body ?done ?stop
 case hAx =>
  rintro x a' _ A B row ⟨b, hb, h2, h3⟩ hg hrow
  refine ⟨b, (hg.block b (Zp.1 hb).1 fun e => ?_).trans hb, h2, h3⟩
  obtain ⟨_, o, ho, hoc⟩ := hrow b e.symm
  rw [show A.heap[b]? = _ from hb] at ho
  cases ho
  cases hoc
 case assign =>
  intro l pre x W K hI hK
  have HK := Za hK
  clear hK
  unfold patV
  gi_wp2
  obtain ⟨hv, hc, hp, hB⟩ := hI
  have hlt := hc.lt
  refine HK.out _ _ ((KeepsOthers.alloc W _).from _) ⟨(Below.refl _ W).alloc hB.size _, KeepT.calm (Zd W _ none)⟩ ⟨hv.alloc _, hc.alloc _, hp, hB.alloc hB.size _⟩ ⟨W.heap.size, Vh W _, by omega, rfl⟩
 case body =>
  rintro l pre x a' W hl hlr ⟨hv, hc, ⟨hgood, hall⟩, hB⟩ ⟨b, hb, hb2, rfl⟩ hlt
  obtain ⟨c0, c1, c2, c3, c4⟩ := hb.cells
  have hpt : HpAt W lo hi x.1 := PtAt.stay (H.out.of x.1 x.2) (below_stay hB htop)
  have hbig := (H.out.few x.1 x.2).big
  have hne : b ≠ w.heap.size + 1 := by omega
  have HL : Hid (nmL (pre ++ [x]) = nmL pre ++ [pID x.1.1]) := Za (by simp)
  have hlast := lastN_snoc (nmL pre) (pID x.1.1)
  have hcc := hc.cell
  have hcf := hc.frozen
  have hvc := hv.cell
  have hvf := hv.frozen
  have HV := Za hv
  have HC := Za hc
  have HB := Za hB
  have HBX := Za hb
  have HALL := Za hall
  have HGD := Za hgood
  by_cases hI : IsPt x.1.1
  ·have HIS := Za (patIs_c hS (pID x.1.1) x.1.2.1.1 x.1.2.1.2.1 x.1.2.1.2.2 x.1.2.2.1.1 x.1.2.2.1.2.1 x.1.2.2.1.2.2 x.1.2.2.2.1.1 x.1.2.2.2.1.2.1 x.1.2.2.2.1.2.2 x.1.2.2.2.2.1 x.1.2.2.2.2.2.1 x.1.2.2.2.2.2.2 lo hi x.1.1 true W hpt hbig (by simp [hI]))
   have HII := Za hI
   have HLL := Za hlast
   clear hpt hbig hI hv hc hB hb hall hgood hlast
   by_cases hq : pID x.1.1 = lastN (nmL pre)
   ·have d1 : (((pID x.1.1 : Nat) : Int) == ((lastN (nmL pre) : Nat) : Int)) = true := by rw [hq]; simp
    have HXX : Hid (∃ ini y, pre ++ [x] = ini ++ [y] /\ (¬ IsPt y.1.1 ∨ pID y.1.1 = lastN (nmL ini))) := Za ⟨pre, x, rfl, .inr hq⟩
    clear hq
    generalize lastN (nmL pre) = ln at *
    gi_wp2_with fail
    refine ⟨trivial, fun _ => by omega, ?_⟩
    refine (CallsIn.inRound l (callsIn_wide.2 HIS.out)).mono ?_
    rintro e w9 ⟨rfl, hg⟩
    have HG := Za hg
    replace c0 := Zh hg c0
    replace hcc := Zh hg hcc
    replace hvc := Zh hg hvc
    replace hvf := (HV.out.kept hg (by simp)).frozen
    replace hcf := (HC.out.kept hg (by simp)).frozen
    clear hg
    gi_wp2
    have hv9 := HV.out.kept HG.out (by simp)
    have hc9 := HC.out.kept HG.out (by simp)
    have hb9 := HB.out.trans ((Xo HG.out).mono HB.out.size)
    exact ⟨(keepsFrom_calm HG.out).trans ((KeepsOthers.setCell _ _ _).from _), rfl, hv9.set _, HXX.out, hb9.setCell (p := ⟨w.heap.size, 0, none⟩) (Zc _) _⟩
   ·have d1 : (((pID x.1.1 : Nat) : Int) == ((lastN (nmL pre) : Nat) : Int)) = false := by simp; omega
    have HQ := Za hq
    clear hq
    have HGN := Za (HGD.out.snoc HQ.out)
    generalize hlnn : lastN (nmL pre) = ln at *
    clear hlnn
    gi_wp2_with fail
    refine ⟨trivial, fun _ => by omega, ?_⟩
    refine (CallsIn.inRound l (callsIn_wide.2 HIS.out)).mono ?_
    rintro e w9 ⟨rfl, hg⟩
    have HG := Za hg
    replace c0 := Zh hg c0
    replace hcc := Zh hg hcc
    replace hvc := Zh hg hvc
    replace hvf := (HV.out.kept hg (by simp)).frozen
    replace hcf := (HC.out.kept hg (by simp)).frozen
    clear hg
    gi_wp2
    have hv9 := HV.out.kept HG.out (by simp)
    have hc9 := HC.out.kept HG.out (by simp)
    have hb9 := HB.out.trans ((Xo HG.out).mono HB.out.size)
    refine ⟨(keepsFrom_calm HG.out).trans ((KeepsOthers.setCell _ _ _).from _), ⟨((Xo HG.out).mono HB.out.size).setCell (p := ⟨w.heap.size + 1, 0, none⟩) (by show w.heap.size <= w.heap.size + 1; omega) _, (KeepT.calm HG.out).trans (KeepT.turn (grownBy_setCell' _ _ _) hc9 (by decide))⟩, hv9.other (by omega) _, ?_, ⟨by rw [HL.out]; exact HGN.out, fun y hy => ?_⟩, hb9.setCell (p := ⟨w.heap.size + 1, 0, none⟩) (by show w.heap.size <= w.heap.size + 1; omega) _⟩
    ·rw [HL.out, HLL.out]
     exact hc9.set _
    ·rcases Va.1 hy with hy | hy
     ·exact HALL.out y hy
     ·rw [Yu.1 hy]; exact HII.out
  ·have HIS := Za (patIs_c hS (pID x.1.1) x.1.2.1.1 x.1.2.1.2.1 x.1.2.1.2.2 x.1.2.2.1.1 x.1.2.2.1.2.1 x.1.2.2.1.2.2 x.1.2.2.2.1.1 x.1.2.2.2.1.2.1 x.1.2.2.2.1.2.2 x.1.2.2.2.2.1 x.1.2.2.2.2.2.1 x.1.2.2.2.2.2.2 lo hi x.1.1 false W hpt hbig (by simp [hI]))
   have HII := Za hI
   clear hpt hbig hI hv hc hB hb hall hgood hlast
   generalize lastN (nmL pre) = ln at *
   gi_wp2_with fail
   refine ⟨trivial, fun _ => by omega, ?_⟩
   refine (CallsIn.inRound l (callsIn_wide.2 HIS.out)).mono ?_
   rintro e w9 ⟨rfl, hg⟩
   have HG := Za hg
   replace c0 := Zh hg c0
   replace hcc := Zh hg hcc
   replace hvc := Zh hg hvc
   replace hvf := (HV.out.kept hg (by simp)).frozen
   replace hcf := (HC.out.kept hg (by simp)).frozen
   clear hg
   gi_wp2
   have hv9 := HV.out.kept HG.out (by simp)
   have hc9 := HC.out.kept HG.out (by simp)
   have hb9 := HB.out.trans ((Xo HG.out).mono HB.out.size)
   exact ⟨(keepsFrom_calm HG.out).trans ((KeepsOthers.setCell _ _ _).from _), rfl, hv9.set _, ⟨pre, x, rfl, .inl HII.out⟩, hb9.setCell (p := ⟨w.heap.size, 0, none⟩) (Zc _) _⟩
 case done =>
  rintro D ys W hD hs ⟨hv, hc, ⟨hgood, hall⟩, hB⟩ hK
  have hcv := hv.cell
  have hfv := hv.frozen
  obtain rfl : r = true := HR.out.2 (all_of_good hs hgood hall)
  clear hgood hall hs hc
  gi_wp2
  have hK' := (KeepsOthers.setCell W ⟨w.heap.size, 0, none⟩ (.bool true)).same D _ hK rfl
  refine ⟨by simp, .inl ⟨_, _, rfl, run_takeDeferred hK', ?_⟩⟩
  have hv5 := (hv.set (.bool true)).kept (grownBy_putObj' _ D (.deferred none)) (fun e => by cases e; rw [show (W.setCell _ _).heap[w.heap.size]? = _ from hv.set (.bool true)] at hK'; cases hK')
  have hc5 := hv5.cell
  refine ⟨.bool true, ?_, rfl, ?_⟩
  ·simp [results, Tryz.f33, go_sem, hc5]
  ·exact Xp ((hB.setCell (p := ⟨w.heap.size, 0, none⟩) (Zc _) _).trans (belowK_b (w := w) (Zc _) _ D _ _ (by simp at hD; omega) hK' rfl rfl))
 case stop =>
  rintro D c pre W hD ⟨zs, hs, hpre⟩ ⟨rfl, hv, ⟨ini, x, rfl, hx⟩, hB⟩ hK
  have hcv := hv.cell
  obtain rfl : r = false := by
   cases r with
   | false => rfl
   | true => exact absurd (HR.out.1 rfl) (not_all_of hs hpre hx)
  clear hs hpre hx
  gi_wp2
  refine ⟨by simp, .inl ⟨_, _, rfl, run_takeDeferred hK, ?_⟩⟩
  have hv5 := hv.kept (grownBy_putObj' _ D (.deferred none)) (fun e => by cases e; rw [show W.heap[w.heap.size]? = _ from hv] at hK; cases hK)
  have hc5 := hv5.cell
  refine ⟨.bool false, ?_, rfl, ?_⟩
  ·simp [results, Tryz.f33, go_sem, hc5]
  ·exact Xp (hB.trans (belowK_b (w := w) (Zc _) _ D _ _ (by simp at hD; omega) hK rfl rfl))
theorem KeepT.appended {t tB e : TypeId} {W w1 : World} {n₀ B k size : Nat} {v u v' : Value} {xs : List Value} {tmp : Obj} (hv : Boxed W B tB u) (hrow : W.ownsRow n₀ e size v k xs) (hgrow : (W.alloc tmp).grownBy w1 v.ownBlock) (h1 : t ≠ tB) (h2 : t ≠ e) : KeepT t W (w1.setCell ⟨B, 0, none⟩ v') := by
 intro g cur hg
 have hlt : g < W.heap.size := (Zp.1 hg).1
 have h3 : (W.alloc tmp).heap[g]? = some (.cells cur t (0, 0)) := ((Zd W tmp none).block g hlt (by simp)).trans hg
 have hne : some g ≠ v.ownBlock := by
  rcases hrow.2 with ⟨rfl, _⟩ | ⟨g', cap, cur', rfl, _, hgb, _⟩
  ·simp [Value.ownBlock]
  ·intro e'
   obtain rfl : g = g' := by simpa [Value.ownBlock] using e'
   rw [hg] at hgb
   simp at hgb
   exact h2 hgb.2
 have h4 : w1.heap[g]? = some (.cells cur t (0, 0)) := (hgrow.block g (by simp; omega) hne).trans h3
 have hneB : g ≠ B := fun e' => by
  subst e'
  rw [show W.heap[g]? = _ from hv] at hg
  simp at hg
  exact h1 hg.2.symm
 exact (Below.heap_setCell _ _ _ _ hneB).trans h4
theorem numbers_in (n : Nat) (hn : 8 <= n) (lo hi : Nat) (p : Option Addr) (len cap : Nat) (xs : List HP) (w : World) (h : PsIn w lo hi p len xs) :
  CallsIn Fence.wide n Tryz.prog 41 #[.slice p len cap] w fun e w' => ∃ v ids, e = .returned v /\ w'.ownsRow w.heap.size 52 1 v ids.length (ncells .u32 ids) /\ ids.Pairwise (· <= ·) /\ ids.Perm ((xs.map Prod.fst).map pID) /\ w.grownBy w' none := by
 have h1 : 1 <= n := by omega
 have hro : Fence.wide.round = none := rfl
 obtain ⟨i0, hi', hz0, hz1, hz2⟩ := Yz infoU32
 have H := Za h
 have hsm := h.small
 have htop := h.top
 have HXL := Za h.at_.len
 clear h
 refine callsIn_of_wp_marks Tryz.func41 rfl trivial ?_ hro
 simp only [Tryz.ntmps41, Xg, Zt, Xh, Nat.reduceAdd, Nat.reduceSub, Xl, Xk, Xn, Xm, Ys, Xd]
 have hmk := run_make (P := Tryz.prog) w 53 52 i0 (.int .u32 0) Tryz.underlying53 hi' hz0 .i64 .i64 0 (len : Int) (by omega) (by omega) (by rw [hz2]; omega) (by omega)
 simp only [hz1, Int.toNat_zero, Int.toNat_natCast] at hmk
 gi_wp2_with (refine ⟨trivial, ?_⟩; gi_at_call 42; refine (rising_in (n - 1) _ _ _ _).mono ?_; rintro e w9 ⟨rfl, rfl⟩)
 have bO := Boxed.new (w.alloc (.cells (madeCells #[.int .u32 0] len) 52)) 53 (.slice (some ⟨w.heap.size, 0, none⟩) 0 len)
 rw [Yw] at bO
 have bN := Boxed.new ((w.alloc (.cells (madeCells #[.int .u32 0] len) 52)).alloc (.cells #[.slice (some ⟨w.heap.size, 0, none⟩) 0 len] 53)) 22 (.slice p len cap)
 rw [Yw, Yw] at bN
 have hown0 : (w.alloc (.cells (madeCells #[.int .u32 0] len) 52)).ownsRow w.heap.size 52 1 (.slice (some ⟨w.heap.size, 0, none⟩) 0 len) 0 [] :=
  World.ownsRow_made w _ len (Zc _) (by unfold maxLen; omega) (by rw [size_madeCells, Nat.mul_one])
 have hB0 : Below w.heap.size w (((w.alloc (.cells (madeCells #[.int .u32 0] len) 52)).alloc (.cells #[.slice (some ⟨w.heap.size, 0, none⟩) 0 len] 53)).alloc (.cells #[.slice p len cap] 22)) :=
  (((Below.refl _ w).alloc (Zc _) _).alloc (by simp) _).alloc (by simp; omega) _
 refine wpIn_rangeFunc_ownH hro h1 (gf := 75) (lb := #[.pointer (some ⟨w.heap.size + 1 + 1, 0, none⟩)]) rfl trivial (enters_of Tryz.func75 (by kernel_rfl) rfl)
  (rising_stops (n - 1) (by omega) (w.heap.size + 1 + 1) w.heap.size lo hi p len cap xs (by omega) _ (by simp) bN.cell (H.out.at_.calm (Xp hB0)) (by simp; omega) (by simp; omega)) keepR_t (keepR_b (by simp; omega)) (Below.refl _ _) (fun _ => rfl)
  (fun pre W => (∃ v, Boxed W (w.heap.size + 1) 53 v /\ W.ownsRow w.heap.size 52 1 v pre.length (ncells .u32 (nmL pre)) /\ True) /\ Below w.heap.size w W)
  (fun _ _ _ => False)
  (OwnFrom.and (Own.from (holdsRow_own w.heap.size (w.heap.size + 1) 53 52 1 (fun pre : List { x : HP // x ∈ xs } => pre.length) (fun pre => ncells .u32 (nmL pre)) (fun _ _ => True)) _) (ownFrom_below (Zc _) (by simp; omega)))
  (fun _ _ _ _ _ hs _ _ => hs)
  ⟨⟨_, bO.alloc _, (hown0.alloc _).alloc _, trivial⟩, hB0⟩
  (fun x a' W => ∃ B, PatBox x.1 B W /\ w.heap.size + 1 < B /\ a' = { tmps := #[.slice p len cap, undef, .slice none 0 0, .pointer (some ⟨w.heap.size + 1, 0, none⟩), .pointer (some ⟨B, 0, none⟩), .slice p len cap, .int .i64 len, .slice (some ⟨w.heap.size, 0, none⟩) 0 len, .slice p len cap, .func (.func 75) #[] #[.pointer (some ⟨w.heap.size + 1 + 1, 0, none⟩)], (patV x.1)[0]!, undef, undef, undef, undef, undef, undef], defers := [] })
  ?hAx ?assign ?body ?done ?stop
 case hAx =>
  rintro x a' _ A B row ⟨b, hb, h2, h3⟩ hg hrow
  refine ⟨b, (hg.block b (Zp.1 hb).1 fun e => ?_).trans hb, h2, h3⟩
  obtain ⟨_, o, ho, hoc⟩ := hrow b e.symm
  rw [show A.heap[b]? = _ from hb] at ho
  cases ho
  cases hoc
 case assign =>
  intro l pre x W K hI hK
  have HK := Za hK
  clear hK
  unfold patV
  gi_wp2
  obtain ⟨⟨v, hv, hrow, _⟩, hB⟩ := hI
  have hlt := hv.lt
  refine HK.out _ _ ((KeepsOthers.alloc W _).from _) ⟨(Below.refl _ W).alloc hB.size _, KeepT.calm (Zd W _ none)⟩ ⟨⟨v, hv.alloc _, hrow.alloc _, trivial⟩, hB.alloc hB.size _⟩ ⟨W.heap.size, Vh W _, by omega, rfl⟩
 case body =>
  rintro l pre x a' W hl hlr ⟨⟨v, hv, hrow, _⟩, hB⟩ ⟨b, hb, hb2, rfl⟩ hlt
  have hcv := hv.cell
  obtain ⟨c0, c1, c2, c3, c4⟩ := hb.cells
  have hpl : pre.length < 16 := by have := HXL.out; omega
  have HSN : Hid (ncells .u32 (nmL (pre ++ [x])) = ncells .u32 (nmL pre) ++ [.int .u32 ((pID x.1.1 : Nat) : Int)]) := Za (by simp [ncells])
  gi_wp2_with (gi_at_builtin; refine wpListIn_append_own _ rfl _ _ 53 rfl w.heap.size 52 i0 (.int .u32 0) 1 4 Tryz.underlying53 hi' hz0 hz1 hz2 rfl (by decide) _ _ _ rfl (hrow.alloc _) ⟨W.heap.size, 0, none⟩ 1 1 [.int .u32 ((pID x.1.1 : Nat) : Int)] rfl rfl (cell_one_new _ _ _) (by simp [Value.oneCell']) (by unfold maxLen; omega) (by omega) (by have := hB.size; simp; omega) ?_; intro v' w1 hown' hgrow _; obtain ⟨g', cap', rfl⟩ := ownsRow_succ hown'; obtain ⟨hv1, hv2, hr2, hk2, hb2⟩ := hv.appended (by decide) hrow hB.size (by omega) hown' hgrow; have hki := KeepT.appended (t := 56) (v' := .slice (some ⟨g', 0, none⟩) (pre.length + 1) cap') hv hrow hgrow (by decide) (by decide); have hc1 := hv1.cell; have hf1 := hv1.frozen)
  exact ⟨hk2.from _, ⟨hb2, hki⟩, ⟨_, hv2, by rw [HSN.out]; simpa using hr2, trivial⟩, hB.trans hb2⟩
 case done =>
  rintro D ys W hD hs ⟨⟨v, hv, hrow, _⟩, hB⟩ hK
  have hc := hv.cell
  have HS := Za (srt_ids hs)
  have HYL : Hid (ys.length = (nmL ys).length) := Za (by simp)
  clear hs
  gi_wp2
  refine ⟨by simp, .inl ⟨_, _, rfl, run_takeDeferred hK, ?_⟩⟩
  exact ⟨_, results_tmp rfl _ _ _, _, nmL ys, rfl, by rw [<- HYL.out]; exact ownsRow_putObj hrow _ hK rfl, HS.out.1, HS.out.2, Xp (hB.trans (belowK_b (w := w) (Zc _) W D _ _ (by simp at hD; omega) hK rfl rfl))⟩
 case stop =>
  rintro D c pre W _ _ h _
  exact h.elim
open Go.RowKit Go.Sort
theorem isNaNs_u (x : Nat) (w : World) : Calls Tryz.prog 80 #[.int .u32 (x : Int)] w fun e w' => e = .returned (.bool false) /\ w' = w := by
 have h : ((x : Int) != (x : Int)) = false := by simp
 go_enter Tryz.func80, Tryz.ntmps80
 go_wp2
 go_ret
 exact ⟨rfl, rfl⟩
theorem binS_c (p : Option Addr) (n c lo hi : Nat) (l : List Nat) (t : Nat) (r : Bool) (w : World) (h : NsAt .u32 w lo hi p n l) (hn : n <= 100000) (hs : l.Pairwise (· <= ·)) (hr : r = true ↔ t ∈ l) :
  Calls Tryz.prog 43 #[.slice p n c, .int .u32 (t : Int)] w fun e w' => (∃ k : Int, e = .returned (.tuple #[.int .i64 k, .bool r])) /\ w' = w := by
 have H := Za h
 have HL := Za h.len
 have HR := Za hr
 have HS : Hid (∀ i j : Nat, i <= j -> j < n -> l[i]?.getD 0 <= l[j]?.getD 0) := Za fun i j hij hj => by
  have hl := h.len
  rw [Zm (by omega), Zm (by omega)]
  rcases Nat.lt_or_eq_of_le hij with e | e
  ·exact Vl.1 hs i j (by omega) (by omega) e
  ·subst e; exact Zc _
 clear h hr hs
 go_enter Tryz.func43, Tryz.ntmps43
 go_wp2
 go_loopw [7, 8] (fun a b wr => ∃ i j : Nat, a = .int .i64 i /\ b = .int .i64 j /\ i <= j /\ j <= n /\ wr = w /\ Hid ((∀ q, q < i -> l[q]?.getD 0 < t) /\ ∀ q, j <= q -> q < n -> t <= l[q]?.getD 0)) (fun a b _ => (intOf b).toNat - (intOf a).toNat)
 case atStart => exact ⟨0, n, rfl, rfl, Ze _, Zc _, rfl, Za ⟨fun q h => absurd h (by omega), fun q h h2 => absurd h (by omega)⟩⟩
 case round =>
  obtain ⟨i, j, rfl, rfl, hij, hjn, hw, HQ⟩ := hrel
  subst wr
  by_cases hlt : i < j
  ·have hz : (i : Int) < j := by omega
   obtain ⟨b, off, rfl, hb1, hb2, hb3, hc⟩ := H.out.cell (by omega)
   obtain ⟨m, hm⟩ : ∃ m : Nat, (i + j) / 2 = m := ⟨_, rfl⟩
   have hmi : i <= m := by omega
   have hmj : m < j := by omega
   have hmz : ((i : Int) + (j : Int)) / 2 = (m : Int) := by omega
   have hcm := hc m (by omega)
   have hm0 : (0 : Int) <= m := by omega
   have hm1 : (m : Int) < n := by omega
   have HLT := fun W => lessU_c ((l[m]?.getD 0 : Nat) : Int) (t : Int) (decide (l[m]?.getD 0 < t)) W (by unfold ltInt; simp)
   have hwm : IntKind.i64.wrap ((m : Int) + 1) = (m : Int) + 1 := Zf _ (by omega)
   clear hc hm
   have HSM := Za (fun q (h : q <= m) => HS.out q m h (by omega))
   have HSN := Za (fun q (h : m <= q) (h2 : q < n) => HS.out m q h h2)
   by_cases hx : l[m]?.getD 0 < t
   ·have HX := Za hx
    rw [Zg hx] at HLT
    clear hx
    generalize hg : l[m]?.getD 0 = y at *
    clear hg
    go_wp2_with (go_at_call 79; refine (HLT _).mono ?_; rintro e w9 ⟨rfl, h9⟩; subst w9)
    exact ⟨⟨m + 1, j, by go_num, rfl, by omega, by omega, trivial, Za ⟨fun q hq => Nat.lt_of_le_of_lt (HSM.out q (by omega)) HX.out, HQ.out.2⟩⟩, by simp [intOf]; omega⟩
   ·have HX := Za hx
    rw [Zl hx] at HLT
    clear hx
    generalize hg : l[m]?.getD 0 = y at *
    clear hg
    go_wp2_with (go_at_call 79; refine (HLT _).mono ?_; rintro e w9 ⟨rfl, h9⟩; subst w9)
    exact ⟨⟨i, m, rfl, rfl, by omega, by omega, trivial, Za ⟨HQ.out.1, fun q h h2 => Zn (Nat.not_lt.1 HX.out) (HSN.out q h h2)⟩⟩, by simp [intOf]; omega⟩
  ·obtain rfl : i = j := by omega
   have hlz : ¬ (i : Int) < i := by omega
   have HN := fun x W => isNaNs_u x W
   by_cases hin : i < n
   ·have hiz : (i : Int) < n := by omega
    have hi0 : (0 : Int) <= i := by omega
    obtain ⟨b, off, rfl, hb1, hb2, hb3, hc⟩ := H.out.cell (by omega)
    have hci := hc i hin
    have HM : Hid (t ∈ l ↔ l[i]?.getD 0 = t) := Za (by
     constructor
     ·intro ht
      obtain ⟨q, hq, e⟩ := Xw ht
      have hl := HL.out
      have hqe : l[q]?.getD 0 = t := by rw [Zm hq]; exact e
      rcases Nat.lt_or_ge q i with h | h
      ·have := HQ.out.1 q h; omega
      ·have h1 := HS.out i q h (by omega)
       have h2 := HQ.out.2 i (Zc _) hin
       omega
     ·intro e
      rw [<- e, Zm (by have := HL.out; omega)]
      exact List.getElem_mem _)
    clear hc
    have hr2 := HR.out.trans HM.out
    clear HM
    generalize l[i]?.getD 0 = y at *
    by_cases hx : y = t
    ·have d1 : ((y : Int) == (t : Int)) = true := by simp [hx]
     obtain rfl : r = true := hr2.2 hx
     clear hr2 hx
     go_wp2_with (go_at_call 80; refine (HN _ _).mono ?_; rintro e w9 ⟨rfl, h9⟩; subst w9)
     go_ret2
     exact ⟨⟨_, rfl⟩, rfl⟩
    ·have d1 : ((y : Int) == (t : Int)) = false := by simp; omega
     obtain rfl : r = false := by
      cases r with
      | false => rfl
      | true => exact absurd (hr2.1 rfl) hx
     clear hr2 hx
     go_wp2_with (go_at_call 80; refine (HN _ _).mono ?_; rintro e w9 ⟨rfl, h9⟩; subst w9)
     go_ret2
     exact ⟨⟨_, rfl⟩, rfl⟩
   ·obtain rfl : i = n := by omega
    obtain rfl : r = false := by
     cases r with
     | false => rfl
     | true =>
      obtain ⟨q, hq, e⟩ := Xw (HR.out.1 rfl)
      have hl := HL.out
      have h1 := HQ.out.1 q (by omega)
      rw [Zm hq] at h1
      have h2 : l[q] < t := h1
      omega
    go_wp2
    go_ret2
    exact ⟨⟨_, rfl⟩, rfl⟩
theorem closed_of {xs : List HP} {zs : List { x : HP // x ∈ xs }} {ids : List Nat} (h : SrtP (zs.map Subtype.val) xs) (hi : ids.Perm ((xs.map Prod.fst).map pID)) (ha : ∀ x ∈ zs, ∀ d ∈ pDeps x.1.1, d ∈ ids) : ClosedL (xs.map Prod.fst) := by
 intro x hx d hd
 obtain ⟨y, hy, rfl⟩ := Yi.1 hx
 obtain ⟨z, hz, e⟩ := Yi.1 (h.1.mem_iff.2 hy)
 subst e
 obtain ⟨u, hu, e⟩ := Yi.1 (hi.mem_iff.1 (ha z hz d hd))
 exact ⟨u, hu, e⟩
theorem not_closed {xs : List HP} {ids : List Nat} (hi : ids.Perm ((xs.map Prod.fst).map pID)) {x : { x : HP // x ∈ xs }} {d : Nat} (hd : d ∈ pDeps x.1.1) (hn : d ∉ ids) : ¬ ClosedL (xs.map Prod.fst) := by
 intro h
 obtain ⟨y, hy, e⟩ := h x.1.1 (Yi.2 ⟨x.1, x.2, rfl⟩) d hd
 exact hn (hi.mem_iff.2 (Yi.2 ⟨y, hy, e⟩))
theorem closed13_in (n : Nat) (hn : 10 <= n) (lo hi : Nat) (p : Option Addr) (len cap : Nat) (xs : List HP) (r : Bool) (w : World) (h : PsIn w lo hi p len xs) (hr : r = true ↔ ClosedL (xs.map Prod.fst)) :
  CallsIn Fence.wide n Tryz.prog 14 #[.slice p len cap] w fun e w' => e = .returned (.bool r) /\ w.grownBy w' none := by
 have h1 : 1 <= n := by omega
 have hro : Fence.wide.round = none := rfl
 have hga := Zd w (.cells #[.bool false] 4) none
 have HNU := Za (numbers_in (n - 1) (by omega) lo hi p len cap xs _ (h.calm hga))
 have HR := Za hr
 have H := Za h
 have hsm := h.small
 have htop := h.top
 clear hr h
 refine callsIn_of_wp_marks Tryz.func14 rfl trivial ?_ hro
 simp only [Tryz.ntmps14, Xg, Zt, Xh, Nat.reduceAdd, Nat.reduceSub, Xl, Xk, Xn, Xm, Ys, Xd]
 gi_wp2_with fail
 refine ⟨trivial, ?_⟩
 refine HNU.out.mono ?_
 rintro e w1 ⟨v, ids, rfl, hv, hs, hp, hg⟩
 obtain ⟨pv, cv, rfl, hns, hcv, hz⟩ := nsAt_own rfl hv
 have b0 := (Boxed.new w 4 (.bool false)).kept hg (by simp)
 have HG := Za (Zb hga hg)
 have HNS := Za hns
 have HSO := Za hs
 have HPE := Za hp
 have HIL : Hid (ids.length = len) := Za (by have := hp.length_eq; rw [Yn, Yn, H.out.at_.len] at this; exact this)
 have hw1 : w.heap.size + 1 <= w1.heap.size := by have := hg.size; simp at this; exact this
 clear hv hns hs hp hg hga HNU hz
 gi_wp2_with (refine ⟨trivial, ?_⟩; gi_at_call 42; refine (rising_in (n - 1) _ _ _ _).mono ?_; rintro e w9 ⟨rfl, rfl⟩)
 have b1 := Boxed.new w1 53 (.slice pv ids.length cv)
 have b2 := Boxed.new (w1.alloc (.cells #[.slice pv ids.length cv] 53)) 22 (.slice p len cap)
 rw [Yw] at b2
 have hg2 := Zb (Zd w1 (.cells #[.slice pv ids.length cv] 53) none) (Zd _ (.cells #[.slice p len cap] 22) none)
 have B0 := Za (b0.kept hg2 (by simp))
 have B1 := Za (b1.alloc (.cells #[.slice p len cap] 22))
 have B2 := Za b2
 have HG2 := Za (Zb HG.out hg2)
 have HN2 := Za (HNS.out.calm hg2)
 have HSZ : Hid (w1.heap.size + 1 + 1 = ((w1.alloc (.cells #[.slice pv ids.length cv] 53)).alloc (.cells #[.slice p len cap] 22)).heap.size) := Za (by simp)
 clear b0 b1 b2 hg2 HNS HG
 generalize (w1.alloc (.cells #[.slice pv ids.length cv] 53)).alloc (.cells #[.slice p len cap] 22) = W0 at *
 generalize w1.heap.size = g1 at *
 have hsz := HSZ.out
 refine wpIn_rangeFunc_ownH hro h1 (gf := 75) (lb := #[.pointer (some ⟨g1 + 1, 0, none⟩)]) rfl trivial (enters_of Tryz.func75 (by kernel_rfl) rfl)
  (rising_stops (n - 1) (by omega) (g1 + 1) W0.heap.size lo hi p len cap xs (by omega) W0 (by omega) B2.out.cell (H.out.at_.calm HG2.out) (by omega) (Zc _)) keepR_t (keepR_b (Zc _)) (Below.refl _ _) (fun _ => rfl)
  (fun pre W => (∀ x ∈ pre, ∀ d ∈ pDeps x.1.1, d ∈ ids) /\ Below W0.heap.size W0 W)
  (fun c pre W => c = .ret /\ Boxed W w.heap.size 4 (.bool false) /\ (∃ x : { x : HP // x ∈ xs }, ∃ d ∈ pDeps x.1.1, d ∉ ids) /\ Below w.heap.size w W)
  (OwnFrom.and (ownFrom_pure _ _) (ownFrom_below (Zc _) (Zc _)))
  (fun c => OwnFrom.and (ownFrom_pure _ _) (OwnFrom.and (Own.from (boxed_own w.heap.size 4 (fun _ => .bool false)) _) (OwnFrom.and (ownFrom_pure _ _) (ownFrom_below (Zc _) (by omega)))))
  ⟨fun x hx => (by cases hx), Below.refl _ _⟩
  (fun x a' W => ∃ B, PatBox x.1 B W /\ W0.heap.size <= B /\ a' = { tmps := #[.slice p len cap, undef, .pointer (some ⟨w.heap.size, 0, none⟩), .pointer (some ⟨g1, 0, none⟩), .pointer (some ⟨B, 0, none⟩), undef, undef, undef, undef, .slice p len cap, .slice pv ids.length cv, .slice p len cap, .func (.func 75) #[] #[.pointer (some ⟨g1 + 1, 0, none⟩)], (patV x.1)[0]!, undef, undef, undef, undef, undef, undef, undef, undef, undef, undef, undef, undef, undef, undef, undef, undef], defers := [] })
  ?hAx ?assign ?body ?done ?stop
 case hAx =>
  rintro x a' _ A B row ⟨b, hb, h2, h3⟩ hg hrow
  refine ⟨b, (hg.block b (Zp.1 hb).1 fun e => ?_).trans hb, h2, h3⟩
  obtain ⟨_, o, ho, hoc⟩ := hrow b e.symm
  rw [show A.heap[b]? = _ from hb] at ho
  cases ho
  cases hoc
 case assign =>
  intro l pre x W K hI hK
  have HK := Za hK
  clear hK
  unfold patV
  gi_wp2
  obtain ⟨hp, hB⟩ := hI
  refine HK.out _ _ ((KeepsOthers.alloc W _).from _) ⟨(Below.refl _ W).alloc hB.size _, KeepT.calm (Zd W _ none)⟩ ⟨hp, hB.alloc hB.size _⟩ ⟨W.heap.size, Vh W _, hB.size, rfl⟩
 case body =>
  rintro l pre x a' W hl hlr ⟨hpre, hB⟩ ⟨b, hb, hb2, rfl⟩ hlt
  obtain ⟨c0, c1, c2, c3, c4⟩ := hb.cells
  have hpt : HpAt W lo hi x.1 := PtAt.stay ((H.out.of x.1 x.2).calm HG2.out) (below_stay hB (by omega))
  have hcb := (hB.cell (p := ⟨g1, 0, none⟩) (by show g1 < _; omega)).trans B1.out.cell
  have HNW : Hid (NsAt .u32 W 0 W.heap.size pv ids.length ids) := Za ⟨HN2.out.len, fun h0 => by
   obtain ⟨b', off', e, e1, e2, e3, e4⟩ := HN2.out.cell h0
   exact ⟨b', off', e, Ze _, by have := hB.size; omega, Zc _, fun i hi => (hB.cell (p := ⟨b', off' + i, none⟩) (by show b' < _; omega)).trans (e4 i hi)⟩⟩
  have hbt := (hB.cell (p := ⟨w.heap.size, 0, none⟩) (by show w.heap.size < _; omega)).trans B0.out.cell
  have hbox : Boxed W w.heap.size 4 (.bool false) := (hB.block _ (by omega)).trans B0.out
  have hfz := hbox.frozen
  have HBX := Za hbox
  have HPT := Za hpt.deps
  have HDL := Za hpt.deps.len
  have hdl : x.1.2.1.2.1 <= 70 := by have := (H.out.few x.1 x.2).deps; have := hpt.deps.len; omega
  have HPR := Za hpre
  have HB := Za hB
  have HNM : Hid (∀ d, d ∈ ids ∨ d ∉ ids) := Za fun d => Classical.em _
  have hil : ids.length <= 16 := by have := HIL.out; omega
  have HX : Hid (x.1.2.1.1 = none -> x.1.2.1.2.1 = 0) := Za fun e => by
   rcases Nat.eq_zero_or_pos x.1.2.1.2.1 with h0 | h0
   ·exact h0
   ·obtain ⟨_, _, e2, _⟩ := hpt.deps.cell h0; rw [e] at e2; cases e2
  clear hpt hbox hb hB
  gi_wp2
  gi_loopw [17] (fun i wr => ∃ k : Nat, k <= x.1.2.1.2.1 /\ i = .int .i64 k /\ wr = W /\ Hid (∀ q, q < k -> (pDeps x.1.1)[q]?.getD 0 ∈ ids)) (fun i _ => x.1.2.1.2.1 - (intOf i).toNat)
  case atStart => exact ⟨0, Ze _, rfl, rfl, Za fun q h => absurd h (by omega)⟩
  case round =>
   obtain ⟨k, hk, rfl, hw, HQ⟩ := hrel
   subst wr
   by_cases hkm : k < x.1.2.1.2.1
   ·obtain ⟨b', off', e0, e1, e2, e3, e4⟩ := HPT.out.cell (by omega)
    have hcd := e4 k hkm
    have HMM : Hid ((pDeps x.1.1)[k]?.getD 0 ∈ pDeps x.1.1) := Za (Zr (by have := HDL.out; omega))
    have HQS : Hid (∀ q, q < k + 1 -> (pDeps x.1.1)[k]?.getD 0 ∈ ids -> (pDeps x.1.1)[q]?.getD 0 ∈ ids) := Za fun q hq hm => by
     rcases Nat.lt_or_ge q k with h | h
     ·exact HQ.out q h
     ·obtain rfl : q = k := by omega
      exact hm
    have HXE : Hid ((pDeps x.1.1)[k]?.getD 0 ∉ ids -> ∃ x : { x : HP // x ∈ xs }, ∃ d ∈ pDeps x.1.1, d ∉ ids) := Za fun hm => ⟨x, _, HMM.out, hm⟩
    rw [e0]
    clear e4 e0
    rcases HNM.out ((pDeps x.1.1)[k]?.getD 0) with hy | hy
    ·have HBS := Za (binS_c pv ids.length cv 0 W.heap.size ids ((pDeps x.1.1)[k]?.getD 0) true W HNW.out (by omega) HSO.out ⟨fun _ => hy, fun _ => rfl⟩)
     have HY := Za hy
     clear hy
     generalize (pDeps x.1.1)[k]?.getD 0 = y at *
     gi_wp2_with fail
     refine ⟨trivial, fun _ => by omega, ?_⟩
     refine (CallsIn.inRound l (callsIn_wide.2 HBS.out)).mono ?_
     rintro e w9 ⟨⟨kk, rfl⟩, h9⟩
     subst w9
     gi_wp2
     exact ⟨⟨k + 1, by omega, by go_num, trivial, Za fun q hq => HQS.out q hq HY.out⟩, by simp [intOf]; omega⟩
    ·have HBS := Za (binS_c pv ids.length cv 0 W.heap.size ids ((pDeps x.1.1)[k]?.getD 0) false W HNW.out (by omega) HSO.out ⟨fun h => (by cases h), fun h => absurd h hy⟩)
     have HY := Za hy
     clear hy
     generalize (pDeps x.1.1)[k]?.getD 0 = y at *
     gi_wp2_with fail
     refine ⟨trivial, fun _ => by omega, ?_⟩
     refine (CallsIn.inRound l (callsIn_wide.2 HBS.out)).mono ?_
     rintro e w9 ⟨⟨kk, rfl⟩, h9⟩
     subst w9
     gi_wp2
     exact ⟨(KeepsOthers.setCell _ _ _).from _, rfl, HBX.out.set _, HXE.out HY.out, ((Xo HG2.out).trans (HB.out.mono (by omega))).setCell (p := ⟨w.heap.size, 0, none⟩) (Zc _) _⟩
   ·obtain rfl : k = x.1.2.1.2.1 := by omega
    gi_wp2
    refine ⟨KeepsFrom.refl _ _, ⟨Below.refl _ _, KeepT.refl _ _⟩, fun y hy d hd => ?_, HB.out⟩
    rcases Va.1 hy with hy | hy
    ·exact HPR.out y hy d hd
    ·rw [Yu.1 hy] at hd
     obtain ⟨q, hq, e⟩ := Xw hd
     have := HQ.out q (by have := HDL.out; omega)
     rw [Zm hq] at this
     rw [<- e]
     exact this
 case done =>
  rintro D ys W hD hs ⟨hall, hB⟩ hK
  have hbox : Boxed W w.heap.size 4 (.bool false) := (hB.block _ (by omega)).trans B0.out
  have hcv := hbox.cell
  have hfv := hbox.frozen
  have hBw : Below w.heap.size w W := (Xo HG2.out).trans (hB.mono (by omega))
  obtain rfl : r = true := HR.out.2 (closed_of hs HPE.out hall)
  clear hall hs hB
  gi_wp2
  have hK' := (KeepsOthers.setCell W ⟨w.heap.size, 0, none⟩ (.bool true)).same D _ hK rfl
  refine ⟨by simp, .inl ⟨_, _, rfl, run_takeDeferred hK', ?_⟩⟩
  have hv5 := (hbox.set (.bool true)).kept (grownBy_putObj' _ D (.deferred none)) (fun e => by cases e; rw [show (W.setCell _ _).heap[w.heap.size]? = _ from hbox.set (.bool true)] at hK'; cases hK')
  have hc5 := hv5.cell
  refine ⟨.bool true, ?_, rfl, ?_⟩
  ·simp [results, Tryz.f14, go_sem, hc5]
  ·exact Xp ((hBw.setCell (p := ⟨w.heap.size, 0, none⟩) (Zc _) _).trans (belowK_b (w := w) (Zc _) _ D _ _ (by omega) hK' rfl rfl))
 case stop =>
  rintro D c pre W hD ⟨zs, hs, hpre⟩ ⟨rfl, hv, ⟨x, d, hd, hnd⟩, hB⟩ hK
  have hcv := hv.cell
  obtain rfl : r = false := by
   cases r with
   | false => rfl
   | true => exact absurd (HR.out.1 rfl) (not_closed HPE.out hd hnd)
  clear hs hpre hd hnd
  gi_wp2
  refine ⟨by simp, .inl ⟨_, _, rfl, run_takeDeferred hK, ?_⟩⟩
  have hv5 := hv.kept (grownBy_putObj' _ D (.deferred none)) (fun e => by cases e; rw [show W.heap[w.heap.size]? = _ from hv] at hK; cases hK)
  have hc5 := hv5.cell
  refine ⟨.bool false, ?_, rfl, ?_⟩
  ·simp [results, Tryz.f14, go_sem, hc5]
  ·exact Xp (hB.trans (belowK_b (w := w) (Zc _) W D _ _ (by omega) hK rfl rfl))
end Go.Proofs.YtnknejokneddbaaGreatDoor
