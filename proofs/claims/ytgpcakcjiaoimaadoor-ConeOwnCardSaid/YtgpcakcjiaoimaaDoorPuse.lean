/- Package push: fold's contract. -/
import Derived.Test.YtgpcakcjiaoimaaDoorPusc
namespace Go.Proofs.YtgpcakcjiaoimaaDoor
open Go.RowKit Go.Shelf
attribute [local go_sem] Oper.semAt_some

/-- What fold leaves. -/
def FoldPost (N : Nat) (Lb : List ByteArray) (P : List (Int × Int)) (f g : List Int) (w : World) (e : Ending) (w' : World) : Prop :=
  ∃ u v b, e = .returned (.tuple #[.agg #[u, v], .slice (some ⟨b, 0, none⟩) N N]) ∧ OwnObj w' w.heap.size u v (labG Lb (joinsL N f g)) (gluP (joinsL N f g) P) ∧ w.heap.size ≤ b ∧ RowZ w' b (atZ (joinsL N f g)) ∧ w.grownBy w' none

set_option maxRecDepth 100000 in
set_option maxHeartbeats 4000000 in
theorem fold_in (n : Nat) (hn : 4 ≤ n) (p q pf pg : Option Addr) (N c m d af cf cg lo0 hi0 lof hif log hig : Nat) (Lb : List ByteArray) (P : List (Int × Int)) (f g : List Int) (w : World)
    (h : ObjAt w lo0 hi0 p N q m Lb P) (hf : ZsAt w lof hif pf af f) (hg : ZsAt w log hig pg af g) (hlab : labErr Lb = 0) (hm : m ≤ 1000000) (ha : af ≤ 1000000) (hin : allIn N P = true) (ht : Tab w) :
    CallsIn Fence.wide n Tryd.prog 38 #[.agg #[.slice p N c, .slice q m d], .slice pf af cf, .slice pg af cg] w (FoldPost N Lb P f g w) := by
  obtain ⟨i0, hi0', hz0, hz1, hz2⟩ := info_parts Tryd.info9
  have h1 : 1 ≤ n := by omega
  have hro : Fence.wide.round = none := rfl
  have hN : N ≤ 40 := by have := lab_small hlab; have := h.ls.len; omega
  have H := Lib.hid h
  have HF := Lib.hid hf
  have HG := Lib.hid hg
  have hhi0 : 0 < N → hi0 ≤ w.heap.size := fun hp => by
    obtain ⟨_, _, _, _, _, h3, _⟩ := h.ls.cell hp
    exact h3
  have HLB := Lib.hid hlab
  have HIN := Lib.hid hin
  have HT := Lib.hid ht
  clear h hf hg hlab hin ht
  refine callsIn_of_wp_marks Tryd.func38 rfl trivial ?_ hro
  simp only [Tryd.ntmps38, List.size_toArray, List.length_cons, List.length_nil, Nat.reduceAdd, Nat.reduceSub, Array.replicate_succ, Array.replicate_zero, List.push_toArray, List.append_toArray, List.nil_append, List.cons_append]
  gi_wp2_with fail
  refine ⟨trivial, ?_⟩
  have hb0 := BoxO.new w (.slice p N c) (.slice q m d)
  have hb1 := BoxO.new (w.alloc (.cells #[.slice p N c, .slice q m d] 25)) (.slice none 0 0) (.slice none 0 0)
  rw [World.size_alloc] at hb1
  generalize hW1 : w.alloc (.cells #[.slice p N c, .slice q m d] 25) = W1 at *
  have g1 : w.grownBy W1 none := by rw [← hW1]; exact World.grownBy_alloc _ _ none
  have e1 : W1.heap.size = w.heap.size + 1 := by rw [← hW1]; simp
  generalize hW2 : W1.alloc (.cells #[.slice none 0 0, .slice none 0 0] 25) = W2 at *
  have g2 : W1.grownBy W2 none := by rw [← hW2]; exact World.grownBy_alloc _ _ none
  have e2 : W2.heap.size = w.heap.size + 2 := by rw [← hW2]; simp [e1]
  have HB0 := Lib.hid (hb0.calm g2)
  have HB1 := Lib.hid hb1
  have HGW := Lib.hid (grownBy_trans g1 g2)
  clear hb0 hb1 g1 g2 hW1 hW2 e1
  refine (callsIn_wide.2 (newU_c N W2 (by omega))).mono ?_
  rintro e w1 ⟨ub, rfl, hu, hg1⟩
  have HU1 := Lib.hid hu
  have HG1 := Lib.hid hg1
  have hs1 := hg1.size
  have htop := hu.top
  clear hu hg1
  generalize hlo : W2.heap.size = lo at *
  have HLO := Lib.hid hlo
  clear hlo
  generalize hhi : w1.heap.size = hi at *
  have HHI := Lib.hid hhi
  clear hhi
  gi_wp2
  gi_loopw [27] (fun i wr => ∃ k : Nat, k ≤ af ∧ i = .int .i64 k ∧ IsUn wr lo hi ub (joinsK (List.range N) f g k) ∧ W2.grownBy wr none) (fun i _ => af - (intOf i).toNat)
  case atStart => exact ⟨0, Nat.zero_le _, rfl, HU1.out, HG1.out⟩
  case round =>
    obtain ⟨k, hk, rfl, hu, hgr⟩ := hrel
    have HU := Lib.hid hu
    have HGR := Lib.hid hgr
    by_cases hka : k < af
    · have k0 : (0 : Int) ≤ k := by omega
      have k1 : (k : Int) < af := by omega
      obtain ⟨bf, of', rfl, f1, f2, f3, hcf⟩ := ((HF.out.calm HGW.out).calm hgr).cell (by omega)
      obtain ⟨bg, og', rfl, q1, q2, q3, hcg⟩ := ((HG.out.calm HGW.out).calm hgr).cell (by omega)
      have cf := hcf k hka
      have cg := hcg k hka
      have HS : Hid (joinsK (List.range N) f g (k + 1) = joinZ (joinsK (List.range N) f g k) (f[k]?.getD 0) (g[k]?.getD 0)) := Lib.hid rfl
      clear hcf hcg hu hgr
      generalize f[k]?.getD 0 = x at *
      generalize g[k]?.getD 0 = y at *
      gi_wp2_with fail
      refine wpIn_wide.2 ?_
      refine wp_region_still_tail 9 (by kernel_rfl) (by kernel_rfl) ?_
      simp only [List.take_succ_cons, List.take_zero, List.drop_succ_cons, List.drop_zero]
      repeat still_step
      refine wpStill_nil ?_
      change wpList _ _ _ _ _ wr.drew
      go_wp2_with fail
      refine (joinU_c lo hi ub _ x y _ (HU.out.calm (grownBy_drewN wr 1 none))).mono ?_
      rintro e w5 ⟨rfl, h5, hk5⟩
      have HA5 := Lib.hid (show IsUn w5 lo hi ub (joinsK (List.range N) f g (k + 1)) by rw [HS.out]; exact h5)
      have HG5 := Lib.hid (Kept.new (grownBy_trans HGR.out (grownBy_drewN wr 1 none)) hk5 (by rw [HLO.out]; exact Nat.le_refl _))
      clear h5 hk5
      go_wp2
      gi_wp2
      exact ⟨⟨k + 1, by omega, by go_num, HA5.out, HG5.out⟩, by simp [intOf]; omega⟩
    · obtain rfl : k = af := by omega
      have hJ : joinsK (List.range N) f g k = joinsL N f g := by unfold joinsL; rw [HF.out.len]
      rw [hJ] at HU
      clear hJ hu HU1 HG1
      have hLl := joinsL_len N f g
      generalize hL : joinsL N f g = L at *
      have hLis : isL L := by rw [← hL]; exact joinsL_is N f g
      have HLIS := Lib.hid hLis
      have HLL := Lib.hid hLl
      have HJL := Lib.hid hL
      clear hL hLis hLl
      have HB0' := Lib.hid (HB0.out.calm hgr)
      have hc0 := HB0'.out.c0
      have hmk := run_make_row' (P := Tryd.prog) 26 3 (.int .i64 0) 8 Tryd.underlying26 Tryd.infoZ3 rfl .i64 .i64 N (by omega) (by omega) wr
      gi_wp2_with (refine ⟨trivial, ?_⟩; gi_at_call 55; refine (classes_in (n - 1) _ _).mono ?_; rintro e w9 ⟨rfl, rfl⟩)
      have hfi : FoldI W2 ((((wr.alloc (.cells (madeCells #[.int .i64 0] N) 3)).alloc (.cells #[.slice (some ⟨wr.heap.size, 0, none⟩) N N] 26)).alloc (.cells #[.slice none 0 0] 22)).alloc (.cells #[.pointer (some ⟨ub, 0, none⟩)] 84)) lo (wr.heap.size + 1) wr.heap.size lo hi ub N L Lb 0 (whP L 0 []) := by
        have b1 := Boxed.new (wr.alloc (.cells (madeCells #[.int .i64 0] N) 3)) 26 (.slice (some ⟨wr.heap.size, 0, none⟩) N N)
        rw [World.size_alloc] at b1
        have b2 := Boxed.new ((wr.alloc (.cells (madeCells #[.int .i64 0] N) 3)).alloc (.cells #[.slice (some ⟨wr.heap.size, 0, none⟩) N N] 26)) 22 (.slice none 0 0)
        rw [World.size_alloc, World.size_alloc] at b2
        have r0 := rowZ_made wr N
        rw [whP_zero, HLL.out]
        refine ⟨⟨none, 0, b2.alloc _, World.ownsRow_nil _ _ _ _⟩, r0.calm (grownBy_trans (World.grownBy_alloc _ _ none) (grownBy_trans (World.grownBy_alloc _ _ none) (World.grownBy_alloc _ _ none))), (b1.alloc _).alloc _, ?_, ?_⟩
        · exact HU.out.calm (grownBy_trans (World.grownBy_alloc _ _ none) (grownBy_trans (World.grownBy_alloc _ _ none) (grownBy_trans (World.grownBy_alloc _ _ none) (World.grownBy_alloc _ _ none))))
        · exact grownBy_trans HGR.out (grownBy_trans (World.grownBy_alloc _ _ none) (grownBy_trans (World.grownBy_alloc _ _ none) (grownBy_trans (World.grownBy_alloc _ _ none) (World.grownBy_alloc _ _ none))))
      have hbc := Boxed.new (((wr.alloc (.cells (madeCells #[.int .i64 0] N) 3)).alloc (.cells #[.slice (some ⟨wr.heap.size, 0, none⟩) N N] 26)).alloc (.cells #[.slice none 0 0] 22)) 84 (.pointer (some ⟨ub, 0, none⟩))
      have hes : ((((wr.alloc (.cells (madeCells #[.int .i64 0] N) 3)).alloc (.cells #[.slice (some ⟨wr.heap.size, 0, none⟩) N N] 26)).alloc (.cells #[.slice none 0 0] 22)).alloc (.cells #[.pointer (some ⟨ub, 0, none⟩)] 84)).heap.size = wr.heap.size + 4 := by simp
      simp only [World.size_alloc] at hbc
      have hsw := hgr.size
      have huT := HU.out.top
      generalize hWs : ((((wr.alloc (.cells (madeCells #[.int .i64 0] N) 3)).alloc (.cells #[.slice (some ⟨wr.heap.size, 0, none⟩) N N] 26)).alloc (.cells #[.slice none 0 0] 22)).alloc (.cells #[.pointer (some ⟨ub, 0, none⟩)] 84)) = ws at *
      clear hWs hmk hc0 hgr HU HGR HB0'
      generalize wr.heap.size = gw at *
      rw [HLO.out] at hsw
      have HES := Lib.hid hes
      have HE2 := Lib.hid e2
      clear hes e2
      refine rangeTell hro h1 (gf := 70) (lb := #[.pointer (some ⟨gw + 1 + 1 + 1, 0, none⟩)]) rfl trivial (enters_of Tryd.func70 (by kernel_rfl) rfl)
        (encs := encC) (fun _ => rfl)
        (fun pre W => FoldI W2 W lo (gw + 1) gw lo hi ub N L Lb pre.length (whP L pre.length []) ∧ (pre = [] → Boxed W (gw + 1 + 1 + 1) 84 (.pointer (some ⟨ub, 0, none⟩))) ∧ gw + 4 ≤ W.heap.size)
        (OwnFrom.and (foldI_own (β := List (Nat × Value)) (w0 := W2) (k := fun pre => pre.length) (Z := fun pre => whP L pre.length []) (by have := HES.out; omega) (by have := HES.out; rw [HLO.out]; omega)) (OwnFrom.and ?own1 ?own2))
        ⟨hfi, fun _ => hbc, by have := HES.out; omega⟩
        (fun xs => xs.length = (circL (eqC L) L.length).length) (NxC (gw + 4) L) (nxC_own _ _ _) (KeepG (gw + 4)) KeepG.trans (fun W l o o' _ hl ho => KeepG.put W l o o' hl ho) ?hit
        (fun x => { tmps := #[.agg #[.slice p N c, .slice q m d], .slice pf k cf, .slice pg k cg, .pointer (some ⟨w.heap.size, 0, none⟩), undef, undef, .pointer (some ⟨w.heap.size + 1, 0, none⟩), .slice none 0 0, .pointer (some ⟨ub, 0, none⟩), u9, .pointer (some ⟨gw + 1, 0, none⟩), .pointer (some ⟨gw + 1 + 1, 0, none⟩), .int .i64 (x.1 : Nat), x.2, undef, undef, undef, undef, undef, undef, undef, .pointer (some ⟨w.heap.size, 0, none⟩), .slice p N c, .int .i64 N, .pointer (some ⟨ub, 0, none⟩), .slice pf k cf, .int .i64 k, .int .i64 k, .bool false, u29, u30, u31, u32, u33, u34, u35, u36, u37, u38, u39, u40, .pointer (some ⟨w.heap.size, 0, none⟩), .slice p N c, .int .i64 N, .slice (some ⟨gw, 0, none⟩) N N, .pointer (some ⟨ub, 0, none⟩), .func (.func 70) #[] #[.pointer (some ⟨gw + 1 + 1 + 1, 0, none⟩)], .int .i64 (x.1 : Nat), x.2, undef, undef, undef, undef, undef, undef, undef, undef, undef, undef, undef, undef, undef, undef, undef, undef, undef, undef, undef, undef, undef, undef, undef, undef, undef, undef, undef, undef, undef, undef, undef, undef, undef, undef, undef, undef, undef, undef, undef, undef, undef, undef, undef, undef, undef, undef, undef, undef, undef, undef, undef, undef], defers := [] }) ?assign ?body ?done
      case own1 =>
        intro pre A B row hs hg hr e
        refine (hs e).kept hg ?_
        intro e2
        obtain ⟨_, o, ho, hc⟩ := hr _ e2.symm
        rw [show A.heap[gw + 1 + 1 + 1]? = _ from hs e] at ho
        cases ho
        cases hc
      case own2 => exact fun pre A B row hs hg hr => Nat.le_trans hs hg.size
      case hit =>
        intro l R hR W hI hr hY
        exact classes1_in (n - 1) (by omega) l (gw + 1 + 1 + 1) (gw + 4) lo hi ub L _ R
          (fun pre A B h hg => ⟨h.1.calm hg, fun e => (h.2.1 e).kept hg (by simp), Nat.le_trans h.2.2 hg.size⟩) hR
          (fun W h => ⟨h.1.uni, (h.2.1 rfl).cell, h.2.2⟩) hY W hI hr
      case assign =>
        intro l x W K hK
        unfold encC
        gi_wp2
        exact hK
      case body =>
        rintro l pre ⟨kx, vx⟩ W hl hlr ⟨hF, _, hsz⟩ ⟨hx1, cl, gc, cc, hcl, hx2, hrow⟩
        simp only at hx1 hx2 hcl
        subst hx1
        subst hx2
        obtain ⟨x0, rest, hcx, hld, hx0⟩ := cls_head7 HLIS.out hcl
        have HMEM := Lib.hid (fun e => cls_mem7 HLIS.out hcl e)
        have HLD := Lib.hid hld
        have HSN := Lib.hid (show ∀ v : Nat × Value, (pre ++ [v]).length = pre.length + 1 by simp)
        have HK40 : Hid (pre.length < 40) := Lib.hid (by
          have h1 := List.getElem?_eq_some_iff.1 hcl
          have h2 := circ_len7 HLIS.out
          have h3 := cntR_le L L.length
          have := h1.1
          have := HLL.out
          omega)
        have hcn40 : cl.length ≤ N := by
          obtain ⟨x, _, hx⟩ := circ_get hcl
          rw [hx]
          have := cls_le (eqC L) L.length x
          have := HLL.out
          omega
        generalize hk : pre.length = k' at *
        have HLN := Lib.hid hk
        clear hk hcl hld
        have hk40 := HK40.out
        obtain ⟨pl, pc, hbl, how⟩ := hF.lab
        have HF1 := Lib.hid hF
        have HBL := Lib.hid hbl
        have HOW := Lib.hid how
        have HROW := Lib.hid hrow
        have hgW := hF.gr
        have b0 := (HB0.out.calm hgW).c0
        have bl0 := hbl.cell
        have bf0 := hbl.frozen
        have r0 := hrow.cell (j := 0) (x := x0) (by rw [hcx]; rfl)
        obtain ⟨pb, po, hpp, s1, s2, s3, hcs⟩ := (((H.out.ls.calm HGW.out).calm hgW)).cell (by have := HLL.out; omega)
        subst hpp
        have c0 := hcs x0 (by have := HLL.out; omega)
        have HX := Lib.hid hcx
        have hcl1 : 0 < cl.length := by rw [hcx]; simp
        have x00 : (0 : Int) ≤ x0 := by omega
        have x01 : (x0 : Int) < N := by have := HLL.out; omega
        generalize hlab : Lb[x0]?.getD .empty = lb at *
        have HLAB := Lib.hid hlab
        clear hlab hcs hbl how hgW hF hrow hcx
        generalize hcl2 : cl.length = cn at *
        have HCN := Lib.hid hcl2
        clear hcl2
        gi_wp2_with fail
        have hS0 : (fun w' : World => w'.cell? ⟨w.heap.size, 0, none⟩ = some (.slice (some ⟨pb, po, none⟩) N c) ∧ w'.cell? ⟨gc, 0, none⟩ = some (.int .i64 x0) ∧ w'.cell? ⟨pb, po + x0, none⟩ = some (.string lb)) W.drew := ⟨b0, r0, c0⟩
        refine round_held (S := fun w' => w'.cell? ⟨w.heap.size, 0, none⟩ = some (.slice (some ⟨pb, po, none⟩) N c) ∧ w'.cell? ⟨gc, 0, none⟩ = some (.int .i64 x0) ∧ w'.cell? ⟨pb, po + x0, none⟩ = some (.string lb)) (by kernel_rfl) (by kernel_rfl) ?nl ?_
        case nl =>
          rintro ⟨a9, w9, h9⟩
          exact absurd h9.1 (by simp)
        refine wpAnyH_take (i := 1) (v := .pointer (some ⟨w.heap.size, 0, none⟩)) rfl (by kernel_rfl) (by kernel_rfl) (by kernel_rfl) (fun _ _ _ h => h) (.inl ⟨by rfl, ?_⟩) hS0 ?_
        · rintro w' ⟨t0, t1, t2⟩
          go_simp
        refine wpAnyH_take (i := 3) (v := .slice (some ⟨gc, 0, none⟩) cn cc) rfl (by kernel_rfl) (by kernel_rfl) (by kernel_rfl) (fun _ _ _ h => h) (.inl ⟨by rfl, ?_⟩) hS0 ?_
        · rintro w' ⟨t0, t1, t2⟩
          go_simp
        refine wpAnyH_take (i := 4) (v := .pointer (some ⟨gc, 0, none⟩)) rfl (by kernel_rfl) (by kernel_rfl) (by kernel_rfl) (fun _ _ _ h => h) (.inl ⟨by rfl, ?_⟩) hS0 ?_
        · rintro w' ⟨t0, t1, t2⟩
          go_simp
        refine wpAnyH_take (i := 2) (v := .slice (some ⟨pb, po, none⟩) N c) rfl (by kernel_rfl) (by kernel_rfl) (by kernel_rfl) (fun _ _ _ h => h) (.inl ⟨by rfl, ?_⟩) hS0 ?_
        · rintro w' ⟨t0, t1, t2⟩
          go_simp
        refine wpAnyH_take (i := 5) (v := .int .i64 x0) rfl (by kernel_rfl) (by kernel_rfl) (by kernel_rfl) (fun _ _ _ h => h) (.inl ⟨by rfl, ?_⟩) hS0 ?_
        · rintro w' ⟨t0, t1, t2⟩
          go_simp
        refine wpAnyH_take (i := 6) (v := .pointer (some ⟨pb, po + x0, none⟩)) rfl (by kernel_rfl) (by kernel_rfl) (by kernel_rfl) (fun _ _ _ h => h) (.inl ⟨by rfl, ?_⟩) hS0 ?_
        · rintro w' ⟨t0, t1, t2⟩
          go_simp
        refine wpAnyH_take (i := 7) (v := .string lb) rfl (by kernel_rfl) (by kernel_rfl) (by kernel_rfl) (fun _ _ _ h => h) (.inl ⟨by rfl, ?_⟩) hS0 ?_
        · rintro w' ⟨t0, t1, t2⟩
          go_simp
        have HKP : Hid (∀ W', W.grownBy W' none → (W'.cell? ⟨w.heap.size, 0, none⟩ = some (.slice (some ⟨pb, po, none⟩) N c) ∧ W'.cell? ⟨gc, 0, none⟩ = some (.int .i64 x0) ∧ W'.cell? ⟨pb, po + x0, none⟩ = some (.string lb))) := Lib.hid (by
          intro W' hg
          have key : ∀ (b o : Nat) (v : Value), W.cell? ⟨b, o, none⟩ = some v → W'.cell? ⟨b, o, none⟩ = some v := by
            intro b o v hv
            have hlt : b < W.heap.size := by
              by_cases hl : b < W.heap.size
              · exact hl
              · exfalso
                have : W.heap[b]? = none := Array.getElem?_eq_none (by omega)
                simp [World.cell?, this] at hv
            exact (World.cell?_of_block (a := ⟨b, o, none⟩) (hg.block b hlt (by simp))).trans hv
          exact ⟨key _ _ _ b0, key _ _ _ r0, key _ _ _ c0⟩)
        have bl1 : ((W.alloc (.cells #[.string lb] 9)).drew).cell? ⟨gw + 1 + 1, 0, none⟩ = some (.slice pl k' pc) := (HBL.out.kept (World.grownBy_alloc W _ none) (by simp)).cell
        have HW8 := Lib.hid (grownBy_trans (World.grownBy_alloc W (.cells #[.string lb] 9) none) (grownBy_drewN (W.alloc (.cells #[.string lb] 9)) 1 none))
        have HNEW : Hid (∀ j u, ([.string lb] : List Value)[j]? = some u → ((W.alloc (.cells #[.string lb] 9)).drew).cell? ((⟨W.heap.size, 0, none⟩ : Addr).add j) = some u) := Lib.hid (by
          intro j u hu
          rw [add_blk]
          match j, hu with
          | 0, hu => simpa using hu
          | j + 1, hu => simp at hu)
        have HPOST : Hid (∀ p' c' w8, w8.ownsRow lo 9 1 (.slice p' (k' + 1) c') (k' + 1) (scells ((labG Lb L).take k') ++ [.string lb]) → ((W.alloc (.cells #[.string lb] 9)).drew).grownBy w8 (Value.slice pl k' pc).ownBlock →
            (∀ w9, w9 = w8 ∨ w9 = w8.setCell ⟨gw + 1 + 1, 0, none⟩ (.slice p' (k' + 1) c') → (w9.cell? ⟨w.heap.size, 0, none⟩ = some (.slice (some ⟨pb, po, none⟩) N c) ∧ w9.cell? ⟨gc, 0, none⟩ = some (.int .i64 x0) ∧ w9.cell? ⟨pb, po + x0, none⟩ = some (.string lb))) ∧ w8.cell? ⟨gw + 1 + 1, 0, none⟩ = some (.slice pl k' pc) ∧ w8.frozen? ⟨gw + 1 + 1, 0, none⟩ = false ∧
            FoldI W2 (w8.setCell ⟨gw + 1 + 1, 0, none⟩ (.slice p' (k' + 1) c')) lo (gw + 1) gw lo hi ub N L Lb (k' + 1) (whP L k' []) ∧ KeepsOthers W (w8.setCell ⟨gw + 1 + 1, 0, none⟩ (.slice p' (k' + 1) c')) ∧ KeepG (gw + 4) W (w8.setCell ⟨gw + 1 + 1, 0, none⟩ (.slice p' (k' + 1) c'))) := Lib.hid (by
          intro p' c' w8 ho hg
          rw [← HLAB.out] at ho
          obtain ⟨q1, q2, q3, q4⟩ := HF1.out.lbl HLO.out.symm (by omega) (by omega) (by omega) HLD.out HBL.out HOW.out HW8.out ho hg
          refine ⟨?_, q1.cell, q1.frozen, q2, q3, q4 _ (by omega)⟩
          obtain ⟨k0, k1, k2⟩ := HKP.out _ HW8.out
          have hown1 := ownsRow_calm HOW.out HW8.out
          have hle : ∀ r, (Value.slice pl k' pc).ownBlock = some r → lo ≤ r := fun r e => (hown1.lt r e).1
          have hlo := HLO.out
          have e2 := HE2.out
          have hhi1 := hhi0 (by have := HLL.out; omega)
          have hrw := HROW.out.calm HW8.out
          obtain ⟨c9, fz, hkd⟩ := hrw.kind
          have hgc : some gc ≠ (Value.slice pl k' pc).ownBlock := by
            rcases hown1.2 with ⟨h5, _⟩ | ⟨g', cap, cur', h5, _, hgb, _⟩
            · rw [h5]; simp [Value.ownBlock]
            · rw [h5]
              intro e
              obtain rfl : gc = g' := by simpa [Value.ownBlock] using e
              rw [hkd] at hgb
              simp at hgb
          have key : ∀ (b o : Nat) (v : Value), ((W.alloc (.cells #[.string lb] 9)).drew).cell? ⟨b, o, none⟩ = some v → some b ≠ (Value.slice pl k' pc).ownBlock → b ≠ gw + 1 + 1 → ∀ w9, w9 = w8 ∨ w9 = w8.setCell ⟨gw + 1 + 1, 0, none⟩ (.slice p' (k' + 1) c') → w9.cell? ⟨b, o, none⟩ = some v := by
            intro b o v hv hne hn9 w9 h9
            have hlt : b < ((W.alloc (.cells #[.string lb] 9)).drew).heap.size := by
              by_cases hl : b < ((W.alloc (.cells #[.string lb] 9)).drew).heap.size
              · exact hl
              · exfalso
                have : ((W.alloc (.cells #[.string lb] 9)).drew).heap[b]? = none := Array.getElem?_eq_none (by omega)
                simp only [World.cell?, this] at hv
                cases hv
            have h8 := (World.cell?_of_block (a := ⟨b, o, none⟩) (hg.block b hlt hne)).trans hv
            rcases h9 with rfl | rfl
            · exact h8
            · exact (World.cell?_of_block (a := ⟨b, o, none⟩) ((grownBy_setCell' w8 (gw + 1 + 1) _).block b (Nat.lt_of_lt_of_le hlt hg.size) (by simpa using hn9))).trans h8
          have hsW := HF1.out.gr.size
          rw [hlo] at hsW
          have hgcl := hrw.lt.1
          intro w9 h9
          refine ⟨key _ _ _ k0 (fun e => by have := hle _ e.symm; omega) (by omega) w9 h9, key _ _ _ k1 hgc (by omega) w9 h9, key _ _ _ k2 (fun e => by have := hle _ e.symm; omega) (by omega) w9 h9⟩)
        refine held_two 0 8 (by kernel_rfl) rfl rfl (fun K hK => ?_) (fun K hK => ?_)
        go_simp
        refine hK _ _ hS0 ?_
        clear hK K
        refine held_next 8 (by kernel_rfl) rfl ?_
        intro K hK
        go_simp
        refine hK _ _ (HKP.out _ HW8.out) ?_
        clear hK K
        rotate_left
        go_simp
        refine hK _ _ (HKP.out _ HW8.out) ?_
        clear hK K
        refine held_next 0 (by kernel_rfl) rfl ?_
        intro K hK
        go_simp
        refine hK _ _ (HKP.out _ HW8.out) ?_
        clear hK K
        all_goals
          refine held_next 9 (by kernel_rfl) rfl ?_
          intro K hK
          refine step_append_own rfl (.tmp 49) (.tmp 57) 22 rfl lo 9 i0 (.string .empty) 1 16 Tryd.underlying22 hi0' hz0 hz1 hz2 rfl (by decide) (.slice pl k' pc) k' (scells ((labG Lb L).take k')) (by rfl) (ownsRow_calm HOW.out HW8.out) ⟨W.heap.size, 0, none⟩ 1 1 [.string lb] (by rfl) rfl HNEW.out (by simp [Value.oneCell']) (by unfold maxLen; omega) (by omega) (by have h9 := HF1.out.gr.size; rw [HLO.out] at h9; exact Nat.le_trans h9 HW8.out.size) ?_
          intro p' c' w8 hown' hgrow
          obtain ⟨hS, x1, x2, hF8, hK8, hG8⟩ := HPOST.out p' c' w8 hown' hgrow
          refine hK _ _ (hS w8 (.inl rfl)) ?_
          clear hK K
          refine held_next 10 (by kernel_rfl) rfl ?_
          intro K hK
          go_simp
          refine hK _ _ (hS _ (.inr rfl)) ?_
          clear hK K
          refine wpAnyH_done (by kernel_rfl) ?_ _
          have hsz8 := hG8.1
          generalize hW8 : w8.setCell ⟨gw + 1 + 1, 0, none⟩ (.slice p' (k' + 1) c') = W8 at *
          have HF8 := Lib.hid hF8
          have HK8 := Lib.hid (hK8.from ws.heap.size)
          have HG8 := Lib.hid hG8
          clear hW8 hF8 hK8 hG8 hgrow hown' hS x1 x2 hS0 HPOST HNEW HKP HW8 bl1 b0 r0 c0 bl0 bf0
          gi_wp2
          gi_loopw [61] (fun i wr => ∃ j : Nat, j ≤ cn ∧ i = .int .i64 j ∧ FoldI W2 wr lo (gw + 1) gw lo hi ub N L Lb (k' + 1) (whP L k' (cl.take j)) ∧ KeepsFrom ws.heap.size W wr ∧ KeepG (gw + 4) W wr) (fun i _ => cn - (intOf i).toNat)
          case atStart => exact ⟨0, Nat.zero_le _, rfl, HF8.out, HK8.out, HG8.out⟩
          case round =>
            obtain ⟨j, hj, rfl, hF, hK, hG⟩ := hrel
            have HF := Lib.hid hF
            have HK := Lib.hid hK
            have HGG := Lib.hid hG
            by_cases hjc : j < cn
            · have j0 : (0 : Int) ≤ j := by omega
              have j1 : (j : Int) < cn := by omega
              obtain ⟨e, he⟩ : ∃ e, cl[j]? = some e := ⟨_, List.getElem?_eq_getElem (by rw [HCN.out]; exact hjc)⟩
              have hrj : RowI wr (gw + 4) gc cc cl := ownsRow_keepG HROW.out (Nat.le_refl _) (by decide) hG
              have ce := hrj.cell he
              obtain ⟨hel, hep⟩ := (HMEM.out e).1 (List.mem_of_getElem? he)
              have e0 : (0 : Int) ≤ e := by omega
              have e1 : (e : Int) < N := by have := HLL.out; omega
              have bw := hF.whb.cell
              have hwl := whP_len L k' (cl.take j)
              have cw := hF.row.cell (k := e) (by rw [hwl]; exact hel)
              have cf := hF.row.free e
              have HST := Lib.hid (show (whP L k' (cl.take j)).set e (k' : Int) = whP L k' (cl.take (j + 1)) by
                rw [whP_snoc hep, List.take_add_one, he]
                rfl)
              have HSZ := Lib.hid (hF.setZ (by rw [HLO.out]; omega) (by omega) (by omega) e (k' : Int))
              have HKS := Lib.hid (hK.trans ((KeepsOthers.setCell wr ⟨gw, e, none⟩ (.int .i64 (k' : Int))).from ws.heap.size))
              have HGS := Lib.hid (hG.trans (KeepG.below (n₀ := gw + 4) (grownBy_setCell wr ⟨gw, e, none⟩ (.int .i64 (k' : Int))) (by show gw < gw + 4; omega)))
              clear hF hK hG hrj he hwl hel hep
              generalize (whP L k' (cl.take j))[e]?.getD 0 = v0 at *
              gi_wp2
              exact ⟨⟨j + 1, by omega, by go_num, by rw [← HST.out]; exact HSZ.out, HKS.out, HGS.out⟩, by simp [intOf]; omega⟩
            · obtain rfl : j = cn := by omega
              have HEND := Lib.hid (show whP L k' (cl.take j) = whP L (k' + 1) [] by
                rw [← HCN.out, List.take_length]
                exact whP_next HMEM.out)
              clear hF hK hG
              gi_wp2
              refine ⟨HK.out, ⟨?_, Nat.le_trans hsz HGG.out.1⟩, HGG.out⟩
              rw [HLN.out, ← HEND.out]
              exact HF.out
      case done =>
        rintro D xs W hD hxs ⟨hF, _, hsz⟩ hK
        have hM : xs.length = cntR L L.length := by rw [hxs, circ_len7 HLIS.out]
        have hMl := cntR_le L L.length
        have HPL : Hid (∀ e, e < N → ∃ y : Nat, (atZ L)[e]?.getD 0 = (y : Int) ∧ y < cntR L L.length) := Lib.hid (fun e he => ⟨_, atZ_get (by rw [HLL.out]; exact he), plc6_lt HLIS.out (by rw [HLL.out]; exact he)⟩)
        have HLG := Lib.hid (labG_len Lb L)
        have HGP : Hid (gluP L P = pairsL (cntR L L.length) (clo (cntR L L.length) (ofL (cntR L L.length) (mapP (atZ L) P))) (cntR L L.length)) := Lib.hid rfl
        have HLK := Lib.hid (labG_ok HLB.out (by rw [HLL.out]; exact H.out.ls.len.symm))
        rw [hM, whP_end HLIS.out] at hF
        generalize hMM : cntR L L.length = M at *
        clear hMM hM hxs
        have hM40 : M ≤ 40 := by have := HLL.out; omega
        obtain ⟨pl, pc, hbl, how⟩ := hF.lab
        rw [List.take_of_length_le (by rw [HLG.out]; exact Nat.le_refl _)] at how
        have hnil : pl = none → pc = 0 := by
          rintro rfl
          rcases how.2 with ⟨h5, _⟩ | ⟨g', cap, cur, h5, _⟩
          · cases h5; rfl
          · cases h5
        have hst : StrsAt W lo W.heap.size pl M (labG Lb L) := by
          obtain ⟨p9, c9, e9, hst⟩ := strsAt_own (by rw [HLG.out]; exact how)
          rw [HLG.out] at e9 hst
          cases e9
          exact hst
        have bl0 := hbl.cell
        have HNIL := Lib.hid hnil
        have HST := Lib.hid hst
        have HFI := Lib.hid hF
        have HBL := Lib.hid hbl
        have hgW := hF.gr
        have HGW2 := Lib.hid (grownBy_trans HGW.out hgW)
        have b01 := (HB0.out.calm hgW).c1
        have HKD := Lib.hid hK
        clear hnil hst how hF hK
        gi_wp2_with fail
        refine ⟨trivial, ?_⟩
        refine (callsIn_wide.2 (relNew_mid M _ (by omega))).mono ?_
        rintro e wn ⟨rb, rfl, hR0, hgn⟩
        have HR0 := Lib.hid hR0
        have HGN := Lib.hid hgn
        have hwn := hgn.size
        have hrt := hR0.top
        have b01n := (HB0.out.calm (grownBy_trans hgW hgn)).c1
        have HLEN := Lib.hid H.out.ps.len
        clear hR0 b01 bl0
        gi_wp2
        gi_loopw [76] (fun i wr => ∃ j : Nat, j ≤ m ∧ i = .int .i64 j ∧ IsRel wr W.heap.size wn.heap.size rb M (ofL M (mapP (atZ L) (P.take j))) ∧ W.grownBy wr none) (fun i _ => m - (intOf i).toNat)
        case atStart => exact ⟨0, Nat.zero_le _, rfl, HR0.out, HGN.out⟩
        case round =>
          obtain ⟨j, hj, rfl, hrl, hgr⟩ := hrel
          have HRL := Lib.hid hrl
          have HGR := Lib.hid hgr
          by_cases hjm : j < m
          · have j0 : (0 : Int) ≤ j := by omega
            have j1 : (j : Int) < m := by omega
            obtain ⟨qb, qo, rfl, y1, y2, y3, hcp⟩ := (H.out.ps.calm (grownBy_trans HGW2.out hgr)).cell (by omega)
            obtain ⟨z0, z1⟩ := hcp j hjm
            have HI := Lib.hid (inI_of_all (k := j) HIN.out (by rw [HLEN.out]; exact hjm))
            have HTK := Lib.hid (show P.take (j + 1) = P.take j ++ [P[j]?.getD (0, 0)] by rw [List.take_add_one, List.getElem?_eq_getElem (by rw [HLEN.out]; exact hjm)]; rfl)
            clear hcp hrl
            obtain ⟨x, hx⟩ : ∃ x, x = P[j]?.getD (0, 0) := ⟨_, rfl⟩
            rw [← hx] at z0 z1 HI HTK
            clear hx
            obtain ⟨xa, xb⟩ := x
            obtain ⟨a0, a1, a2, a3⟩ : 0 ≤ xa ∧ xa < N ∧ 0 ≤ xb ∧ xb < N := by have := HI.out; unfold inI at this; simp only at this; omega
            simp only at z0 z1
            obtain ⟨xa, rfl⟩ := Int.eq_ofNat_of_zero_le a0
            obtain ⟨xb, rfl⟩ := Int.eq_ofNat_of_zero_le a2
            obtain ⟨ya, hya, hya1⟩ := HPL.out xa (by omega)
            obtain ⟨yb, hyb, hyb1⟩ := HPL.out xb (by omega)
            have hga := World.grownBy_alloc wr (.cells #[.int .i64 xa, .int .i64 xb] 67) none
            have hfa := (HFI.out.calm hgr).calm hga
            have bw := hfa.whb.cell
            have cwa := hfa.row.cell (k := xa) (by rw [atZ_len, HLL.out]; omega)
            have cwb := hfa.row.cell (k := xb) (by rw [atZ_len, HLL.out]; omega)
            rw [hya] at cwa
            rw [hyb] at cwb
            have HADD : Hid (ofL M (mapP (atZ L) (P.take (j + 1))) = addI M (ofL M (mapP (atZ L) (P.take j))) ((ya : Int), (yb : Int))) := Lib.hid (by
              rw [HTK.out]
              unfold mapP
              rw [List.map_append, List.map_cons, List.map_nil, ofL_snoc]
              simp only [Int.toNat_natCast, hya, hyb])
            have HGA := Lib.hid (grownBy_trans HGR.out hga)
            have HRA := Lib.hid (HRL.out.calm hga)
            clear hga hfa hya hyb hgr
            have p0 : (wr.alloc (.cells #[.int .i64 xa, .int .i64 xb] 67)).cell? ⟨wr.heap.size, 0, none⟩ = some (.int .i64 xa) := by simp
            have p1 : (wr.alloc (.cells #[.int .i64 xa, .int .i64 xb] 67)).cell? ⟨wr.heap.size, 1, none⟩ = some (.int .i64 xb) := by simp
            gi_wp2_with fail
            generalize hwa : wr.alloc (.cells #[.int .i64 xa, .int .i64 xb] 67) = wa at *
            clear hwa
            refine wpIn_wide.2 ?_
            refine wp_region_still_tail 11 (by kernel_rfl) (by kernel_rfl) ?_
            simp only [List.take_succ_cons, List.take_zero, List.drop_succ_cons, List.drop_zero]
            repeat still_step
            refine wpStill_nil ?_
            change wpList _ _ _ _ _ wa.drew
            clear z0 z1 bw cwa cwb b01n p0 p1
            go_wp2_with fail
            refine (add_b W.heap.size wn.heap.size rb M ya yb _ _ _ (HRA.out.calm (grownBy_drewN wa 1 none)) rfl).mono ?_
            rintro e w5 ⟨rfl, h5, hk5⟩
            have HA5 := Lib.hid (show IsRel w5 W.heap.size wn.heap.size rb M (ofL M (mapP (atZ L) (P.take (j + 1)))) by rw [HADD.out]; exact h5)
            have HG5 := Lib.hid (Kept.new (grownBy_trans HGA.out (grownBy_drewN wa 1 none)) hk5 (Nat.le_refl _))
            clear h5 hk5
            go_wp2
            gi_wp2
            exact ⟨⟨j + 1, by omega, by go_num, HA5.out, HG5.out⟩, by simp [intOf]; omega⟩
          · obtain rfl : j = m := by omega
            have hPj : P.take j = P := List.take_of_length_le (by rw [HLEN.out]; exact Nat.le_refl _)
            rw [hPj] at HRL
            have bl0 := (HBL.out.kept hgr (by simp)).cell
            have hTab := HT.out.grown (grownBy_trans HGW2.out hgr) (by simp)
            have hst := HST.out.calm hgr
            clear hPj hrl b01n
            gi_wp2_with fail
            refine ⟨trivial, ?_⟩
            refine (callsIn_wide.2 (make_ok pl M pc lo W.heap.size W.heap.size wn.heap.size rb (labG Lb L) _ wr hst HNIL.out HLK.out HRL.out hTab)).mono ?_
            rintro e w6 ⟨u, v, rfl, hobj, hg6⟩
            obtain ⟨pu, cu, rfl⟩ := ownsRow_sl hobj.ls
            obtain ⟨pv, cv, rfl⟩ := ownsRow_sl hobj.ps
            have HOB := Lib.hid hobj
            have HG6 := Lib.hid (grownBy_trans hgr hg6)
            have hf6 := HFI.out.calm HG6.out
            have bw := hf6.whb.cell
            have HFI6 := Lib.hid hf6
            have hb1 := HB1.out.calm hf6.gr
            have b10 := hb1.c0
            have b11 := hb1.c1
            have f10 := hb1.free 0
            have f11 := hb1.free 1
            clear hst hTab bl0 hobj hg6 hgr hf6 HRL HR0 HGN
            gi_wp2_with fail
            have hga := World.grownBy_alloc w6 (.cells #[.slice pu (labG Lb L).length cu, .slice pv (pairsL M (clo M (ofL M (mapP (atZ L) P))) M).length cv] 25) none
            have hbx := BoxO.new w6 (.slice pu (labG Lb L).length cu) (.slice pv (pairsL M (clo M (ofL M (mapP (atZ L) P))) M).length cv)
            rw [← HGP.out] at hga hbx ⊢
            rw [← HGP.out] at HOB
            generalize hw7 : w6.alloc (.cells #[.slice pu (labG Lb L).length cu, .slice pv (gluP L P).length cv] 25) = w7 at *
            have x0 := hbx.c0
            have x1 := hbx.c1
            have HF7 := Lib.hid (HFI6.out.calm hga)
            have HOB7 := Lib.hid (show OwnObj w7 wr.heap.size (.slice pu (labG Lb L).length cu) (.slice pv (gluP L P).length cv) (labG Lb L) (gluP L P) from ⟨ownsRow_calm HOB.out.ls hga, ownsRow_calm HOB.out.ps hga⟩)
            have HG7 := Lib.hid (grownBy_trans HG6.out hga)
            have hb7 := HB1.out.calm HF7.out.gr
            have bw := HF7.out.whb.cell
            have b10 := hb7.c0
            have b11 := hb7.c1
            have f10 := hb7.free 0
            have f11 := hb7.free 1
            have HB7 := Lib.hid hb7
            have hgl := hb7.lt
            clear hga hbx hw7 hb7 HFI6 HOB HG6
            have hgne : ¬ gw = w.heap.size := by have := HE2.out; omega
            have hfin : ∀ W8, W8 = ((w7.setCell ⟨w.heap.size + 1, 0, none⟩ (.slice pu (labG Lb L).length cu)).setCell ⟨w.heap.size + 1, 1, none⟩ (.slice pv (gluP L P).length cv)).drew →
                BoxO W8 (w.heap.size + 1) (.slice pu (labG Lb L).length cu) (.slice pv (gluP L P).length cv) ∧ OwnObj W8 wr.heap.size (.slice pu (labG Lb L).length cu) (.slice pv (gluP L P).length cv) (labG Lb L) (gluP L P) ∧ RowZ W8 gw (atZ L) ∧ w.grownBy W8 none ∧ W8.heap[D]? = some (.deferred (some [])) := by
              rintro W8 rfl
              have q1 := grownBy_setCell w7 ⟨w.heap.size + 1, 0, none⟩ (.slice pu (labG Lb L).length cu)
              have q2 := grownBy_setCell (w7.setCell ⟨w.heap.size + 1, 0, none⟩ (.slice pu (labG Lb L).length cu)) ⟨w.heap.size + 1, 1, none⟩ (.slice pv (gluP L P).length cv)
              have q3 := grownBy_drewN ((w7.setCell ⟨w.heap.size + 1, 0, none⟩ (.slice pu (labG Lb L).length cu)).setCell ⟨w.heap.size + 1, 1, none⟩ (.slice pv (gluP L P).length cv)) 1 none
              have hsz1 := HGR.out.size
              have e2 := HE2.out
              have es := HES.out
              have hWD := (Array.getElem?_eq_some_iff.1 HKD.out).1
              have hlt : w.heap.size + 1 < wr.heap.size := by omega
              refine ⟨((HB7.out.set0 _).set1 _).calm q3, ⟨?_, ?_⟩, ((HF7.out.row.other q1 (by show w.heap.size + 1 ≠ gw; omega)).other q2 (by show w.heap.size + 1 ≠ gw; omega)).calm q3, ?_, ?_⟩
              · exact ownsRow_calm (ownsRow_set (ownsRow_set HOB7.out.ls (p := ⟨w.heap.size + 1, 0, none⟩) hlt _) (p := ⟨w.heap.size + 1, 1, none⟩) hlt _) q3
              · exact ownsRow_calm (ownsRow_set (ownsRow_set HOB7.out.ps (p := ⟨w.heap.size + 1, 0, none⟩) hlt _) (p := ⟨w.heap.size + 1, 1, none⟩) hlt _) q3
              · exact grownBy_trans (grownBy_setCell_new _ (grownBy_setCell_new _ (grownBy_trans HGW2.out HG7.out) (by show _ ≤ w.heap.size + 1; omega)) (by show _ ≤ w.heap.size + 1; omega)) q3
              · have k1 := (HG7.out.block D hWD (by simp)).trans HKD.out
                have l1 := (Array.getElem?_eq_some_iff.1 k1).1
                have hDne : some D ≠ some (w.heap.size + 1) := by intro e; injection e; omega
                have k2 := (q1.block D l1 hDne).trans k1
                have l2 := (Array.getElem?_eq_some_iff.1 k2).1
                have k3 := (q2.block D l2 hDne).trans k2
                exact (q3.block D (Array.getElem?_eq_some_iff.1 k3).1 (by simp)).trans k3
            have HFIN := Lib.hid hfin
            clear hfin
            gi_region
            all_goals
              obtain ⟨z1, z2, z3, z4, z5⟩ := HFIN.out _ rfl
              generalize hW8 : ((w7.setCell ⟨w.heap.size + 1, 0, none⟩ (.slice pu (labG Lb L).length cu)).setCell ⟨w.heap.size + 1, 1, none⟩ (.slice pv (gluP L P).length cv)).drew = W8 at *
              have y0 := z1.c0
              have y1 := z1.c1
              have Z2 := Lib.hid z2
              have Z3 := Lib.hid z3
              have Z4 := Lib.hid z4
              have Z1 := Lib.hid z1
              clear z1 z2 z3 z4 hW8
              gi_wp2
              refine ⟨by simp, .inl ⟨_, _, rfl, run_takeDeferred z5, ?_⟩⟩
              generalize hW9 : W8.putObj D (.deferred none) = W9
              have hp : W8.grownBy W9 (some D) := by rw [← hW9]; exact grownBy_putObj' W8 D _
              have hDb : w.heap.size + 1 < D ∧ gw < D := by have := HES.out; have := HE2.out; omega
              have hDW : ∀ (b : Nat) (cur : Array Value) (t : TypeId) (fz : Nat × Nat), W8.heap[b]? = some (.cells cur t fz) → some b ≠ some D := by
                intro b cur t fz hb e
                injection e with e
                subst e
                rw [hb] at z5
                cases z5
              have hbo := Z1.out.other hp (hDW _ _ _ _ Z1.out)
              have y0 := hbo.c0
              have y1 := hbo.c1
              have hkeep : ∀ {base k size : Nat} {e : TypeId} {v : Value} {xs : List Value}, W8.ownsRow base e size v k xs → W9.ownsRow base e size v k xs := by
                intro base k size e v xs hr
                refine ⟨hr.1, ?_⟩
                rcases hr.2 with h5 | ⟨g', cap, cur, e1, h5, h6, h7⟩
                · exact .inl h5
                · exact .inr ⟨g', cap, cur, e1, h5, (hp.block g' (Array.getElem?_eq_some_iff.1 h6).1 (hDW _ _ _ _ h6)).trans h6, h7⟩
              have hsz1 := HGR.out.size
              have e2 := HE2.out
              have es := HES.out
              have hWD := (Array.getElem?_eq_some_iff.1 HKD.out).1
              refine ⟨.tuple #[.agg #[.slice pu (labG Lb L).length cu, .slice pv (gluP L P).length cv], .slice (some ⟨gw, 0, none⟩) N N], by simp [results, Tryd.results38, go_sem, y0, y1], ?_⟩
              unfold FoldPost
              rw [HJL.out]
              refine ⟨_, _, gw, rfl, ⟨ownsRow_down (base := wr.heap.size) (hkeep Z2.out.ls) (by omega), ownsRow_down (base := wr.heap.size) (hkeep Z2.out.ps) (by omega)⟩, by omega, ?_, ?_⟩
              · exact (hp.block gw Z3.out.lt (hDW _ _ _ _ Z3.out)).trans Z3.out
              · exact grownBy_new Z4.out hp (by omega)

theorem fold_c (p q pf pg : Option Addr) (N c m d af cf cg lo0 hi0 lof hif log hig : Nat) (Lb : List ByteArray) (P : List (Int × Int)) (f g : List Int) (w : World)
    (h : ObjAt w lo0 hi0 p N q m Lb P) (hf : ZsAt w lof hif pf af f) (hg : ZsAt w log hig pg af g) (hlab : labErr Lb = 0) (hm : m ≤ 1000000) (ha : af ≤ 1000000) (hin : allIn N P = true) (ht : Tab w) :
    Calls Tryd.prog 38 #[.agg #[.slice p N c, .slice q m d], .slice pf af cf, .slice pg af cg] w (FoldPost N Lb P f g w) :=
  callsIn_wide.1 (fold_in 4 (Nat.le_refl _) p q pf pg N c m d af cf cg lo0 hi0 lof hif log hig Lb P f g w h hf hg hlab hm ha hin ht)

end Go.Proofs.YtgpcakcjiaoimaaDoor
