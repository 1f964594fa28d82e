/- Package colim: Mediate. -/
import Derived.Test.YtemnbkenihldgaaDoorColF
namespace Go.Proofs.YtemnbkenihldgaaDoor
open Go.RowKit Go.Shelf

/-- What Mediate hands back. -/
def ResM9 (U : List Int) (r : Int) (w : World) (e : Ending) (w' : World) : Prop :=
  ∃ p c, e = .returned (.tuple #[.slice p U.length c, .int .i64 r]) ∧ ZsAt w' w.heap.size w'.heap.size p U.length U ∧ w.grownBy w' none

set_option maxRecDepth 20000 in
set_option maxHeartbeats 4000000 in
theorem med9_v (p q pt qt ph : Option Addr) (n c m d nt ct mt dt nh ch lo hi lo' hi' lot hit loh hih : Nat) (Ns : List Nd) (As : List Ar) (D : List ByteArray) (Q : List (Int × Int)) (Hs : List (List Int)) (U : List Int) (r : Int) (w : World) (hv : MedD Ns As D Q Hs U r)
    (hn : NodesAt w lo hi p n Ns) (ha : ArrsAt w lo' hi' q m As) (hf : DFew Ns As) (ho : ObjAt w lot hit pt nt qt mt D Q) (hmt : mt ≤ 1000000) (hh : LegsAt w loh hih ph nh Hs) (hs : ∀ k, k < nh → (lgA Hs k).length ≤ 1000000) (ht : Tab w) :
    Calls Tryd.prog 12 #[.agg #[.slice p n c, .slice q m d], .agg #[.slice pt nt ct, .slice qt mt dt], .slice ph nh ch] w (ResM9 U r w) := by
  obtain ⟨A, B, Ls, r', hp⟩ := colV_ex Ns As
  have HC := Lib.hid (hv.cases hp)
  have HPC := Lib.hid hp.cases
  have HP := Lib.hid hp
  have HN := Lib.hid hn
  have HA := Lib.hid ha
  have HF := Lib.hid hf
  have HO := Lib.hid ho
  have HH := Lib.hid hh
  have HS := Lib.hid hs
  have HT := Lib.hid ht
  have HDL := Lib.hid ho.ls.len
  have HHL := Lib.hid hh.len
  have he := TwoB.new w (.slice p n c) (.slice q m d) (.slice pt nt ct) (.slice qt mt dt)
  clear hv hp hn ha hf ho hh hs ht
  go_enter Tryd.func12, Tryd.ntmps12
  go_wp2_with fail
  generalize (w.alloc (.cells #[.slice p n c, .slice q m d] 37)).alloc (.cells #[.slice pt nt ct, .slice qt mt dt] 25) = W0 at *
  have HE := Lib.hid he
  clear he
  have hgle : w.heap.size ≤ W0.heap.size := HE.out.1.size
  generalize hgg : w.heap.size = g at *
  have HGG := Lib.hid hgg
  clear hgg
  refine (of9_v p q n c m d _ _ _ _ Ns As A B Ls r' _ HP.out (HN.out.calm HE.out.1) (HA.out.calm HE.out.1) HF.out (HT.out.grown HE.out.1 (by simp))).mono ?_
  rintro e w1 ⟨u, v, pl, cl, rfl, hob, hlg, hg1⟩
  obtain ⟨pu, cu, pv, cv, rfl, rfl, hoat, hpu, hpv⟩ := hob.form
  have hga := World.grownBy_alloc w1 (.cells #[.slice pu A.length cu, .slice pv B.length cv] 25) none
  have hbx := BoxO.new w1 (.slice pu A.length cu) (.slice pv B.length cv)
  have he2 := (HE.out.calm hg1).calm hga
  have HE2 := Lib.hid he2
  have HBX := Lib.hid hbx
  have HLG := Lib.hid ((hlg.calm hga).wider (lo' := g) (hi' := (w1.alloc (.cells #[.slice pu A.length cu, .slice pv B.length cv] 25)).heap.size) hgle hga.size (Nat.le_refl _))
  obtain ⟨x0, x1, b0, b1⟩ := he2.cells
  have s0 := hbx.c0
  have s1 := hbx.c1
  clear hob hoat hpu hpv hlg hg1 hga hbx he2
  rcases HC.out with ⟨hr', rfl, rfl⟩ | ⟨rfl, h40, rfl, rfl⟩ | ⟨rfl, h40, hlb, rfl, rfl⟩ | ⟨rfl, h40, hlb, rfl, hU, hLA, har, hthen⟩
  · have HG := Lib.hid HE2.out.1
    rcases hr' with rfl | rfl
    · go_wp2
      exact bodyPost_ret (v := .tuple #[.slice none 0 0, .int .i64 10]) (by simp [results, Tryd.results12, go_sem]) rfl ⟨none, 0, rfl, zsAt_nil _ _ _, HG.out⟩
    · go_wp2
      exact bodyPost_ret (v := .tuple #[.slice none 0 0, .int .i64 11]) (by simp [results, Tryd.results12, go_sem]) rfl ⟨none, 0, rfl, zsAt_nil _ _ _, HG.out⟩
  · have HG := Lib.hid HE2.out.1
    have hnt : (40 : Int) < nt := by rw [HDL.out] at h40; omega
    go_wp2
    exact bodyPost_ret (v := .tuple #[.slice none 0 0, .int .i64 11]) (by simp [results, Tryd.results12, go_sem]) rfl ⟨none, 0, rfl, zsAt_nil _ _ _, HG.out⟩
  · have hnt : ¬ ((40 : Int) < nt) := by rw [HDL.out] at h40; omega
    have HLB := Lib.hid hlb
    clear hlb
    go_wp2_with fail
    generalize w1.alloc (.cells #[.slice pu A.length cu, .slice pv B.length cv] 25) = w2 at *
    refine (dLegs_r p q pt qt ph n c m d nt ct mt dt nh ch _ _ _ _ _ _ _ _ Ns As D Q Hs false _ (HN.out.calm HE2.out.1) (HA.out.calm HE2.out.1) HF.out (HO.out.calm HE2.out.1) hmt (HH.out.calm HE2.out.1) HS.out HLB.out).mono ?_
    rintro e w3 ⟨rfl, hg3⟩
    have HG := Lib.hid (HE2.out.calm hg3).1
    clear hg3
    go_wp2
    exact bodyPost_ret (v := .tuple #[.slice none 0 0, .int .i64 12]) (by simp [results, Tryd.results12, go_sem]) rfl ⟨none, 0, rfl, zsAt_nil _ _ _, HG.out⟩
  · have hnt : ¬ ((40 : Int) < nt) := by rw [HDL.out] at h40; omega
    have HLB := Lib.hid hlb
    have HAR := Lib.hid har
    have HTH := Lib.hid hthen
    have HLA := Lib.hid hLA
    have HCA := Lib.hid ((HPC.out.resolve_left (fun h => by have := h.1; omega)).2)
    clear hlb har hthen hLA hU
    go_wp2_with fail
    generalize w1.alloc (.cells #[.slice pu A.length cu, .slice pv B.length cv] 25) = w2 at *
    generalize w1.heap.size = g1 at *
    refine (dLegs_r p q pt qt ph n c m d nt ct mt dt nh ch _ _ _ _ _ _ _ _ Ns As D Q Hs true _ (HN.out.calm HE2.out.1) (HA.out.calm HE2.out.1) HF.out (HO.out.calm HE2.out.1) hmt (HH.out.calm HE2.out.1) HS.out HLB.out).mono ?_
    rintro e w3 ⟨rfl, hg3⟩
    have hb3 := HBX.out.calm hg3
    have t0 := hb3.c0
    have t1 := hb3.c1
    have HG := Lib.hid (HE2.out.calm hg3).1
    have HLG3 := Lib.hid (HLG.out.calm hg3)
    have HLL : Hid (Ls.length = nh ∧ nh = Ns.length) := Lib.hid ⟨by rw [HCA.out.legs.len, ← HLA.out.len, HHL.out], by rw [← HHL.out, HLA.out.len]⟩
    clear hg3 hb3 x0 x1 b0 b1 s0 s1
    rw [HLL.out.1] at HLG3 ⊢
    go_wp2_with fail
    refine (out9_c pu pv pl ph A.length cu B.length cv nh cl ch _ _ _ _ Ls Hs U w3 HLG3.out (HH.out.calm HG.out) (by have := HCA.out.legs.dia.n6; have := HLL.out.2; omega) (fun k hk => HTH.out k (by rw [← HLL.out.2]; exact hk)) (fun k hk => ?_) (arB_parts HAR.out).2.2.1 (fun e he => ?_) (by have := HCA.out.small; omega)).mono ?_
    · have h1 := (arB_parts (HCA.out.legs.arr k (by rw [← HLL.out.2]; exact hk))).2.2.1
      have h2 := stK_fit Ns (show k < Ns.length by rw [← HLL.out.2]; exact hk)
      have h3 := HCA.out.few
      omega
    · obtain ⟨k, hk, x, hx, e⟩ := HCA.out.reach e he
      exact ⟨k, by rw [HLL.out.2]; exact hk, x, hx, e⟩
    rintro e w4 ⟨b, rfl, hb, hrow, hg4⟩
    have HR := Lib.hid (hrow.at hb)
    have HG4 := Lib.hid (grownBy_trans HG.out hg4)
    have hsz := HG.out.size
    clear hrow hg4
    go_wp2
    refine bodyPost_ret (v := .tuple #[.slice (some ⟨b, 0, none⟩) U.length U.length, .int .i64 0]) (by simp [results, Tryd.results12, go_sem]) rfl ⟨_, _, rfl, ?_, HG4.out⟩
    exact HR.out.wider (by rw [HGG.out] at hsz; rw [HGG.out]; exact hsz) (Nat.le_refl _) (Nat.le_refl _)

end Go.Proofs.YtemnbkenihldgaaDoor
