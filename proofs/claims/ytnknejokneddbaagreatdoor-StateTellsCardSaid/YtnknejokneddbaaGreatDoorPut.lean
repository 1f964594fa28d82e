/- Package patch: Is. -/
import Derived.Test.YtnknejokneddbaaGreatDoorPur
import Derived.Test.YtnknejokneddbaaGreatDoorApps
import Derived.Test.YtnknejokneddbaaGreatDoorPum
namespace Go.Proofs.YtnknejokneddbaaGreatDoor
set_option maxRecDepth 10000
set_option maxHeartbeats 32000000
open Go.RowKit
theorem arePaths6_c (p : Option Addr) (n c lo hi : Nat) (l : List ByteArray) (r : Bool) (w : World) (h : StrsAt w lo hi p n l) (hn : n <= 1000000) (hs : ∀ s ∈ l, s.size <= 1000000) (hr : r = true ↔ n <= 6 /\ risR ltS l /\ ∀ s ∈ l, IsPath s) :
  Calls Tryz.prog 87 #[.slice p n c, .int .i64 6] w fun e w' => e = .returned (.bool r) /\ w.grownBy w' none := arePaths_c p n c lo hi 6 l r w h hn (by omega) hs hr
theorem nodup_len {α : Type} [DecidableEq α] : ∀ {l m : List α}, l.Nodup -> (∀ x ∈ l, x ∈ m) -> l.length <= m.length
 | [], _, _, _ => Ze _
 | a :: l, m, hn, h => by
  have hc := List.nodup_cons.1 hn
  have ha := h a (List.mem_cons_self ..)
  have ih := nodup_len (m := m.erase a) hc.2 fun x hx => by
   have hxa : x ≠ a := fun e => hc.1 (e ▸ hx)
   exact (List.mem_erase_of_ne hxa).2 (h x (List.mem_cons_of_mem _ hx))
  rw [List.length_erase_of_mem ha] at ih
  have : 0 < m.length := List.length_pos_of_mem ha
  simp only [Zt]
  omega
theorem isPt_iff {p : Pt} : IsPt p ↔ pID p ≠ 0 /\ ((pDeps p).length <= 60 /\ risR ltN (pDeps p) /\ 0 ∉ pDeps p /\ pID p ∉ pDeps p) /\ ((pMakes p).length <= 6 /\ risR ltS (pMakes p) /\ ∀ s ∈ pMakes p, IsPath s) /\ ((pDrops p).length <= 6 /\ risR ltS (pDrops p) /\ ∀ s ∈ pDrops p, IsPath s) /\
  (∀ s ∈ pMakes p, s ∉ pDrops p) /\ ((pHunks p).length <= 6 /\ risR ltS ((pHunks p).map hPath) /\ ∀ i, (hi : i < (pHunks p).length) -> IsHk ((pHunks p)[i]) (pID p) (addsN (pHunks p) i)) /\ ∀ d ∈ needsL p, d ∈ pDeps p := by
 constructor
 ·intro h
  exact ⟨h.id, ⟨h.nDeps, h.dris, fun h0 => h.deps 0 h0 rfl, h.own⟩, ⟨h.nMakes, h.mris, h.makes⟩, ⟨h.nDrops, h.xris, h.drops⟩, h.apart, ⟨h.nHunks, h.hris, h.hunks⟩, h.needs⟩
 ·rintro ⟨h1, ⟨h2, h3, h4, h5⟩, ⟨h6, h7, h8⟩, ⟨h9, h10, h11⟩, h12, ⟨h13, h14, h15⟩, h16⟩
  exact ⟨h1, fun d hd e => h4 (e ▸ hd), h3, h5, h2, h8, h7, h6, h11, h10, h9, h12, h13, h14, h15, h16⟩
theorem needsL_big {p : Pt} (h : PBig p) : (needsL p).length <= 1000000 := by
 have h1 : (needsL p).length <= (namesL p).length := by
  have hs : ∀ x ∈ needsL p, x ∈ namesL p := fun x hx => (needsL_mem.1 hx).1
  exact nodup_len (ris_nodup linN (needsL_ris p)) hs
 have h2 := names_lenH (l := pHunks p) (m := 1000) (fun x hx => ⟨(h.hs x hx).2.1, (h.hs x hx).2.2.1⟩) _ (Zc _)
 rw [List.take_length] at h2
 have h3 := h.hunks
 have h4 : (namesL p).length <= (pHunks p).length * (3 * 1000) := h2
 have : (pHunks p).length * (3 * 1000) <= 20 * (3 * 1000) := Vk _ h3
 omega
theorem patIs_c (hS : SortU) (id : Nat) (pd : Option Addr) (nd cd : Nat) (pm : Option Addr) (nm cm : Nat) (px : Option Addr) (nx cx : Nat) (ph : Option Addr) (nh ch : Nat) (lo hi : Nat) (p : Pt) (r : Bool) (w : World)
  (h : PtAt w lo hi id pd nd cd pm nm cm px nx cx ph nh ch p) (hb : PBig p) (hr : r = true ↔ IsPt p) :
  Calls Tryz.prog 54 #[.agg #[.int .u32 (id : Int), .slice pd nd cd, .slice pm nm cm, .slice px nx cx, .slice ph nh ch]] w fun e w' => e = .returned (.bool r) /\ w.grownBy w' none := by
 rw [isPt_iff] at hr
 have HR := Za hr
 have HG := Za (Zd w (.cells #[.int .u32 (id : Int), .slice pd nd cd, .slice pm nm cm, .slice px nx cx, .slice ph nh ch] 56) none)
 have HB := Za (BoxV.new w [.int .u32 (id : Int), .slice pd nd cd, .slice pm nm cm, .slice px nx cx, .slice ph nh ch] 56)
 have H := Za (h.calm HG.out)
 have HBB := Za hb
 have hd1 : nd <= 1000000 := by have := hb.deps; have := h.deps.len; omega
 have hm1 : nm <= 1000000 := by have := hb.makes; have := h.makes.len; omega
 have hx1 : nx <= 1000000 := by have := hb.drops; have := h.drops.len; omega
 have hh1 : nh <= 20 := by have := hb.hunks; have := h.hunks.len; omega
 have HI : Hid (pID p = id) := Za h.num
 have HLD := Za h.deps.len
 have HLM := Za h.makes.len
 have HLX := Za h.drops.len
 have HLH := Za h.hunks.len
 clear hr h hb
 go_enter Tryz.func54, Tryz.ntmps54
 go_upto_region 1 with fail
 generalize w.alloc _ = w1 at *
 generalize w.heap.size = g1 at *
 obtain ⟨a0, a1, a2, a3, a4⟩ := HB.out.five
 have q0 := fun z : Later w1 => Zk a0 z
 have q1 := fun z : Later w1 => Zk a1 z
 have q2 := fun z : Later w1 => Zk a2 z
 have q3 := fun z : Later w1 => Zk a3 z
 have q4 := fun z : Later w1 => Zk a4 z
 have hne := later_one w1
 clear a0 a1 a2 a3 a4
 rw [HI.out] at HR
 have LD : Hid (∀ _ : Later w1, True) := Za fun _ => trivial
 have LM : Hid (∀ _ : Later w1, True) := Za fun _ => trivial
 have LX : Hid (∀ _ : Later w1, True) := Za fun _ => trivial
 have LA : Hid (∀ _ : Later w1, True) := Za fun _ => trivial
 have LH : Hid (∀ _ : Later w1, True) := Za fun _ => trivial
 rw [HLD.out, HLM.out, HLX.out] at HR
 by_cases hid0 : id = 0
 ·obtain rfl : r = false := Zj HR.out fun h => h.1 hid0
  have f0 : decide ((0 : Int) < (id : Int)) = false := Zl (by omega)
  have f0' : decide (0 < id) = false := Zl (by omega)
  refine Zz0 (by kernel_rfl) (by kernel_rfl) ?_
  repeat (go_big_quiet_step ((first | (go_at_call 86; exact LD.out _) | (go_at_call 87; first | (with_reducible exact LM.out _) | (with_reducible exact LX.out _)) | (go_at_call 88; exact LA.out _) | (go_at_call 89; exact LH.out _))))
  refine Ya ?_
  rintro _ ⟨z, rfl⟩
  have HG9 := Za (Zb HG.out z.ok)
  go_wp2
  go_ret
  exact ⟨rfl, HG9.out⟩
 ·have f0 : decide ((0 : Int) < (id : Int)) = true := Zg (by omega)
  have f0' : decide (0 < id) = true := Zg (by omega)
  obtain ⟨q, hq⟩ := Ym (nd <= 60 /\ risR ltN (pDeps p) /\ 0 ∉ pDeps p /\ id ∉ pDeps p)
  have CD : Hid (∀ W : World, w1.grownBy W none -> _) := Za fun W hg => areDeps_c pd nd cd lo hi id (pDeps p) q W (H.out.calm hg).deps hd1 hq
  have LD := Za fun z : Later w1 => Yy (fun W hg => CD.out W hg) z
  have QD := Za hq
  clear hq
  cases q with
  | false =>
   obtain rfl : r = false := Zj HR.out fun h => by have := QD.out.2 h.2.1; cases this
   refine Zz0 (by kernel_rfl) (by kernel_rfl) ?_
   repeat (go_big_quiet_step ((first | (go_at_call 86; exact LD.out _) | (go_at_call 87; first | (with_reducible exact LM.out _) | (with_reducible exact LX.out _)) | (go_at_call 88; exact LA.out _) | (go_at_call 89; exact LH.out _))))
   refine Ya ?_
   rintro _ ⟨z, rfl⟩
   have HG9 := Za (Zb HG.out z.ok)
   go_wp2
   go_ret
   exact ⟨rfl, HG9.out⟩
  | true =>
   have TD := Za (QD.out.1 rfl)
   clear QD
   obtain ⟨q, hq⟩ := Ym (nm <= 6 /\ risR ltS (pMakes p) /\ ∀ s ∈ pMakes p, IsPath s)
   have CM : Hid (∀ W : World, w1.grownBy W none -> _) := Za fun W hg => arePaths6_c pm nm cm lo hi (pMakes p) q W (H.out.calm hg).makes hm1 HBB.out.ms hq
   have LM := Za fun z : Later w1 => Yy (fun W hg => CM.out W hg) z
   have QM := Za hq
   clear hq
   cases q with
   | false =>
    obtain rfl : r = false := Zj HR.out fun h => by have := QM.out.2 h.2.2.1; cases this
    refine Zz0 (by kernel_rfl) (by kernel_rfl) ?_
    repeat (go_big_quiet_step ((first | (go_at_call 86; exact LD.out _) | (go_at_call 87; first | (with_reducible exact LM.out _) | (with_reducible exact LX.out _)) | (go_at_call 88; exact LA.out _) | (go_at_call 89; exact LH.out _))))
    refine Ya ?_
    rintro _ ⟨z, rfl⟩
    have HG9 := Za (Zb HG.out z.ok)
    go_wp2
    go_ret
    exact ⟨rfl, HG9.out⟩
   | true =>
    have TM := Za (QM.out.1 rfl)
    clear QM
    obtain ⟨q, hq⟩ := Ym (nx <= 6 /\ risR ltS (pDrops p) /\ ∀ s ∈ pDrops p, IsPath s)
    have CX : Hid (∀ W : World, w1.grownBy W none -> _) := Za fun W hg => arePaths6_c px nx cx lo hi (pDrops p) q W (H.out.calm hg).drops hx1 HBB.out.xs hq
    have LX := Za fun z : Later w1 => Yy (fun W hg => CX.out W hg) z
    have QX := Za hq
    clear hq
    cases q with
    | false =>
     obtain rfl : r = false := Zj HR.out fun h => by have := QX.out.2 h.2.2.2.1; cases this
     refine Zz0 (by kernel_rfl) (by kernel_rfl) ?_
     repeat (go_big_quiet_step ((first | (go_at_call 86; exact LD.out _) | (go_at_call 87; first | (with_reducible exact LM.out _) | (with_reducible exact LX.out _)) | (go_at_call 88; exact LA.out _) | (go_at_call 89; exact LH.out _))))
     refine Ya ?_
     rintro _ ⟨z, rfl⟩
     have HG9 := Za (Zb HG.out z.ok)
     go_wp2
     go_ret
     exact ⟨rfl, HG9.out⟩
    | true =>
     have TX := Za (QX.out.1 rfl)
     clear QX
     obtain ⟨q, hq⟩ := Ym (∀ s ∈ pMakes p, s ∉ pDrops p)
     have CA : Hid (∀ W : World, w1.grownBy W none -> _) := Za fun W hg => areApart_c pm px nm nx cm cx lo hi lo hi (pMakes p) (pDrops p) q W (H.out.calm hg).makes (H.out.calm hg).drops hm1 hx1 hq
     have LA := Za fun z : Later w1 => Yy (fun W hg => CA.out W hg) z
     have QA := Za hq
     clear hq
     cases q with
     | false =>
      obtain rfl : r = false := Zj HR.out fun h => by have := QA.out.2 h.2.2.2.2.1; cases this
      refine Zz0 (by kernel_rfl) (by kernel_rfl) ?_
      repeat (go_big_quiet_step ((first | (go_at_call 86; exact LD.out _) | (go_at_call 87; first | (with_reducible exact LM.out _) | (with_reducible exact LX.out _)) | (go_at_call 88; exact LA.out _) | (go_at_call 89; exact LH.out _))))
      refine Ya ?_
      rintro _ ⟨z, rfl⟩
      have HG9 := Za (Zb HG.out z.ok)
      go_wp2
      go_ret
      exact ⟨rfl, HG9.out⟩
     | true =>
      have TA := Za (QA.out.1 rfl)
      clear QA
      obtain ⟨q, hq⟩ := Ym ((pHunks p).length <= 6 /\ risR ltS ((pHunks p).map hPath) /\ ∀ i, (hi : i < (pHunks p).length) -> IsHk ((pHunks p)[i]) id (addsN (pHunks p) i))
      have CH : Hid (∀ W : World, w1.grownBy W none -> _) := Za fun W hg => areHunks_c ph nh ch lo hi id (pHunks p) q W (H.out.calm hg).hunks hh1 HBB.out.hs (by rw [show (nh <= 6) = ((pHunks p).length <= 6) from by rw [HLH.out]]; exact hq)
      have LH := Za fun z : Later w1 => Yy (fun W hg => CH.out W hg) z
      have QH := Za hq
      clear hq
      cases q with
      | false =>
       obtain rfl : r = false := Zj HR.out fun h => by have := QH.out.2 h.2.2.2.2.2.1; cases this
       refine Zz0 (by kernel_rfl) (by kernel_rfl) ?_
       repeat (go_big_quiet_step ((first | (go_at_call 86; exact LD.out _) | (go_at_call 87; first | (with_reducible exact LM.out _) | (with_reducible exact LX.out _)) | (go_at_call 88; exact LA.out _) | (go_at_call 89; exact LH.out _))))
       refine Ya ?_
       rintro _ ⟨z, rfl⟩
       have HG9 := Za (Zb HG.out z.ok)
       go_wp2
       go_ret
       exact ⟨rfl, HG9.out⟩
      | true =>
       have TH := Za (QH.out.1 rfl)
       clear QH
       have HR7 : Hid (r = true ↔ ∀ d ∈ needsL p, d ∈ pDeps p) := Za ⟨fun h => (HR.out.1 h).2.2.2.2.2.2, fun h => HR.out.2 ⟨hid0, TD.out, TM.out, TX.out, TA.out, TH.out, h⟩⟩
       obtain ⟨ln, hln⟩ : ∃ ln, (needsL p).length = ln := ⟨_, rfl⟩
       have CN : Hid (∀ W : World, w1.grownBy W none -> Calls Tryz.prog 91 #[.agg #[.int .u32 (id : Int), .slice pd nd cd, .slice pm nm cm, .slice px nx cx, .slice ph nh ch]] W fun e w' => ∃ qn cn, e = .returned (.slice qn ln cn) /\ NsAt .u32 w' 0 w'.heap.size qn ln (needsL p) /\ W.grownBy w' none) := Za fun W hg =>
        (needs_c hS id pd nd cd pm nm cm px nx cx ph nh ch lo hi p W (H.out.calm hg) HBB.out).mono fun e w' h => by
         obtain ⟨qn, m, cn, e1, h1, _, _, _, h2⟩ := h
         have hm := h1.len
         rw [hln] at hm
         subst hm
         exact ⟨qn, cn, e1, h1.wide, h2⟩
       have HLB : Hid (ln <= 1000000) := Za (by rw [<- hln]; exact needsL_big HBB.out)
       have CU : Hid (∀ W qn cn lo' hi', w1.grownBy W none -> NsAt .u32 W lo' hi' qn ln (needsL p) -> Calls Tryz.prog 90 #[.slice qn ln cn, .slice pd nd cd] W fun e w' => e = .returned (.bool r) /\ W.grownBy w' none) := Za fun W qn cn lo' hi' hg h =>
        amongU_c qn pd ln nd cn cd lo' hi' lo hi (needsL p) (pDeps p) r W h (H.out.calm hg).deps HLB.out hd1 HR7.out
       clear q0 q1 q2 q3 q4 hne hln LD LM LX LA LH
       have hgr : w1.grownBy w1.drew none := Zo w1 1 none
       have henv := HB.out.calm hgr
       have hN := nsAt_nil .u32 w1.drew 0 0
       go_region_held3 (fun w' => w'.cell? ⟨g1, 0, none⟩ = some (.int .u32 (id : Int)) /\ w'.cell? ⟨g1, 1, none⟩ = some (.slice pd nd cd) /\ w'.cell? ⟨g1, 2, none⟩ = some (.slice pm nm cm) /\ w'.cell? ⟨g1, 3, none⟩ = some (.slice px nx cx) /\ w'.cell? ⟨g1, 4, none⟩ = some (.slice ph nh ch)) (first | exact henv.five | go_keep)
        (first | (go_at_call 86; with_reducible refine (CD.out _ hgr).mono ?_; rintro e w5 ⟨rfl, hg5⟩; have henv := henv.calm hg5; have hgr := Zb hgr hg5; have hN := hN.calm hg5; clear hg5) | (go_at_call 87; with_reducible refine (CM.out _ hgr).mono ?_; rintro e w5 ⟨rfl, hg5⟩; have henv := henv.calm hg5; have hgr := Zb hgr hg5; have hN := hN.calm hg5; clear hg5) | (go_at_call 87; with_reducible refine (CX.out _ hgr).mono ?_; rintro e w5 ⟨rfl, hg5⟩; have henv := henv.calm hg5; have hgr := Zb hgr hg5; have hN := hN.calm hg5; clear hg5) | (go_at_call 88; with_reducible refine (CA.out _ hgr).mono ?_; rintro e w5 ⟨rfl, hg5⟩; have henv := henv.calm hg5; have hgr := Zb hgr hg5; have hN := hN.calm hg5; clear hg5) | (go_at_call 89; with_reducible refine (CH.out _ hgr).mono ?_; rintro e w5 ⟨rfl, hg5⟩; have henv := henv.calm hg5; have hgr := Zb hgr hg5; have hN := hN.calm hg5; clear hg5) | (go_at_call 91; with_reducible refine (CN.out _ hgr).mono ?_; rintro e w5 ⟨qn, cn, rfl, hat, hg5⟩; have henv := henv.calm hg5; have hgr := Zb hgr hg5; have hN := hat; clear hg5 hat) | (go_at_call 90; with_reducible refine (CU.out _ _ _ _ _ hgr hN).mono ?_; rintro e w5 ⟨rfl, hg5⟩; have henv := henv.calm hg5; have hgr := Zb hgr hg5; have hN := hN.calm hg5; clear hg5))
       have HG5 := Za (Zb HG.out hgr)
       clear henv hgr hN
       go_wp2
       go_ret
       exact ⟨rfl, HG5.out⟩
end Go.Proofs.YtnknejokneddbaaGreatDoor
