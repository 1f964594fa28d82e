/- Package patch: areHunks. -/
import Derived.Test.YtnknejokneddbaaGreatDoorPuj
import Derived.Test.YtnknejokneddbaaGreatDoorApps
namespace Go.Proofs.YtnknejokneddbaaGreatDoor
set_option maxRecDepth 10000
set_option maxHeartbeats 32000000
open Go.RowKit
theorem ownL_mem {l : List Ln} {id : Nat} {x : Ln} : x ∈ ownL l id ↔ x ∈ l /\ x.1 = id := by
 unfold ownL
 rw [List.mem_filter, Yb]
theorem namedL_mem {es : List Ed} {ks : List Ln} {x : Ln} : x ∈ namedL es ks ↔ (∃ e ∈ es, x = e.1 ∨ x = e.2) ∨ x ∈ ks := by
 unfold namedL ends2
 rw [Va, Vf]
 simp only [List.mem_cons, List.not_mem_nil, or_false]
structure HkIn (h : Hk) (id a : Nat) : Prop where
 ok : HkOK h
 own : ∀ x ∈ ownL (namedL (hEdges h) (hKills h)) id, x ∈ addedL id a (hAdds h).length
 kill : (ownL (hKills h) id).length = 0
theorem isHk_iff {h : Hk} {id a : Nat} : IsHk h id a ↔ IsPath (hPath h) /\ HkIn h id a := by
 constructor
 ·intro i
  refine ⟨i.path, ⟨i.nAdds, i.adds, i.nEdges, i.eris, fun e he => Zg (i.edges e he).2.2, i.nKills, i.kris, fun x hx => Zg ?_⟩, fun x hx => ?_, ?_⟩
  ·rcases namedL_mem.1 hx with ⟨e, he, rfl | rfl⟩ | hx
   ·exact ⟨(i.edges e he).1.lo, (i.edges e he).1.hi⟩
   ·exact ⟨(i.edges e he).2.1.lo, (i.edges e he).2.1.hi⟩
   ·exact (i.kills x hx).2
  ·obtain ⟨hx, hid⟩ := ownL_mem.1 hx
   rw [addedL_mem]
   refine ⟨hid, ?_⟩
   rcases namedL_mem.1 hx with ⟨e, he, rfl | rfl⟩ | hx
   ·have := (i.edges e he).1.own hid; omega
   ·have := (i.edges e he).2.1.own hid; omega
   ·exact absurd hid (i.kills x hx).1
  ·rw [List.length_eq_zero_iff, List.eq_nil_iff_forall_not_mem]
   intro x hx
   obtain ⟨hx, hid⟩ := ownL_mem.1 hx
   exact (i.kills x hx).1 hid
 ·rintro ⟨hp, ⟨ok, own, kill⟩⟩
  have nm : ∀ x ∈ namedL (hEdges h) (hKills h), Named x id a (a + (hAdds h).length) := fun x hx => by
   have h1 := of_decide_eq_true (ok.nums x hx)
   refine ⟨h1.1, h1.2, fun hid => ?_⟩
   have h2 := addedL_mem.1 (own x (ownL_mem.2 ⟨hx, hid⟩))
   omega
  refine ⟨hp, ok.nAdds, ok.nEdges, ok.nKills, ok.adds, fun e he => ⟨nm _ (namedL_mem.2 (.inl ⟨e, he, .inl rfl⟩)), nm _ (namedL_mem.2 (.inl ⟨e, he, .inr rfl⟩)), of_decide_eq_true (ok.apart e he)⟩, ok.eris, fun x hx => ?_, ok.kris⟩
  have h1 := nm x (namedL_mem.2 (.inr hx))
  refine ⟨fun hid => ?_, h1.lo, h1.hi⟩
  rw [List.length_eq_zero_iff, List.eq_nil_iff_forall_not_mem] at kill
  exact kill x (ownL_mem.2 ⟨hx, hid⟩)
def LnsNew (n : Nat) (l : List Ln) (w : World) (e : Ending) (w' : World) : Prop := ∃ p c, e = .returned (.slice p n c) /\ LnsAt w' 0 w'.heap.size p n l /\ w.grownBy w' none
theorem LnsPost.new {l : List Ln} {n : Nat} {w w' : World} {e : Ending} (hn : l.length = n) (h : LnsPost l w e w') : LnsNew n l w e w' := by
 subst hn
 obtain ⟨p, c, h1, h2, _, _, h3⟩ := h
 exact ⟨p, c, h1, h2.lower (Ze _), h3⟩
theorem areHunks_c (p : Option Addr) (n c lo hi id : Nat) (l : List Hk) (r : Bool) (w : World) (h : HksAt w lo hi p n l) (hn : n <= 20)
  (hb : ∀ x ∈ l, (hAdds x).length <= 1000 /\ (hEdges x).length <= 1000 /\ (hKills x).length <= 1000 /\ (hPath x).size <= 1000000 /\ ∀ s ∈ hAdds x, s.size <= 1000000)
  (hr : r = true ↔ n <= 6 /\ risR ltS (l.map hPath) /\ ∀ i, (hi : i < l.length) -> IsHk (l[i]) id (addsN l i)) :
  Calls Tryz.prog 89 #[.slice p n c, .int .u32 (id : Int)] w fun e w' => e = .returned (.bool r) /\ w.grownBy w' none := by
 have HR := Za hr
 have H := Za h
 have HL := Za h.len
 have HB := Za hb
 have HAL := Za (addsN_le (hs := l) (m := 1000) fun x hx => (hb x hx).1)
 have HAS := Za (fun k hk => addsN_succ (hs := l) (k := k) hk)
 have HZ := Za (addsN_zero l)
 have HMP : Hid (∀ s ∈ l.map hPath, s.size <= 1000000) := Za fun s hs => by
  obtain ⟨x, hx, rfl⟩ := Yi.1 hs
  exact (hb x hx).2.2.2.1
 have HML : Hid ((l.map hPath).length = n) := Za (by rw [Yn, HL.out])
 clear hr h hb
 go_enter Tryz.func89, Tryz.ntmps89
 go_wp2_with fail
 refine (paths_c p n c lo hi l w H.out (by omega)).mono ?_
 rintro e w1 ⟨p9, c9, rfl, hat, _, _, hg1⟩
 have HG1 := Za hg1
 have HAT := Za hat
 rw [HML.out] at HAT ⊢
 clear hat hg1
 obtain ⟨q, hq⟩ := Ym (n <= 6 /\ risR ltS (l.map hPath) /\ ∀ s ∈ l.map hPath, IsPath s)
 have HQ := Za hq
 clear hq
 have HC := Za (arePaths_c p9 n c9 _ _ 6 (l.map hPath) q w1 HAT.out (by omega) (by omega) HMP.out HQ.out)
 go_wp2_with fail
 refine HC.out.mono ?_
 rintro e w2 ⟨rfl, hg2⟩
 have HG2 := Za (Zb HG1.out hg2)
 clear hg2 HC
 cases q with
 | false =>
  obtain rfl : r = false := Zj HR.out fun h => by
   have := HQ.out.2 ⟨h.1, h.2.1, fun s hs => by
    obtain ⟨x, hx, rfl⟩ := Yi.1 hs
    obtain ⟨i, hi, rfl⟩ := Xw hx
    exact (h.2.2 i hi).path⟩
   cases this
  go_wp2
  go_ret
  exact ⟨rfl, HG2.out⟩
 | true =>
  have HT := Za (HQ.out.1 rfl)
  clear HQ
  have HPI : Hid (∀ x ∈ l, IsPath (hPath x)) := Za fun x hx => HT.out.2.2 _ (Yi.2 ⟨x, hx, rfl⟩)
  have HRI : Hid (r = true ↔ ∀ i, (hi : i < l.length) -> HkIn (l[i]) id (addsN l i)) := Za ⟨fun h i hi => (isHk_iff.1 ((HR.out.1 h).2.2 i hi)).2, fun h => HR.out.2 ⟨HT.out.1, HT.out.2.1, fun i hi => isHk_iff.2 ⟨HPI.out _ (List.getElem_mem hi), h i hi⟩⟩⟩
  clear HR HAT HMP HML HT HPI
  go_wp2
  go_loopw [5, 14] (fun s i wr => ∃ k : Nat, k <= n /\ i = .int .i64 k /\ s = .int .i64 (addsN l k : Nat) /\ Hid (∀ j, j < k -> (hj : j < l.length) -> HkIn (l[j]) id (addsN l j)) /\ Hid (w2.grownBy wr none)) (fun _ i _ => n - (intOf i).toNat)
  case atStart => exact ⟨0, Ze _, rfl, by rw [HZ.out]; rfl, Za (fun j hj => absurd hj (Zy _)), Za (Zi _ _)⟩
  case round =>
   obtain ⟨k, hk, rfl, rfl, HU, HGR⟩ := hrel
   by_cases hkn : k < n
   ·have k0 : (0 : Int) <= k := by omega
    have k1 : (k : Int) < n := by omega
    have hkl : k < l.length := by rw [HL.out]; exact hkn
    obtain ⟨b, o, rfl, _, _, _, hc⟩ := ((H.out.calm HG2.out).calm HGR.out).cell (by omega)
    obtain ⟨pa, na, ca, pe, ne, ce, pk, nk, ck, cx0, cx1, cx2, cx3, hh⟩ := hc k hkn
    have HM := Za (Zr (d := hk0) hkl)
    have HXE : Hid (l[k]?.getD hk0 = l[k]) := Za (by rw [Zm hkl]; rfl)
    have HU2 : Hid (HkIn (l[k]?.getD hk0) id (addsN l k) -> ∀ j, j < k + 1 -> (hj : j < l.length) -> HkIn (l[j]) id (addsN l j)) := Za fun h j hj hjl => by
     by_cases e : j < k
     ·exact HU.out j e hjl
     ·obtain rfl : j = k := by omega
      rw [HXE.out] at h
      exact h
    have HBAD : Hid (¬ HkIn (l[k]?.getD hk0) id (addsN l k) -> r = false) := Za fun h => Zj HRI.out fun h2 => h (by rw [HXE.out]; exact h2 k hkl)
    have hbx := HB.out _ HM.out
    have e1 := HAS.out k hkl
    have e2 := HAL.out (k + 1) hkl
    have e3 := hh.adds.len
    rw [<- HXE.out, e3] at e1
    obtain ⟨a, ha⟩ : ∃ a, addsN l k = a := ⟨_, rfl⟩
    have HF : Hid (addsN l (k + 1) = a + na) := Za (by rw [e1, ha])
    have ha9 : a <= 100000 := by omega
    have hb3 : na <= 1000 /\ ne <= 1000 /\ nk <= 1000 := by rw [<- hh.adds.len, <- hh.edges.len, <- hh.kills.len]; exact ⟨hbx.1, hbx.2.1, hbx.2.2.1⟩
    have hw : IntKind.i64.wrap ((a : Int) + na) = ((a + na : Nat) : Int) := by rw [Zf _ (by omega)]; omega
    have HSZ := Za hbx.2.2.2.2
    have HH := Za hh
    have HLA := Za e3
    rw [ha] at HU2 HBAD ⊢
    clear e1 e2 e3 hc hh hbx HM HXE ha HU
    generalize l[k]?.getD hk0 = x at *
    obtain ⟨path, ts, es, ks⟩ := x
    have HBX := Za (BoxV.new wr [.string path, .slice pa na ca, .slice pe ne ce, .slice pk nk ck] 68)
    have HG3 := Za (Zd wr (.cells #[.string path, .slice pa na ca, .slice pe ne ce, .slice pk nk ck] 68) none)
    go_upto_region 7 with fail
    generalize wr.alloc _ = w3 at *
    generalize wr.heap.size = gX at *
    have HH3 := Za (HH.out.calm HG3.out)
    have HG4 := Za (Zb HGR.out HG3.out)
    clear cx0 cx1 cx2 cx3 HH HG3 HGR
    obtain ⟨q1, hq1⟩ := Ym (HkOK (path, ts, es, ks))
    obtain ⟨q2, hq2⟩ := Ym (∀ x ∈ ownL (namedL es ks) id, x ∈ addedL id a na)
    have HIS := Za (fun W (hg : w3.grownBy W none) => isHunk_c path ts es ks pa na ca pe ne ce pk nk ck lo hi q1 W (HH3.out.calm hg) hb3 HSZ.out hq1)
    have HQ1 := Za hq1
    have HQ2 := Za hq2
    clear hq1 hq2
    obtain ⟨nl, hnl⟩ : ∃ nl, namedL es ks = nl := ⟨_, rfl⟩
    obtain ⟨ll, hll⟩ : ∃ ll, nl.length = ll := ⟨_, rfl⟩
    have hll2 : ll <= 1000000 := by
     rw [<- hll, <- hnl, namedL_len]
     have h1 := HH3.out.edges.len
     have h2 := HH3.out.kills.len
     change es.length = ne at h1
     change ks.length = nk at h2
     omega
    have HNA : Hid (∀ W, w3.grownBy W none -> Calls Tryz.prog 129 #[.agg #[.string path, .slice pa na ca, .slice pe ne ce, .slice pk nk ck]] W fun e w' => ∃ p c, e = .returned (.slice p ll c) /\ LnsAt w' 0 w'.heap.size p ll nl /\ W.grownBy w' none) := Za fun W hg => (named_c path pa na ca pe ne ce pk nk ck lo hi lo hi es ks W (HH3.out.calm hg).edges (HH3.out.calm hg).kills HH3.out.zk (by omega) (by omega)).mono fun e w' h => (by rw [hnl] at h; exact h.new hll)
    rw [hnl] at HQ2
    obtain ⟨ol, hol⟩ : ∃ ol, ownL nl id = ol := ⟨_, rfl⟩
    obtain ⟨lo1, hlo1⟩ : ∃ lo1, ol.length = lo1 := ⟨_, rfl⟩
    have hlo2 : lo1 <= 1000000 := by
     have : ol.length <= nl.length := by rw [<- hol]; exact List.length_filter_le _ _
     omega
    have HON : Hid (∀ W p c lo hi, LnsAt W lo hi p ll nl -> Calls Tryz.prog 128 #[.slice p ll c, .int .u32 (id : Int)] W fun e w' => ∃ p c, e = .returned (.slice p lo1 c) /\ LnsAt w' 0 w'.heap.size p lo1 ol /\ W.grownBy w' none) := Za fun W p c lo hi h => (ownLines_c p ll c lo hi id nl W h hll2).mono fun e w' h => (by rw [hol] at h; exact h.new hlo1)
    rw [hol] at HQ2
    obtain ⟨kl, hkl0⟩ : ∃ kl, ownL ks id = kl := ⟨_, rfl⟩
    obtain ⟨lk, hlk⟩ : ∃ lk, kl.length = lk := ⟨_, rfl⟩
    have HOK : Hid (∀ W, w3.grownBy W none -> Calls Tryz.prog 128 #[.slice pk nk ck, .int .u32 (id : Int)] W fun e w' => ∃ p c, e = .returned (.slice p lk c) /\ LnsAt w' 0 w'.heap.size p lk kl /\ W.grownBy w' none) := Za fun W hg => (ownLines_c pk nk ck _ _ id ks W (HH3.out.calm hg).kills (by omega)).mono fun e w' h => (by rw [hkl0] at h; exact h.new hlk)
    obtain ⟨al, hal⟩ : ∃ al, addedL id a na = al := ⟨_, rfl⟩
    have HAD : Hid (∀ W, Calls Tryz.prog 130 #[.agg #[.string path, .slice pa na ca, .slice pe ne ce, .slice pk nk ck], .int .u32 (id : Int), .int .i64 (a : Int)] W fun e w' => ∃ p c, e = .returned (.slice p na c) /\ LnsAt w' 0 w'.heap.size p na al /\ W.grownBy w' none) := Za fun W => (added_c path pa na ca pe ne ce pk nk ck id a W (by omega) (by omega)).mono fun e w' h => (by rw [hal] at h; exact h.new (by rw [<- hal]; exact addedL_len _ _ _))
    rw [hal] at HQ2
    have HAM : Hid (∀ W p c lo hi p' c' lo' hi', LnsAt W lo hi p lo1 ol -> LnsAt W lo' hi' p' na al -> Calls Tryz.prog 127 #[.slice p lo1 c, .slice p' na c'] W fun e w' => e = .returned (.bool q2) /\ W.grownBy w' none) := Za fun W p c lo hi p' c' lo' hi' h1 h2 => amongL_c p p' lo1 na c c' lo hi lo' hi' ol al q2 W h1 h2 hlo2 (by omega) HQ2.out
    have HIN : Hid (q1 = true -> q2 = true -> lk = 0 -> HkIn (path, ts, es, ks) id a) := Za fun h1 h2 h3 => ⟨HQ1.out.1 h1, by show ∀ x ∈ ownL (namedL es ks) id, x ∈ addedL id a ts.length; rw [hnl, hol, show ts.length = na from HLA.out, hal]; exact HQ2.out.1 h2, by show (ownL ks id).length = 0; rw [hkl0, hlk, h3]⟩
    have HO1 : Hid (HkIn (path, ts, es, ks) id a -> q1 = true /\ q2 = true /\ lk = 0) := Za fun h => ⟨HQ1.out.2 h.ok, HQ2.out.2 (by have := h.own; rw [show (hAdds (path, ts, es, ks)).length = na from HLA.out, hal] at this; change ∀ x ∈ ownL (namedL es ks) id, x ∈ al at this; rw [hnl, hol] at this; exact this), by have := h.kill; change (ownL ks id).length = 0 at this; rw [hkl0, hlk] at this; exact this⟩
    clear hnl hll hol hlo1 hkl0 hlk hal HQ1 HQ2
    cases q1 with
    | false =>
     obtain rfl : r = false := HBAD.out fun h => by have := (HO1.out h).1; cases this
     have hT := Za (fun z : Later w3 => Yy (fun w' hg => HIS.out w' hg) z)
     obtain ⟨d0, d1, d2, d3⟩ := HBX.out.four
     have q5 := fun z : Later w3 => Zk d0 z
     have q6 := fun z : Later w3 => Zk d1 z
     have q7 := fun z : Later w3 => Zk d2 z
     have q8 := fun z : Later w3 => Zk d3 z
     have hne5 := later_one w3
     clear d0 d1 d2 d3 HBAD HO1 HIN HU2 HF HBX HNA HON HOK HAD HAM
     refine Zz0 (by kernel_rfl) (by kernel_rfl) ?_
     repeat (go_big_quiet_step ((first | (go_at_call 126; exact hT.out _))))
     refine Ya ?_
     rintro _ ⟨z, rfl⟩
     have HG9 := Za (Zb HG2.out (Zb HG4.out z.ok))
     go_wp2
     go_ret
     exact ⟨rfl, HG9.out⟩
    | true =>
     have hgr : w3.grownBy w3.drew none := Zo w3 1 none
     have henv := HBX.out.calm hgr
     have hN := lnsAt_nil w3.drew 0 0
     have hO := lnsAt_nil w3.drew 0 0
     have hA := lnsAt_nil w3.drew 0 0
     have hK := lnsAt_nil w3.drew 0 0
     cases q2 with
     | false =>
      obtain rfl : r = false := HBAD.out fun h => by have := (HO1.out h).2.1; cases this
      clear HBAD HO1 HIN HU2 HF
      refine wp_region_held (S := (fun w' => w'.cell? ⟨gX, 0, none⟩ = some (.string path) /\ w'.cell? ⟨gX, 1, none⟩ = some (.slice pa na ca) /\ w'.cell? ⟨gX, 2, none⟩ = some (.slice pe ne ce) /\ w'.cell? ⟨gX, 3, none⟩ = some (.slice pk nk ck))) (by kernel_rfl) ?_
      change wpAnyH _ _ _ _ _ _ _ _ w3.drew
      refine Zv (i := 0) (v := .agg #[.string path, .slice pa na ca, .slice pe ne ce, .slice pk nk ck]) rfl (by kernel_rfl) (by kernel_rfl) (by kernel_rfl) (fun _ _ _ h => h) (.inl ⟨by rfl, ?_⟩) henv.four ?_
      ·rintro w' ⟨s0, s1, s2, s3⟩
       go_simp
      simp only [Act.put, Yd, Yc, Ye, Yf, Yg]
      refine Yq 1 (by kernel_rfl) rfl ?_
      intro KK hKK
      go_simp
      refine (HIS.out _ hgr).mono ?_
      rintro e w5 ⟨rfl, hg5⟩
      have henv := henv.calm hg5
      have hgr := Zb hgr hg5
      have hN := hN.calm hg5
      have hO := hO.calm hg5
      have hA := hA.calm hg5
      have hK := hK.calm hg5
      clear hg5
      refine hKK _ _ henv.four ?_
      clear hKK KK
      refine Zv (i := 2) (v := .bool false) rfl (by kernel_rfl) (by kernel_rfl) (by kernel_rfl) (fun _ _ _ h => h) (.inl ⟨by rfl, ?_⟩) henv.four ?_
      ·rintro w' ⟨s0, s1, s2, s3⟩
       go_simp
      simp only [Act.put, Yd, Yh, Yc, Ye, Yf, Yg]
      refine Zv (i := 3) (v := .bool false) rfl (by kernel_rfl) (by kernel_rfl) (by kernel_rfl) (fun _ _ _ h => h) (.inl ⟨by rfl, ?_⟩) henv.four ?_
      ·rintro w' ⟨s0, s1, s2, s3⟩
       go_simp
      simp only [Act.put, Yd, Yh, Yc, Ye, Yf, Yg]
      refine Zv (i := 4) (v := .agg #[.string path, .slice pa na ca, .slice pe ne ce, .slice pk nk ck]) rfl (by kernel_rfl) (by kernel_rfl) (by kernel_rfl) (fun _ _ _ h => h) (.inl ⟨by rfl, ?_⟩) henv.four ?_
      ·rintro w' ⟨s0, s1, s2, s3⟩
       go_simp
      simp only [Act.put, Yd, Yh, Yc, Ye, Yf, Yg]
      refine Zv (i := 6) (v := .int .u32 (id : Int)) rfl (by kernel_rfl) (by kernel_rfl) (by kernel_rfl) (fun _ _ _ h => h) (.inl ⟨by rfl, ?_⟩) henv.four ?_
      ·rintro w' ⟨s0, s1, s2, s3⟩
       go_simp
      simp only [Act.put, Yd, Yh, Yc, Ye, Yf, Yg]
      refine Zv (i := 8) (v := .agg #[.string path, .slice pa na ca, .slice pe ne ce, .slice pk nk ck]) rfl (by kernel_rfl) (by kernel_rfl) (by kernel_rfl) (fun _ _ _ h => h) (.inl ⟨by rfl, ?_⟩) henv.four ?_
      ·rintro w' ⟨s0, s1, s2, s3⟩
       go_simp
      simp only [Act.put, Yd, Yh, Yc, Ye, Yf, Yg]
      refine Zv (i := 9) (v := .int .u32 (id : Int)) rfl (by kernel_rfl) (by kernel_rfl) (by kernel_rfl) (fun _ _ _ h => h) (.inl ⟨by rfl, ?_⟩) henv.four ?_
      ·rintro w' ⟨s0, s1, s2, s3⟩
       go_simp
      simp only [Act.put, Yd, Yh, Yc, Ye, Yf, Yg]
      refine Zv (i := 10) (v := .int .i64 (a : Int)) rfl (by kernel_rfl) (by kernel_rfl) (by kernel_rfl) (fun _ _ _ h => h) (.inl ⟨by rfl, ?_⟩) henv.four ?_
      ·rintro w' ⟨s0, s1, s2, s3⟩
       go_simp
      simp only [Act.put, Yd, Yh, Yc, Ye, Yf, Yg]
      refine Yq 5 (by kernel_rfl) rfl ?_
      intro KK hKK
      go_simp
      refine (HNA.out _ hgr).mono ?_
      rintro e w5 ⟨p1, c1, rfl, hat, hg5⟩
      have henv := henv.calm hg5
      have hgr := Zb hgr hg5
      have hN := hat
      have hO := hO.calm hg5
      have hA := hA.calm hg5
      have hK := hK.calm hg5
      clear hg5
      clear hat
      refine hKK _ _ henv.four ?_
      clear hKK KK
      refine Yq 7 (by kernel_rfl) rfl ?_
      intro KK hKK
      go_simp
      refine (HON.out _ _ _ _ _ hN).mono ?_
      rintro e w5 ⟨p2, c2, rfl, hat, hg5⟩
      have henv := henv.calm hg5
      have hgr := Zb hgr hg5
      have hN := hN.calm hg5
      have hO := hat
      have hA := hA.calm hg5
      have hK := hK.calm hg5
      clear hg5
      clear hat
      refine hKK _ _ henv.four ?_
      clear hKK KK
      refine Yq 11 (by kernel_rfl) rfl ?_
      intro KK hKK
      go_simp
      refine (HAD.out _).mono ?_
      rintro e w5 ⟨p3, c3, rfl, hat, hg5⟩
      have henv := henv.calm hg5
      have hgr := Zb hgr hg5
      have hN := hN.calm hg5
      have hO := hO.calm hg5
      have hA := hat
      have hK := hK.calm hg5
      clear hg5
      clear hat
      refine hKK _ _ henv.four ?_
      clear hKK KK
      refine Yq 12 (by kernel_rfl) rfl ?_
      intro KK hKK
      go_simp
      refine (HAM.out _ _ _ _ _ _ _ _ _ hO hA).mono ?_
      rintro e w5 ⟨rfl, hg5⟩
      have henv := henv.calm hg5
      have hgr := Zb hgr hg5
      have hN := hN.calm hg5
      have hO := hO.calm hg5
      have hA := hA.calm hg5
      have hK := hK.calm hg5
      clear hg5
      refine hKK _ _ henv.four ?_
      clear hKK KK
      refine Zv (i := 13) (v := .bool true) rfl (by kernel_rfl) (by kernel_rfl) (by kernel_rfl) (fun _ _ _ h => h) (.inl ⟨by rfl, ?_⟩) henv.four ?_
      ·rintro w' ⟨s0, s1, s2, s3⟩
       go_simp
      simp only [Act.put, Yd, Yh, Yc, Ye, Yf, Yg]
      refine Zv (i := 14) (v := .bool true) rfl (by kernel_rfl) (by kernel_rfl) (by kernel_rfl) (fun _ _ _ h => h) (.inl ⟨by rfl, ?_⟩) henv.four ?_
      ·rintro w' ⟨s0, s1, s2, s3⟩
       go_simp
      simp only [Act.put, Yd, Yh, Yc, Ye, Yf, Yg]
      refine Zv (i := 15) (v := .bool true) rfl (by kernel_rfl) (by kernel_rfl) (by kernel_rfl) (fun _ _ _ h => h) (.inl ⟨by rfl, ?_⟩) henv.four ?_
      ·rintro w' ⟨s0, s1, s2, s3⟩
       go_simp
      simp only [Act.put, Yd, Yh, Yc, Ye, Yf, Yg]
      refine Zv (i := 16) (v := undef) rfl (by kernel_rfl) (by kernel_rfl) (by kernel_rfl) (fun _ _ _ h => h) (.inr ⟨by rfl, rfl⟩) henv.four ?_
      simp only [Act.put, Yd, Yh, Yc, Ye, Yf, Yg]
      refine Zv (i := 17) (v := undef) rfl (by kernel_rfl) (by kernel_rfl) (by kernel_rfl) (fun _ _ _ h => h) (.inr ⟨by rfl, rfl⟩) henv.four ?_
      simp only [Act.put, Yd, Yh, Yc, Ye, Yf, Yg]
      refine Zv (i := 18) (v := undef) rfl (by kernel_rfl) (by kernel_rfl) (by kernel_rfl) (fun _ _ _ h => h) (.inr ⟨by rfl, rfl⟩) henv.four ?_
      simp only [Act.put, Yd, Yh, Yc, Ye, Yf, Yg]
      refine Zv (i := 19) (v := undef) rfl (by kernel_rfl) (by kernel_rfl) (by kernel_rfl) (fun _ _ _ h => h) (.inr ⟨by rfl, rfl⟩) henv.four ?_
      simp only [Act.put, Yd, Yh, Yc, Ye, Yf, Yg]
      refine Zv (i := 20) (v := undef) rfl (by kernel_rfl) (by kernel_rfl) (by kernel_rfl) (fun _ _ _ h => h) (.inr ⟨by rfl, rfl⟩) henv.four ?_
      simp only [Act.put, Yd, Yh, Yc, Ye, Yf, Yg]
      refine Zv (i := 21) (v := undef) rfl (by kernel_rfl) (by kernel_rfl) (by kernel_rfl) (fun _ _ _ h => h) (.inr ⟨by rfl, rfl⟩) henv.four ?_
      simp only [Act.put, Yd, Yh, Yc, Ye, Yf, Yg]
      refine Zv (i := 22) (v := .bool true) rfl (by kernel_rfl) (by kernel_rfl) (by kernel_rfl) (fun _ _ _ h => h) (.inl ⟨by rfl, ?_⟩) henv.four ?_
      ·rintro w' ⟨s0, s1, s2, s3⟩
       go_simp
      simp only [Act.put, Yd, Yh, Yc, Ye, Yf, Yg]
      refine Vm (by kernel_rfl) ?_ _
      have HG5 := Za (Zb HG2.out (Zb HG4.out hgr))
      clear henv hgr hN hO hA hK
      go_wp2
      go_ret
      exact ⟨rfl, HG5.out⟩
     | true =>
      by_cases hlk0 : lk = 0
      ·subst hlk0
       have f0 : decide ((0 : Int) < ((0 : Nat) : Int)) = false := by decide
       have HU3 := Za (HU2.out (HIN.out rfl rfl rfl))
       clear HBAD HO1 HIN HU2
       go_region_held3 (fun w' => w'.cell? ⟨gX, 0, none⟩ = some (.string path) /\ w'.cell? ⟨gX, 1, none⟩ = some (.slice pa na ca) /\ w'.cell? ⟨gX, 2, none⟩ = some (.slice pe ne ce) /\ w'.cell? ⟨gX, 3, none⟩ = some (.slice pk nk ck)) (first | exact henv.four | go_keep)
        (first | (go_at_call 126; with_reducible refine (HIS.out _ hgr).mono ?_; rintro e w5 ⟨rfl, hg5⟩; have henv := henv.calm hg5; have hgr := Zb hgr hg5; have hN := hN.calm hg5; have hO := hO.calm hg5; have hA := hA.calm hg5; have hK := hK.calm hg5; clear hg5) | (go_at_call 129; with_reducible refine (HNA.out _ hgr).mono ?_; rintro e w5 ⟨p1, c1, rfl, hat, hg5⟩; have henv := henv.calm hg5; have hgr := Zb hgr hg5; have hN := hat; have hO := hO.calm hg5; have hA := hA.calm hg5; have hK := hK.calm hg5; clear hg5; clear hat) | (go_at_call 128; with_reducible refine (HON.out _ _ _ _ _ hN).mono ?_; rintro e w5 ⟨p2, c2, rfl, hat, hg5⟩; have henv := henv.calm hg5; have hgr := Zb hgr hg5; have hN := hN.calm hg5; have hO := hat; have hA := hA.calm hg5; have hK := hK.calm hg5; clear hg5; clear hat) | (go_at_call 128; with_reducible refine (HOK.out _ hgr).mono ?_; rintro e w5 ⟨p4, c4, rfl, hat, hg5⟩; have henv := henv.calm hg5; have hgr := Zb hgr hg5; have hN := hN.calm hg5; have hO := hO.calm hg5; have hA := hA.calm hg5; have hK := hat; clear hg5; clear hat) | (go_at_call 130; with_reducible refine (HAD.out _).mono ?_; rintro e w5 ⟨p3, c3, rfl, hat, hg5⟩; have henv := henv.calm hg5; have hgr := Zb hgr hg5; have hN := hN.calm hg5; have hO := hO.calm hg5; have hA := hat; have hK := hK.calm hg5; clear hg5; clear hat) | (go_at_call 127; with_reducible refine (HAM.out _ _ _ _ _ _ _ _ _ hO hA).mono ?_; rintro e w5 ⟨rfl, hg5⟩; have henv := henv.calm hg5; have hgr := Zb hgr hg5; have hN := hN.calm hg5; have hO := hO.calm hg5; have hA := hA.calm hg5; have hK := hK.calm hg5; clear hg5))
       all_goals (
        have HG5 := Za (Zb HG4.out hgr)
        have y1 := (henv.four).2.1
        clear henv hgr hN hO hA hK
        go_wp2
        exact ⟨⟨k + 1, by omega, by go_num, by rw [HF.out]; go_num, HU3, HG5⟩, by simp [intOf]; omega⟩)
      ·have f0 : decide ((0 : Int) < (lk : Int)) = true := Zg (by omega)
       have f1 : decide (0 < lk) = true := Zg (by omega)
       obtain rfl : r = false := HBAD.out fun h => by exact hlk0 (HO1.out h).2.2
       clear HBAD HO1 HIN HU2 HF
       go_region_held3 (fun w' => w'.cell? ⟨gX, 0, none⟩ = some (.string path) /\ w'.cell? ⟨gX, 1, none⟩ = some (.slice pa na ca) /\ w'.cell? ⟨gX, 2, none⟩ = some (.slice pe ne ce) /\ w'.cell? ⟨gX, 3, none⟩ = some (.slice pk nk ck)) (first | exact henv.four | go_keep)
        (first | (go_at_call 126; with_reducible refine (HIS.out _ hgr).mono ?_; rintro e w5 ⟨rfl, hg5⟩; have henv := henv.calm hg5; have hgr := Zb hgr hg5; have hN := hN.calm hg5; have hO := hO.calm hg5; have hA := hA.calm hg5; have hK := hK.calm hg5; clear hg5) | (go_at_call 129; with_reducible refine (HNA.out _ hgr).mono ?_; rintro e w5 ⟨p1, c1, rfl, hat, hg5⟩; have henv := henv.calm hg5; have hgr := Zb hgr hg5; have hN := hat; have hO := hO.calm hg5; have hA := hA.calm hg5; have hK := hK.calm hg5; clear hg5; clear hat) | (go_at_call 128; with_reducible refine (HON.out _ _ _ _ _ hN).mono ?_; rintro e w5 ⟨p2, c2, rfl, hat, hg5⟩; have henv := henv.calm hg5; have hgr := Zb hgr hg5; have hN := hN.calm hg5; have hO := hat; have hA := hA.calm hg5; have hK := hK.calm hg5; clear hg5; clear hat) | (go_at_call 128; with_reducible refine (HOK.out _ hgr).mono ?_; rintro e w5 ⟨p4, c4, rfl, hat, hg5⟩; have henv := henv.calm hg5; have hgr := Zb hgr hg5; have hN := hN.calm hg5; have hO := hO.calm hg5; have hA := hA.calm hg5; have hK := hat; clear hg5; clear hat) | (go_at_call 130; with_reducible refine (HAD.out _).mono ?_; rintro e w5 ⟨p3, c3, rfl, hat, hg5⟩; have henv := henv.calm hg5; have hgr := Zb hgr hg5; have hN := hN.calm hg5; have hO := hO.calm hg5; have hA := hat; have hK := hK.calm hg5; clear hg5; clear hat) | (go_at_call 127; with_reducible refine (HAM.out _ _ _ _ _ _ _ _ _ hO hA).mono ?_; rintro e w5 ⟨rfl, hg5⟩; have henv := henv.calm hg5; have hgr := Zb hgr hg5; have hN := hN.calm hg5; have hO := hO.calm hg5; have hA := hA.calm hg5; have hK := hK.calm hg5; clear hg5))
       all_goals (
        have HG5 := Za (Zb HG2.out (Zb HG4.out hgr))
        clear henv hgr hN hO hA hK
        go_wp2
        go_ret
        exact ⟨rfl, HG5.out⟩)
   ·obtain rfl : n = k := by omega
    have k1 : ¬ ((n : Int) < n) := by omega
    obtain rfl : r = true := HRI.out.2 fun i hi => HU.out i (by rw [<- HL.out]; exact hi) hi
    go_wp2
    go_ret
    exact ⟨rfl, Zb HG2.out HGR.out⟩
end Go.Proofs.YtnknejokneddbaaGreatDoor
