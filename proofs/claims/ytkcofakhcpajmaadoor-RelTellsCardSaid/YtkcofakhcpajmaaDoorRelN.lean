/- The contract of Only of package rel. -/
import Derived.Test.YtkcofakhcpajmaaDoorRelO
namespace Go.Proofs.YtkcofakhcpajmaaDoor
open Go.RowKit

/-- A slice of bools that reads as l, in a block from lo to hi. -/
structure BoolsAt (w : World) (lo hi : Nat) (p : Option Addr) (n : Nat) (l : List Bool) : Prop where
  len : l.length = n
  cell : 0 < n → ∃ b off, p = some ⟨b, off, none⟩ ∧ lo ≤ b ∧ b < hi ∧ hi ≤ w.heap.size ∧ ∀ k, k < n → w.cell? ⟨b, off + k, none⟩ = some (.bool (l[k]?.getD false))

theorem BoolsAt.calm {w w' : World} {lo hi : Nat} {p : Option Addr} {n : Nat} {l : List Bool} (h : BoolsAt w lo hi p n l) (hg : w.grownBy w' none) : BoolsAt w' lo hi p n l := by
  refine ⟨h.len, fun hn => ?_⟩
  obtain ⟨b, off, hp, h1, h2, h3, hc⟩ := h.cell hn
  have hb : w'.heap[b]? = w.heap[b]? := hg.block b (by omega) (by simp)
  exact ⟨b, off, hp, h1, h2, Nat.le_trans h3 hg.size, fun k hk => (World.cell?_of_block (a := ⟨b, off + k, none⟩) hb).trans (hc k hk)⟩

theorem BoolsAt.apart {w w' : World} {lo hi lo' hi' : Nat} {p : Option Addr} {n : Nat} {l : List Bool} (h : BoolsAt w lo hi p n l) (hg : Kept lo' hi' w w') (hd : hi ≤ lo' ∨ hi' ≤ lo) : BoolsAt w' lo hi p n l := by
  refine ⟨h.len, fun hn => ?_⟩
  obtain ⟨b, off, hp, h1, h2, h3, hc⟩ := h.cell hn
  have hb : w'.heap[b]? = w.heap[b]? := hg.block b (by omega) (by omega)
  exact ⟨b, off, hp, h1, h2, Nat.le_trans h3 hg.size, fun k hk => (World.cell?_of_block (a := ⟨b, off + k, none⟩) hb).trans (hc k hk)⟩

/-- The kept elements ahead of k. -/
def keepS (keep : List Bool) (k a : Nat) : Bool := decide (a < k) && keptB keep a
theorem keepS_zero (keep : List Bool) (a : Nat) : keepS keep 0 a = false := by simp [keepS]
theorem keepS_succ (keep : List Bool) (n k : Nat) (hk : k < n) (a : Nat) : putS (keepS keep k) n (k : Int) (keptB keep k) a = keepS keep (k + 1) a := by
  unfold putS keepS
  by_cases e : a = k
  · subst e; simp [hk]
  · have e' : ¬ ((a : Int) = (k : Int) ∧ a < n) := by omega
    rw [if_neg e']
    by_cases h : a < k
    · have : a < k + 1 := by omega
      simp [h, this]
    · have : ¬ a < k + 1 := by omega
      simp [h, this]

/-- The rows of the first j kept elements. -/
def onlyJ (keep : List Bool) (n : Nat) (R : Nat → Nat → Bool) (xs : List Nat) (j a b : Nat) : Bool := decide (a ∈ xs.take j) && (R a b && keepS keep n b)

theorem onlyJ_supp {n : Nat} {R : Nat → Nat → Bool} (h : Supp n R) (keep : List Bool) (xs : List Nat) (j : Nat) : Supp n (onlyJ keep n R xs j) := fun a b e => by
  unfold onlyJ at e
  simp only [Bool.and_eq_true] at e
  exact h a b e.2.1
theorem onlyJ_all {n : Nat} {R : Nat → Nat → Bool} (h : Supp n R) (keep : List Bool) (xs : List Nat) (hx : xs = onL (keepS keep n) n) (j : Nat) (hj : xs.length ≤ j) : onlyJ keep n R xs j = onlyR keep R := by
  funext a b
  unfold onlyJ onlyR
  rw [List.take_of_length_le hj, hx]
  cases hr : R a b
  · simp
  · obtain ⟨ha, hb⟩ := h a b hr
    simp [onL, keepS, ha, hb]

theorem onlyJ_succ (keep : List Bool) (n : Nat) (R : Nat → Nat → Bool) (xs : List Nat) (j : Nat) (hj : j < xs.length) (x y : Nat) : onlyJ keep n R xs (j + 1) x y = if x = xs[j]?.getD 0 then (R x y && keepS keep n y) else onlyJ keep n R xs j x y := by
  unfold onlyJ
  rw [List.take_succ_eq_append_getElem hj, List.getElem?_eq_getElem hj, Option.getD_some]
  by_cases e : x = xs[j]
  · rw [if_pos e]
    have : x ∈ List.take j xs ++ [xs[j]] := List.mem_append.2 (.inr (by rw [e]; exact List.mem_singleton.2 rfl))
    simp only [this, decide_true, Bool.true_and]
  · rw [if_neg e]
    have : (x ∈ List.take j xs ++ [xs[j]]) ↔ x ∈ List.take j xs := by rw [List.mem_append, List.mem_singleton]; exact ⟨fun h => h.resolve_right e, .inl⟩
    simp only [this]
theorem onlyJ_row {n : Nat} {R : Nat → Nat → Bool} (h : Supp n R) (keep : List Bool) (xs : List Nat) (j a y : Nat) : ((onlyJ keep n R xs j a y || (R a y && decide (y < n))) && keepS keep n y) = (R a y && keepS keep n y) := by
  unfold onlyJ
  cases hr : R a y
  · simp
  · have := (h a y hr).2
    cases decide (a ∈ List.take j xs) <;> cases keepS keep n y <;> simp [this]

/-- A row of a relation under the join with another row, and the cut with a third one. -/
theorem Rows'.at {w : World} {lo hi p pb n k : Nat} {bs ws : Nat → Nat} {R : Nat → Nat → Bool} (h : Rows' w lo hi p pb n k bs ws R) {a : Nat} (ha : a < k) : IsSet w (bs a) (ws a) n (R a) := h.row a ha

theorem IsSet.keptIn {w w' : World} {b wb n lo hi : Nat} {S : Nat → Bool} (h : IsSet w b wb n S) (hg : Kept lo hi w w') (h1 : ¬ (lo ≤ b ∧ b < hi)) (h2 : ¬ (lo ≤ wb ∧ wb < hi)) : IsSet w' b wb n S := by
  obtain ⟨ws, hr, ho⟩ := h
  exact ⟨ws, hr.kept hg.size (hg.block b hr.hb h1) (hg.block wb hr.hw h2), ho⟩

theorem IsSet.lt {w : World} {b wb n : Nat} {S : Nat → Bool} (h : IsSet w b wb n S) : b < w.heap.size ∧ wb < w.heap.size := by
  obtain ⟨ws, hr, _⟩ := h
  exact ⟨hr.hb, hr.hw⟩

theorem relLen_r (p pb n cap : Nat) (w : World) (hc : w.cell? ⟨p, 0, none⟩ = some (.slice (some ⟨pb, 0, none⟩) n cap)) : Calls Tryd.prog 12 #[.pointer (some ⟨p, 0, none⟩)] w fun e w' => e = .returned (.int .i64 n) ∧ w' = w := by
  go_enter Tryd.func12, Tryd.ntmps12
  go_wp2
  go_ret
  exact ⟨rfl, rfl⟩

set_option maxRecDepth 100000 in
set_option maxHeartbeats 4000000 in
theorem relOnly_c (lo hi p n : Nat) (R : Nat → Nat → Bool) (kp : Option Addr) (K c klo khi : Nat) (keep : List Bool) (w : World) (h : IsRel w lo hi p n R) (hk : BoolsAt w klo khi kp K keep) (hK : K ≤ 1000000) (ht : Tab w) :
    Calls Tryd.prog 19 #[.pointer (some ⟨p, 0, none⟩), .slice kp K c] w (MadePost n (onlyR keep R) w) := by
  have hn := h.small
  have htop := h.top
  have HSU := Lib.hid h.supp
  have HI := Lib.hid h
  have HK := Lib.hid hk
  have HLEN := Lib.hid hk.len
  have HT := Lib.hid ht
  obtain ⟨_, _, pb, bs, ws, h3⟩ := h
  obtain ⟨cap, hc⟩ := h3.c0
  have H3 := Lib.hid h3
  have hp2 : p < w.heap.size := by have := h3.p2; omega
  clear h3 hk ht
  go_enter Tryd.func19, Tryd.ntmps19
  go_wp2_with fail
  refine (relLen_r p pb n cap _ hc).mono ?_
  rintro e w' ⟨rfl, h9⟩
  subst w'
  go_wp2_with fail
  refine (new_mid n _ (by omega)).mono ?_
  rintro e w1 ⟨kb, kwb, rfl, hkb, hkwb, hks, hg1⟩
  have hc1 : w1.cell? ⟨p, 0, none⟩ = some (.slice (some ⟨pb, 0, none⟩) n cap) := (World.cell?_of_block (a := ⟨p, 0, none⟩) (hg1.block p hp2 (by simp))).trans hc
  have HG1 := Lib.hid hg1
  have HKS := Lib.hid hks
  clear hg1 hks
  go_wp2_with fail
  refine (relLen_r p pb n cap _ hc1).mono ?_
  rintro e w' ⟨rfl, h9⟩
  subst w'
  rcases Nat.lt_or_ge K n with hmin | hmin
  all_goals
    go_wp2_with fail
    go_loopw [18] (fun i wr => ∃ k : Nat, k ≤ n ∧ k ≤ K ∧ i = .int .i64 k ∧ IsSet wr kb kwb n (keepS keep k) ∧ w.grownBy wr none) (fun i _ => K - (intOf i).toNat)
    case atStart => exact ⟨0, Nat.zero_le _, Nat.zero_le _, rfl, HKS.out.congr fun a => (keepS_zero keep a).symm, HG1.out⟩
    case round =>
      obtain ⟨k, hk1, hk2, rfl, hset, hgr⟩ := hrel
      by_cases hkm : k < n ∧ k < K
      · obtain ⟨hkn, hkK⟩ := hkm
        obtain ⟨b, off, rfl, q1, q2, q3, hcs⟩ := (HK.out.calm hgr).cell (by omega)
        have hck := hcs k hkK
        have HGR := Lib.hid hgr
        have HSET := Lib.hid hset
        have HPS := Lib.hid (keepS_succ keep n k hkn)
        have HKB : Hid (keptB keep k = keep[k]?.getD false) := Lib.hid rfl
        clear hcs hgr hset
        generalize keep[k]?.getD false = kv at *
        go_wp2_with fail
        refine (put_c kb kwb n k kv _ _ HSET.out).mono ?_
        rintro e w2 ⟨⟨v, rfl⟩, hs2, hg2⟩
        have HE := Lib.hid (show IsSet w2 kb kwb n (keepS keep (k + 1)) ∧ w.grownBy w2 none from ⟨hs2.congr fun a => by rw [← HKB.out]; exact HPS.out a, grownBy_new HGR.out hg2 hkwb⟩)
        clear hs2 hg2
        go_wp2
        exact ⟨⟨k + 1, by omega, by omega, by go_num, HE.out.1, HE.out.2⟩, by simp [intOf]; omega⟩
      · have hlast : ∀ a, keepS keep k a = keepS keep n a := by
          intro a
          unfold keepS
          by_cases ha : a < k
          · have : a < n := by omega
            simp [ha, this]
          · by_cases ha2 : a < n
            · have : keptB keep a = false := by
                unfold keptB
                rw [List.getElem?_eq_none (by rw [HLEN.out]; omega)]
                rfl
              simp [this]
            · simp [ha, ha2]
        have HSET := Lib.hid (hset.congr hlast)
        have hc2 : wr.cell? ⟨p, 0, none⟩ = some (.slice (some ⟨pb, 0, none⟩) n cap) := (World.cell?_of_block (a := ⟨p, 0, none⟩) (hgr.block p hp2 (by simp))).trans hc
        have HGR := Lib.hid hgr
        clear hset hlast hgr
        first | (have hno : ¬ k < n := by omega) | (have hno : ¬ k < K := by omega)
        go_wp2_with fail
        refine (relLen_r p pb n cap _ hc2).mono ?_
        rintro e w' ⟨rfl, h9⟩
        subst w'
        go_wp2_with fail
        refine (relNew_mid n _ hn).mono ?_
        rintro e w3 ⟨q, rfl, hr3, hg3⟩
        have HR3 := Lib.hid hr3
        have HG3 := Lib.hid (grownBy_trans HGR.out hg3)
        have hkl := HSET.out.lt
        have HSET3 := Lib.hid (HSET.out.grown hg3 (by simp) (by simp))
        have hlo3 := hg3.size
        have hlw := HGR.out.size
        clear hr3 hg3
        go_wp2_with fail
        refine (all_c kb kwb n (keepS keep n) _ HSET3.out (HT.out.grown HG3.out (by simp))).mono ?_
        rintro e w4 h9
        obtain ⟨g, gc, cur, rfl, hgb, hgc, hcur, hg4⟩ := allPost_row h9
        have HR4 := Lib.hid (HR3.out.calm hg4)
        have HSET4 := Lib.hid (HSET3.out.grown hg4 (by simp) (by simp))
        have HG4 := Lib.hid (grownBy_trans HG3.out hg4)
        have HCUR := Lib.hid hcur
        have HGC := Lib.hid hgc
        have hxs : (onL (keepS keep n) n).length ≤ 200 := Nat.le_trans (onL_le _ _) hn
        have HXS : Hid (∀ j, j < (onL (keepS keep n) n).length → (onL (keepS keep n) n)[j]?.getD 0 < n) := Lib.hid (fun j hj => by
          rw [List.getElem?_eq_getElem hj]
          have := List.getElem_mem hj
          unfold onL at this
          exact List.mem_range.1 (List.mem_filter.1 this).1)
        have hs4 := hg4.size
        clear h9 hcur hgc hg4 hno
        generalize hX : onL (keepS keep n) n = xs at *
        have HX := Lib.hid hX
        clear hX
        generalize hXL : xs.length = XL at *
        have HXL := Lib.hid hXL
        clear hXL
        have hgl : g < w4.heap.size := (Array.getElem?_eq_some_iff.1 HGC.out).1
        have HHI : Hid (w3.heap.size ≤ w4.heap.size) := Lib.hid hs4
        generalize hl3 : wr.heap.size = l3 at *
        clear hl3
        generalize hh3 : w3.heap.size = h3 at *
        clear hh3
        go_wp2_with fail
        go_loopw [35] (fun i wi => ∃ j : Nat, j ≤ XL ∧ i = .int .i64 j ∧ IsRel wi l3 h3 q n (onlyJ keep n R xs j) ∧ Kept l3 h3 w4 wi) (fun i _ => XL - (intOf i).toNat)
        case atStart =>
          refine ⟨0, Nat.zero_le _, rfl, ?_, Kept.refl _ _ _⟩
          have e : onlyJ keep n R xs 0 = fun _ _ => false := by funext a b; simp [onlyJ]
          rw [e]
          exact HR4.out
        case round =>
          obtain ⟨j, hj, rfl, hrelj, hkj⟩ := hrel
          by_cases hjl : j < XL
          · have HKJ := Lib.hid hkj
            have hcell : wr.cell? ⟨g, j, none⟩ = some (.int .i64 (xs[j]?.getD 0 : Nat)) := by
              have hb := (hkj.block g hgl (by omega)).trans HGC.out
              simp only [World.cell?, hb]
              exact HCUR.out j hjl
            have han := HXS.out j hjl
            have hT := Lib.hid (onlyJ_succ keep n R xs j (by rw [HXL.out]; exact hjl))
            have hTa := Lib.hid (onlyJ_row HSU.out keep xs j (xs[j]?.getD 0))
            generalize xs[j]?.getD 0 = a at *
            generalize hTj : onlyJ keep n R xs j = T at *
            clear hTj
            have hsu := hrelj.supp
            obtain ⟨_, _, pb2, bs2, ws2, hrows⟩ := hrelj
            obtain ⟨cap2, hcq⟩ := hrows.c0
            have hcp2 := hrows.cp a han
            have hin := hrows.inb a han
            have HROWS := Lib.hid hrows
            have hrw : Rows' wr lo hi p pb n n bs ws R := (H3.out.kept HG4.out.size fun i _ h2 => HG4.out.block i (by omega) (by simp)).kept hkj.size fun i _ h2 => hkj.block i (by have := HG4.out.size; omega) (by omega)
            obtain ⟨capr, hcr⟩ := hrw.c0
            have hcpr := hrw.cp a han
            have hinr := hrw.inb a han
            have HRW := Lib.hid (hrw.row a han)
            have HKW := Lib.hid (HSET4.out.keptIn hkj (by omega) (by omega))
            clear hrows hrw hkj
            have a0 : (0 : Int) ≤ a := by omega
            have a1 : (a : Int) < n := by omega
            go_wp2
            refine wp_region_still_tail 14 (by kernel_rfl) (by kernel_rfl) ?_
            simp only [List.take_succ_cons, List.take_zero, List.drop_succ_cons, List.drop_zero]
            repeat still_step
            refine wpStill_nil ?_
            change wpList _ _ _ _ _ wr.drew
            go_wp2_with fail
            refine (or_c (bs2 a) (ws2 a) n n (some ⟨bs a, 0, none⟩) (T a) (R a) _ ((HROWS.out.row a han).drewN 1) (.inr ⟨bs a, ws a, rfl, by omega, by omega, HRW.out.drewN 1⟩)).mono ?_
            rintro e w5 ⟨rfl, h5, hg5⟩
            have hg5' := grownBy_trans (grownBy_drewN wr 1 (some (ws2 a))) hg5
            have hr5 := HROWS.out.put (T := fun x y => if x = a then T a y || (R a y && decide (y < n)) else T x y) han hg5' (by simpa using h5) (fun x hx => by funext y; simp [hx])
            have HR5 := Lib.hid hr5
            obtain ⟨cap5, hc5⟩ := hr5.c0
            have hcp5 := hr5.cp a han
            have HKW5 := Lib.hid (HKW.out.keptIn (Kept.row hg5' hin.2.2.1 hin.2.2.2) (by omega) (by omega))
            have HG5 := Lib.hid hg5'
            clear h5 hg5 hg5' hr5
            go_wp2_with fail
            refine (and_c (bs2 a) (ws2 a) n n (some ⟨kb, 0, none⟩) _ (keepS keep n) _ (HR5.out.row a han) (.inr ⟨kb, kwb, rfl, by omega, by omega, HKW5.out⟩)).mono ?_
            rintro e w6 ⟨⟨v, rfl⟩, h6, hg6⟩
            have HE : Hid (IsRel w6 l3 h3 q n (onlyJ keep n R xs (j + 1)) ∧ Kept l3 h3 w4 w6) := by
              have hg := grownBy_trans HG5.out hg6
              refine Lib.hid ⟨⟨hn, onlyJ_supp HSU.out keep xs (j + 1), pb2, bs2, ws2, HROWS.out.put han hg (h6.congr fun y => ?_) ?_⟩, HKJ.out.trans (Kept.row hg hin.2.2.1 hin.2.2.2)⟩
              · rw [hT.out, if_pos rfl, ← hTa.out y]
                simp
              · intro x hx
                funext y
                rw [hT.out, if_neg hx]
            clear h6 hg6
            go_wp2
            exact ⟨⟨j + 1, by omega, by go_num, HE.out.1, HE.out.2⟩, by simp [intOf]; omega⟩
          · obtain rfl : j = XL := by omega
            rw [onlyJ_all HSU.out keep xs HX.out.symm j (by rw [HXL.out]; exact Nat.le_refl _)] at hrelj
            have hl : w.heap.size ≤ l3 := by omega
            have HE := Lib.hid (show MadePost n (onlyR keep R) w (.returned (.pointer (some ⟨q, 0, none⟩))) wr from ⟨q, rfl, hrelj.outer hl hrelj.top, Kept.new HG4.out hkj hl⟩)
            clear hrelj hkj
            go_wp2
            go_ret
            exact HE.out

end Go.Proofs.YtkcofakhcpajmaaDoor
