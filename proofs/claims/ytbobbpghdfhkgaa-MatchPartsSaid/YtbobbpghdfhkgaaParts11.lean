/- The walk of the statement MatchParts: at every input it answers true and leaves all that lay as it lay. -/
import Derived.Test.YtbobbpghdfhkgaaMatK
import Derived.Test.YtbobbpghdfhkgaaApart11
import Derived.Deep.RegionHeldLaw
namespace Go.Proofs.Ytbobbpghdfhkgaa
open Go.RowKit

/-- append of a slice that may be nil, as one step of a region that draws. -/
theorem step_append_src {P : Program} {ops : Array Oper} {o : Oper} {a : Act} {w : World} {K : Act → World → Prop} {Q : Exit → Act → World → Prop} {E : Prop} (hgd : o.guard = none) (s x : Operand) (t : TypeId)
    (ho : o.op = .call { callee := .builtin .append, args := #[s, x], argTypes := #[t, t] })
    (base : Nat) (e : TypeId) (i : TypeInfo) (z : Value) (size bytes : Nat) (ht : P.underlying t = some (.slice e)) (hi : P.info? e = some i) (hz : i.zero = some z)
    (hsize : i.size = size) (hby : i.bytes = bytes) (hzs : z.cells.size = size) (hsz : 0 < size)
    (v : Value) (n : Nat) (xs : List Value) (hs : a.eval s = v) (hown : w.ownsRow base e size v n xs)
    (px : Option Addr) (m c : Nat) (news : List Value) (hx : a.eval x = .slice px m c) (hl : news.length = m * size)
    (hsrc : (px = none ∧ m = 0 ∧ c = 0) ∨ ∃ ad, px = some ad ∧ ∀ j u, news[j]? = some u → w.cell? (ad.add j) = some u) (h1 : ∀ u ∈ news, u.oneCell' = true)
    (h63 : n + m ≤ maxLen) (hbytes : (n + m) * bytes ≤ 140737488355328) (hbase : base ≤ w.heap.size)
    (h : ∀ p' c' w', w'.ownsRow base e size (.slice p' (n + m) c') (n + m) (xs ++ news) → w.grownBy w' v.ownBlock → K (a.put o.dst (.slice p' (n + m) c')) w') :
    if Region.wanted o (yielded ops a.tmps) = true then Oper.wp P o a w K Q else E := by
  have hw : Region.wanted o (yielded ops a.tmps) = true := by simp [Region.wanted, hgd]
  rw [if_pos hw]
  rcases hsrc with ⟨rfl, rfl, rfl⟩ | ⟨ad, rfl, hnews⟩
  · have hnl : news = [] := List.eq_nil_of_length_eq_zero (by omega)
    subst hnl
    obtain ⟨p', c', rfl⟩ := ownsRow_sl hown
    have hrun := run_append_owned_none (P := P) (w := w) base t o.type e i size ht hi (.slice p' n c') n xs hown
    unfold Oper.wp
    simp [execOp, ho, resolve, invoke, builtin, hs, hx, hrun, Result.andThen]
    exact h p' c' w (by simpa using hown) (grownBy_refl _ _)
  · refine wp_append_own w s x t ho base e i z size bytes ht hi hz hsize hby hzs hsz v n xs hs hown ad m c news hx hl hnews h1 h63 hbytes hbase fun v' w' h2 h3 _ => ?_
    obtain ⟨p', c', rfl⟩ := ownsRow_sl h2
    exact h p' c' w' h2 h3

set_option maxHeartbeats 1000000 in
theorem texts0_c (p : Option Addr) (c : Nat) (w : World) : Calls Try.prog 9 #[.slice p 0 c] w fun e w' => e = .returned (.slice none 0 0) ∧ w' = w := by
  go_enter Try.func9, Try.ntmps9
  go_wp2
  refine wp_loop_rounds 1 ?_
  rw [rounds_succ]
  go_wp2
  go_ret
  exact ⟨rfl, rfl⟩
/-- .. and that a nil slice has no room. -/
theorem texts2_c (p : Option Addr) (n c lo hi : Nat) (l : List Nat) (w : World) (h : UsAt w lo hi p n l) (hn : n ≤ 1000) :
    Calls Try.prog 9 #[.slice p n c] w fun e w' => ∃ q d, e = .returned (.slice q n d) ∧ TxtAt w' q n d (txL l) ∧ (q = none → d = 0) ∧ w.grownBy w' none := by
  by_cases h0 : n = 0
  · subst h0
    have hl : l = [] := List.eq_nil_of_length_eq_zero h.len
    subst hl
    refine (texts0_c p c w).mono ?_
    rintro e w' ⟨rfl, rfl⟩
    exact ⟨none, 0, rfl, ⟨⟨0, 0, ⟨rfl, fun h => absurd h (by omega)⟩⟩, Nat.le_refl _, txL_small []⟩, fun _ => rfl, grownBy_refl _ _⟩
  · refine (texts_c p n c lo hi l w h hn).mono ?_
    rintro e w' ⟨q, d, rfl, ht, hg⟩
    refine ⟨q, d, rfl, ht, fun e => ?_, hg⟩
    obtain ⟨lo', hi', hs⟩ := ht.at'
    obtain ⟨b, o, e2, _⟩ := hs.cell (by omega)
    rw [e] at e2
    cases e2

/-- What stands between. -/
def btL (l : List Nat) : List ByteArray := l.map fun x => oneS ((112 + x % 4 : Nat) : Int)
theorem btL_len (l : List Nat) : (btL l).length = l.length := List.length_map _
theorem btL_get {l : List Nat} {k : Nat} (hk : k < l.length) : (btL l)[k]?.getD .empty = oneS ((112 + l[k]?.getD 0 % 4 : Nat) : Int) := by
  unfold btL
  rw [List.getElem?_map, List.getElem?_eq_getElem hk]
  rfl
theorem mixL_len (A Z : List ByteArray) (d : ByteArray) : ∀ i, (mixL A Z d i).length ≤ 2 * i
  | 0 => Nat.le_refl _
  | i + 1 => by
    have := mixL_len A Z d i
    unfold mixL
    rw [List.length_append, List.length_append]
    split <;> simp <;> omega
theorem mixL_two {A Z : List ByteArray} {d : ByteArray} {i : Nat} (h : i < Z.length) : mixL A Z d (i + 1) = (mixL A Z d i ++ [Z[i]?.getD d]) ++ [A[i]?.getD d] := by
  show mixL A Z d i ++ ((if i < Z.length then [Z[i]?.getD d] else []) ++ [A[i]?.getD d]) = _
  rw [if_pos h, List.append_assoc]
theorem mixL_one {A Z : List ByteArray} {d : ByteArray} {i : Nat} (h : ¬ i < Z.length) : mixL A Z d (i + 1) = mixL A Z d i ++ [A[i]?.getD d] := by
  show mixL A Z d i ++ ((if i < Z.length then [Z[i]?.getD d] else []) ++ [A[i]?.getD d]) = _
  rw [if_neg h, List.nil_append]
theorem getD_mem_small {l : List ByteArray} (h : smallT l) (k : Nat) : (l[k]?.getD .empty).size ≤ 1000000 := h.get k
theorem mixL_small {A Z : List ByteArray} (hA : smallT A) (hZ : smallT Z) : ∀ i, smallT (mixL A Z .empty i)
  | 0 => fun x hx => by cases hx
  | i + 1 => fun x hx => by
    by_cases h : i < Z.length
    · rw [mixL_two h, List.mem_append, List.mem_append, List.mem_singleton, List.mem_singleton] at hx
      rcases hx with (hx | rfl) | rfl
      · exact mixL_small hA hZ i x hx
      · exact hZ.get i
      · exact hA.get i
    · rw [mixL_one h, List.mem_append, List.mem_singleton] at hx
      rcases hx with hx | rfl
      · exact mixL_small hA hZ i x hx
      · exact hA.get i
theorem btL_small (l : List Nat) : smallT (btL l) := by
  intro x hx
  unfold btL at hx
  obtain ⟨y, _, rfl⟩ := List.mem_map.1 hx
  rw [oneS_size]
  decide

theorem cell_keep {w w' : World} {a : Addr} {v : Value} (hg : w.grownBy w' none) (h : w.cell? a = some v) : w'.cell? a = some v :=
  (World.cell?_of_block (hg.block a.block (World.block_lt_of_cell? w a h) (by simp))).trans h
theorem cell_new1 (w : World) (v : Value) (t : TypeId) : (w.alloc (.cells #[v] t)).cell? ⟨w.heap.size, 0, none⟩ = some v := by simp
theorem news_one {w : World} {b : Nat} {v : Value} (h : w.cell? ⟨b, 0, none⟩ = some v) : ∀ j u, [v][j]? = some u → w.cell? ((⟨b, 0, none⟩ : Addr).add j) = some u := by
  intro j u hj
  match j, hj with
  | 0, hj =>
    simp at hj
    subst hj
    simpa [Addr.add] using h
theorem conv_at (z : Int) (w : World) (b : Nat) (h : w.cell? ⟨b, 0, none⟩ = some (.int .u8 z)) : (convert 22 9 (.slice (some ⟨b, 0, none⟩) 1 1)).run Try.prog w = .ok (.string (oneS z)) w := by
  refine run_convert_bytes_arg _ 22 5 Try.underlying22 Try.underlying5 b 0 1 1 [z] rfl (fun i hi => ?_) _ Try.underlying9
  obtain rfl : i = 0 := by omega
  exact h

set_option maxRecDepth 100000 in
set_option maxHeartbeats 8000000 in
theorem matchParts_w (p0 p1 : Option Addr) (n m t k0 k1 lo0 hi0 lo1 hi1 : Nat) (x y : List Nat) (w : World) (h0 : UsAt w lo0 hi0 p0 n x) (h1 : UsAt w lo1 hi1 p1 m y) (ht : t < 256) :
    Calls Try.prog 5 #[.slice p0 n k0, .slice p1 m k1, .int .u8 t] w fun e w' => e = .returned (.bool true) ∧ Below w.heap.size w w' := by
  obtain ⟨i0, hi', hz0, hz1, hz2⟩ := info_parts Try.info9
  have H0 := Lib.hid h0
  have H1 := Lib.hid h1
  have t0 : (0 : Int) ≤ t := by omega
  have t1 : (t : Int) < 256 := by omega
  obtain ⟨z, hz⟩ : ∃ z, 97 + t % 4 = z := ⟨_, rfl⟩
  have hzi : (97 : Int) + (t : Int) % 4 = (z : Int) := by omega
  clear h0 h1 hz
  go_enter Try.func5, Try.ntmps5
  go_wp2_with fail
  refine (known11_c _).mono ?_
  rintro e w1 ⟨rfl, hg1⟩
  have HG1 := Lib.hid hg1
  clear hg1
  by_cases a1 : 40 < n
  · have a1' : (40 : Int) < n := by omega
    go_wp2_with fail
    go_ret
    exact ⟨rfl, grownBy_below HG1.out⟩
  · have a1' : ¬ ((40 : Int) < n) := by omega
    by_cases a2 : 40 < m
    · have a2' : (40 : Int) < m := by omega
      go_wp2_with fail
      go_ret
      exact ⟨rfl, grownBy_below HG1.out⟩
    · have a2' : ¬ ((40 : Int) < m) := by omega
      go_wp2_with fail
      refine (texts2_c _ _ _ _ _ _ _ (H0.out.calm HG1.out) (by omega)).mono ?_
      rintro e w2 ⟨pa, ca, rfl, hta, hpa, hg⟩
      obtain ⟨A, hA⟩ : ∃ A, txL x = A := ⟨_, rfl⟩
      have HAL := Lib.hid (show A.length = n by rw [← hA, txL_len, H0.out.len])
      rw [hA] at hta
      have HA := Lib.hid hta
      have HPA := Lib.hid hpa
      have HG2 := Lib.hid (grownBy_trans HG1.out hg)
      clear hta hpa hg hA
      obtain ⟨Z, hZ⟩ : ∃ Z, btL y = Z := ⟨_, rfl⟩
      have HZL := Lib.hid (show Z.length = m by rw [← hZ, btL_len, H1.out.len])
      have HZS := Lib.hid (show smallT Z by rw [← hZ]; exact btL_small y)
      have HZG := Lib.hid (show ∀ k, k < m → Z[k]?.getD .empty = oneS ((112 + y[k]?.getD 0 % 4 : Nat) : Int) from fun k hk => by rw [← hZ]; exact btL_get (by rw [H1.out.len]; exact hk))
      clear hZ
      go_wp2
      go_loopw [8, 9] (fun v i wr => ∃ k : Nat, k ≤ n ∧ i = .int .i64 k ∧ wr.ownsRow w2.heap.size 9 1 v (mixL A Z .empty k).length (scells (mixL A Z .empty k)) ∧ w2.grownBy wr none) (fun _ i _ => n - (intOf i).toNat)
      case atStart => exact ⟨0, Nat.zero_le _, rfl, World.ownsRow_nil _ _ _ _, grownBy_refl _ _⟩
      case round =>
        obtain ⟨k, hk, rfl, hrow, hg⟩ := hrel
        have hml := mixL_len A Z .empty k
        have hsz := hg.size
        by_cases hkn : k < n
        · have kk0 : (0 : Int) ≤ k := by omega
          have kk1 : (k : Int) < n := by omega
          obtain ⟨lo, hi, hst⟩ := HA.out.at'
          obtain ⟨b, o, rfl, _, z5, z6, hc⟩ := hst.cell (by omega)
          have HCA := Lib.hid (fun (W : World) (hW : w2.grownBy W none) => (World.cell?_of_block (a := ⟨b, o + k, none⟩) (hW.block b (by omega) (by simp))).trans (hc k hkn))
          clear hc hst z5 z6
          by_cases hkm : k < m
          · have km1 : (k : Int) < m := by omega
            have HX := Lib.hid (mixL_two (A := A) (Z := Z) (d := .empty) (i := k) (by rw [HZL.out]; exact hkm))
            have hzk := HZG.out k hkm
            obtain ⟨b1, o1, rfl, _, _, _, hc1⟩ := (H1.out.calm (grownBy_trans HG2.out hg)).cell (by omega)
            have hck1 := hc1 k hkm
            have hlt := H1.out.lt hkm
            clear hc1
            rw [hzk] at HX
            clear hzk
            generalize y[k]?.getD 0 = yv at *
            generalize A[k]?.getD .empty = av at *
            generalize mixL A Z .empty k = mk at *
            obtain ⟨u, hu⟩ : ∃ u, 112 + yv % 4 = u := ⟨_, rfl⟩
            have hui : (112 : Int) + (yv : Int) % 4 = (u : Int) := by omega
            have y0 : (0 : Int) ≤ yv := by omega
            have y1 : (yv : Int) < 256 := by omega
            rw [hu] at HX
            clear hu
            have hcv := conv_u8 (u : Int) wr
            go_upto_region 12 with (at_builtin; refine wpList_append_own _ rfl _ _ 25 rfl w2.heap.size 9 i0 (.string .empty) 1 16 Try.underlying25 hi' hz0 hz1 hz2 rfl (by decide) _ _ _ rfl ((hrow.alloc _).alloc _) ⟨wr.heap.size + 1, 0, none⟩ 1 1 [.string (oneS (u : Int))] rfl rfl (cell_one_at11 _ _ _ _) (by simp [Value.oneCell']) (by unfold maxLen; omega) (by omega) (by simp; omega) ?_; intro v' w3 hown' hgrow _; obtain ⟨g', cap', rfl⟩ := ownsRow_succ hown'; have HO := Lib.hid hown'; have HGR := Lib.hid (grownBy_app2 hg hrow hgrow); clear hown' hgrow)
            have hs3 := HGR.out.size
            have hck := HCA.out w3 HGR.out
            clear hck1 hcv
            go_wp2_with (at_builtin; refine wpList_append_own _ rfl _ _ 25 rfl w2.heap.size 9 i0 (.string .empty) 1 16 Try.underlying25 hi' hz0 hz1 hz2 rfl (by decide) _ _ _ rfl (HO.out.alloc _) ⟨w3.heap.size, 0, none⟩ 1 1 [.string av] rfl rfl (cell_one_new _ _ _) (by simp [Value.oneCell']) (by unfold maxLen; omega) (by omega) (by simp; omega) ?_; intro v' w4 hown' hgrow _; obtain ⟨g2, cap2, rfl⟩ := ownsRow_succ hown'; have HO2 := Lib.hid hown'; have HG4 := Lib.hid (grownBy_app HGR.out HO.out hgrow); clear hown' hgrow)
            exact ⟨⟨k + 1, by omega, by go_num, by rw [HX.out, scells_snoc, scells_snoc]; simpa using HO2.out, HG4.out⟩, by simp [intOf]; omega⟩
          · have km1 : ¬ ((k : Int) < m) := by omega
            have HX := Lib.hid (mixL_one (A := A) (Z := Z) (d := .empty) (i := k) (by rw [HZL.out]; exact hkm))
            generalize A[k]?.getD .empty = av at *
            generalize mixL A Z .empty k = mk at *
            have hck := HCA.out wr hg
            go_wp2_with (at_builtin; refine wpList_append_own _ rfl _ _ 25 rfl w2.heap.size 9 i0 (.string .empty) 1 16 Try.underlying25 hi' hz0 hz1 hz2 rfl (by decide) _ _ _ rfl (hrow.alloc _) ⟨wr.heap.size, 0, none⟩ 1 1 [.string av] rfl rfl (cell_one_new _ _ _) (by simp [Value.oneCell']) (by unfold maxLen; omega) (by omega) (by simp; omega) ?_; intro v' w4 hown' hgrow _; obtain ⟨g2, cap2, rfl⟩ := ownsRow_succ hown'; have HO2 := Lib.hid hown'; have HG4 := Lib.hid (grownBy_app hg hrow hgrow); clear hown' hgrow)
            exact ⟨⟨k + 1, by omega, by go_num, by rw [HX.out, scells_snoc]; simpa using HO2.out, HG4.out⟩, by simp [intOf]; omega⟩
        · obtain rfl : k = n := by omega
          have kk1 : ¬ ((k : Int) < k) := by omega
          obtain ⟨B, hB⟩ : ∃ B, mixL A Z .empty k = B := ⟨_, rfl⟩
          obtain ⟨N, hN⟩ : ∃ N, B.length = N := ⟨_, rfl⟩
          have HBS := Lib.hid (show smallT B by rw [← hB]; exact mixL_small HA.out.small HZS.out k)
          have HBA := Lib.hid (show lcs A B = k by
            have := mixL_within A Z .empty
            rw [HAL.out, hB] at this
            exact this)
          rw [hB, hN] at hrow hml
          obtain ⟨pb, cb, rfl, htb⟩ := txt_own hN HBS.out hrow
          rw [hB] at *
          rw [hN] at *
          have HB3 := Lib.hid htb
          have HA3 := Lib.hid (HA.out.calm hg)
          have HG3 := Lib.hid (grownBy_trans HG2.out hg)
          clear hrow htb hB hN
          go_upto_region 13 with fail
          obtain ⟨lo, hi, hst⟩ := HA3.out.at'
          have HSRC := Lib.hid (fun (W : World) (hW : wr.grownBy W none) => src_strs (hst.calm hW) HPA.out)
          have HSL := Lib.hid (show (scells A).length = k by unfold scells; rw [List.length_map, HAL.out])
          have HAZ := Lib.hid (show (A ++ [oneS (z : Int)]).length = k + 1 by rw [List.length_append, HAL.out]; rfl)
          have HAS := Lib.hid (show smallT (A ++ [oneS (z : Int)]) from fun q hq => by
            rcases List.mem_append.1 hq with h | h
            · exact HA.out.small q h
            · rw [List.mem_singleton.1 h, oneS_size]; decide)
          have hzw : IntKind.u8.wrap (z : Int) = z := by rw [IntWalk.u8_in _ (by omega)]
          clear hst
          go_cut [10] (fun s10 wx => ∃ pc cc, s10 = .slice pc (k + 1) cc ∧ TxtAt wx pc (k + 1) cc (A ++ [oneS (z : Int)]) ∧ wr.grownBy wx none)
          case first =>
            -- REGION 13
            refine wp_region_held (S := fun _ => True) (by kernel_rfl) ?_
            have hg := grownBy_drewN wr 1 none
            have HS0 := Lib.hid (HSRC.out _ hg)
            have hbz := hg.size
            change wpAnyH _ _ _ _ _ _ _ _ (wr.drewN 1)
            have HV0 := Lib.hid hg
            generalize wr.drewN 1 = V0 at *
            clear hg hbz HS0
            have hg := grownBy_refl V0 none
            refine wpAnyH_take (i := 0) (v := .slice pa k ca) rfl (by kernel_rfl) (by kernel_rfl) (by kernel_rfl) (fun _ _ _ h => h) (.inl ⟨by rfl, ?_⟩) trivial ?_
            · rintro w' -
              go_simp
            simp only [Act.put, List.getElem_toArray, List.getElem_cons_zero, List.setIfInBounds_toArray, List.set_cons_zero, List.set_cons_succ]
            refine wpAnyH_take (i := 2) (v := .int .u8 t) rfl (by kernel_rfl) (by kernel_rfl) (by kernel_rfl) (fun _ _ _ h => h) (.inl ⟨by rfl, ?_⟩) trivial ?_
            · rintro w' -
              go_simp
            simp only [Act.put, List.getElem_toArray, List.getElem_cons_succ, List.getElem_cons_zero, List.setIfInBounds_toArray, List.set_cons_zero, List.set_cons_succ]
            refine wpAnyH_take (i := 3) (v := .int .u8 ((t : Int) % 4)) rfl (by kernel_rfl) (by kernel_rfl) (by kernel_rfl) (fun _ _ _ h => h) (.inl ⟨by rfl, ?_⟩) trivial ?_
            · rintro w' -
              go_simp
              exact Int.tmod_eq_emod_of_nonneg t0
            simp only [Act.put, List.getElem_toArray, List.getElem_cons_succ, List.getElem_cons_zero, List.setIfInBounds_toArray, List.set_cons_zero, List.set_cons_succ]
            refine wpAnyH_take (i := 4) (v := .int .u8 z) rfl (by kernel_rfl) (by kernel_rfl) (by kernel_rfl) (fun _ _ _ h => h) (.inl ⟨by rfl, ?_⟩) trivial ?_
            · rintro w' -
              go_simp
            simp only [Act.put, List.getElem_toArray, List.getElem_cons_succ, List.getElem_cons_zero, List.setIfInBounds_toArray, List.set_cons_zero, List.set_cons_succ]
            refine held_two 1 5 (by kernel_rfl) rfl rfl (fun K hK => ?_) (fun K hK => ?_)
            · skip
              refine step_append_src rfl (.const (.slice none 0 0)) (.tmp 54) 25 rfl V0.heap.size  9 i0 (.string .empty) 1 16 Try.underlying25 hi' hz0 hz1 hz2 rfl (by decide) (.slice none 0 0) 0 [] (by simp [Act.eval]) (World.ownsRow_nil _ _ _ _) pa k ca (scells A) (by first | (simp [Act.eval]; done) | simp [Act.eval, Act.put]) (by rw [Nat.mul_one]; exact HSL.out) (HSRC.out _ (grownBy_trans HV0.out hg)) (scells_one11 _) (by unfold maxLen; omega) (by omega) hg.size ?_
              intro pr cr V1 hr hgr
              rw [Nat.zero_add, List.nil_append] at hr
              rw [Nat.zero_add]
              have hgr : World.grownBy _ _ none := hgr
              have hg := grownBy_trans hg hgr
              refine hK _ _ trivial ?_
              clear hK K hgr
              refine held_next 5 (by kernel_rfl) rfl ?_
              intro K hK
              go_simp
              have hga := World.grownBy_alloc V1 (.cells #[.int .u8 z] 5) none
              have hu := cell_new1 V1 (.int .u8 z) 5
              have hr := hr.alloc (.cells #[.int .u8 z] 5)
              have hg := grownBy_trans hg hga
              refine hK _ _ trivial ?_
              clear hK K hga
              generalize V1.alloc (.cells #[.int .u8 z] 5) = V2 at *
              refine held_next 6 (by kernel_rfl) rfl ?_
              intro K hK
              have hcv := conv_at (z : Int) V2 V1.heap.size hu
              go_simp
              refine hK _ _ trivial ?_
              clear hK K hcv
              refine held_next 7 (by kernel_rfl) rfl ?_
              intro K hK
              go_simp
              have hga := World.grownBy_alloc V2 (.cells #[.string (oneS (z : Int))] 9) none
              clear hu
              have hs := cell_new1 V2 (.string (oneS (z : Int))) 9
              have hr := hr.alloc (.cells #[.string (oneS (z : Int))] 9)
              have hg := grownBy_trans hg hga
              refine hK _ _ trivial ?_
              clear hK K hga
              generalize V2.alloc (.cells #[.string (oneS (z : Int))] 9) = V3 at *
              refine held_next 8 (by kernel_rfl) rfl ?_
              intro K hK
              refine step_append_src rfl (.tmp 55) (.tmp 61) 25 rfl V0.heap.size  9 i0 (.string .empty) 1 16 Try.underlying25 hi' hz0 hz1 hz2 rfl (by decide) (.slice pr k cr) k (scells A) (by first | (simp [Act.eval]; done) | simp [Act.eval, Act.put]) hr (some ⟨V2.heap.size, 0, none⟩) 1 1 [.string (oneS (z : Int))] (by first | (simp [Act.eval]; done) | simp [Act.eval, Act.put]) rfl (.inr ⟨_, rfl, news_one hs⟩) (by simp [Value.oneCell']) (by unfold maxLen; omega) (by omega) hg.size ?_
              intro p9 c9 V9 hr9 hgr9
              have hg9 := Lib.hid (ownsRow_new hg hr hgr9)
              have HR9 := Lib.hid hr9
              refine hK _ _ trivial ?_
              clear hK K hgr9 hr hr9 hs hg
              refine held_next 9 (by kernel_rfl) rfl ?_
              intro K hK
              go_simp
              refine hK _ _ trivial ?_
              clear hK K
              refine wpAnyH_done (by kernel_rfl) ?_ _
              go_wp2
              go_meet
              obtain ⟨q9, d9, e9, h9⟩ := txt_own HAZ.out HAS.out (by rw [scells_snoc]; exact HR9.out)
              cases e9
              exact ⟨_, _, rfl, h9, grownBy_trans HV0.out hg9.out⟩
            · skip
              go_simp
              have hga := World.grownBy_alloc V0 (.cells #[.int .u8 z] 5) none
              have hu := cell_new1 V0 (.int .u8 z) 5
              have hg := grownBy_trans hg hga
              refine hK _ _ trivial ?_
              clear hK K hga
              generalize V0.alloc (.cells #[.int .u8 z] 5) = V1 at *
              refine held_two 1 6 (by kernel_rfl) rfl rfl (fun K hK => ?_) (fun K hK => ?_)
              · skip
                refine step_append_src rfl (.const (.slice none 0 0)) (.tmp 54) 25 rfl V0.heap.size  9 i0 (.string .empty) 1 16 Try.underlying25 hi' hz0 hz1 hz2 rfl (by decide) (.slice none 0 0) 0 [] (by simp [Act.eval]) (World.ownsRow_nil _ _ _ _) pa k ca (scells A) (by first | (simp [Act.eval]; done) | simp [Act.eval, Act.put]) (by rw [Nat.mul_one]; exact HSL.out) (HSRC.out _ (grownBy_trans HV0.out hg)) (scells_one11 _) (by unfold maxLen; omega) (by omega) hg.size ?_
                intro pr cr V2 hr hgr
                rw [Nat.zero_add, List.nil_append] at hr
                rw [Nat.zero_add]
                have hgr : World.grownBy _ _ none := hgr
                have hu := cell_keep hgr hu
                have hg := grownBy_trans hg hgr
                refine hK _ _ trivial ?_
                clear hK K hgr
                refine held_next 6 (by kernel_rfl) rfl ?_
                intro K hK
                have hcv := conv_at (z : Int) V2 V0.heap.size hu
                go_simp
                refine hK _ _ trivial ?_
                clear hK K hcv
                refine held_next 7 (by kernel_rfl) rfl ?_
                intro K hK
                go_simp
                have hga := World.grownBy_alloc V2 (.cells #[.string (oneS (z : Int))] 9) none
                clear hu
                have hs := cell_new1 V2 (.string (oneS (z : Int))) 9
                have hr := hr.alloc (.cells #[.string (oneS (z : Int))] 9)
                have hg := grownBy_trans hg hga
                refine hK _ _ trivial ?_
                clear hK K hga
                generalize V2.alloc (.cells #[.string (oneS (z : Int))] 9) = V3 at *
                refine held_next 8 (by kernel_rfl) rfl ?_
                intro K hK
                refine step_append_src rfl (.tmp 55) (.tmp 61) 25 rfl V0.heap.size  9 i0 (.string .empty) 1 16 Try.underlying25 hi' hz0 hz1 hz2 rfl (by decide) (.slice pr k cr) k (scells A) (by first | (simp [Act.eval]; done) | simp [Act.eval, Act.put]) hr (some ⟨V2.heap.size, 0, none⟩) 1 1 [.string (oneS (z : Int))] (by first | (simp [Act.eval]; done) | simp [Act.eval, Act.put]) rfl (.inr ⟨_, rfl, news_one hs⟩) (by simp [Value.oneCell']) (by unfold maxLen; omega) (by omega) hg.size ?_
                intro p9 c9 V9 hr9 hgr9
                have hg9 := Lib.hid (ownsRow_new hg hr hgr9)
                have HR9 := Lib.hid hr9
                refine hK _ _ trivial ?_
                clear hK K hgr9 hr hr9 hs hg
                refine held_next 9 (by kernel_rfl) rfl ?_
                intro K hK
                go_simp
                refine hK _ _ trivial ?_
                clear hK K
                refine wpAnyH_done (by kernel_rfl) ?_ _
                go_wp2
                go_meet
                obtain ⟨q9, d9, e9, h9⟩ := txt_own HAZ.out HAS.out (by rw [scells_snoc]; exact HR9.out)
                cases e9
                exact ⟨_, _, rfl, h9, grownBy_trans HV0.out hg9.out⟩
              · skip
                have hcv := conv_at (z : Int) V1 V0.heap.size hu
                go_simp
                refine hK _ _ trivial ?_
                clear hK K hcv
                refine held_two 1 7 (by kernel_rfl) rfl rfl (fun K hK => ?_) (fun K hK => ?_)
                · skip
                  refine step_append_src rfl (.const (.slice none 0 0)) (.tmp 54) 25 rfl V0.heap.size  9 i0 (.string .empty) 1 16 Try.underlying25 hi' hz0 hz1 hz2 rfl (by decide) (.slice none 0 0) 0 [] (by simp [Act.eval]) (World.ownsRow_nil _ _ _ _) pa k ca (scells A) (by first | (simp [Act.eval]; done) | simp [Act.eval, Act.put]) (by rw [Nat.mul_one]; exact HSL.out) (HSRC.out _ (grownBy_trans HV0.out hg)) (scells_one11 _) (by unfold maxLen; omega) (by omega) hg.size ?_
                  intro pr cr V2 hr hgr
                  rw [Nat.zero_add, List.nil_append] at hr
                  rw [Nat.zero_add]
                  have hgr : World.grownBy _ _ none := hgr
                  have hu := cell_keep hgr hu
                  have hg := grownBy_trans hg hgr
                  refine hK _ _ trivial ?_
                  clear hK K hgr
                  refine held_next 7 (by kernel_rfl) rfl ?_
                  intro K hK
                  go_simp
                  have hga := World.grownBy_alloc V2 (.cells #[.string (oneS (z : Int))] 9) none
                  clear hu
                  have hs := cell_new1 V2 (.string (oneS (z : Int))) 9
                  have hr := hr.alloc (.cells #[.string (oneS (z : Int))] 9)
                  have hg := grownBy_trans hg hga
                  refine hK _ _ trivial ?_
                  clear hK K hga
                  generalize V2.alloc (.cells #[.string (oneS (z : Int))] 9) = V3 at *
                  refine held_next 8 (by kernel_rfl) rfl ?_
                  intro K hK
                  refine step_append_src rfl (.tmp 55) (.tmp 61) 25 rfl V0.heap.size  9 i0 (.string .empty) 1 16 Try.underlying25 hi' hz0 hz1 hz2 rfl (by decide) (.slice pr k cr) k (scells A) (by first | (simp [Act.eval]; done) | simp [Act.eval, Act.put]) hr (some ⟨V2.heap.size, 0, none⟩) 1 1 [.string (oneS (z : Int))] (by first | (simp [Act.eval]; done) | simp [Act.eval, Act.put]) rfl (.inr ⟨_, rfl, news_one hs⟩) (by simp [Value.oneCell']) (by unfold maxLen; omega) (by omega) hg.size ?_
                  intro p9 c9 V9 hr9 hgr9
                  have hg9 := Lib.hid (ownsRow_new hg hr hgr9)
                  have HR9 := Lib.hid hr9
                  refine hK _ _ trivial ?_
                  clear hK K hgr9 hr hr9 hs hg
                  refine held_next 9 (by kernel_rfl) rfl ?_
                  intro K hK
                  go_simp
                  refine hK _ _ trivial ?_
                  clear hK K
                  refine wpAnyH_done (by kernel_rfl) ?_ _
                  go_wp2
                  go_meet
                  obtain ⟨q9, d9, e9, h9⟩ := txt_own HAZ.out HAS.out (by rw [scells_snoc]; exact HR9.out)
                  cases e9
                  exact ⟨_, _, rfl, h9, grownBy_trans HV0.out hg9.out⟩
                · skip
                  go_simp
                  have hga := World.grownBy_alloc V1 (.cells #[.string (oneS (z : Int))] 9) none
                  clear hu
                  have hs := cell_new1 V1 (.string (oneS (z : Int))) 9
                  have hg := grownBy_trans hg hga
                  refine hK _ _ trivial ?_
                  clear hK K hga
                  generalize V1.alloc (.cells #[.string (oneS (z : Int))] 9) = V2 at *
                  refine held_next 1 (by kernel_rfl) rfl ?_
                  intro K hK
                  refine step_append_src rfl (.const (.slice none 0 0)) (.tmp 54) 25 rfl V0.heap.size  9 i0 (.string .empty) 1 16 Try.underlying25 hi' hz0 hz1 hz2 rfl (by decide) (.slice none 0 0) 0 [] (by simp [Act.eval]) (World.ownsRow_nil _ _ _ _) pa k ca (scells A) (by first | (simp [Act.eval]; done) | simp [Act.eval, Act.put]) (by rw [Nat.mul_one]; exact HSL.out) (HSRC.out _ (grownBy_trans HV0.out hg)) (scells_one11 _) (by unfold maxLen; omega) (by omega) hg.size ?_
                  intro pr cr V3 hr hgr
                  rw [Nat.zero_add, List.nil_append] at hr
                  rw [Nat.zero_add]
                  have hgr : World.grownBy _ _ none := hgr
                  have hs := cell_keep hgr hs
                  have hg := grownBy_trans hg hgr
                  refine hK _ _ trivial ?_
                  clear hK K hgr
                  refine held_next 8 (by kernel_rfl) rfl ?_
                  intro K hK
                  refine step_append_src rfl (.tmp 55) (.tmp 61) 25 rfl V0.heap.size  9 i0 (.string .empty) 1 16 Try.underlying25 hi' hz0 hz1 hz2 rfl (by decide) (.slice pr k cr) k (scells A) (by first | (simp [Act.eval]; done) | simp [Act.eval, Act.put]) hr (some ⟨V1.heap.size, 0, none⟩) 1 1 [.string (oneS (z : Int))] (by first | (simp [Act.eval]; done) | simp [Act.eval, Act.put]) rfl (.inr ⟨_, rfl, news_one hs⟩) (by simp [Value.oneCell']) (by unfold maxLen; omega) (by omega) hg.size ?_
                  intro p9 c9 V9 hr9 hgr9
                  have hg9 := Lib.hid (ownsRow_new hg hr hgr9)
                  have HR9 := Lib.hid hr9
                  refine hK _ _ trivial ?_
                  clear hK K hgr9 hr hr9 hs hg
                  refine held_next 9 (by kernel_rfl) rfl ?_
                  intro K hK
                  go_simp
                  refine hK _ _ trivial ?_
                  clear hK K
                  refine wpAnyH_done (by kernel_rfl) ?_ _
                  go_wp2
                  go_meet
                  obtain ⟨q9, d9, e9, h9⟩ := txt_own HAZ.out HAS.out (by rw [scells_snoc]; exact HR9.out)
                  cases e9
                  exact ⟨_, _, rfl, h9, grownBy_trans HV0.out hg9.out⟩
            -- END 13
            skip
          case rest =>
            obtain ⟨pc, cc, rfl, htc, hgc⟩ := hcut
            have HC0 := Lib.hid htc
            have HA0 := Lib.hid (HA3.out.calm hgc)
            have HB0 := Lib.hid (HB3.out.calm hgc)
            have HG0 := Lib.hid (grownBy_trans HG3.out hgc)
            obtain ⟨r, hr⟩ : ∃ r, lcs (A ++ [oneS (z : Int)]) B = r := ⟨_, rfl⟩
            have HR := Lib.hid hr
            have r1 : k ≤ r := by rw [← HBA.out, ← hr]; exact lcs_sub (List.sublist_append_left _ _) B
            have r2 : r ≤ k + 1 := by rw [← HBA.out, ← hr]; exact lcs_snoc _ B A
            obtain ⟨D, hD⟩ : ∃ D, r = k + D := ⟨r - k, by omega⟩
            have hDi : (r : Int) - (k : Int) = (D : Int) := by omega
            have D0 : (0 : Int) ≤ D := by omega
            have D1 : (D : Int) ≤ 1 := by omega
            have hLg := LgL_self A
            rw [HAL.out] at hLg
            have HLG := Lib.hid hLg
            have HNI := Lib.hid (lcs_nil_r A)
            clear htc hgc hr hLg HSRC HSL HAZ HAS hzw hD HA3 HB3
            have hN2 : N ≤ 80 := by omega
            go_wp2_with fail
            refine (length_m _ _ (k + 1) N _ _ r _ _ _ HC0.out HB0.out (by omega) (by omega) HR.out).mono ?_
            rintro e w5 ⟨rfl, hg5⟩
            have HA5 := Lib.hid (HA0.out.calm hg5)
            have HB5 := Lib.hid (HB0.out.calm hg5)
            have HG5 := Lib.hid (grownBy_trans HG0.out hg5)
            clear hg5 HC0 HA0 HB0
            go_wp2_with fail
            refine (length_m _ _ k N _ _ k _ _ _ HA5.out HB5.out (by omega) (by omega) HBA.out).mono ?_
            rintro e w6 ⟨rfl, hg6⟩
            have HA6 := Lib.hid (HA5.out.calm hg6)
            have HB6 := Lib.hid (HB5.out.calm hg6)
            have HG6 := Lib.hid (grownBy_trans HG5.out hg6)
            clear hg6 HA5 HB5
            go_wp2_with fail
            refine (longest_m _ _ k k _ _ _ _ _ _ HA6.out HA6.out (by omega) (by omega) HLG.out).mono ?_
            rintro e w7 ⟨p7, c7, rfl, hat, hg7⟩
            rw [diag_len] at hat ⊢
            have HP7 := Lib.hid hat
            have HA7 := Lib.hid (HA6.out.calm hg7)
            have HB7 := Lib.hid (HB6.out.calm hg7)
            have HG7 := Lib.hid (grownBy_trans HG6.out hg7)
            clear hat hg7 HA6 HB6
            go_wp2
            go_loop [13] (fun i => ∃ s : Nat, s ≤ k ∧ i = .int .i64 s) (fun i => k - (intOf i).toNat)
            case atStart => exact ⟨0, Nat.zero_le _, rfl⟩
            case round =>
              obtain ⟨s, hs, rfl⟩ := hrel
              by_cases hsk : s < k
              · obtain ⟨bp, op, rfl, _, _, _, hc⟩ := HP7.out.cell (by omega)
                obtain ⟨d0, d1⟩ := hc s hsk
                rw [diag_get k s hsk] at d0 d1
                have hq := pair_neq (s : Int) s s s
                simp only [beq_self_eq_true, Bool.and_self, Bool.not_true] at hq
                have s0 : (0 : Int) ≤ s := by omega
                have s1 : (s : Int) < k := by omega
                clear hc
                go_wp2
                exact ⟨⟨s + 1, by omega, by go_num⟩, by simp [intOf]; omega⟩
              · obtain rfl : s = k := by omega
                have s1 : ¬ ((s : Int) < s) := by omega
                go_wp2_with fail
                refine (length_m _ _ s N _ _ s _ _ _ HA7.out HB7.out (by omega) (by omega) HBA.out).mono ?_
                rintro e w8 ⟨rfl, hg8⟩
                have HA8 := Lib.hid (HA7.out.calm hg8)
                have HG8 := Lib.hid (grownBy_trans HG7.out hg8)
                clear hg8 HA7 HB7
                go_wp2_with fail
                refine (length_m _ none s 0 _ 0 0 _ [] _ HA8.out ⟨⟨0, 0, ⟨rfl, fun h => absurd h (by omega)⟩⟩, Nat.le_refl _, fun q hq => by cases hq⟩ (by omega) (by omega) HNI.out).mono ?_
                rintro e w9 ⟨rfl, hg9⟩
                have HG9 := Lib.hid (grownBy_trans HG8.out hg9)
                clear hg9 HA8
                go_wp2
                go_ret
                exact ⟨rfl, grownBy_below HG9.out⟩

end Go.Proofs.Ytbobbpghdfhkgaa
