/- RowSets: at every input the call answers true, and each argument reads behind the call as it read before; tied: the table that math/bits reads is what the program's text lays. -/
import Derived.Test.YtnbigkknabdnjaaDoorLaw
import Derived.Test.YtnbigkknabdnjaaDoorSets
namespace Go.Proofs.YtnbigkknabdnjaaDoor.rowSets
open Go.ChangeShapes Go.WideShapes Go.ChangeAt Go.WideMaps Go.WideElems Go.RowKit

theorem laidOut : laidOutB Tryd.prog = true := by kernel_rfl

/-- A slice of bytes that came in. -/
theorem bts_of {H : Type} {enc : TypeId × Value → H} {W : World} {base : Nat} {v : Value} {d : DataW H} {ps : List MemPlace} (hok : Value.okWide Tryd.prog W .any base 38 v)
    (h : DataW.Trod enc Tryd.prog W 0 (fun _ => true) true 38 v d ps) : ∃ p n c xs, v = .slice p n c ∧ Bts W p n xs := by
  obtain ⟨a0, len, cap, rfl⟩ := okWide_slice Tryd.underlying38 hok
  obtain ⟨fuel, hf⟩ := h
  rcases open_ints Tryd.underlying38 Tryd.underlying5 cByte hf with ⟨hcs, _⟩ | ⟨a, len', cap', zs, hcs, _, hl, hm, hz, hx, hcell, hwz⟩
  · simp [Value.cells] at hcs
    obtain ⟨rfl, rfl, rfl⟩ := hcs
    exact ⟨none, 0, 0, [], rfl, rfl, fun h => absurd h (by omega), fun k => by simp⟩
  · simp [Value.cells] at hcs
    obtain ⟨rfl, rfl, rfl⟩ := hcs
    simp only [if_true] at hz
    have hin : ∀ k, k < len → ∃ x : Nat, zs.getD k 0 = (x : Int) ∧ x < 256 := by
      intro k hk
      have hkz : k < zs.length := by omega
      have hw := hwz (zs.getD k 0) (by rw [List.getD_eq_getElem?_getD, List.getElem?_eq_getElem hkz]; exact List.getElem_mem hkz)
      obtain ⟨x, hx, hx2⟩ := byte_of hw
      exact ⟨x, hx, hx2⟩
    have hxs : ∀ k, k < len → (((zs.take len).map Int.toNat)[k]?.getD 0 : Nat) = (zs.getD k 0).toNat := by
      intro k hk
      rw [List.getElem?_map, List.getElem?_take_of_lt hk, List.getD_eq_getElem?_getD]
      cases zs[k]? <;> rfl
    refine ⟨some a, len, cap, (zs.take len).map Int.toNat, rfl, by simp; omega, fun hn => ?_, fun k => ?_⟩
    · have hs := World.cell?_spot (hcell 0 (by omega))
      have hc0 := hcell 0 (by omega)
      obtain ⟨b, off, sp⟩ := a
      have hsp : sp = none := by
        have : (⟨b, off, sp⟩ : Addr).add 0 = ⟨b, off, sp⟩ := by unfold Addr.add; simp
        rw [this] at hs
        exact hs
      subst hsp
      refine ⟨b, off, rfl, ?_, fun k hk => ?_⟩
      · rw [add_plain] at hc0
        exact cell_lt hc0
      · have := hcell k (by omega)
        rw [add_plain] at this
        obtain ⟨x, hx, _⟩ := hin k hk
        rw [this, hxs k hk, hx]
        rfl
    · by_cases hk : k < len
      · obtain ⟨x, hx, hx2⟩ := hin k hk
        rw [hxs k hk, hx]
        exact hx2
      · rw [List.getElem?_eq_none (by simp; omega)]
        show 0 < 256
        omega

theorem walk (p1 p2 p3 : Option Addr) (n1 n2 n3 c1 c2 c3 : Nat) (xs ys zs : List Nat) (w : World) (h1 : Bts w p1 n1 xs) (h2 : Bts w p2 n2 ys) (h3 : Bts w p3 n3 zs) (ht : Tab w) :
    Calls Tryd.prog 4 #[.slice p1 n1 c1, .slice p2 n2 c2, .slice p3 n3 c3] w fun e w' => e = .returned (.bool true) ∧ Below w.heap.size w w' := by
  by_cases h : n1 ≤ 40 ∧ n2 ≤ 40 ∧ n3 ≤ 40
  · exact (sets_in p1 p2 p3 n1 n2 n3 c1 c2 c3 xs ys zs w h1 h2 h3 h.1 h.2.1 h.2.2 ht).mono fun e w' ⟨a, b⟩ => ⟨a, grownBy_below b⟩
  · exact (sets_out p1 p2 p3 n1 n2 n3 c1 c2 c3 w (by omega) ht).mono fun e w' ⟨a, b⟩ => ⟨a, grownBy_below b⟩

set_option maxRecDepth 100000 in
theorem lifted (os : Os) (started : os.Started) (H : Type) (enc : TypeId × Value → H) :
    ReturnsInHanded {} Tryd.checked os 4 .any (fun w args => (Rows.rowSetsSpec.pre enc Tryd.prog Tryd.f4 [] false w args ∧ laidMetH Tryd.prog laidL w) ∧ sizedMet enc Tryd.prog Tryd.f4 (OpenSpec.ofChange Rows.rowSetsSpec) false w args)
      (Rows.rowSetsSpec.post enc Tryd.prog Tryd.f4 false true false false) := by
  refine returnsInHanded_of_change_and (C := Tryd.checked) (X := fun w _ => laidMetH Tryd.prog laidL w) (fun _ _ _ hh h => h.of_heap hh) ownNone started (by kernel_rfl) Tryd.func4
    (ChangeSpec.witness_shaped (enc := enc) (C := Tryd.checked) (os := os) (X := fun w _ => laidMetH Tryd.prog laidL w) false (World.doorLaid Tryd.prog 400 os) #[.slice none 0 0, .slice none 0 0, .slice none 0 0] 8 rfl (World.shaped_of_RefB (by kernel_rfl) (by kernel_rfl)) (by kernel_rfl) (by kernel_rfl) (by kernel_rfl) (door_met os _)) ?_
  intro W base args ds gs before hval0 hW _ _ hL _
  have hval : ∀ (j : Nat) t v, Tryd.f4.params[j]? = some t → args[j]? = some v → Value.okWide Tryd.prog W .any base t v := hval0
  have hW' := hW
  have hlt := hW.lt
  obtain ⟨p, q, hA0, hV, rfl, hfz, hnd⟩ := hW
  have hA : DataW.TrodAll enc Tryd.prog W 0 (fun _ => true) true Tryd.f4.params.toList args.toList ds p := hA0
  rw [Tryd.params4] at hA hval
  obtain ⟨v0, vs0, d0, ds0, p0, q0, hargs, rfl, rfl, h0, r0⟩ := trodAll_cons hA
  obtain ⟨v1, vs1, d1, ds1, p1, q1, rfl, rfl, rfl, h1, r1⟩ := trodAll_cons r0
  obtain ⟨v2, vs2, d2, ds2, p2, q2, rfl, rfl, rfl, h2, r2⟩ := trodAll_cons r1
  obtain ⟨rfl, rfl, rfl⟩ := trodAll_nil r2
  obtain rfl : args = #[v0, v1, v2] := by cases args; simp_all
  obtain ⟨rfl, rfl⟩ := trodVars_none hV
  obtain ⟨a1, n1, c1, xs, rfl, b1⟩ := bts_of (hval 0 38 v0 rfl rfl) h0
  obtain ⟨a2, n2, c2, ys, rfl, b2⟩ := bts_of (hval 1 38 v1 rfl rfl) h1
  obtain ⟨a3, n3, c3, zs, rfl, b3⟩ := bts_of (hval 2 38 v2 rfl rfl) h2
  clear hA0 hval0
  simp only [List.append_nil] at hW' hlt
  refine (walk a1 a2 a3 n1 n2 n3 c1 c2 c3 xs ys zs W b1 b2 b3 (tab_of_laid hL)).mono fun e W' ⟨he, hg⟩ => ?_
  subst he
  have t0 := Below.trod laidOut (by kernel_rfl) (of_decide_eq_true (by kernel_rfl)) h0 hg (fun x hx => hlt x (by simp [hx]))
  have t1 := Below.trod laidOut (by kernel_rfl) (of_decide_eq_true (by kernel_rfl)) h1 hg (fun x hx => hlt x (by simp [hx]))
  have t2 := Below.trod laidOut (by kernel_rfl) (of_decide_eq_true (by kernel_rfl)) h2 hg (fun x hx => hlt x (by simp [hx]))
  exact ⟨_, rfl, law_post hW' rfl (fun _ _ _ => (trodAll_cons_mk (shut_bool Tryd.underlying4 _) trodAll_mk0)) (trodAll_cons_mk t0 (trodAll_cons_mk t1 (trodAll_cons_mk t2 trodAll_mk0))) rfl hg⟩

theorem over : Rows.RowSetsSaid :=
  OpenClaim.holds_of_wide 4 Tryd.f4 rfl rfl rfl rfl rfl rfl rfl ⟨rfl, rfl, rfl, rfl, rfl⟩ rfl rfl rfl rfl rfl (by kernel_rfl) Tryd.func4 (by kernel_rfl)
    (of_decide_eq_true (by kernel_rfl)) (by unfold Func.isWrapper; first | (rw [if_pos (by decide +kernel)]; kernel_rfl) | (rw [if_neg (by decide +kernel)]; exact ⟨rfl, rfl⟩))
    (fun os started H enc _ => lifted os started H enc)

theorem proved : Rows.RowSetsCardSaid :=
  Claim7.holds_tied_plain_at .later [] [.data] true Rows.rowSetsCard.stood.harness false
    over (fun _ h => by cases h) (by kernel_rfl) (fun _ h => by cases h) rowSets_row_tie rfl ⟨rfl, rfl⟩ (by kernel_rfl) rfl
    (fun f fn hf hfn => by
      obtain rfl : f = 4 := Option.some.inj ((show Tryd.prog.funcNamed "cento/centolaw1.RowSets" = some 4 by kernel_rfl).symm.trans hf) |>.symm
      obtain rfl : fn = Tryd.f4 := (Option.some.inj (Tryd.func4.symm.trans hfn)).symm
      exact ⟨by kernel_rfl, fun j t ht => by
        rw [Tryd.params4] at ht
        have hm : t ∈ [38, 38, 38] := by simpa using Array.mem_of_getElem? ht
        have hall : ([38, 38, 38].all fun u => !Tryd.prog.wantsStandIn u) = true := by kernel_rfl
        exact (show Tryd.prog.wantsStandIn t = false by simpa using List.all_eq_true.1 hall t hm)⟩)
    (by kernel_rfl)
#print axioms proved
end Go.Proofs.YtnbigkknabdnjaaDoor.rowSets
