/- Contracts of Or and And of package bits: a row joined, cut with another one, or with nil. -/
import Derived.Test.YtdolcdededmlhaaDoorLoop
namespace Go.Proofs.YtdolcdededmlhaaDoor
open Go.RowKit

/-- Whether one of the words ahead of k is another one behind f. -/
def grewB (f : Nat → Nat) (ws : List Nat) (k : Nat) : Bool := (List.range k).any fun j => f j != ws[j]?.getD 0
theorem grewB_succ (f : Nat → Nat) (ws : List Nat) (k : Nat) : grewB f ws (k + 1) = (grewB f ws k || (f k != ws[k]?.getD 0)) := by
  unfold grewB; rw [List.range_succ, List.any_append]; simp

/-- What the loops of Or and And hold at word k. -/
structure Mid (w0 w : World) (b wb n : Nat) (ws cur : List Nat) (p : Option Addr) (m : Nat) (vs : List Nat) : Prop where
  c0 : w.cell? ⟨b, 0, none⟩ = some (.int .i64 n)
  c1 : ∃ cap, w.cell? ⟨b, 1, none⟩ = some (.slice (some ⟨wb, 0, none⟩) ws.length cap)
  mem : Holds64 w wb cur
  oth : Other w p wb m vs
  grown : w0.grownBy w (some wb)

theorem Mid.start {w : World} {b wb n : Nat} {ws : List Nat} {p : Option Addr} {m : Nat} {vs : List Nat} (h : RowW w b wb n ws) (ho : Other w p wb m vs) : Mid w w b wb n ws ws p m vs :=
  ⟨h.c0, h.c1, h.mem, ho, grownBy_refl _ _⟩

theorem Mid.drewN {w0 w : World} {b wb n : Nat} {ws cur : List Nat} {p : Option Addr} {m : Nat} {vs : List Nat} (h : Mid w0 w b wb n ws cur p m vs) (q : Nat) : Mid w0 (w.drewN q) b wb n ws cur p m vs :=
  ⟨h.c0, h.c1, h.mem.kept rfl, h.oth.grown (grownBy_drewN w q _), grownBy_trans h.grown (grownBy_drewN w q _)⟩

theorem Mid.set {w0 w : World} {b wb n : Nat} {ws cur : List Nat} {p : Option Addr} {m : Nat} {vs : List Nat} (h : Mid w0 w b wb n ws cur p m vs) (hne : b ≠ wb) {k : Nat} (hk : k < cur.length) (x : Nat) :
    Mid w0 (w.setCell ⟨wb, k, none⟩ (.int .u64 (x : Nat))) b wb n ws (cur.set k x) p m vs := by
  have hg := grownBy_setCell w ⟨wb, k, none⟩ (.int .u64 (x : Nat))
  have eb : (w.setCell ⟨wb, k, none⟩ (.int .u64 (x : Nat))).heap[b]? = w.heap[b]? := Below.heap_setCell _ _ _ _ hne
  obtain ⟨cap, hc⟩ := h.c1
  exact ⟨(World.cell?_of_block (a := ⟨b, 0, none⟩) eb).trans h.c0, ⟨cap, (World.cell?_of_block (a := ⟨b, 1, none⟩) eb).trans hc⟩, h.mem.set hk x, h.oth.grown hg, grownBy_trans h.grown hg⟩

theorem Mid.row {w0 w : World} {b wb n : Nat} {ws cur : List Nat} {p : Option Addr} {m : Nat} {vs : List Nat} (h : Mid w0 w b wb n ws cur p m vs) (h0 : RowW w0 b wb n ws) (hl : cur.length = ws.length) (hw : Words n cur) : RowW w b wb n cur := by
  refine ⟨Nat.lt_of_lt_of_le h0.hb h.grown.size, Nat.lt_of_lt_of_le h0.hw h.grown.size, h0.ne, h.c0, ?_, h.mem, hw, h0.small⟩
  rw [hl]; exact h.c1

set_option maxHeartbeats 2000000 in
set_option maxRecDepth 20000 in
theorem or_w (b wb n m : Nat) (p : Option Addr) (ws vs : List Nat) (w : World) (h : RowW w b wb n ws) (ho : Other w p wb m vs) :
    Calls Tryd.prog 64 #[.pointer (some ⟨b, 0, none⟩), .pointer p] w fun e w' => e = .returned (.bool (grewB (orF n ws vs) ws ws.length)) ∧ RowW w' b wb n (updW (orF n ws vs) ws ws.length) ∧ w.grownBy w' (some wb) := by
  have H := Lib.hid h
  have hne := Lib.hid h.ne
  have HM := Lib.hid (Mid.start h ho)
  have HWa := Lib.hid (orW_words h.words ho.words)
  have hlt := Lib.hid h.words.lt
  have hlt2 := Lib.hid ho.words.lt
  have hl : ws.length ≤ 16 := by have := h.words.len; have := h.small; omega
  have hlen := h.words.len
  have hn := h.small
  obtain ⟨cap, hc1⟩ := h.c1
  clear h ho
  generalize hN : ws.length = len at *
  have HN := Lib.hid hN
  have HL := Lib.hid hlen
  clear hN hlen
  go_enter Tryd.func64, Tryd.ntmps64
  go_wp2
  go_loopw [5, 13] (fun g i wr => ∃ k : Nat, k ≤ len ∧ i = .int .i64 k ∧ g = .bool (grewB (orF n ws vs) ws k) ∧ Mid w wr b wb n ws (updW (orF n ws vs) ws k) p m vs) (fun _ i _ => len - (intOf i).toNat)
  case atStart => exact ⟨0, Nat.zero_le _, rfl, rfl, HM.out⟩
  case round =>
    obtain ⟨k, hk, rfl, rfl, hmid⟩ := hrel
    by_cases hkl : k < len
    · obtain ⟨cap', hc1'⟩ := hmid.c1
      rw [HN.out] at hc1'
      have hc0' := hmid.c0
      have hcl : k < (updW (orF n ws vs) ws k).length := by rw [updW_length, HN.out]; exact hkl
      have hcell := hmid.mem.cell k hcl
      have hfree := hmid.mem.free k hcl
      rw [updW_get, if_neg (by omega)] at hcell
      have hoth := Lib.hid hmid.oth
      have hB := Lib.hid (u64_and_nat (vs[k]?.getD 0) (plc n k) (hlt2.out k) (plc_lt n k))
      have hB2 := Lib.hid (u64_or_nat (ws[k]?.getD 0) (vs[k]?.getD 0 &&& plc n k) (hlt.out k) (and64 _ (hlt2.out k)))
      have hset := Lib.hid ((hmid.drewN 1).set hne.out hcl (orF n ws vs k))
      have hF : orF n ws vs k = ws[k]?.getD 0 ||| (vs[k]?.getD 0 &&& plc n k) := rfl
      rw [hF] at hset
      have HF := Lib.hid hF
      have HG := Lib.hid (grewB_succ (orF n ws vs) ws k)
      have hpl := Lib.hid (show 64 * k ≤ n by have := HL.out; omega)
      clear hmid hcl hF
      generalize ws[k]?.getD 0 = x at *
      generalize hY : vs[k]?.getD 0 = y at *
      have HY := Lib.hid hY
      clear hY
      generalize hZ : plc n k = z at *
      have HZ := Lib.hid hZ
      clear hZ
      generalize hG : grewB (orF n ws vs) ws k = g0 at *
      clear hG
      go_wp2
      refine wp_region_still_tail 15 (by kernel_rfl) (by kernel_rfl) ?_
      simp only [List.take_succ_cons, List.take_zero, List.drop_succ_cons, List.drop_zero]
      repeat still_step
      still_call (word_o _ wb m _ vs _ (by exact hoth.out.grown (grownBy_drewN wr 1 _)))
      rw [HY.out]
      repeat still_step
      still_call (places_c _ n _ _ (by exact hc0') hn hpl.out)
      rw [HZ.out]
      repeat still_step
      refine wpStill_nil ?_
      change wpList _ _ _ _ _ wr.drew
      rw [hB.out, hB2.out]
      clear hB hB2
      generalize (x ||| y &&& z) = v at *
      obtain ⟨cap3, hc3⟩ := hset.out.c1
      rw [HN.out] at hc3
      have hc3' : (wr.setCell ⟨wb, k, none⟩ (.int .u64 (v : Nat))).cell? ⟨b, 1, none⟩ = some (.slice (some ⟨wb, 0, none⟩) len cap3) := hc3
      have hc4 := hset.out.mem.cell k (by rw [List.length_set, updW_length, HN.out]; exact hkl)
      rw [List.getElem?_set_self (by rw [updW_length, HN.out]; exact hkl)] at hc4
      have hc4' : (wr.setCell ⟨wb, k, none⟩ (.int .u64 (v : Nat))).cell? ⟨wb, k, none⟩ = some (.int .u64 (v : Nat)) := hc4
      clear hc3 hc4
      have hend : ∀ g1 : Bool, g1 = (g0 || (v != x)) → ∃ k' : Nat, k' ≤ len ∧ Value.int .i64 ((k : Int) + 1) = .int .i64 k' ∧ Value.bool g1 = .bool (grewB (orF n ws vs) ws k') ∧ Mid w (wr.setCell ⟨wb, k, none⟩ (.int .u64 (v : Nat))).drew b wb n ws (updW (orF n ws vs) ws k') p m vs := by
        intro g1 hg1
        refine ⟨k + 1, by omega, by go_num, by rw [HG.out, HF.out, hg1], ?_⟩
        show Mid _ _ _ _ _ _ ((updW (orF n ws vs) ws k).set k (orF n ws vs k)) _ _ _
        rw [HF.out]
        exact hset.out
      have HE := Lib.hid hend
      clear hend hset HG HF
      by_cases hvx : v = x
      · have hb1 : (((v : Nat) : Int) != ((x : Nat) : Int)) = false := by simp [hvx]
        have hb2 : (v != x) = false := by simp [hvx]
        have HB2 := Lib.hid hb2
        clear hvx hb2
        cases g0
        · go_wp2
          exact ⟨HE.out _ (by rw [HB2.out]; rfl), by simp [intOf]; omega⟩
        · go_wp2
          exact ⟨HE.out _ (by rw [HB2.out]; rfl), by simp [intOf]; omega⟩
      · have hb1 : (((v : Nat) : Int) != ((x : Nat) : Int)) = true := by simp; omega
        have hb2 : (v != x) = true := by simp [hvx]
        have HB2 := Lib.hid hb2
        clear hvx hb2
        cases g0
        · go_wp2
          exact ⟨HE.out _ (by rw [HB2.out]; rfl), by simp [intOf]; omega⟩
        · go_wp2
          exact ⟨HE.out _ (by rw [HB2.out]; rfl), by simp [intOf]; omega⟩
    · obtain rfl : k = len := by omega
      have hfin := hmid.row H.out (updW_length _ _ _) HWa.out
      have hgr := hmid.grown
      clear hmid
      go_wp2
      go_ret
      exact ⟨rfl, hfin, hgr⟩

/-- Whether T has a place of the row that S hasn't. -/
def grewS (n : Nat) (S T : Nat → Bool) : Bool := (List.range n).any fun i => T i && !S i

theorem grewB_of {n m : Nat} {ws vs : List Nat} (h : Words n ws) (h2 : Words m vs) : grewB (orF n ws vs) ws ws.length = grewS n (onB ws) (onB vs) := by
  rw [Bool.eq_iff_iff]
  unfold grewB grewS
  rw [List.any_eq_true, List.any_eq_true]
  constructor
  · rintro ⟨k, hk, hne⟩
    have hk' : k < ws.length := by simpa using hk
    have hne' : orF n ws vs k ≠ ws[k]?.getD 0 := by simpa using hne
    have : ∃ j, (orF n ws vs k).testBit j ≠ (ws[k]?.getD 0).testBit j := Classical.byContradiction fun hc => hne' (Nat.eq_of_testBit_eq fun j => Classical.byContradiction fun e => hc ⟨j, e⟩)
    obtain ⟨j, hj⟩ := this
    have hj64 : j < 64 := by
      by_cases e : j < 64
      · exact e
      · exact absurd (by rw [testBit_high (orF_lt h h2 k) (by omega), testBit_high (h.lt k) (by omega)]) hj
    unfold orF at hj
    rw [Nat.testBit_or, Nat.testBit_and, plc_bit _ _ _ hj64] at hj
    have a1 : (ws[k]?.getD 0).testBit j = false := by
      cases e : (ws[k]?.getD 0).testBit j
      · rfl
      · rw [e] at hj; simp at hj
    rw [a1] at hj
    have a2 : (vs[k]?.getD 0).testBit j = true ∧ 64 * k + j < n := by simpa using hj
    refine ⟨64 * k + j, by simpa using a2.2, ?_⟩
    unfold onB
    rw [show (64 * k + j) / 64 = k from by omega, show (64 * k + j) % 64 = j from by omega, a1, a2.1]
    rfl
  · rintro ⟨i, hi, hT⟩
    have hi' : i < n := by simpa using hi
    have b1 : onB vs i = true ∧ onB ws i = false := by simpa using hT
    refine ⟨i / 64, by rw [List.mem_range, h.len]; omega, ?_⟩
    rw [bne_iff_ne]
    intro e
    have e' := congrArg (fun x => x.testBit (i % 64)) e
    unfold orF at e'
    simp only [Nat.testBit_or, Nat.testBit_and] at e'
    rw [plc_bit _ _ _ (by omega), show 64 * (i / 64) + i % 64 = i from by omega] at e'
    have c1 : (vs[i / 64]?.getD 0).testBit (i % 64) = true := b1.1
    have c2 : (ws[i / 64]?.getD 0).testBit (i % 64) = false := b1.2
    rw [c1, c2] at e'
    simp [hi'] at e'

/-- What Or leaves. -/
def OrPost (b wb n : Nat) (g : Bool) (T : Nat → Bool) (w : World) (e : Ending) (w' : World) : Prop :=
  e = .returned (.bool g) ∧ IsSet w' b wb n T ∧ w.grownBy w' (some wb)

theorem or_c (b wb n m : Nat) (p : Option Addr) (S T : Nat → Bool) (w : World) (h : IsSet w b wb n S) (ho : OtherS w p wb m T) :
    Calls Tryd.prog 64 #[.pointer (some ⟨b, 0, none⟩), .pointer p] w (OrPost b wb n (grewS n S T) (fun i => S i || (T i && decide (i < n))) w) := by
  obtain ⟨ws, hr, h1⟩ := h
  obtain ⟨vs, hv, h2⟩ := ho.other
  have e : grewS n S T = grewS n (onB ws) (onB vs) := by
    have a : S = onB ws := funext fun i => (h1 i).symm
    have b : T = onB vs := funext fun i => (h2 i).symm
    rw [a, b]
  rw [e, ← grewB_of hr.words hv.words]
  exact (or_w b wb n m p ws vs w hr hv).mono fun e w' ⟨a1, a2, a3⟩ => ⟨a1, ⟨_, a2, fun i => by rw [orW_on hr.words hv.words, h1, h2]⟩, a3⟩

end Go.Proofs.YtdolcdededmlhaaDoor
