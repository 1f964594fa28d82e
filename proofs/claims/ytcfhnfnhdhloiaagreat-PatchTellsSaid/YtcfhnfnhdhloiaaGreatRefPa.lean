/- The reference's patches: paths, rows of numbers and texts, Needs, Paths, Lines, Same; a block known whole. -/
import Derived.Test.YtcfhnfnhdhloiaaGreatPatM
import Derived.Test.YtcfhnfnhdhloiaaGreatArra
import Derived.Deep.CutBlock
import Derived.Deep.RegionHeld3
/-! The reference's patches: IsPath, paths, In, Rising, Has, Put, Less. -/
namespace Go.Proofs.YtcfhnfnhdhloiaaGreat
open Go.RowKit

theorem toList_eqP {x y : ByteArray} (h : x = y) : (x.toList == y.toList) = true := by subst h; simp
theorem toList_neP {x y : ByteArray} (h : x ≠ y) : (x.toList == y.toList) = false := by
  rw [beq_eq_false_iff_ne]
  intro e
  exact h (by rw [ByteArray.toList_eq, ByteArray.toList_eq] at e; cases x; cases y; exact congrArg ByteArray.mk (Array.toList_inj.1 e))
theorem okC_iff (c : UInt8) (X : Nat) (h : c.toNat = X) : okC c = true ↔ (97 ≤ X ∧ X ≤ 122) ∨ (48 ≤ X ∧ X ≤ 57) ∨ X = 46 ∨ X = 47 := by
  subst h
  simp [okC]
/-- The first k bytes are a path's. -/
def okU (s : ByteArray) (k : Nat) : Prop := ∀ i, i < k → ∀ c, (bl s)[i]? = some c → okC c = true
theorem okU_succ {s : ByteArray} {k : Nat} {c : UInt8} (h : okU s k) (hc : (bl s)[k]? = some c) (ho : okC c = true) : okU s (k + 1) := fun i hi d hd => by
  by_cases e : i < k
  · exact h i e d hd
  · obtain rfl : i = k := by omega
    rw [hc] at hd
    cases hd
    exact ho
theorem okU_end {s : ByteArray} (h : okU s s.size) (h1 : 1 ≤ s.size) (h2 : s.size ≤ 20) : IsPath s := ⟨fun c hc => by
  obtain ⟨i, hi, e⟩ := List.getElem_of_mem hc
  have hi2 := hi
  rw [bl_size] at hi2
  exact h i hi2 c (by rw [List.getElem?_eq_getElem hi, e]), h1, h2⟩
theorem okU_no {s : ByteArray} {k : Nat} {c : UInt8} (hc : (bl s)[k]? = some c) (ho : ¬ okC c = true) : ¬ IsPath s := fun h => ho (h.ch c (List.mem_of_getElem? hc))

set_option maxHeartbeats 4000000 in
theorem refIsPath_c (s : ByteArray) (r : Bool) (w : World) (hs : s.size ≤ 1000000) (hr : r = true ↔ IsPath s) :
    Calls Tryz.prog 20 #[.string s] w fun e w' => e = .returned (.bool r) ∧ w' = w := by
  have HR := Lib.hid hr
  clear hr
  go_enter Tryz.func20, Tryz.ntmps20
  go_wp2
  go_loop [3] (fun i => ∃ k : Nat, k ≤ s.size ∧ i = .int .i64 k ∧ Hid (okU s k)) (fun i => s.size - (intOf i).toNat)
  case atStart => exact ⟨0, Nat.zero_le _, rfl, Lib.hid fun i hi => absurd hi (Nat.not_lt_zero _)⟩
  case round =>
    obtain ⟨k, hk, rfl, HU⟩ := hrel
    by_cases hks : k < s.size
    · have k0 : (0 : Int) ≤ k := by omega
      have k1 : (k : Int) < s.size := by omega
      have HB := Lib.hid (Lib.data_getElem? s k hks)
      obtain ⟨X, hX⟩ : ∃ X, (s[k]'hks).toNat = X := ⟨_, rfl⟩
      have HO := Lib.hid (okC_iff (s[k]'hks) X hX)
      have HY : Hid (((97 ≤ X ∧ X ≤ 122) ∨ (48 ≤ X ∧ X ≤ 57) ∨ X = 46 ∨ X = 47) → okU s (k + 1)) := Lib.hid fun h => okU_succ HU.out HB.out (HO.out.2 h)
      have HN : Hid (¬ ((97 ≤ X ∧ X ≤ 122) ∨ (48 ≤ X ∧ X ≤ 57) ∨ X = 46 ∨ X = 47) → r = false) := Lib.hid fun h => by
        cases e : r
        · rfl
        · exact absurd (HR.out.1 e) (okU_no HB.out fun h2 => h (HO.out.1 h2))
      by_cases c1 : 97 ≤ X
      · have d1 : (97 : Int) ≤ X := by omega
        by_cases c2 : X ≤ 122
        · have d2 : (X : Int) ≤ 122 := by omega
          have HK := Lib.hid (HY.out (by omega))
          clear HY HN HO HB
          go_wp2
          exact ⟨⟨k + 1, by omega, by go_num, HK⟩, by simp [intOf]; omega⟩
        · have d2 : ¬ ((X : Int) ≤ 122) := by omega
          have d3 : (48 : Int) ≤ X := by omega
          have d4 : ¬ ((X : Int) ≤ 57) := by omega
          have d5 : ((X : Int) == 46) = false := by rw [beq_eq_false_iff_ne]; omega
          have d6 : ((X : Int) == 47) = false := by rw [beq_eq_false_iff_ne]; omega
          have hf : r = false := HN.out (by omega)
          subst hf
          clear HY HN HO HB
          go_wp2
          go_ret
          exact ⟨rfl, rfl⟩
      · have d1 : ¬ ((97 : Int) ≤ X) := by omega
        by_cases c3 : 48 ≤ X
        · have d3 : (48 : Int) ≤ X := by omega
          by_cases c4 : X ≤ 57
          · have d4 : (X : Int) ≤ 57 := by omega
            have HK := Lib.hid (HY.out (by omega))
            clear HY HN HO HB
            go_wp2
            exact ⟨⟨k + 1, by omega, by go_num, HK⟩, by simp [intOf]; omega⟩
          · have d4 : ¬ ((X : Int) ≤ 57) := by omega
            have d5 : ((X : Int) == 46) = false := by rw [beq_eq_false_iff_ne]; omega
            have d6 : ((X : Int) == 47) = false := by rw [beq_eq_false_iff_ne]; omega
            have hf : r = false := HN.out (by omega)
            subst hf
            clear HY HN HO HB
            go_wp2
            go_ret
            exact ⟨rfl, rfl⟩
        · have d3 : ¬ ((48 : Int) ≤ X) := by omega
          by_cases c5 : X = 46
          · have d5 : ((X : Int) == 46) = true := by rw [beq_iff_eq]; omega
            have HK := Lib.hid (HY.out (by omega))
            clear HY HN HO HB
            go_wp2
            exact ⟨⟨k + 1, by omega, by go_num, HK⟩, by simp [intOf]; omega⟩
          · have d5 : ((X : Int) == 46) = false := by rw [beq_eq_false_iff_ne]; omega
            by_cases c6 : X = 47
            · have d6 : ((X : Int) == 47) = true := by rw [beq_iff_eq]; omega
              have HK := Lib.hid (HY.out (by omega))
              clear HY HN HO HB
              go_wp2
              exact ⟨⟨k + 1, by omega, by go_num, HK⟩, by simp [intOf]; omega⟩
            · have d6 : ((X : Int) == 47) = false := by rw [beq_eq_false_iff_ne]; omega
              have hf : r = false := HN.out (by omega)
              subst hf
              clear HY HN HO HB
              go_wp2
              go_ret
              exact ⟨rfl, rfl⟩
    · obtain rfl : k = s.size := by omega
      have HE := Lib.hid (fun h1 h2 => HR.out.2 (okU_end HU.out h1 h2))
      have HNE := Lib.hid (fun h : ¬ (1 ≤ s.size ∧ s.size ≤ 20) => show r = false by
        cases e : r
        · rfl
        · exact absurd ⟨(HR.out.1 e).lo, (HR.out.1 e).hi⟩ h)
      by_cases c1 : 1 ≤ s.size
      · have d1 : (1 : Int) ≤ s.size := by omega
        by_cases c2 : s.size ≤ 20
        · have d2 : (s.size : Int) ≤ 20 := by omega
          obtain rfl : r = true := HE.out c1 c2
          go_wp2
          go_ret
          exact ⟨rfl, rfl⟩
        · have d2 : ¬ ((s.size : Int) ≤ 20) := by omega
          obtain rfl : r = false := HNE.out (by omega)
          go_wp2
          go_ret
          exact ⟨rfl, rfl⟩
      · have d1 : ¬ ((1 : Int) ≤ s.size) := by omega
        obtain rfl : r = false := HNE.out (by omega)
        go_wp2
        go_ret
        exact ⟨rfl, rfl⟩

theorem upto_succ {q : Nat → Prop} {k : Nat} (h : ∀ j, j < k → q j) (hk : q k) : ∀ j, j < k + 1 → q j := fun j hj => by
  by_cases e : j < k
  · exact h j e
  · obtain rfl : j = k := by omega
    exact hk
theorem no_false {r : Bool} {q : Prop} (h : r = true ↔ q) (hn : ¬ q) : r = false := by
  cases e : r
  · rfl
  · exact absurd (h.1 e) hn
theorem get_mem {α : Type} {l : List α} {d : α} {k : Nat} (h : k < l.length) : l[k]?.getD d ∈ l := by
  rw [List.getElem?_eq_getElem h]
  exact List.getElem_mem h
theorem mem_get {α : Type} {l : List α} {d x : α} (h : x ∈ l) : ∃ k, k < l.length ∧ l[k]?.getD d = x := by
  obtain ⟨k, hk, e⟩ := List.getElem_of_mem h
  exact ⟨k, hk, by rw [List.getElem?_eq_getElem hk, Option.getD_some, e]⟩

set_option maxHeartbeats 1000000 in
theorem refIn_c (p : Option Addr) (n c lo hi : Nat) (l : List ByteArray) (s : ByteArray) (r : Bool) (w : World) (h : StrsAt w lo hi p n l) (hn : n ≤ 1000000) (hr : r = true ↔ s ∈ l) :
    Calls Tryz.prog 31 #[.slice p n c, .string s] w fun e w' => e = .returned (.bool r) ∧ w' = w := by
  have H := Lib.hid h
  have HR := Lib.hid hr
  have HL := Lib.hid h.len
  clear h hr
  go_enter Tryz.func31, Tryz.ntmps31
  go_wp2
  go_loop [5] (fun i => ∃ k : Nat, k ≤ n ∧ i = .int .i64 k ∧ Hid (∀ j, j < k → l[j]?.getD .empty ≠ s)) (fun i => n - (intOf i).toNat)
  case atStart => exact ⟨0, Nat.zero_le _, rfl, Lib.hid fun i hi => absurd hi (Nat.not_lt_zero _)⟩
  case round =>
    obtain ⟨k, hk, rfl, HU⟩ := hrel
    by_cases hkn : k < n
    · have k0 : (0 : Int) ≤ k := by omega
      have k1 : (k : Int) < n := by omega
      obtain ⟨b, o, rfl, _, _, _, hc⟩ := H.out.cell (by omega)
      have hck := hc k hkn
      have HM := Lib.hid (get_mem (d := .empty) (show k < l.length by rw [HL.out]; exact hkn))
      have HK := Lib.hid (show l[k]?.getD .empty ≠ s → ∀ j, j < k + 1 → l[j]?.getD .empty ≠ s from fun h => upto_succ HU.out h)
      clear hc
      generalize l[k]?.getD .empty = x at *
      by_cases e : x = s
      · have e1 := toList_eqP e
        obtain rfl : r = true := HR.out.2 (e ▸ HM.out)
        clear e
        go_wp2
        go_ret
        exact ⟨rfl, rfl⟩
      · have e1 := toList_neP e
        have HK2 := Lib.hid (HK.out e)
        clear e
        go_wp2
        exact ⟨⟨k + 1, by omega, by go_num, HK2⟩, by simp [intOf]; omega⟩
    · obtain rfl : k = n := by omega
      have k1 : ¬ ((k : Int) < k) := by omega
      obtain rfl : r = false := no_false HR.out fun h => by
        obtain ⟨j, hj, e⟩ := mem_get (d := ByteArray.empty) h
        exact HU.out j (by rw [← HL.out]; exact hj) e
      go_wp2
      go_ret
      exact ⟨rfl, rfl⟩

set_option maxHeartbeats 1000000 in
theorem refHas_c (p : Option Addr) (n c lo hi x : Nat) (l : List Nat) (r : Bool) (w : World) (h : NsAt .u32 w lo hi p n l) (hn : n ≤ 1000000) (hr : r = true ↔ x ∈ l) :
    Calls Tryz.prog 22 #[.slice p n c, .int .u32 x] w fun e w' => e = .returned (.bool r) ∧ w' = w := by
  have H := Lib.hid h
  have HR := Lib.hid hr
  have HL := Lib.hid h.len
  clear h hr
  go_enter Tryz.func22, Tryz.ntmps22
  go_wp2
  go_loop [5] (fun i => ∃ k : Nat, k ≤ n ∧ i = .int .i64 k ∧ Hid (∀ j, j < k → l[j]?.getD 0 ≠ x)) (fun i => n - (intOf i).toNat)
  case atStart => exact ⟨0, Nat.zero_le _, rfl, Lib.hid fun i hi => absurd hi (Nat.not_lt_zero _)⟩
  case round =>
    obtain ⟨k, hk, rfl, HU⟩ := hrel
    by_cases hkn : k < n
    · have k0 : (0 : Int) ≤ k := by omega
      have k1 : (k : Int) < n := by omega
      obtain ⟨b, o, rfl, _, _, _, hc⟩ := H.out.cell (by omega)
      have hck := hc k hkn
      have HM := Lib.hid (get_mem (d := 0) (show k < l.length by rw [HL.out]; exact hkn))
      have HK := Lib.hid (show l[k]?.getD 0 ≠ x → ∀ j, j < k + 1 → l[j]?.getD 0 ≠ x from fun h => upto_succ HU.out h)
      clear hc
      generalize l[k]?.getD 0 = y at *
      by_cases e : y = x
      · have e1 : ((y : Int) == (x : Int)) = true := by rw [beq_iff_eq]; omega
        obtain rfl : r = true := HR.out.2 (e ▸ HM.out)
        clear e
        go_wp2
        go_ret
        exact ⟨rfl, rfl⟩
      · have e1 : ((y : Int) == (x : Int)) = false := by rw [beq_eq_false_iff_ne]; omega
        have HK2 := Lib.hid (HK.out e)
        clear e
        go_wp2
        exact ⟨⟨k + 1, by omega, by go_num, HK2⟩, by simp [intOf]; omega⟩
    · obtain rfl : k = n := by omega
      have k1 : ¬ ((k : Int) < k) := by omega
      obtain rfl : r = false := no_false HR.out fun h => by
        obtain ⟨j, hj, e⟩ := mem_get (d := 0) h
        exact HU.out j (by rw [← HL.out]; exact hj) e
      go_wp2
      go_ret
      exact ⟨rfl, rfl⟩

end Go.Proofs.YtcfhnfnhdhloiaaGreat
/-! The reference's patches: Rising, paths. -/
namespace Go.Proofs.YtcfhnfnhdhloiaaGreat
open Go.RowKit

theorem risB_all {α : Type} {lt : α → α → Bool} (O : Lin lt) {d : α} {l : List α} (h : risB lt d l l.length = true) : risR lt l := by
  have := (risB_iff O d (Nat.le_refl l.length)).1 h
  rwa [List.take_length] at this
theorem risB_of {α : Type} {lt : α → α → Bool} (O : Lin lt) {d : α} {l : List α} (h : risR lt l) : risB lt d l l.length = true := (risB_iff O d (Nat.le_refl l.length)).2 (by rw [List.take_length]; exact h)
theorem ris_bad {α : Type} {lt : α → α → Bool} (O : Lin lt) {d : α} {l : List α} {k : Nat} (hk : k + 1 < l.length) (h : lt (l[k]?.getD d) (l[k + 1]?.getD d) = false) : ¬ risR lt l := fun hr => by
  have h1 := risB_of O (d := d) hr
  rw [risB_no hk (by omega) (by rw [Nat.add_sub_cancel]; exact h)] at h1
  cases h1

set_option maxHeartbeats 2000000 in
theorem refRising_c (p : Option Addr) (n c lo hi : Nat) (l : List Nat) (r : Bool) (w : World) (h : NsAt .u32 w lo hi p n l) (hn : n ≤ 1000000) (hr : r = true ↔ (∀ d ∈ l, d ≠ 0) ∧ risR ltN l) :
    Calls Tryz.prog 29 #[.slice p n c] w fun e w' => e = .returned (.bool r) ∧ w.grownBy w' none := by
  have H := Lib.hid h
  have HR := Lib.hid hr
  have HL := Lib.hid h.len
  clear h hr
  go_enter Tryz.func29, Tryz.ntmps29
  go_wp2
  go_loopw [3] (fun i wr => ∃ k : Nat, k ≤ n ∧ i = .int .i64 k ∧ Hid (∀ j, j < k → l[j]?.getD 0 ≠ 0) ∧ Hid (risB ltN 0 l k = true) ∧ w.grownBy wr none) (fun i _ => n - (intOf i).toNat)
  case atStart => exact ⟨0, Nat.zero_le _, rfl, Lib.hid (fun i hi => absurd hi (Nat.not_lt_zero _)), Lib.hid rfl, grownBy_refl _ _⟩
  case round =>
    obtain ⟨k, hk, rfl, HZ, HS, hgr⟩ := hrel
    by_cases hkn : k < n
    · have k0 : (0 : Int) ≤ k := by omega
      have k1 : (k : Int) < n := by omega
      obtain ⟨b, o, rfl, _, _, _, hc⟩ := (H.out.calm hgr).cell (by omega)
      have hck := hc k hkn
      have HM := Lib.hid (get_mem (d := 0) (show k < l.length by rw [HL.out]; exact hkn))
      have HK := Lib.hid (show l[k]?.getD 0 ≠ 0 → ∀ j, j < k + 1 → l[j]?.getD 0 ≠ 0 from fun h => upto_succ HZ.out h)
      have HSU := Lib.hid (risB_succ (lt := ltN) 0 l k)
      rw [HS.out] at HSU
      by_cases hz : l[k]?.getD 0 = 0
      · obtain rfl : r = false := no_false HR.out fun h => h.1 _ HM.out hz
        have e1 : (((l[k]?.getD 0 : Nat) : Int) == 0) = true := by rw [hz]; rfl
        clear hc hz
        generalize l[k]?.getD 0 = x at *
        go_wp2
        go_quiet (fail)
        go_wp2
        go_ret
        exact ⟨rfl, grownBy_trans hgr (grownBy_drewN _ _ none)⟩
      · have HK2 := Lib.hid (HK.out hz)
        have e1 : (((l[k]?.getD 0 : Nat) : Int) == 0) = false := by rw [beq_eq_false_iff_ne]; omega
        cases k with
        | zero =>
          have HS2 : Hid (risB ltN 0 l (0 + 1) = true) := Lib.hid (by rw [HSU.out]; rfl)
          have e2 : decide ((0 : Int) < ((0 : Nat) : Int)) = false := by decide
          clear hc hz HSU HK HM
          simp only [Nat.add_zero] at hck
          generalize l[0]?.getD 0 = x at *
          go_wp2
          go_quiet (fail)
          go_wp2
          exact ⟨⟨0 + 1, by omega, by go_num, HK2, HS2, grownBy_trans hgr (grownBy_drewN _ _ none)⟩, by simp [intOf]; omega⟩
        | succ K =>
          have hcK := hc K (by omega)
          have HBAD := Lib.hid (ris_bad linN (d := 0) (l := l) (k := K) (by rw [HL.out]; exact hkn))
          have HS2 := HSU
          rw [Nat.add_sub_cancel] at HS2
          have kw : IntKind.i64.wrap (((K + 1 : Nat) : Int) - 1) = (K : Int) := by rw [IntWalk.i64_in _ (by omega)]; omega
          have kp : (0 : Int) < ((K + 1 : Nat) : Int) := by omega
          have K0 : (0 : Int) ≤ K := by omega
          have K1 : (K : Int) < n := by omega
          clear hc hz HSU HK HM
          generalize l[K + 1]?.getD 0 = x at *
          generalize l[K]?.getD 0 = y at *
          generalize hkk : K + 1 = kk at *
          have HKK := Lib.hid hkk
          clear hkk
          have e2 : decide ((0 : Int) < (kk : Int)) = true := decide_eq_true kp
          have e2' : decide (0 < kk) = true := decide_eq_true (by omega)
          by_cases hxy : x ≤ y
          · have e3 : decide ((x : Int) ≤ (y : Int)) = true := decide_eq_true (by omega)
            have e3' : decide (x ≤ y) = true := decide_eq_true hxy
            obtain rfl : r = false := no_false HR.out fun h => HBAD.out (by simp [ltN]; exact hxy) h.2
            go_wp2
            go_quiet (fail)
            go_wp2
            go_ret
            exact ⟨rfl, grownBy_trans hgr (grownBy_drewN _ _ none)⟩
          · have e3 : decide ((x : Int) ≤ (y : Int)) = false := decide_eq_false (by omega)
            have e3' : decide (x ≤ y) = false := decide_eq_false hxy
            have HS3 : Hid (risB ltN 0 l (kk + 1) = true) := Lib.hid (by
              rw [HS2.out]
              have : ltN y x = true := by simp [ltN]; omega
              rw [this, Bool.or_true]; rfl)
            go_wp2
            go_quiet (fail)
            clear kw
            go_wp2
            exact ⟨⟨kk + 1, by omega, by go_num, HK2, HS3, grownBy_trans hgr (grownBy_drewN _ _ none)⟩, by have := HKK.out; simp [intOf]; omega⟩
    · obtain rfl : k = n := by omega
      have k1 : ¬ ((k : Int) < k) := by omega
      obtain rfl : r = true := HR.out.2 ⟨fun d hd => by
        obtain ⟨j, hj, e⟩ := mem_get (d := 0) hd
        rw [← e]
        exact HZ.out j (by rw [← HL.out]; exact hj), risB_all linN (by rw [HL.out]; exact HS.out)⟩
      go_wp2
      go_ret
      exact ⟨rfl, hgr⟩

set_option maxHeartbeats 2000000 in
theorem refPaths0_c (p : Option Addr) (n c lo hi : Nat) (l : List ByteArray) (r : Bool) (w : World) (h : StrsAt w lo hi p n l) (hs : ∀ s ∈ l, s.size ≤ 1000000) (hn : n ≤ 1000000) (hr : r = true ↔ (∀ s ∈ l, IsPath s) ∧ risR ltS l) :
    Calls Tryz.prog 30 #[.slice p n c] w fun e w' => e = .returned (.bool r) ∧ w.grownBy w' none := by
  have H := Lib.hid h
  have HR := Lib.hid hr
  have HL := Lib.hid h.len
  have HSM := Lib.hid hs
  clear h hr hs
  go_enter Tryz.func30, Tryz.ntmps30
  go_wp2
  go_loopw [3] (fun i wr => ∃ k : Nat, k ≤ n ∧ i = .int .i64 k ∧ Hid (∀ j, j < k → IsPath (l[j]?.getD .empty)) ∧ Hid (risB ltS .empty l k = true) ∧ w.grownBy wr none) (fun i _ => n - (intOf i).toNat)
  case atStart => exact ⟨0, Nat.zero_le _, rfl, Lib.hid (fun i hi => absurd hi (Nat.not_lt_zero _)), Lib.hid rfl, grownBy_refl _ _⟩
  case round =>
    obtain ⟨k, hk, rfl, HZ, HS, hgr⟩ := hrel
    by_cases hkn : k < n
    · have k0 : (0 : Int) ≤ k := by omega
      have k1 : (k : Int) < n := by omega
      obtain ⟨b, o, rfl, _, _, _, hc⟩ := (H.out.calm hgr).cell (by omega)
      have hck := hc k hkn
      have HM := Lib.hid (get_mem (d := ByteArray.empty) (show k < l.length by rw [HL.out]; exact hkn))
      have HX := Lib.hid (HSM.out _ HM.out)
      have HK := Lib.hid (show IsPath (l[k]?.getD .empty) → ∀ j, j < k + 1 → IsPath (l[j]?.getD .empty) from fun h => upto_succ (q := fun j => IsPath (l[j]?.getD .empty)) HZ.out h)
      have HSU := Lib.hid (risB_succ (lt := ltS) .empty l k)
      rw [HS.out] at HSU
      by_cases hz : IsPath (l[k]?.getD .empty)
      · have HK2 := Lib.hid (HK.out hz)
        have HP := Lib.hid hz
        cases k with
        | zero =>
          have HS2 : Hid (risB ltS .empty l (0 + 1) = true) := Lib.hid (by rw [HSU.out]; rfl)
          have e2 : decide ((0 : Int) < ((0 : Nat) : Int)) = false := by decide
          clear hc hz HSU HK HM
          simp only [Nat.add_zero] at hck
          generalize l[0]?.getD .empty = x at *
          go_wp2
          go_quiet ((go_at_call 20; exact Calls.quiet_of_same (refIsPath_c x true _ HX.out (iff_of_true rfl HP.out))))
          go_wp2
          exact ⟨⟨0 + 1, by omega, by go_num, HK2, HS2, grownBy_trans hgr (grownBy_drewN _ _ none)⟩, by simp [intOf]; omega⟩
        | succ K =>
          have hcK := hc K (by omega)
          have HBAD := Lib.hid (ris_bad linS (d := ByteArray.empty) (l := l) (k := K) (by rw [HL.out]; exact hkn))
          have HS2 := HSU
          rw [Nat.add_sub_cancel] at HS2
          have kw : IntKind.i64.wrap (((K + 1 : Nat) : Int) - 1) = (K : Int) := by rw [IntWalk.i64_in _ (by omega)]; omega
          have kp : (0 : Int) < ((K + 1 : Nat) : Int) := by omega
          have K0 : (0 : Int) ≤ K := by omega
          have K1 : (K : Int) < n := by omega
          clear hc hz HSU HK HM
          generalize l[K + 1]?.getD .empty = x at *
          generalize l[K]?.getD .empty = y at *
          generalize hkk : K + 1 = kk at *
          have HKK := Lib.hid hkk
          clear hkk
          have e2 : decide ((0 : Int) < (kk : Int)) = true := decide_eq_true kp
          have e2' : decide (0 < kk) = true := decide_eq_true (by omega)
          cases hxy : ltS y x with
          | false =>
            obtain rfl : r = false := no_false HR.out fun h => HBAD.out hxy h.2
            by_cases hne : x = y
            · subst hne
              have e3 : Op.bytesLess x.toList x.toList = false := less_irr _
              have e4 : (x.toList == x.toList) = true := toList_eqP rfl
              clear hxy
              go_wp2
              go_quiet ((go_at_call 20; exact Calls.quiet_of_same (refIsPath_c x true _ HX.out (iff_of_true rfl HP.out))))
              go_wp2
              go_ret
              exact ⟨rfl, grownBy_trans hgr (grownBy_drewN _ _ none)⟩
            · have e3 : Op.bytesLess x.toList y.toList = true := (linS.tot x y hne).resolve_right (by rw [hxy]; decide)
              have e4 := toList_neP hne
              clear hxy hne
              go_wp2
              go_quiet ((go_at_call 20; exact Calls.quiet_of_same (refIsPath_c x true _ HX.out (iff_of_true rfl HP.out))))
              go_wp2
              go_ret
              exact ⟨rfl, grownBy_trans hgr (grownBy_drewN _ _ none)⟩
          | true =>
            have e3 : Op.bytesLess x.toList y.toList = false := linS.not hxy
            have e4 : (x.toList == y.toList) = false := toList_neP fun e => by
              rw [e, linS.irr] at hxy
              cases hxy
            have HS3 : Hid (risB ltS .empty l (kk + 1) = true) := Lib.hid (by rw [HS2.out, hxy, Bool.or_true]; rfl)
            clear hxy
            go_wp2
            go_quiet ((go_at_call 20; exact Calls.quiet_of_same (refIsPath_c x true _ HX.out (iff_of_true rfl HP.out))))
            clear kw
            go_wp2
            exact ⟨⟨kk + 1, by omega, by go_num, HK2, HS3, grownBy_trans hgr (grownBy_drewN _ _ none)⟩, by have := HKK.out; simp [intOf]; omega⟩
      · obtain rfl : r = false := no_false HR.out fun h => hz (h.1 _ HM.out)
        have HP := Lib.hid (show false = true ↔ IsPath (l[k]?.getD .empty) from ⟨(fun h => by cases h), fun h => absurd h hz⟩)
        clear hc hz HK
        generalize l[k]?.getD .empty = x at *
        go_wp2
        go_quiet ((go_at_call 20; exact Calls.quiet_of_same (refIsPath_c x false _ HX.out HP.out)))
        go_wp2
        go_ret
        exact ⟨rfl, grownBy_trans hgr (grownBy_drewN _ _ none)⟩
    · obtain rfl : k = n := by omega
      have k1 : ¬ ((k : Int) < k) := by omega
      obtain rfl : r = true := HR.out.2 ⟨fun d hd => by
        obtain ⟨j, hj, e⟩ := mem_get (d := ByteArray.empty) hd
        rw [← e]
        exact HZ.out j (by rw [← HL.out]; exact hj), risB_all linS (by rw [HL.out]; exact HS.out)⟩
      go_wp2
      go_ret
      exact ⟨rfl, hgr⟩

end Go.Proofs.YtcfhnfnhdhloiaaGreat
/-! The reference's patches: Put, PutText. -/
namespace Go.Proofs.YtcfhnfnhdhloiaaGreat
open Go.RowKit

/-- The cells of numbers. -/
def ncells (k : IntKind) (l : List Nat) : List Value := l.map fun x => Value.int k ((x : Nat) : Int)
theorem ncells_len (k : IntKind) (l : List Nat) : (ncells k l).length = l.length := by simp [ncells]
theorem ncells_get {k : IntKind} {l : List Nat} {i : Nat} (hi : i < l.length) : (ncells k l)[i]? = some (.int k ((l[i]?.getD 0 : Nat) : Int)) := by
  unfold ncells
  rw [List.getElem?_map, List.getElem?_eq_getElem hi]
  rfl
theorem ncells_one (k : IntKind) (l : List Nat) : ∀ u ∈ ncells k l, u.oneCell' = true := by
  intro u hu
  unfold ncells at hu
  obtain ⟨x, _, rfl⟩ := List.mem_map.1 hu
  rfl
theorem ncells_app (k : IntKind) (a b : List Nat) : ncells k (a ++ b) = ncells k a ++ ncells k b := by simp [ncells]
theorem nsAt_own {k : IntKind} {e : TypeId} {w : World} {base : Nat} {v : Value} {n : Nat} {l : List Nat} (hn : l.length = n) (h : w.ownsRow base e 1 v n (ncells k l)) :
    ∃ p c, v = .slice p n c ∧ NsAt k w base w.heap.size p n l ∧ n ≤ c ∧ (p = none → c = 0) := by
  subst hn
  rcases h.2 with ⟨rfl, h0⟩ | ⟨g, cap, cur, rfl, hb, hg, hle, _⟩
  · rw [h0]; exact ⟨none, 0, rfl, ⟨h0, fun h => absurd h (by omega)⟩, Nat.le_refl _, fun _ => rfl⟩
  · refine ⟨_, cap, rfl, ⟨rfl, fun hn => ⟨g, 0, rfl, hb, (Array.getElem?_eq_some_iff.1 hg).1, Nat.le_refl _, fun i hi => ?_⟩⟩, hle, (fun h => by cases h)⟩
    have hc := h.cells (g := g) rfl i _ (ncells_get hi)
    rw [add_off] at hc
    exact hc
theorem strsAt_own3 {w : World} {base : Nat} {v : Value} {n : Nat} {l : List ByteArray} (hn : l.length = n) (h : w.ownsRow base 9 1 v n (scells l)) :
    ∃ p c, v = .slice p n c ∧ StrsAt w base w.heap.size p n l ∧ n ≤ c ∧ (p = none → c = 0) := by
  subst hn
  obtain ⟨p, c, e, h1, h2, h3⟩ := strsAt_ownC h
  exact ⟨p, c, e, h1, h3, h2⟩
/-- What lies from place a on, m of them. -/
theorem src_nums {k : IntKind} {w : World} {lo hi n c : Nat} {p : Option Addr} {l : List Nat} (h : NsAt k w lo hi p n l) (hp : p = none → c = 0) : (p = none ∧ n = 0 ∧ c = 0) ∨ ∃ b off, p = some ⟨b, off, none⟩ ∨ n = 0 := by
  cases p with
  | none =>
    refine .inl ⟨rfl, ?_, hp rfl⟩
    rcases Nat.eq_zero_or_pos n with e | e
    · exact e
    · obtain ⟨_, _, e2, _⟩ := h.cell e; cases e2
  | some ad =>
    rcases Nat.eq_zero_or_pos n with e | e
    · exact .inr ⟨0, 0, .inr e⟩
    · obtain ⟨b, off, e2, _⟩ := h.cell e
      exact .inr ⟨b, off, .inl e2⟩
theorem nums_part {k : IntKind} {w : World} {lo hi n b off : Nat} {l : List Nat} (h : NsAt k w lo hi (some ⟨b, off, none⟩) n l) (a m : Nat) (ham : a + m ≤ n) : ∀ j u, (ncells k ((l.drop a).take m))[j]? = some u → w.cell? ((⟨b, off + a, none⟩ : Addr).add j) = some u := by
  intro j u hj
  have hjm : j < m := by
    have := (List.getElem?_eq_some_iff.1 hj).1
    rw [ncells_len, List.length_take] at this
    omega
  obtain ⟨b', off', e, _, _, _, hc⟩ := h.cell (by omega)
  simp only [Option.some.injEq, Addr.mk.injEq, and_true] at e
  obtain ⟨rfl, rfl⟩ := e
  have := hc (a + j) (by omega)
  rw [ncells_get (by rw [List.length_take, List.length_drop, h.len]; omega)] at hj
  cases hj
  rw [add_off, Nat.add_assoc, this, List.getElem?_take_of_lt hjm, List.getElem?_drop]

theorem src_front {kd : IntKind} {w : World} {lo hi n c k : Nat} {p : Option Addr} {l : List Nat} (h : NsAt kd w lo hi p n l) (hp : p = none → c = 0) (hk : k ≤ n) : (p = none ∧ k = 0 ∧ c = 0) ∨ ∃ ad, p = some ad ∧ ∀ j u, (ncells kd (l.take k))[j]? = some u → w.cell? (ad.add j) = some u := by
  rcases Nat.eq_zero_or_pos n with e | e
  · obtain rfl : k = 0 := by omega
    cases p with
    | none => exact .inl ⟨rfl, rfl, hp rfl⟩
    | some ad => exact .inr ⟨ad, rfl, fun j u hj => by simp [ncells] at hj⟩
  · obtain ⟨b, off, rfl, _⟩ := h.cell e
    refine .inr ⟨_, rfl, fun j u hj => ?_⟩
    have := nums_part h 0 k (by omega) j u (by rw [List.drop_zero]; exact hj)
    rwa [Nat.add_zero] at this
theorem while_get {α : Type} {q : α → Bool} {l : List α} {d : α} {k : Nat} (hk : k ≤ l.length) (h1 : ∀ j, j < k → q (l[j]?.getD d) = true) (h2 : k < l.length → q (l[k]?.getD d) = false) : l.takeWhile q = l.take k ∧ l.dropWhile q = l.drop k :=
  while_at hk (fun j hj hl => by have := h1 j hj; rwa [List.getElem?_eq_getElem hl] at this) (fun hl => by have := h2 hl; rwa [List.getElem?_eq_getElem hl] at this)
theorem infoU32 : (Tryz.prog.info? 22).map (fun i => (i.zero, i.size, i.bytes)) = some (some (.int .u32 0), 1, 4) := by kernel_rfl
theorem NsAt.wide {k : IntKind} {w : World} {lo hi n : Nat} {p : Option Addr} {l : List Nat} (h : NsAt k w lo hi p n l) : NsAt k w 0 w.heap.size p n l := ⟨h.len, fun hn => by
  obtain ⟨b, off, e, h1, h2, h3, hc⟩ := h.cell hn
  exact ⟨b, off, e, Nat.zero_le _, by omega, Nat.le_refl _, hc⟩⟩
theorem StrsAt.wideP {w : World} {lo hi n : Nat} {p : Option Addr} {l : List ByteArray} (h : StrsAt w lo hi p n l) : StrsAt w 0 w.heap.size p n l := ⟨h.len, fun hn => by
  obtain ⟨b, off, e, h1, h2, h3, hc⟩ := h.cell hn
  exact ⟨b, off, e, Nat.zero_le _, by omega, Nat.le_refl _, hc⟩⟩

theorem put_cells {l : List Nat} {x k : Nat} (hm : x ∉ l) (h1 : l.takeWhile (fun y => ltN y x) = l.take k) (h2 : l.dropWhile (fun y => ltN y x) = l.drop k) : ncells .u32 (l.take k) ++ [Value.int .u32 x] ++ ncells .u32 (l.drop k) = ncells .u32 (putR ltN l x) := by
  rw [putR_new hm, h1, h2, ncells_app]
  show _ = _ ++ (Value.int .u32 x :: ncells .u32 (l.drop k))
  rw [List.append_assoc]
  rfl

set_option maxHeartbeats 4000000 in
theorem refPut_c (p : Option Addr) (n c lo hi x : Nat) (l : List Nat) (w : World) (h : NsAt .u32 w lo hi p n l) (hn : n ≤ 100000) (hc : n ≤ c) (hp : p = none → c = 0) (hz : n = 0 → p = none) :
    Calls Tryz.prog 36 #[.slice p n c, .int .u32 x] w fun e w' => ∃ p' n' c', e = .returned (.slice p' n' c') ∧ NsAt .u32 w' 0 w'.heap.size p' n' (putR ltN l x) ∧ n' ≤ c' ∧ (p' = none → c' = 0) ∧ (n' = 0 → p' = none) ∧ n' ≤ n + 1 ∧ w.grownBy w' none := by
  obtain ⟨i0, hi0, hz0, hz1, hz2⟩ := info_parts infoU32
  have H := Lib.hid h
  have HL := Lib.hid h.len
  have HP := Lib.hid hp
  have HZ := Lib.hid hz
  clear h hp hz
  obtain ⟨r, hr⟩ : ∃ r, decide (x ∈ l) = r := ⟨_, rfl⟩
  have hr2 : r = true ↔ x ∈ l := by rw [← hr, decide_eq_true_eq]
  go_enter Tryz.func36, Tryz.ntmps36
  go_wp2_with fail
  refine (refHas_c p n c lo hi x l r _ H.out (by omega) hr2).mono ?_
  rintro e w1 ⟨rfl, h9⟩
  subst w1
  cases r with
  | true =>
    have HM := Lib.hid (hr2.1 rfl)
    clear hr hr2
    go_wp2
    go_ret
    rw [putR_has HM.out]
    exact ⟨p, n, c, rfl, H.out.wide, hc, HP.out, HZ.out, by omega, grownBy_refl _ _⟩
  | false =>
    have hm : x ∉ l := fun h => by have := hr2.2 h; cases this
    have HM := Lib.hid hm
    clear hr hr2 hm
    go_upto_block 0 with fail
    go_cut [5] from 11 to 24 (fun s5 wx => ∃ k : Nat, s5 = .int .i64 k ∧ k ≤ n ∧ Hid (l.takeWhile (fun y => ltN y x) = l.take k ∧ l.dropWhile (fun y => ltN y x) = l.drop k) ∧ wx = w)
    case first =>
      go_wp2_with fail
      go_loop [5] (fun i => ∃ k : Nat, k ≤ n ∧ i = .int .i64 k ∧ Hid (∀ j, j < k → ltN (l[j]?.getD 0) x = true)) (fun i => n - (intOf i).toNat)
      case atStart => exact ⟨0, Nat.zero_le _, rfl, Lib.hid fun i hi => absurd hi (Nat.not_lt_zero _)⟩
      case round =>
        obtain ⟨k, hk, rfl, HU⟩ := hrel
        by_cases hkn : k < n
        · have k0 : (0 : Int) ≤ k := by omega
          have k1 : (k : Int) < n := by omega
          obtain ⟨b, o, rfl, _, _, _, hc'⟩ := H.out.cell (by omega)
          have hck := hc' k hkn
          have HK := Lib.hid (show ltN (l[k]?.getD 0) x = true → ∀ j, j < k + 1 → ltN (l[j]?.getD 0) x = true from fun h => upto_succ (q := fun j => ltN (l[j]?.getD 0) x = true) HU.out h)
          have HE := Lib.hid (show ltN (l[k]?.getD 0) x = false → l.takeWhile (fun y => ltN y x) = l.take k ∧ l.dropWhile (fun y => ltN y x) = l.drop k from fun h => while_get (d := 0) (by rw [HL.out]; exact hk) HU.out (fun _ => h))
          clear hc'
          generalize l[k]?.getD 0 = y at *
          by_cases hy : y < x
          · have e1 : (y : Int) < (x : Int) := by omega
            have HK2 := Lib.hid (HK.out (by simp [ltN]; exact hy))
            go_wp2
            exact ⟨⟨k + 1, by omega, by go_num, HK2⟩, by simp [intOf]; omega⟩
          · have e1 : ¬ ((y : Int) < (x : Int)) := by omega
            have HE2 := Lib.hid (HE.out (by simp [ltN]; omega))
            go_wp2
            go_meet
            exact ⟨k, rfl, hk, HE2, rfl⟩
        · obtain rfl : k = n := by omega
          have k1 : ¬ ((k : Int) < k) := by omega
          have HE2 := Lib.hid (while_get (q := fun y => ltN y x) (d := 0) (by rw [HL.out]; exact Nat.le_refl _) HU.out (fun h => absurd h (by rw [HL.out]; exact Nat.lt_irrefl _)))
          go_wp2
          go_meet
          exact ⟨k, rfl, hk, HE2, rfl⟩
    case rest =>
      obtain ⟨k, rfl, hk, HE, hwc⟩ := hcut
      subst hwc
      have HF := Lib.hid (src_front (k := k) H.out HP.out hk)
      have HT := Lib.hid (show (ncells .u32 (l.take k)).length = k by rw [ncells_len, List.length_take, HL.out]; omega)
      have k0 : (0 : Int) ≤ k := by omega
      have k1 : (k : Int) ≤ n := by omega
      have k2 : (k : Int) ≤ c := by omega
      have c9 : n ≤ c := hc
      by_cases hn0 : n = 0
      · obtain rfl := HZ.out hn0
        subst hn0
        obtain rfl : k = 0 := by omega
        obtain rfl : c = 0 := HP.out rfl
        have HLN : Hid (l = []) := Lib.hid (List.eq_nil_of_length_eq_zero HL.out)
        go_upto_region 7 with (first
          | (at_builtin; refine wpList_append_src rfl (.const (.slice none 0 0)) (.tmp 27) 23 rfl wc.heap.size 22 i0 (.int .u32 0) 1 4 Tryz.underlying23 hi0 hz0 hz1 hz2 rfl (by decide) (.slice none 0 0) 0 [] (by simp [Act.eval]) (World.ownsRow_nil _ _ _ _) (none) 0 0 (ncells .u32 (l.take 0)) (by simp [Act.eval]) (by rw [Nat.mul_one]; exact HT.out) HF.out (ncells_one _ _) (by unfold maxLen; omega) (by omega) (Nat.le_refl _) ?_; intro p1 c1 w1 hr1 hg1; rw [Nat.zero_add, List.nil_append] at hr1; rw [Nat.zero_add]; have HR1 := Lib.hid hr1; have hg1 : wc.grownBy w1 none := hg1; have hs1 := hg1.size; have HG1 := Lib.hid hg1; clear hr1 hg1)
          | (at_builtin; refine wpList_append_own _ rfl _ _ 23 rfl wc.heap.size 22 i0 (.int .u32 0) 1 4 Tryz.underlying23 hi0 hz0 hz1 hz2 rfl (by decide) _ _ _ rfl (HR1.out.alloc _) ⟨w1.heap.size, 0, none⟩ 1 1 [.int .u32 x] rfl rfl (cell_one_new _ _ _) (by simp [Value.oneCell']) (by unfold maxLen; omega) (by omega) (by simp; omega) ?_; intro v' w2 hown' hgrow _; obtain ⟨g', cap', rfl⟩ := ownsRow_succ hown'; have HR2 := Lib.hid hown'; have HG2 := Lib.hid (grownBy_app HG1.out HR1.out hgrow); clear hown' hgrow))
        have HR5 : Hid (w2.ownsRow wc.heap.size 22 1 (.slice (some ⟨g', 0, none⟩) 1 cap') 1 (ncells .u32 (l.take 0) ++ [.int .u32 x])) := Lib.hid (by have := HR2.out; rw [Nat.zero_add] at this; exact this)
        clear HF HT
        go_wp2_with (at_builtin; refine wpList_append_src rfl (.tmp 32) (.tmp 35) 23 rfl wc.heap.size 22 i0 (.int .u32 0) 1 4 Tryz.underlying23 hi0 hz0 hz1 hz2 rfl (by decide) (.slice (some ⟨g', 0, none⟩) (1) cap') (1) (ncells .u32 (l.take 0) ++ [.int .u32 x]) (by simp [Act.eval]) HR5.out (none) (0) (0) (ncells .u32 (l.drop 0)) (by simp [Act.eval]) (by rw [HLN.out]; rfl) (.inl ⟨rfl, rfl, rfl⟩) (ncells_one _ _) (by unfold maxLen; omega) (by omega) HG2.out.size ?_; intro p3 c3 w3 hr3 hg3; have HR3 := Lib.hid hr3; have HG3 := Lib.hid (ownsRow_new HG2.out HR5.out hg3); clear hr3 hg3)
        go_ret
        have hr := HR3.out
        rw [put_cells HM.out HE.out.1 HE.out.2] at hr
        obtain ⟨p4, c4, e4, h4, h5, h6⟩ := nsAt_own (by rw [putR_new HM.out, HE.out.1, HE.out.2, List.length_append, List.length_cons, List.length_take, List.length_drop, HL.out]; omega) hr
        cases e4
        exact ⟨_, _, _, rfl, h4.wide, h5, h6, by omega, by omega, HG3.out⟩
      · obtain ⟨b, o, rfl, _⟩ := H.out.cell (by omega)
        by_cases hck : c = k
        · subst hck
          obtain rfl : n = c := by omega
          go_upto_region 7 with (first
            | (at_builtin; refine wpList_append_src rfl (.const (.slice none 0 0)) (.tmp 27) 23 rfl wc.heap.size 22 i0 (.int .u32 0) 1 4 Tryz.underlying23 hi0 hz0 hz1 hz2 rfl (by decide) (.slice none 0 0) 0 [] (by simp [Act.eval]) (World.ownsRow_nil _ _ _ _) (some ⟨b, o, none⟩) n n (ncells .u32 (l.take n)) (by simp [Act.eval]) (by rw [Nat.mul_one]; exact HT.out) HF.out (ncells_one _ _) (by unfold maxLen; omega) (by omega) (Nat.le_refl _) ?_; intro p1 c1 w1 hr1 hg1; rw [Nat.zero_add, List.nil_append] at hr1; rw [Nat.zero_add]; have HR1 := Lib.hid hr1; have hg1 : wc.grownBy w1 none := hg1; have hs1 := hg1.size; have HG1 := Lib.hid hg1; clear hr1 hg1)
            | (at_builtin; refine wpList_append_own _ rfl _ _ 23 rfl wc.heap.size 22 i0 (.int .u32 0) 1 4 Tryz.underlying23 hi0 hz0 hz1 hz2 rfl (by decide) _ _ _ rfl (HR1.out.alloc _) ⟨w1.heap.size, 0, none⟩ 1 1 [.int .u32 x] rfl rfl (cell_one_new _ _ _) (by simp [Value.oneCell']) (by unfold maxLen; omega) (by omega) (by simp; omega) ?_; intro v' w2 hown' hgrow _; obtain ⟨g', cap', rfl⟩ := ownsRow_succ hown'; have HR2 := Lib.hid hown'; have HG2 := Lib.hid (grownBy_app HG1.out HR1.out hgrow); clear hown' hgrow))
          clear HF HT
          go_wp2_with (at_builtin; refine wpList_append_src rfl (.tmp 32) (.tmp 35) 23 rfl wc.heap.size 22 i0 (.int .u32 0) 1 4 Tryz.underlying23 hi0 hz0 hz1 hz2 rfl (by decide) (.slice (some ⟨g', 0, none⟩) (n + 1) cap') (n + 1) (ncells .u32 (l.take n) ++ [.int .u32 x]) (by simp [Act.eval]) HR2.out (some ⟨b, o, none⟩) (0) (0) (ncells .u32 (l.drop n)) (by simp [Act.eval]) (by rw [List.drop_eq_nil_of_le (by rw [HL.out]; omega)]; rfl) (.inr ⟨_, rfl, fun j u hj => by rw [List.drop_eq_nil_of_le (by rw [HL.out]; omega)] at hj; simp [ncells] at hj⟩) (ncells_one _ _) (by unfold maxLen; omega) (by omega) HG2.out.size ?_; intro p3 c3 w3 hr3 hg3; have HR3 := Lib.hid hr3; have HG3 := Lib.hid (ownsRow_new HG2.out HR2.out hg3); clear hr3 hg3)
          go_ret
          have hr := HR3.out
          rw [put_cells HM.out HE.out.1 HE.out.2] at hr
          obtain ⟨p4, c4, e4, h4, h5, h6⟩ := nsAt_own (by rw [putR_new HM.out, HE.out.1, HE.out.2, List.length_append, List.length_cons, List.length_take, List.length_drop, HL.out]; omega) hr
          cases e4
          exact ⟨_, _, _, rfl, h4.wide, h5, h6, by omega, by omega, HG3.out⟩
        · by_cases hk0 : k = 0
          · subst hk0
            go_upto_region 7 with (first
              | (at_builtin; refine wpList_append_src rfl (.const (.slice none 0 0)) (.tmp 27) 23 rfl wc.heap.size 22 i0 (.int .u32 0) 1 4 Tryz.underlying23 hi0 hz0 hz1 hz2 rfl (by decide) (.slice none 0 0) 0 [] (by simp [Act.eval]) (World.ownsRow_nil _ _ _ _) (some ⟨b, o, none⟩) 0 c (ncells .u32 (l.take 0)) (by simp [Act.eval]) (by rw [Nat.mul_one]; exact HT.out) HF.out (ncells_one _ _) (by unfold maxLen; omega) (by omega) (Nat.le_refl _) ?_; intro p1 c1 w1 hr1 hg1; rw [Nat.zero_add, List.nil_append] at hr1; rw [Nat.zero_add]; have HR1 := Lib.hid hr1; have hg1 : wc.grownBy w1 none := hg1; have hs1 := hg1.size; have HG1 := Lib.hid hg1; clear hr1 hg1)
              | (at_builtin; refine wpList_append_own _ rfl _ _ 23 rfl wc.heap.size 22 i0 (.int .u32 0) 1 4 Tryz.underlying23 hi0 hz0 hz1 hz2 rfl (by decide) _ _ _ rfl (HR1.out.alloc _) ⟨w1.heap.size, 0, none⟩ 1 1 [.int .u32 x] rfl rfl (cell_one_new _ _ _) (by simp [Value.oneCell']) (by unfold maxLen; omega) (by omega) (by simp; omega) ?_; intro v' w2 hown' hgrow _; obtain ⟨g', cap', rfl⟩ := ownsRow_succ hown'; have HR2 := Lib.hid hown'; have HG2 := Lib.hid (grownBy_app HG1.out HR1.out hgrow); clear hown' hgrow))
            have HR5 : Hid (w2.ownsRow wc.heap.size 22 1 (.slice (some ⟨g', 0, none⟩) 1 cap') 1 (ncells .u32 (l.take 0) ++ [.int .u32 x])) := Lib.hid (by have := HR2.out; rw [Nat.zero_add] at this; exact this)
            have HS := Lib.hid (nums_part (H.out.calm HG2.out) 0 n (by omega))
            clear HF HT
            go_wp2_with (at_builtin; refine wpList_append_src rfl (.tmp 32) (.tmp 35) 23 rfl wc.heap.size 22 i0 (.int .u32 0) 1 4 Tryz.underlying23 hi0 hz0 hz1 hz2 rfl (by decide) (.slice (some ⟨g', 0, none⟩) (1) cap') (1) (ncells .u32 (l.take 0) ++ [.int .u32 x]) (by simp [Act.eval]) HR5.out (some ⟨b, o, none⟩) (n) (c) (ncells .u32 (l.drop 0)) (by simp [Act.eval]) (by rw [ncells_len, List.length_drop, HL.out]; omega) (.inr ⟨_, rfl, fun j u hj => by have := HS.out j u (by rw [List.take_of_length_le (by rw [List.length_drop, HL.out]; omega)]; exact hj); rwa [Nat.add_zero] at this⟩) (ncells_one _ _) (by unfold maxLen; omega) (by omega) HG2.out.size ?_; intro p3 c3 w3 hr3 hg3; have HR3 := Lib.hid hr3; have HG3 := Lib.hid (ownsRow_new HG2.out HR5.out hg3); clear hr3 hg3)
            go_ret
            have hr := HR3.out
            rw [put_cells HM.out HE.out.1 HE.out.2] at hr
            obtain ⟨p4, c4, e4, h4, h5, h6⟩ := nsAt_own (by rw [putR_new HM.out, HE.out.1, HE.out.2, List.length_append, List.length_cons, List.length_take, List.length_drop, HL.out]; omega) hr
            cases e4
            exact ⟨_, _, _, rfl, h4.wide, h5, h6, by omega, by omega, HG3.out⟩
          · have k3 : ¬ c = k := hck
            go_upto_region 7 with (first
              | (at_builtin; refine wpList_append_src rfl (.const (.slice none 0 0)) (.tmp 27) 23 rfl wc.heap.size 22 i0 (.int .u32 0) 1 4 Tryz.underlying23 hi0 hz0 hz1 hz2 rfl (by decide) (.slice none 0 0) 0 [] (by simp [Act.eval]) (World.ownsRow_nil _ _ _ _) (some ⟨b, o, none⟩) k c (ncells .u32 (l.take k)) (by simp [Act.eval]) (by rw [Nat.mul_one]; exact HT.out) HF.out (ncells_one _ _) (by unfold maxLen; omega) (by omega) (Nat.le_refl _) ?_; intro p1 c1 w1 hr1 hg1; rw [Nat.zero_add, List.nil_append] at hr1; rw [Nat.zero_add]; have HR1 := Lib.hid hr1; have hg1 : wc.grownBy w1 none := hg1; have hs1 := hg1.size; have HG1 := Lib.hid hg1; clear hr1 hg1)
              | (at_builtin; refine wpList_append_own _ rfl _ _ 23 rfl wc.heap.size 22 i0 (.int .u32 0) 1 4 Tryz.underlying23 hi0 hz0 hz1 hz2 rfl (by decide) _ _ _ rfl (HR1.out.alloc _) ⟨w1.heap.size, 0, none⟩ 1 1 [.int .u32 x] rfl rfl (cell_one_new _ _ _) (by simp [Value.oneCell']) (by unfold maxLen; omega) (by omega) (by simp; omega) ?_; intro v' w2 hown' hgrow _; obtain ⟨g', cap', rfl⟩ := ownsRow_succ hown'; have HR2 := Lib.hid hown'; have HG2 := Lib.hid (grownBy_app HG1.out HR1.out hgrow); clear hown' hgrow))
            have HS := Lib.hid (nums_part (H.out.calm HG2.out) k (n - k) (by omega))
            clear HF HT
            go_wp2_with (at_builtin; refine wpList_append_src rfl (.tmp 32) (.tmp 35) 23 rfl wc.heap.size 22 i0 (.int .u32 0) 1 4 Tryz.underlying23 hi0 hz0 hz1 hz2 rfl (by decide) (.slice (some ⟨g', 0, none⟩) (k + 1) cap') (k + 1) (ncells .u32 (l.take k) ++ [.int .u32 x]) (by simp [Act.eval]) HR2.out (some ⟨b, o + k, none⟩) (n - k) (c - k) (ncells .u32 (l.drop k)) (by simp [Act.eval]) (by rw [ncells_len, List.length_drop, HL.out, Nat.mul_one]) (.inr ⟨_, rfl, fun j u hj => HS.out j u (by rw [List.take_of_length_le (by rw [List.length_drop, HL.out]; exact Nat.le_refl _)]; exact hj)⟩) (ncells_one _ _) (by unfold maxLen; omega) (by omega) HG2.out.size ?_; intro p3 c3 w3 hr3 hg3; have HR3 := Lib.hid hr3; have HG3 := Lib.hid (ownsRow_new HG2.out HR2.out hg3); clear hr3 hg3)
            go_ret
            have hr := HR3.out
            rw [put_cells HM.out HE.out.1 HE.out.2] at hr
            obtain ⟨p4, c4, e4, h4, h5, h6⟩ := nsAt_own (by rw [putR_new HM.out, HE.out.1, HE.out.2, List.length_append, List.length_cons, List.length_take, List.length_drop, HL.out]; omega) hr
            cases e4
            exact ⟨_, _, _, rfl, h4.wide, h5, h6, by omega, by omega, HG3.out⟩

end Go.Proofs.YtcfhnfnhdhloiaaGreat
/-! The reference's patches: PutText. -/
namespace Go.Proofs.YtcfhnfnhdhloiaaGreat
open Go.RowKit

theorem scells_lenP (l : List ByteArray) : (scells l).length = l.length := by simp [scells]
theorem scells_app (a b : List ByteArray) : scells (a ++ b) = scells a ++ scells b := by simp [scells]
theorem scells_oneP (l : List ByteArray) : ∀ u ∈ scells l, u.oneCell' = true := by
  intro u hu
  unfold scells at hu
  obtain ⟨x, _, rfl⟩ := List.mem_map.1 hu
  rfl
theorem strs_part {w : World} {lo hi n b off : Nat} {l : List ByteArray} (h : StrsAt w lo hi (some ⟨b, off, none⟩) n l) (a m : Nat) (ham : a + m ≤ n) : ∀ j u, (scells ((l.drop a).take m))[j]? = some u → w.cell? ((⟨b, off + a, none⟩ : Addr).add j) = some u := by
  intro j u hj
  have hjm : j < m := by
    have := (List.getElem?_eq_some_iff.1 hj).1
    rw [scells_lenP, List.length_take] at this
    omega
  obtain ⟨b', off', e, _, _, _, hc⟩ := h.cell (by omega)
  simp only [Option.some.injEq, Addr.mk.injEq, and_true] at e
  obtain ⟨rfl, rfl⟩ := e
  have := hc (a + j) (by omega)
  rw [scells_get (by rw [List.length_take, List.length_drop, h.len]; omega)] at hj
  cases hj
  rw [add_off, Nat.add_assoc, this, List.getElem?_take_of_lt hjm, List.getElem?_drop]
theorem srcS_front {w : World} {lo hi n c k : Nat} {p : Option Addr} {l : List ByteArray} (h : StrsAt w lo hi p n l) (hp : p = none → c = 0) (hk : k ≤ n) : (p = none ∧ k = 0 ∧ c = 0) ∨ ∃ ad, p = some ad ∧ ∀ j u, (scells (l.take k))[j]? = some u → w.cell? (ad.add j) = some u := by
  rcases Nat.eq_zero_or_pos n with e | e
  · obtain rfl : k = 0 := by omega
    cases p with
    | none => exact .inl ⟨rfl, rfl, hp rfl⟩
    | some ad => exact .inr ⟨ad, rfl, fun j u hj => by simp [scells] at hj⟩
  · obtain ⟨b, off, rfl, _⟩ := h.cell e
    refine .inr ⟨_, rfl, fun j u hj => ?_⟩
    have := strs_part h 0 k (by omega) j u (by rw [List.drop_zero]; exact hj)
    rwa [Nat.add_zero] at this
theorem putS_cells {l : List ByteArray} {x : ByteArray} {k : Nat} (hm : x ∉ l) (h1 : l.takeWhile (fun y => ltS y x) = l.take k) (h2 : l.dropWhile (fun y => ltS y x) = l.drop k) : scells (l.take k) ++ [Value.string x] ++ scells (l.drop k) = scells (putR ltS l x) := by
  rw [putR_new hm, h1, h2, scells_app]
  show _ = _ ++ (Value.string x :: scells (l.drop k))
  rw [List.append_assoc]
  rfl

set_option maxHeartbeats 4000000 in
theorem refPutText_c (p : Option Addr) (n c lo hi : Nat) (x : ByteArray) (l : List ByteArray) (w : World) (h : StrsAt w lo hi p n l) (hn : n ≤ 100000) (hc : n ≤ c) (hp : p = none → c = 0) (hz : n = 0 → p = none) :
    Calls Tryz.prog 41 #[.slice p n c, .string x] w fun e w' => ∃ p' n' c', e = .returned (.slice p' n' c') ∧ StrsAt w' 0 w'.heap.size p' n' (putR ltS l x) ∧ n' ≤ c' ∧ (p' = none → c' = 0) ∧ (n' = 0 → p' = none) ∧ n' ≤ n + 1 ∧ w.grownBy w' none := by
  obtain ⟨i0, hi0, hz0, hz1, hz2⟩ := info_parts Tryz.info9
  have H := Lib.hid h
  have HL := Lib.hid h.len
  have HP := Lib.hid hp
  have HZ := Lib.hid hz
  clear h hp hz
  obtain ⟨r, hr2⟩ : ∃ r : Bool, r = true ↔ x ∈ l := by
    by_cases h : x ∈ l
    · exact ⟨true, iff_of_true rfl h⟩
    · exact ⟨false, iff_of_false Bool.false_ne_true h⟩
  go_enter Tryz.func41, Tryz.ntmps41
  go_wp2_with fail
  refine (refIn_c p n c lo hi l x r _ H.out (by omega) hr2).mono ?_
  rintro e w1 ⟨rfl, h9⟩
  subst w1
  cases r with
  | true =>
    have HM := Lib.hid (hr2.1 rfl)
    clear hr2
    go_wp2
    go_ret
    rw [putR_has HM.out]
    exact ⟨p, n, c, rfl, H.out.wideP, hc, HP.out, HZ.out, by omega, grownBy_refl _ _⟩
  | false =>
    have hm : x ∉ l := fun h => by have := hr2.2 h; cases this
    have HM := Lib.hid hm
    clear hr2 hm
    go_upto_block 0 with fail
    go_cut [5] from 11 to 24 (fun s5 wx => ∃ k : Nat, s5 = .int .i64 k ∧ k ≤ n ∧ Hid (l.takeWhile (fun y => ltS y x) = l.take k ∧ l.dropWhile (fun y => ltS y x) = l.drop k) ∧ wx = w)
    case first =>
      go_wp2_with fail
      go_loop [5] (fun i => ∃ k : Nat, k ≤ n ∧ i = .int .i64 k ∧ Hid (∀ j, j < k → ltS (l[j]?.getD .empty) x = true)) (fun i => n - (intOf i).toNat)
      case atStart => exact ⟨0, Nat.zero_le _, rfl, Lib.hid fun i hi => absurd hi (Nat.not_lt_zero _)⟩
      case round =>
        obtain ⟨k, hk, rfl, HU⟩ := hrel
        by_cases hkn : k < n
        · have k0 : (0 : Int) ≤ k := by omega
          have k1 : (k : Int) < n := by omega
          obtain ⟨b, o, rfl, _, _, _, hc'⟩ := H.out.cell (by omega)
          have hck := hc' k hkn
          have HK := Lib.hid (show ltS (l[k]?.getD .empty) x = true → ∀ j, j < k + 1 → ltS (l[j]?.getD .empty) x = true from fun h => upto_succ (q := fun j => ltS (l[j]?.getD .empty) x = true) HU.out h)
          have HE := Lib.hid (show ltS (l[k]?.getD .empty) x = false → l.takeWhile (fun y => ltS y x) = l.take k ∧ l.dropWhile (fun y => ltS y x) = l.drop k from fun h => while_get (d := ByteArray.empty) (by rw [HL.out]; exact hk) HU.out (fun _ => h))
          clear hc'
          generalize l[k]?.getD .empty = y at *
          cases hy : ltS y x with
          | true =>
            have e1 : Op.bytesLess y.toList x.toList = true := hy
            have HK2 := Lib.hid (HK.out hy)
            clear hy
            go_wp2
            exact ⟨⟨k + 1, by omega, by go_num, HK2⟩, by simp [intOf]; omega⟩
          | false =>
            have e1 : Op.bytesLess y.toList x.toList = false := hy
            have HE2 := Lib.hid (HE.out hy)
            clear hy
            go_wp2
            go_meet
            exact ⟨k, rfl, hk, HE2, rfl⟩
        · obtain rfl : k = n := by omega
          have k1 : ¬ ((k : Int) < k) := by omega
          have HE2 := Lib.hid (while_get (q := fun y => ltS y x) (d := ByteArray.empty) (by rw [HL.out]; exact Nat.le_refl _) HU.out (fun h => absurd h (by rw [HL.out]; exact Nat.lt_irrefl _)))
          go_wp2
          go_meet
          exact ⟨k, rfl, hk, HE2, rfl⟩
    case rest =>
      obtain ⟨k, rfl, hk, HE, hwc⟩ := hcut
      subst hwc
      have HF := Lib.hid (srcS_front (k := k) H.out HP.out hk)
      have HT := Lib.hid (show (scells (l.take k)).length = k by rw [scells_lenP, List.length_take, HL.out]; omega)
      have k0 : (0 : Int) ≤ k := by omega
      have k1 : (k : Int) ≤ n := by omega
      have k2 : (k : Int) ≤ c := by omega
      have c9 : n ≤ c := hc
      by_cases hn0 : n = 0
      · obtain rfl := HZ.out hn0
        subst hn0
        obtain rfl : k = 0 := by omega
        obtain rfl : c = 0 := HP.out rfl
        have HLN : Hid (l = []) := Lib.hid (List.eq_nil_of_length_eq_zero HL.out)
        go_upto_region 7 with (first
          | (at_builtin; refine wpList_append_src rfl (.const (.slice none 0 0)) (.tmp 27) 24 rfl wc.heap.size 9 i0 (.string .empty) 1 16 Tryz.underlying24 hi0 hz0 hz1 hz2 rfl (by decide) (.slice none 0 0) 0 [] (by simp [Act.eval]) (World.ownsRow_nil _ _ _ _) (none) 0 0 (scells (l.take 0)) (by simp [Act.eval]) (by rw [Nat.mul_one]; exact HT.out) HF.out (scells_oneP _) (by unfold maxLen; omega) (by omega) (Nat.le_refl _) ?_; intro p1 c1 w1 hr1 hg1; rw [Nat.zero_add, List.nil_append] at hr1; rw [Nat.zero_add]; have HR1 := Lib.hid hr1; have hg1 : wc.grownBy w1 none := hg1; have hs1 := hg1.size; have HG1 := Lib.hid hg1; clear hr1 hg1)
          | (at_builtin; refine wpList_append_own _ rfl _ _ 24 rfl wc.heap.size 9 i0 (.string .empty) 1 16 Tryz.underlying24 hi0 hz0 hz1 hz2 rfl (by decide) _ _ _ rfl (HR1.out.alloc _) ⟨w1.heap.size, 0, none⟩ 1 1 [.string x] rfl rfl (cell_one_new _ _ _) (by simp [Value.oneCell']) (by unfold maxLen; omega) (by omega) (by simp; omega) ?_; intro v' w2 hown' hgrow _; obtain ⟨g', cap', rfl⟩ := ownsRow_succ hown'; have HR2 := Lib.hid hown'; have HG2 := Lib.hid (grownBy_app HG1.out HR1.out hgrow); clear hown' hgrow))
        have HR5 : Hid (w2.ownsRow wc.heap.size 9 1 (.slice (some ⟨g', 0, none⟩) 1 cap') 1 (scells (l.take 0) ++ [.string x])) := Lib.hid (by have := HR2.out; rw [Nat.zero_add] at this; exact this)
        clear HF HT
        go_wp2_with (at_builtin; refine wpList_append_src rfl (.tmp 32) (.tmp 35) 24 rfl wc.heap.size 9 i0 (.string .empty) 1 16 Tryz.underlying24 hi0 hz0 hz1 hz2 rfl (by decide) (.slice (some ⟨g', 0, none⟩) (1) cap') (1) (scells (l.take 0) ++ [.string x]) (by simp [Act.eval]) HR5.out (none) (0) (0) (scells (l.drop 0)) (by simp [Act.eval]) (by rw [HLN.out]; rfl) (.inl ⟨rfl, rfl, rfl⟩) (scells_oneP _) (by unfold maxLen; omega) (by omega) HG2.out.size ?_; intro p3 c3 w3 hr3 hg3; have HR3 := Lib.hid hr3; have HG3 := Lib.hid (ownsRow_new HG2.out HR5.out hg3); clear hr3 hg3)
        go_ret
        have hr := HR3.out
        rw [putS_cells HM.out HE.out.1 HE.out.2] at hr
        obtain ⟨p4, c4, e4, h4, h5, h6⟩ := strsAt_own3 (by rw [putR_new HM.out, HE.out.1, HE.out.2, List.length_append, List.length_cons, List.length_take, List.length_drop, HL.out]; omega) hr
        cases e4
        exact ⟨_, _, _, rfl, h4.wideP, h5, h6, by omega, by omega, HG3.out⟩
      · obtain ⟨b, o, rfl, _⟩ := H.out.cell (by omega)
        by_cases hck : c = k
        · subst hck
          obtain rfl : n = c := by omega
          go_upto_region 7 with (first
            | (at_builtin; refine wpList_append_src rfl (.const (.slice none 0 0)) (.tmp 27) 24 rfl wc.heap.size 9 i0 (.string .empty) 1 16 Tryz.underlying24 hi0 hz0 hz1 hz2 rfl (by decide) (.slice none 0 0) 0 [] (by simp [Act.eval]) (World.ownsRow_nil _ _ _ _) (some ⟨b, o, none⟩) n n (scells (l.take n)) (by simp [Act.eval]) (by rw [Nat.mul_one]; exact HT.out) HF.out (scells_oneP _) (by unfold maxLen; omega) (by omega) (Nat.le_refl _) ?_; intro p1 c1 w1 hr1 hg1; rw [Nat.zero_add, List.nil_append] at hr1; rw [Nat.zero_add]; have HR1 := Lib.hid hr1; have hg1 : wc.grownBy w1 none := hg1; have hs1 := hg1.size; have HG1 := Lib.hid hg1; clear hr1 hg1)
            | (at_builtin; refine wpList_append_own _ rfl _ _ 24 rfl wc.heap.size 9 i0 (.string .empty) 1 16 Tryz.underlying24 hi0 hz0 hz1 hz2 rfl (by decide) _ _ _ rfl (HR1.out.alloc _) ⟨w1.heap.size, 0, none⟩ 1 1 [.string x] rfl rfl (cell_one_new _ _ _) (by simp [Value.oneCell']) (by unfold maxLen; omega) (by omega) (by simp; omega) ?_; intro v' w2 hown' hgrow _; obtain ⟨g', cap', rfl⟩ := ownsRow_succ hown'; have HR2 := Lib.hid hown'; have HG2 := Lib.hid (grownBy_app HG1.out HR1.out hgrow); clear hown' hgrow))
          clear HF HT
          go_wp2_with (at_builtin; refine wpList_append_src rfl (.tmp 32) (.tmp 35) 24 rfl wc.heap.size 9 i0 (.string .empty) 1 16 Tryz.underlying24 hi0 hz0 hz1 hz2 rfl (by decide) (.slice (some ⟨g', 0, none⟩) (n + 1) cap') (n + 1) (scells (l.take n) ++ [.string x]) (by simp [Act.eval]) HR2.out (some ⟨b, o, none⟩) (0) (0) (scells (l.drop n)) (by simp [Act.eval]) (by rw [List.drop_eq_nil_of_le (by rw [HL.out]; omega)]; rfl) (.inr ⟨_, rfl, fun j u hj => by rw [List.drop_eq_nil_of_le (by rw [HL.out]; omega)] at hj; simp [scells] at hj⟩) (scells_oneP _) (by unfold maxLen; omega) (by omega) HG2.out.size ?_; intro p3 c3 w3 hr3 hg3; have HR3 := Lib.hid hr3; have HG3 := Lib.hid (ownsRow_new HG2.out HR2.out hg3); clear hr3 hg3)
          go_ret
          have hr := HR3.out
          rw [putS_cells HM.out HE.out.1 HE.out.2] at hr
          obtain ⟨p4, c4, e4, h4, h5, h6⟩ := strsAt_own3 (by rw [putR_new HM.out, HE.out.1, HE.out.2, List.length_append, List.length_cons, List.length_take, List.length_drop, HL.out]; omega) hr
          cases e4
          exact ⟨_, _, _, rfl, h4.wideP, h5, h6, by omega, by omega, HG3.out⟩
        · by_cases hk0 : k = 0
          · subst hk0
            go_upto_region 7 with (first
              | (at_builtin; refine wpList_append_src rfl (.const (.slice none 0 0)) (.tmp 27) 24 rfl wc.heap.size 9 i0 (.string .empty) 1 16 Tryz.underlying24 hi0 hz0 hz1 hz2 rfl (by decide) (.slice none 0 0) 0 [] (by simp [Act.eval]) (World.ownsRow_nil _ _ _ _) (some ⟨b, o, none⟩) 0 c (scells (l.take 0)) (by simp [Act.eval]) (by rw [Nat.mul_one]; exact HT.out) HF.out (scells_oneP _) (by unfold maxLen; omega) (by omega) (Nat.le_refl _) ?_; intro p1 c1 w1 hr1 hg1; rw [Nat.zero_add, List.nil_append] at hr1; rw [Nat.zero_add]; have HR1 := Lib.hid hr1; have hg1 : wc.grownBy w1 none := hg1; have hs1 := hg1.size; have HG1 := Lib.hid hg1; clear hr1 hg1)
              | (at_builtin; refine wpList_append_own _ rfl _ _ 24 rfl wc.heap.size 9 i0 (.string .empty) 1 16 Tryz.underlying24 hi0 hz0 hz1 hz2 rfl (by decide) _ _ _ rfl (HR1.out.alloc _) ⟨w1.heap.size, 0, none⟩ 1 1 [.string x] rfl rfl (cell_one_new _ _ _) (by simp [Value.oneCell']) (by unfold maxLen; omega) (by omega) (by simp; omega) ?_; intro v' w2 hown' hgrow _; obtain ⟨g', cap', rfl⟩ := ownsRow_succ hown'; have HR2 := Lib.hid hown'; have HG2 := Lib.hid (grownBy_app HG1.out HR1.out hgrow); clear hown' hgrow))
            have HR5 : Hid (w2.ownsRow wc.heap.size 9 1 (.slice (some ⟨g', 0, none⟩) 1 cap') 1 (scells (l.take 0) ++ [.string x])) := Lib.hid (by have := HR2.out; rw [Nat.zero_add] at this; exact this)
            have HS := Lib.hid (strs_part (H.out.calm HG2.out) 0 n (by omega))
            clear HF HT
            go_wp2_with (at_builtin; refine wpList_append_src rfl (.tmp 32) (.tmp 35) 24 rfl wc.heap.size 9 i0 (.string .empty) 1 16 Tryz.underlying24 hi0 hz0 hz1 hz2 rfl (by decide) (.slice (some ⟨g', 0, none⟩) (1) cap') (1) (scells (l.take 0) ++ [.string x]) (by simp [Act.eval]) HR5.out (some ⟨b, o, none⟩) (n) (c) (scells (l.drop 0)) (by simp [Act.eval]) (by rw [scells_lenP, List.length_drop, HL.out]; omega) (.inr ⟨_, rfl, fun j u hj => by have := HS.out j u (by rw [List.take_of_length_le (by rw [List.length_drop, HL.out]; omega)]; exact hj); rwa [Nat.add_zero] at this⟩) (scells_oneP _) (by unfold maxLen; omega) (by omega) HG2.out.size ?_; intro p3 c3 w3 hr3 hg3; have HR3 := Lib.hid hr3; have HG3 := Lib.hid (ownsRow_new HG2.out HR5.out hg3); clear hr3 hg3)
            go_ret
            have hr := HR3.out
            rw [putS_cells HM.out HE.out.1 HE.out.2] at hr
            obtain ⟨p4, c4, e4, h4, h5, h6⟩ := strsAt_own3 (by rw [putR_new HM.out, HE.out.1, HE.out.2, List.length_append, List.length_cons, List.length_take, List.length_drop, HL.out]; omega) hr
            cases e4
            exact ⟨_, _, _, rfl, h4.wideP, h5, h6, by omega, by omega, HG3.out⟩
          · have k3 : ¬ c = k := hck
            go_upto_region 7 with (first
              | (at_builtin; refine wpList_append_src rfl (.const (.slice none 0 0)) (.tmp 27) 24 rfl wc.heap.size 9 i0 (.string .empty) 1 16 Tryz.underlying24 hi0 hz0 hz1 hz2 rfl (by decide) (.slice none 0 0) 0 [] (by simp [Act.eval]) (World.ownsRow_nil _ _ _ _) (some ⟨b, o, none⟩) k c (scells (l.take k)) (by simp [Act.eval]) (by rw [Nat.mul_one]; exact HT.out) HF.out (scells_oneP _) (by unfold maxLen; omega) (by omega) (Nat.le_refl _) ?_; intro p1 c1 w1 hr1 hg1; rw [Nat.zero_add, List.nil_append] at hr1; rw [Nat.zero_add]; have HR1 := Lib.hid hr1; have hg1 : wc.grownBy w1 none := hg1; have hs1 := hg1.size; have HG1 := Lib.hid hg1; clear hr1 hg1)
              | (at_builtin; refine wpList_append_own _ rfl _ _ 24 rfl wc.heap.size 9 i0 (.string .empty) 1 16 Tryz.underlying24 hi0 hz0 hz1 hz2 rfl (by decide) _ _ _ rfl (HR1.out.alloc _) ⟨w1.heap.size, 0, none⟩ 1 1 [.string x] rfl rfl (cell_one_new _ _ _) (by simp [Value.oneCell']) (by unfold maxLen; omega) (by omega) (by simp; omega) ?_; intro v' w2 hown' hgrow _; obtain ⟨g', cap', rfl⟩ := ownsRow_succ hown'; have HR2 := Lib.hid hown'; have HG2 := Lib.hid (grownBy_app HG1.out HR1.out hgrow); clear hown' hgrow))
            have HS := Lib.hid (strs_part (H.out.calm HG2.out) k (n - k) (by omega))
            clear HF HT
            go_wp2_with (at_builtin; refine wpList_append_src rfl (.tmp 32) (.tmp 35) 24 rfl wc.heap.size 9 i0 (.string .empty) 1 16 Tryz.underlying24 hi0 hz0 hz1 hz2 rfl (by decide) (.slice (some ⟨g', 0, none⟩) (k + 1) cap') (k + 1) (scells (l.take k) ++ [.string x]) (by simp [Act.eval]) HR2.out (some ⟨b, o + k, none⟩) (n - k) (c - k) (scells (l.drop k)) (by simp [Act.eval]) (by rw [scells_lenP, List.length_drop, HL.out, Nat.mul_one]) (.inr ⟨_, rfl, fun j u hj => HS.out j u (by rw [List.take_of_length_le (by rw [List.length_drop, HL.out]; exact Nat.le_refl _)]; exact hj)⟩) (scells_oneP _) (by unfold maxLen; omega) (by omega) HG2.out.size ?_; intro p3 c3 w3 hr3 hg3; have HR3 := Lib.hid hr3; have HG3 := Lib.hid (ownsRow_new HG2.out HR2.out hg3); clear hr3 hg3)
            go_ret
            have hr := HR3.out
            rw [putS_cells HM.out HE.out.1 HE.out.2] at hr
            obtain ⟨p4, c4, e4, h4, h5, h6⟩ := strsAt_own3 (by rw [putR_new HM.out, HE.out.1, HE.out.2, List.length_append, List.length_cons, List.length_take, List.length_drop, HL.out]; omega) hr
            cases e4
            exact ⟨_, _, _, rfl, h4.wideP, h5, h6, by omega, by omega, HG3.out⟩

end Go.Proofs.YtcfhnfnhdhloiaaGreat
/-! The reference's patches: Lines, Paths. -/
namespace Go.Proofs.YtcfhnfnhdhloiaaGreat
open Go.RowKit

/-- A block known whole. -/
def BoxV (w : World) (g : Nat) (vs : List Value) (t : TypeId) : Prop := w.heap[g]? = some (.cells vs.toArray t (0, 0))
section
variable {w w' : World} {g : Nat} {vs : List Value} {t : TypeId}
theorem BoxV.lt (h : BoxV w g vs t) : g < w.heap.size := (Array.getElem?_eq_some_iff.1 h).1
theorem BoxV.new (w : World) (vs : List Value) (t : TypeId) : BoxV (w.alloc (.cells vs.toArray t)) w.heap.size vs t := heap_alloc_new w _
theorem BoxV.calm (h : BoxV w g vs t) (hg : w.grownBy w' none) : BoxV w' g vs t := (hg.block g h.lt (by simp)).trans h
theorem BoxV.cell (h : BoxV w g vs t) {k : Nat} {v : Value} (hv : vs[k]? = some v) : w.cell? ⟨g, k, none⟩ = some v := by
  have h' : w.heap[g]? = _ := h
  simp only [World.cell?, h']
  simpa using hv
theorem BoxV.free (h : BoxV w g vs t) (k : Nat) : w.frozen? ⟨g, k, none⟩ = false := by
  have h' : w.heap[g]? = _ := h
  simp [World.frozen?, h']
theorem BoxV.set (h : BoxV w g vs t) (k : Nat) (x : Value) : BoxV (w.setCell ⟨g, k, none⟩ x) g (vs.set k x) t := by
  have h1 := heap_setCell_same w g k _ _ x h
  simpa [BoxV] using h1
end
theorem addsN_le {hs : List Hk} {m : Nat} (h : ∀ x ∈ hs, (hAdds x).length ≤ m) : ∀ k, k ≤ hs.length → addsN hs k ≤ k * m
  | 0, _ => by rw [addsN_zero]; omega
  | k + 1, hk => by
    have := addsN_le h k (by omega)
    have h2 := h hs[k] (List.getElem_mem _)
    rw [addsN_succ (show k < hs.length by omega), Nat.succ_mul]
    omega

set_option maxHeartbeats 4000000 in
theorem refLinesOf_c (id : Nat) (pd : Option Addr) (nd cd : Nat) (pm : Option Addr) (nm cm : Nat) (px : Option Addr) (nx cx : Nat) (ph : Option Addr) (nh ch : Nat) (lo hi : Nat) (p : Pt) (w : World)
    (h : PtAt w lo hi id pd nd cd pm nm cm px nx cx ph nh ch p) (hn : nh ≤ 1000) (ha : ∀ x ∈ pHunks p, (hAdds x).length ≤ 1000) :
    Calls Tryz.prog 16 #[.agg #[.int .u32 (id : Int), .slice pd nd cd, .slice pm nm cm, .slice px nx cx, .slice ph nh ch]] w fun e w' => e = .returned (.int .i64 (linesN p)) ∧ w.grownBy w' none := by
  have H := Lib.hid h.hunks
  have HL := Lib.hid h.hunks.len
  have HA := Lib.hid (addsN_le ha)
  have HS := Lib.hid (fun k hk => addsN_succ (hs := pHunks p) (k := k) hk)
  have HZ := Lib.hid (addsN_zero (pHunks p))
  have HE := Lib.hid (show addsN (pHunks p) (pHunks p).length = linesN p from rfl)
  clear h ha
  generalize addsN (pHunks p) = f at *
  generalize linesN p = r at *
  generalize pHunks p = hs at *
  go_enter Tryz.func16, Tryz.ntmps16
  go_wp2
  have HB := Lib.hid (BoxV.new w [.int .u32 (id : Int), .slice pd nd cd, .slice pm nm cm, .slice px nx cx, .slice ph nh ch] 27)
  have HG := Lib.hid (World.grownBy_alloc w (.cells [.int .u32 (id : Int), .slice pd nd cd, .slice pm nm cm, .slice px nx cx, .slice ph nh ch].toArray 27) none)
  go_loop [3, 4] (fun s i => ∃ k : Nat, k ≤ nh ∧ i = .int .i64 k ∧ s = .int .i64 (f k)) (fun _ i => nh - (intOf i).toNat)
  case atStart => exact ⟨0, Nat.zero_le _, rfl, by rw [HZ.out]; rfl⟩
  case round =>
    obtain ⟨k, hk, rfl, rfl⟩ := hrel
    have c4 := HB.out.cell (k := 4) rfl
    by_cases hkn : k < nh
    · have k0 : (0 : Int) ≤ k := by omega
      have k1 : (k : Int) < nh := by omega
      obtain ⟨b, o, rfl, _, _, _, hc⟩ := (H.out.calm HG.out).cell (by omega)
      obtain ⟨pa, na, ca, pe, ne, ce, pk, nk, ck, _, cA, _, _, hh⟩ := hc k hkn
      have hkl : k < hs.length := by rw [HL.out]; exact hkn
      have e1 := HS.out k hkl
      have e2 := HA.out (k + 1) hkl
      have e3 := hh.adds.len
      rw [List.getElem?_eq_getElem hkl, Option.getD_some] at e3
      have hF : Hid (f (k + 1) = f k + na) := Lib.hid (by rw [e1, e3])
      have hw : IntKind.i64.wrap ((f k : Int) + na) = (f (k + 1) : Nat) := by rw [IntWalk.i64_in _ (by omega)]; omega
      clear e1 e2 e3 hc hh
      go_wp2
      exact ⟨⟨k + 1, by omega, by go_num, rfl⟩, by simp [intOf]; omega⟩
    · obtain rfl : k = nh := by omega
      have k1 : ¬ ((k : Int) < k) := by omega
      go_wp2
      go_ret
      exact ⟨by rw [← HE.out, HL.out]; rfl, HG.out⟩

/-- Texts that a call has put together so far: n at most. -/
def TxtAcc (w0 w : World) (s : Value) (l : List ByteArray) (n : Nat) : Prop := ∃ (q : Option Addr) (m c : Nat), s = .slice q m c ∧ StrsAt w 0 w.heap.size q m l ∧ m ≤ c ∧ (q = none → c = 0) ∧ (m = 0 → q = none) ∧ m ≤ n ∧ w0.grownBy w none
theorem allR_nil {α : Type} [DecidableEq α] (lt : α → α → Bool) : allR lt ([] : List α) = [] := rfl
theorem take_snoc {α : Type} {l : List α} {k : Nat} (hk : k < l.length) (d : α) : l.take (k + 1) = l.take k ++ [l[k]?.getD d] := by
  rw [List.take_succ_eq_append_getElem hk, List.getElem?_eq_getElem hk]
  rfl
theorem putR_step {α : Type} [DecidableEq α] {lt : α → α → Bool} (pre l : List α) {k : Nat} (hk : k < l.length) (d : α) : putR lt (allR lt (pre ++ l.take k)) (l[k]?.getD d) = allR lt (pre ++ l.take (k + 1)) := by
  rw [take_snoc hk d, ← List.append_assoc, allR_snoc]

set_option maxHeartbeats 8000000 in
theorem refPathsOf_c (id : Nat) (pd : Option Addr) (nd cd : Nat) (pm : Option Addr) (nm cm : Nat) (px : Option Addr) (nx cx : Nat) (ph : Option Addr) (nh ch : Nat) (lo hi : Nat) (p : Pt) (w : World)
    (h : PtAt w lo hi id pd nd cd pm nm cm px nx cx ph nh ch p) (hn1 : nm ≤ 10000) (hn2 : nx ≤ 10000) (hn3 : nh ≤ 10000) :
    Calls Tryz.prog 14 #[.agg #[.int .u32 (id : Int), .slice pd nd cd, .slice pm nm cm, .slice px nx cx, .slice ph nh ch]] w fun e w' => ∃ s, e = .returned s ∧ TxtAcc w w' s (pathsL p) (nm + nx + nh) := by
  have HM := Lib.hid h.makes
  have HX := Lib.hid h.drops
  have HH := Lib.hid h.hunks
  have HML := Lib.hid h.makes.len
  have HXL := Lib.hid h.drops.len
  have HHL := Lib.hid h.hunks.len
  have HE := Lib.hid (show allR ltS (pMakes p ++ pDrops p ++ (pHunks p).map hPath) = pathsL p from rfl)
  clear h
  generalize pathsL p = r at *
  generalize pMakes p = ms at *
  generalize pDrops p = xs at *
  generalize pHunks p = hs at *
  go_enter Tryz.func14, Tryz.ntmps14
  go_wp2
  have HB := Lib.hid (BoxV.new w [.int .u32 (id : Int), .slice pd nd cd, .slice pm nm cm, .slice px nx cx, .slice ph nh ch] 27)
  have HG := Lib.hid (World.grownBy_alloc w (.cells [.int .u32 (id : Int), .slice pd nd cd, .slice pm nm cm, .slice px nx cx, .slice ph nh ch].toArray 27) none)
  have HSZ := Lib.hid (HB.out.lt)
  generalize w.alloc _ = w1 at *
  generalize w.heap.size = g at *
  go_loopw [3, 4] (fun s i wr => ∃ k : Nat, k ≤ nm ∧ i = .int .i64 k ∧ Hid (TxtAcc w1 wr s (allR ltS ([] ++ ms.take k)) (0 + k))) (fun _ i _ => nm - (intOf i).toNat)
  case atStart => exact ⟨0, Nat.zero_le _, rfl, Lib.hid ⟨none, 0, 0, rfl, strsAt_nil _ _ _, Nat.le_refl _, fun _ => rfl, fun _ => rfl, Nat.le_refl _, grownBy_refl _ _⟩⟩
  case round =>
    obtain ⟨k, hk, rfl, HT⟩ := hrel
    obtain ⟨q, m, c, rfl, hs1, hs2, hs3, hs4, hs5, hgr⟩ := HT.out
    have HST := Lib.hid hs1
    have HC := Lib.hid hs3
    have HQ := Lib.hid hs4
    clear hs1 hs3 hs4
    have c2 := (HB.out.calm hgr).cell (k := 2) rfl
    by_cases hkn : k < nm
    · have k0 : (0 : Int) ≤ k := by omega
      have k1 : (k : Int) < nm := by omega
      obtain ⟨b, o, rfl, _, _, _, hc⟩ := (HM.out.calm (grownBy_trans HG.out hgr)).cell (by omega)
      have hck := hc k hkn
      have HP := Lib.hid (putR_step (lt := ltS) ([]) (ms) (k := k) (by rw [HML.out]; exact hkn) .empty)
      clear hc
      generalize ms[k]?.getD .empty = x at *
      go_wp2_with fail
      refine (refPutText_c q m c 0 wr.heap.size x _ wr HST.out (by omega) hs2 HC.out HQ.out).mono ?_
      rintro e w2 ⟨q', m', c', rfl, ht, ht1, ht2, ht3, ht4, hg2⟩
      rw [HP.out] at ht
      have HT2 : Hid (TxtAcc w1 w2 (.slice q' m' c') (allR ltS ([] ++ ms.take (k + 1))) (0 + (k + 1))) := Lib.hid ⟨q', m', c', rfl, ht, ht1, ht2, ht3, by omega, grownBy_trans hgr hg2⟩
      clear ht ht1 ht2 ht3 ht4
      go_wp2
      exact ⟨⟨k + 1, by omega, by go_num, HT2⟩, by simp [intOf]; omega⟩
    · obtain rfl : nm = k := by omega
      have k1 : ¬ ((nm : Int) < nm) := by omega
      go_wp2
      have HT3 : Hid (TxtAcc w1 wr (.slice q m c) (allR ltS (ms ++ xs.take 0)) (nm + 0)) := Lib.hid (by have := HT.out; rw [List.nil_append, List.take_of_length_le (by rw [HML.out]; exact Nat.le_refl _)] at this; rw [List.take_zero, List.append_nil, Nat.add_zero]; rwa [Nat.zero_add] at this)
      clear HT
      go_loopw [3, 5] (fun s i wr => ∃ k : Nat, k ≤ nx ∧ i = .int .i64 k ∧ Hid (TxtAcc w1 wr s (allR ltS (ms ++ xs.take k)) (nm + k))) (fun _ i _ => nx - (intOf i).toNat)
      case atStart => exact ⟨0, Nat.zero_le _, rfl, HT3⟩
      case round =>
        obtain ⟨k, hk, rfl, HT⟩ := hrel
        obtain ⟨q, m, c, rfl, hs1, hs2, hs3, hs4, hs5, hgr⟩ := HT.out
        have HST := Lib.hid hs1
        have HC := Lib.hid hs3
        have HQ := Lib.hid hs4
        clear hs1 hs3 hs4
        have c2 := (HB.out.calm hgr).cell (k := 3) rfl
        by_cases hkn : k < nx
        · have k0 : (0 : Int) ≤ k := by omega
          have k1 : (k : Int) < nx := by omega
          obtain ⟨b, o, rfl, _, _, _, hc⟩ := (HX.out.calm (grownBy_trans HG.out hgr)).cell (by omega)
          have hck := hc k hkn
          have HP := Lib.hid (putR_step (lt := ltS) (ms) (xs) (k := k) (by rw [HXL.out]; exact hkn) .empty)
          clear hc
          generalize xs[k]?.getD .empty = x at *
          go_wp2_with fail
          refine (refPutText_c q m c 0 wr.heap.size x _ wr HST.out (by omega) hs2 HC.out HQ.out).mono ?_
          rintro e w2 ⟨q', m', c', rfl, ht, ht1, ht2, ht3, ht4, hg2⟩
          rw [HP.out] at ht
          have HT2 : Hid (TxtAcc w1 w2 (.slice q' m' c') (allR ltS (ms ++ xs.take (k + 1))) (nm + (k + 1))) := Lib.hid ⟨q', m', c', rfl, ht, ht1, ht2, ht3, by omega, grownBy_trans hgr hg2⟩
          clear ht ht1 ht2 ht3 ht4
          go_wp2
          exact ⟨⟨k + 1, by omega, by go_num, HT2⟩, by simp [intOf]; omega⟩
        · obtain rfl : nx = k := by omega
          have k1 : ¬ ((nx : Int) < nx) := by omega
          go_wp2
          have HT3 : Hid (TxtAcc w1 wr (.slice q m c) (allR ltS (ms ++ xs ++ (hs.map hPath).take 0)) (nm + nx + 0)) := Lib.hid (by have := HT.out; rw [List.take_of_length_le (l := xs) (by rw [HXL.out]; exact Nat.le_refl _)] at this; rw [List.take_zero, List.append_nil, Nat.add_zero]; exact this)
          clear HT
          go_loopw [3, 6] (fun s i wr => ∃ k : Nat, k ≤ nh ∧ i = .int .i64 k ∧ Hid (TxtAcc w1 wr s (allR ltS (ms ++ xs ++ (hs.map hPath).take k)) (nm + nx + k))) (fun _ i _ => nh - (intOf i).toNat)
          case atStart => exact ⟨0, Nat.zero_le _, rfl, HT3⟩
          case round =>
            obtain ⟨k, hk, rfl, HT⟩ := hrel
            obtain ⟨q, m, c, rfl, hs1, hs2, hs3, hs4, hs5, hgr⟩ := HT.out
            have HST := Lib.hid hs1
            have HC := Lib.hid hs3
            have HQ := Lib.hid hs4
            clear hs1 hs3 hs4
            have c2 := (HB.out.calm hgr).cell (k := 4) rfl
            by_cases hkn : k < nh
            · have k0 : (0 : Int) ≤ k := by omega
              have k1 : (k : Int) < nh := by omega
              obtain ⟨b, o, rfl, _, _, _, hc⟩ := (HH.out.calm (grownBy_trans HG.out hgr)).cell (by omega)
              obtain ⟨pa, na, ca, pe, ne, ce, pk, nk, ck, hck, _⟩ := hc k hkn
              have hkl : k < hs.length := by rw [HHL.out]; exact hkn
              rw [List.getElem?_eq_getElem hkl, Option.getD_some] at hck
              have HP := Lib.hid (putR_step (lt := ltS) (ms ++ xs) ((hs.map hPath)) (k := k) (by rw [List.length_map, HHL.out]; exact hkn) .empty)
              rw [List.getElem?_map, List.getElem?_eq_getElem hkl, Option.map_some, Option.getD_some] at HP
              clear hc
              generalize hPath hs[k] = x at *
              go_wp2_with fail
              refine (refPutText_c q m c 0 wr.heap.size x _ wr HST.out (by omega) hs2 HC.out HQ.out).mono ?_
              rintro e w2 ⟨q', m', c', rfl, ht, ht1, ht2, ht3, ht4, hg2⟩
              rw [HP.out] at ht
              have HT2 : Hid (TxtAcc w1 w2 (.slice q' m' c') (allR ltS (ms ++ xs ++ (hs.map hPath).take (k + 1))) (nm + nx + (k + 1))) := Lib.hid ⟨q', m', c', rfl, ht, ht1, ht2, ht3, by omega, grownBy_trans hgr hg2⟩
              clear ht ht1 ht2 ht3 ht4
              go_wp2
              exact ⟨⟨k + 1, by omega, by go_num, HT2⟩, by simp [intOf]; omega⟩
            · obtain rfl : nh = k := by omega
              have k1 : ¬ ((nh : Int) < nh) := by omega
              go_wp2
              go_ret
              refine ⟨_, rfl, ?_⟩
              have := HT.out
              rw [List.take_of_length_le (by rw [List.length_map, HHL.out]; exact Nat.le_refl _), HE.out] at this
              obtain ⟨q, m, c, e, g1, g2, g3, g4, g5, g6⟩ := this
              exact ⟨q, m, c, e, g1, g2, g3, g4, g5, grownBy_trans HG.out g6⟩

end Go.Proofs.YtcfhnfnhdhloiaaGreat
/-! The reference's patches: Needs. -/
namespace Go.Proofs.YtcfhnfnhdhloiaaGreat
open Go.RowKit

/-- Numbers that a call has put together so far. -/
def NumAcc (w0 w : World) (s : Value) (xs : List Nat) : Prop := ∃ (q : Option Addr) (m c : Nat), s = .slice q m c ∧ NsAt .u32 w 0 w.heap.size q m (allR ltN xs) ∧ m ≤ c ∧ (q = none → c = 0) ∧ (m = 0 → q = none) ∧ m ≤ xs.length ∧ w0.grownBy w none
theorem NumAcc.nil (w : World) : NumAcc w w (.slice none 0 0) [] := ⟨none, 0, 0, rfl, nsAt_nil _ _ _ _, Nat.le_refl _, fun _ => rfl, fun _ => rfl, Nat.le_refl _, grownBy_refl _ _⟩
theorem NumAcc.gr {w0 w : World} {s : Value} {xs : List Nat} (h : NumAcc w0 w s xs) : w0.grownBy w none := by
  obtain ⟨_, _, _, _, _, _, _, _, _, g⟩ := h
  exact g
theorem NumAcc.calm {w0 w w' : World} {s : Value} {xs : List Nat} (h : NumAcc w0 w s xs) (hg : w.grownBy w' none) : NumAcc w0 w' s xs := by
  obtain ⟨q, m, c, e, h1, h2, h3, h4, h5, h6⟩ := h
  exact ⟨q, m, c, e, (h1.calm hg).wide, h2, h3, h4, h5, grownBy_trans h6 hg⟩
theorem refPut_n (w0 w : World) (s : Value) (xs : List Nat) (x : Nat) (h : NumAcc w0 w s xs) (hn : xs.length ≤ 99999) :
    Calls Tryz.prog 36 #[s, .int .u32 x] w fun e w' => ∃ s', e = .returned s' ∧ NumAcc w0 w' s' (xs ++ [x]) ∧ w.grownBy w' none := by
  obtain ⟨q, m, c, rfl, h1, h2, h3, h4, h5, h6⟩ := h
  refine (refPut_c q m c 0 w.heap.size x _ w h1 (by omega) h2 h3 h4).mono ?_
  rintro e w2 ⟨q', m', c', rfl, g1, g2, g3, g4, g5, g6⟩
  rw [← allR_snoc] at g1
  exact ⟨_, rfl, ⟨q', m', c', rfl, g1, g2, g3, g4, by rw [List.length_append, List.length_singleton]; omega, grownBy_trans h6 g6⟩, g6⟩

def namesE (e : Ed) : List Nat := [e.1.1, e.2.1]
theorem names_E {l : List Ed} {k : Nat} (hk : k < l.length) : (l.take (k + 1)).flatMap namesE = (l.take k).flatMap namesE ++ [(l[k]?.getD ((0, 0), (0, 0))).1.1] ++ [(l[k]?.getD ((0, 0), (0, 0))).2.1] := by
  rw [take_snoc hk ((0, 0), (0, 0)), List.flatMap_append]
  simp [namesE]
theorem names_K {l : List Ln} {k : Nat} (hk : k < l.length) : (l.take (k + 1)).map (fun x => x.1) = (l.take k).map (fun x => x.1) ++ [(l[k]?.getD (0, 0)).1] := by
  rw [take_snoc hk (0, 0), List.map_append]
  rfl
theorem names_len (l : List Ed) (k : Nat) : ((l.take k).flatMap namesE).length ≤ 2 * k := by
  induction k with
  | zero => simp
  | succ k ih =>
    by_cases h : k < l.length
    · rw [names_E h]
      simp only [List.length_append, List.length_singleton]
      omega
    · rw [List.take_of_length_le (by omega), ← List.take_of_length_le (i := k) (l := l) (by omega)]
      omega
theorem names_H {l : List Hk} {k : Nat} (hk : k < l.length) : (l.take (k + 1)).flatMap namesH = (l.take k).flatMap namesH ++ (hEdges (l[k]?.getD hk0)).flatMap namesE ++ (hKills (l[k]?.getD hk0)).map (fun x => x.1) := by
  rw [take_snoc hk hk0, List.flatMap_append, List.append_assoc]
  congr 1
  rw [List.flatMap_cons, List.flatMap_nil, List.append_nil]
  rfl
theorem names_lenH {l : List Hk} {m : Nat} (h : ∀ x ∈ l, (hEdges x).length ≤ m ∧ (hKills x).length ≤ m) : ∀ k, k ≤ l.length → ((l.take k).flatMap namesH).length ≤ k * (3 * m)
  | 0, _ => by simp
  | k + 1, hk => by
    have h1 := names_lenH h k (by omega)
    have h2 := h _ (get_mem (d := hk0) (show k < l.length by omega))
    have h3 := names_len (hEdges (l[k]?.getD hk0)) (hEdges (l[k]?.getD hk0)).length
    rw [List.take_length] at h3
    rw [names_H (by omega), List.length_append, List.length_append, List.length_map, Nat.succ_mul]
    omega

structure NdEnv (wB w : World) (g : Nat) (vs : List Value) (b o xa xb : Nat) : Prop where
  gr : wB.grownBy w none
  box : BoxV w g vs 50
  x0 : w.cell? ⟨b, o, none⟩ = some (.int .u32 (xa : Int))
  x2 : w.cell? ⟨b, o + 2, none⟩ = some (.int .u32 (xb : Int))
theorem cell_lt {w : World} {a : Addr} {v : Value} (h : w.cell? a = some v) : a.block < w.heap.size := by
  apply Classical.byContradiction
  intro hn
  unfold World.cell? at h
  rw [Array.getElem?_eq_none (by omega)] at h
  cases h
theorem cell_calmQ {w w' : World} (hg : w.grownBy w' none) {a : Addr} {v : Value} (h : w.cell? a = some v) : w'.cell? a = some v := World.grownBy.cell hg h (by simp)
theorem NdEnv.calm {wB w w' : World} {g b o xa xb : Nat} {vs : List Value} (h : NdEnv wB w g vs b o xa xb) (hg : w.grownBy w' none) : NdEnv wB w' g vs b o xa xb := ⟨grownBy_trans h.gr hg, h.box.calm hg, cell_calmQ hg h.x0, cell_calmQ hg h.x2⟩
theorem NdEnv.three {wB w : World} {g b o xa xb : Nat} {vs : List Value} {v : Value} (h : NdEnv wB w g vs b o xa xb) (hv : vs[2]? = some v) : w.cell? ⟨g, 2, none⟩ = some v ∧ w.cell? ⟨b, o, none⟩ = some (.int .u32 (xa : Int)) ∧ w.cell? ⟨b, o + 2, none⟩ = some (.int .u32 (xb : Int)) := ⟨h.box.cell hv, h.x0, h.x2⟩

set_option maxRecDepth 20000 in
set_option maxHeartbeats 8000000 in
theorem refNeeds_c (id : Nat) (pd : Option Addr) (nd cd : Nat) (pm : Option Addr) (nm cm : Nat) (px : Option Addr) (nx cx : Nat) (ph : Option Addr) (nh ch : Nat) (lo hi : Nat) (p : Pt) (w : World)
    (h : PtAt w lo hi id pd nd cd pm nm cm px nx cx ph nh ch p) (hn : nh ≤ 20) (hl : ∀ x ∈ pHunks p, (hEdges x).length ≤ 1000 ∧ (hKills x).length ≤ 1000) :
    Calls Tryz.prog 11 #[.agg #[.int .u32 (id : Int), .slice pd nd cd, .slice pm nm cm, .slice px nx cx, .slice ph nh ch]] w fun e w' => ∃ q m c, e = .returned (.slice q m c) ∧ NsAt .u32 w' 0 w'.heap.size q m (needsL p) ∧ m ≤ c ∧ (q = none → c = 0) ∧ m ≤ 60000 ∧ w.grownBy w' none := by
  obtain ⟨i0, hi0, hz0, hz1, hz2⟩ := info_parts infoU32
  have HH := Lib.hid h.hunks
  have HHL := Lib.hid h.hunks.len
  have HID := Lib.hid h.num
  have HB1 := Lib.hid hl
  have HB2 := Lib.hid (names_lenH hl)
  have HE := Lib.hid (show (allR ltN ((pHunks p).flatMap namesH)).filter (fun x => decide (x ≠ pID p)) = needsL p from rfl)
  clear h hl
  generalize needsL p = r at *
  generalize pID p = pid at *
  obtain rfl := HID.out
  clear HID
  generalize pHunks p = hs at *
  go_enter Tryz.func11, Tryz.ntmps11
  go_wp2
  have HB := Lib.hid (BoxV.new w [.int .u32 (pid : Int), .slice pd nd cd, .slice pm nm cm, .slice px nx cx, .slice ph nh ch] 27)
  have HG := Lib.hid (World.grownBy_alloc w (.cells [.int .u32 (pid : Int), .slice pd nd cd, .slice pm nm cm, .slice px nx cx, .slice ph nh ch].toArray 27) none)
  generalize w.alloc _ = w1 at *
  generalize w.heap.size = g at *
  go_loopw [3, 4] (fun s i wr => ∃ k : Nat, k ≤ nh ∧ i = .int .i64 k ∧ Hid (NumAcc w1 wr s ((hs.take k).flatMap namesH))) (fun _ i _ => nh - (intOf i).toNat)
  case atStart => exact ⟨0, Nat.zero_le _, rfl, Lib.hid (NumAcc.nil _)⟩
  case round =>
    obtain ⟨i, hi, rfl, HT⟩ := hrel
    have c4 := (HB.out.calm HT.out.gr).cell (k := 4) rfl
    by_cases hin : i < nh
    · have i0' : (0 : Int) ≤ i := by omega
      have i1 : (i : Int) < nh := by omega
      obtain ⟨b, o, rfl, _, _, _, hc⟩ := (HH.out.calm (grownBy_trans HG.out HT.out.gr)).cell (by omega)
      obtain ⟨pa, na, ca, pe, ne, ce, pk, nk, ck, cA, cB, cC, cD, hh⟩ := hc i hin
      have hil : i < hs.length := by rw [HHL.out]; exact hin
      have HX := Lib.hid hh.edges
      have HK := Lib.hid hh.kills
      have HXL := Lib.hid hh.edges.len
      have HKL := Lib.hid hh.kills.len
      have HNS := Lib.hid (names_H hil)
      have HBX := Lib.hid (HB1.out _ (get_mem (d := hk0) hil))
      have HBN := Lib.hid (HB2.out i (by omega))
      clear hc hh
      generalize hEdges (hs[i]?.getD hk0) = es at *
      generalize hKills (hs[i]?.getD hk0) = ks at *
      generalize hPath (hs[i]?.getD hk0) = path at *
      generalize (hs.take i).flatMap namesH = pre at *
      go_wp2
      have HBH := Lib.hid (BoxV.new wr [.string path, .slice pa na ca, .slice pe ne ce, .slice pk nk ck] 50)
      have HGA := Lib.hid (World.grownBy_alloc wr (.cells [.string path, .slice pa na ca, .slice pe ne ce, .slice pk nk ck].toArray 50) none)
      have HT2 := Lib.hid (HT.out.calm HGA.out)
      have HX2 := Lib.hid (HX.out.calm HGA.out)
      have HK2 := Lib.hid (HK.out.calm HGA.out)
      clear HX HK HT HGA c4 cA cB cC cD
      generalize wr.alloc _ = wB at *
      generalize wr.heap.size = gB at *
      clear wr
      go_loopw [3, 6] (fun s i wr => ∃ k : Nat, k ≤ ne ∧ i = .int .i64 k ∧ Hid (NumAcc w1 wr s (pre ++ (es.take k).flatMap namesE)) ∧ Hid (wB.grownBy wr none)) (fun _ i _ => ne - (intOf i).toNat)
      case atStart => exact ⟨0, Nat.zero_le _, rfl, Lib.hid (by rw [List.take_zero, List.flatMap_nil, List.append_nil]; exact HT2.out), Lib.hid (grownBy_refl _ _)⟩
      case round =>
        obtain ⟨k, hk, rfl, HT, HGB⟩ := hrel
        have c2 := (HBH.out.calm HGB.out).cell (k := 2) rfl
        by_cases hkn : k < ne
        · have hne : ne ≤ 1000 := by have := HBX.out.1; have := HXL.out; omega
          have k0 : (0 : Int) ≤ k := by omega
          have k1 : (k : Int) < ne := by omega
          obtain ⟨be, oe, rfl, _, _, _, hc⟩ := (HX2.out.calm HGB.out).cell (by omega)
          obtain ⟨x0, _, x2, _⟩ := hc k hkn
          have HN := Lib.hid (names_E (l := es) (k := k) (by rw [HXL.out]; exact hkn))
          have HLN := Lib.hid (names_len es k)
          have HLB : Hid ((pre ++ (es.take k).flatMap namesE).length ≤ 62000) := Lib.hid (by rw [List.length_append]; have := HBN.out; have := HLN.out; have := HBX.out.1; have := HXL.out; omega)
          clear hc
          generalize (es[k]?.getD ((0, 0), (0, 0))).1.1 = xa at *
          generalize (es[k]?.getD ((0, 0), (0, 0))).2.1 = xb at *
          generalize hnow : pre ++ (es.take k).flatMap namesE = now at *
          have HNOW := Lib.hid hnow
          clear hnow
          have henv : NdEnv wB wr gB [.string path, .slice pa na ca, .slice (some ⟨be, oe, none⟩) ne ce, .slice pk nk ck] be (oe + k * 4) xa xb := ⟨HGB.out, HBH.out.calm HGB.out, x0, x2⟩
          have hdr : wr.grownBy wr.drew none := grownBy_drewN wr 1 none
          have henv := henv.calm hdr
          have hacc := HT.out.calm hdr
          have hle := HLB.out
          go_wp2_with fail
          go_region_held3 (fun w' => w'.cell? ⟨gB, 2, none⟩ = some (.slice (some ⟨be, oe, none⟩) ne ce) ∧ w'.cell? ⟨be, oe + k * 4, none⟩ = some (.int .u32 (xa : Int)) ∧ w'.cell? ⟨be, oe + k * 4 + 2, none⟩ = some (.int .u32 (xb : Int))) (first | exact henv.three rfl | go_keep)
            (first | (go_at_call 36; refine (refPut_n w1 _ _ _ _ hacc (by first | omega | (simp only [List.length_append, List.length_singleton]; omega))).mono ?_; rintro e w5 ⟨s', rfl, hacc', hg5⟩; have henv := henv.calm hg5; have hacc := hacc'; clear hacc' hg5))
          have HT3 : Hid (NumAcc w1 w5 s' (pre ++ (es.take (k + 1)).flatMap namesE)) := Lib.hid (by rw [HN.out, ← List.append_assoc, ← List.append_assoc, HNOW.out]; exact hacc)
          have HG3 := Lib.hid henv.gr
          clear henv hacc
          go_wp2
          exact ⟨⟨k + 1, by omega, by go_num, HT3, HG3⟩, by simp [intOf]; omega⟩
        · obtain rfl : ne = k := by omega
          have k1 : ¬ ((ne : Int) < ne) := by omega
          have HT3 : Hid (NumAcc w1 wr u3 (pre ++ es.flatMap namesE ++ (ks.take 0).map (fun x => x.1))) := Lib.hid (by have := HT.out; rw [List.take_of_length_le (by rw [HXL.out]; exact Nat.le_refl _)] at this; rw [List.take_zero, List.map_nil, List.append_nil]; exact this)
          have HLN := Lib.hid (names_len es es.length)
          rw [List.take_length] at HLN
          have HLB : Hid ((pre ++ es.flatMap namesE).length ≤ 62000) := Lib.hid (by rw [List.length_append]; have := HBN.out; have := HLN.out; have := HBX.out.1; have := HXL.out; omega)
          clear HT HLN
          generalize hnow : pre ++ es.flatMap namesE = now at *
          have HNOW := Lib.hid hnow
          clear hnow
          go_wp2
          go_loopw [3, 7] (fun s i wr => ∃ k : Nat, k ≤ nk ∧ i = .int .i64 k ∧ Hid (NumAcc w1 wr s (now ++ (ks.take k).map (fun x => x.1))) ∧ Hid (wB.grownBy wr none)) (fun _ i _ => nk - (intOf i).toNat)
          case atStart => exact ⟨0, Nat.zero_le _, rfl, HT3, HGB⟩
          case round =>
            obtain ⟨k, hk, rfl, HT, HGB⟩ := hrel
            have c3 := (HBH.out.calm HGB.out).cell (k := 3) rfl
            by_cases hkn : k < nk
            · have hnk : nk ≤ 1000 := by have := HBX.out.2; have := HKL.out; omega
              have k0 : (0 : Int) ≤ k := by omega
              have k1 : (k : Int) < nk := by omega
              obtain ⟨be, oe, rfl, _, _, _, hc⟩ := (HK2.out.calm HGB.out).cell (by omega)
              obtain ⟨x0, _⟩ := hc k hkn
              have HN := Lib.hid (names_K (l := ks) (k := k) (by rw [HKL.out]; exact hkn))
              have HLB2 : Hid ((now ++ (ks.take k).map (fun x => x.1)).length ≤ 99999) := Lib.hid (by rw [List.length_append, List.length_map, List.length_take]; have := HLB.out; have := HBX.out.2; omega)
              clear hc
              generalize (ks[k]?.getD (0, 0)).1 = xa at *
              go_wp2_with fail
              refine (refPut_n w1 _ _ _ _ HT.out HLB2.out).mono ?_
              rintro e w5 ⟨s', rfl, hacc, hg5⟩
              have HT4 : Hid (NumAcc w1 w5 s' (now ++ (ks.take (k + 1)).map (fun x => x.1))) := Lib.hid (by rw [HN.out, ← List.append_assoc]; exact hacc)
              have HG4 := Lib.hid (grownBy_trans HGB.out hg5)
              clear hacc hg5
              go_wp2
              exact ⟨⟨k + 1, by omega, by go_num, HT4, HG4⟩, by simp [intOf]; omega⟩
            · obtain rfl : nk = k := by omega
              have k1 : ¬ ((nk : Int) < nk) := by omega
              have HT4 : Hid (NumAcc w1 wr u3 ((hs.take (i + 1)).flatMap namesH)) := Lib.hid (by have := HT.out; rw [List.take_of_length_le (by rw [HKL.out]; exact Nat.le_refl _)] at this; rw [HNS.out]; exact this)
              clear HT HT3
              go_wp2
              exact ⟨⟨i + 1, by omega, by go_num, HT4⟩, by simp [intOf]; omega⟩
    · obtain rfl : nh = i := by omega
      have k1 : ¬ ((nh : Int) < nh) := by omega
      have HT2 : Hid (NumAcc w1 wr u3 (hs.flatMap namesH)) := Lib.hid (by have := HT.out; rwa [List.take_of_length_le (by rw [HHL.out]; exact Nat.le_refl _)] at this)
      have HB9 := Lib.hid (HB2.out nh (by rw [HHL.out]; exact Nat.le_refl _))
      rw [List.take_of_length_le (by rw [HHL.out]; exact Nat.le_refl _)] at HB9
      clear HT
      obtain ⟨q, m, c, rfl, hs1, hs2, hs3, hs4, hs5, hgr⟩ := HT2.out
      have HS := Lib.hid hs1
      have HSL := Lib.hid hs1.len
      have HG2 := Lib.hid hgr
      have HB5 := Lib.hid (HB.out.calm hgr)
      have hm : m ≤ 60000 := by have := HB9.out; omega
      clear HT2 hs1 hs3 hs4 hgr
      generalize allR ltN (hs.flatMap namesH) = L at *
      generalize wr = wx at *
      go_wp2
      go_loopw [8, 9] (fun s i wr => ∃ k j : Nat, k ≤ m ∧ i = .int .i64 k ∧ j ≤ k ∧ j = ((L.take k).filter (fun x => decide (x ≠ pid))).length ∧ Hid (wr.ownsRow wx.heap.size 22 1 s j (ncells .u32 ((L.take k).filter (fun x => decide (x ≠ pid))))) ∧ Hid (wx.grownBy wr none)) (fun _ i _ => m - (intOf i).toNat)
      case atStart => exact ⟨0, 0, Nat.zero_le _, rfl, Nat.le_refl _, rfl, Lib.hid (World.ownsRow_nil _ _ _ _), Lib.hid (grownBy_refl _ _)⟩
      case round =>
        obtain ⟨k, j, hk, rfl, hjk, hjl, HR, HGR⟩ := hrel
        by_cases hkn : k < m
        · have k0 : (0 : Int) ≤ k := by omega
          have k1 : (k : Int) < m := by omega
          obtain ⟨be, oe, rfl, _, _, _, hc⟩ := (HS.out.calm HGR.out).cell (by omega)
          have x0 := hc k hkn
          have c0 := (HB5.out.calm HGR.out).cell (k := 0) rfl
          have HTK := Lib.hid (show (L.take (k + 1)).filter (fun x => decide (x ≠ pid)) = (L.take k).filter (fun x => decide (x ≠ pid)) ++ (if L[k]?.getD 0 = pid then [] else [L[k]?.getD 0]) by
            rw [take_snoc (show k < L.length by rw [HSL.out]; exact hkn) 0, List.filter_append]
            congr 1
            by_cases e : L[k]?.getD 0 = pid <;> simp [e])
          have HJL := Lib.hid hjl
          clear hc hjl
          generalize (L.take k).filter (fun x => decide (x ≠ pid)) = M at *
          generalize L[k]?.getD 0 = x at *
          by_cases hx : x = pid
          · have e1 : (((x : Nat) : Int) != ((pid : Nat) : Int)) = false := by rw [hx]; simp
            rw [if_pos hx, List.append_nil] at HTK
            have HTJ : Hid (j = ((L.take (k + 1)).filter (fun x => decide (x ≠ pid))).length) := Lib.hid (by rw [HTK.out]; exact HJL.out)
            have HR2 : Hid (∀ z, (wr.drewN z).ownsRow wx.heap.size 22 1 u8 j (ncells .u32 ((L.take (k + 1)).filter (fun x => decide (x ≠ pid))))) := Lib.hid (by rw [HTK.out]; exact fun _ => HR.out)
            have HG3 : Hid (∀ z, wx.grownBy (wr.drewN z) none) := Lib.hid fun z => grownBy_trans HGR.out (grownBy_drewN wr z none)
            clear hx HR
            go_wp2
            go_quiet (fail)
            go_wp2
            exact ⟨⟨k + 1, j, by omega, by go_num, by omega, HTJ.out, Lib.hid (HR2.out _), Lib.hid (HG3.out _)⟩, by simp [intOf]; omega⟩
          · have e1 : (((x : Nat) : Int) != ((pid : Nat) : Int)) = true := by simp; omega
            rw [if_neg hx] at HTK
            have HTJ : Hid (j + 1 = ((L.take (k + 1)).filter (fun x => decide (x ≠ pid))).length) := Lib.hid (by rw [HTK.out, List.length_append, ← HJL.out]; rfl)
            have HR2 : Hid (∀ z, (wr.drewN z).ownsRow wx.heap.size 22 1 u8 j (ncells .u32 M)) := Lib.hid fun _ => HR.out
            have HG3 : Hid (∀ z, wx.grownBy (wr.drewN z) none) := Lib.hid fun z => grownBy_trans HGR.out (grownBy_drewN wr z none)
            have HX1 : Hid (∀ z, (wr.drewN z).cell? ⟨be, oe + k, none⟩ = some (.int .u32 (x : Int))) := Lib.hid fun _ => x0
            clear hx HR
            go_wp2
            go_quiet (fail)
            generalize hwq : wr.drewN _ = wq
            have hrow : wq.ownsRow wx.heap.size 22 1 u8 j (ncells .u32 M) := hwq ▸ HR2.out _
            have hgq : wx.grownBy wq none := hwq ▸ HG3.out _
            have hxq : wq.cell? ⟨be, oe + k, none⟩ = some (.int .u32 (x : Int)) := hwq ▸ HX1.out _
            clear HR2 HG3 HX1 x0 c0 hwq
            go_wp2_with (at_builtin; refine wpList_append_own _ rfl _ _ 23 rfl wx.heap.size 22 i0 (.int .u32 0) 1 4 Tryz.underlying23 hi0 hz0 hz1 hz2 rfl (by decide) _ _ _ rfl (hrow.alloc _) ⟨wq.heap.size, 0, none⟩ 1 1 [.int .u32 (x : Int)] rfl rfl (cell_one_new _ _ _) (by simp [Value.oneCell']) (by unfold maxLen; omega) (by omega) (by have := hgq.size; simp; omega) ?_; intro v' w1 hown' hgrow _; obtain ⟨g', cap', rfl⟩ := ownsRow_succ hown'; have HO := Lib.hid hown'; have HG := Lib.hid (grownBy_app hgq hrow hgrow); clear hown' hgrow)
            have HO2 : Hid (w1.ownsRow wx.heap.size 22 1 (.slice (some ⟨g', 0, none⟩) (j + 1) cap') (j + 1) (ncells .u32 ((L.take (k + 1)).filter (fun x => decide (x ≠ pid))))) := Lib.hid (by rw [HTK.out, ncells_app]; exact HO.out)
            clear HO hrow hgq
            go_wp2
            exact ⟨⟨k + 1, j + 1, by omega, by go_num, by omega, HTJ.out, HO2, HG⟩, by simp [intOf]; omega⟩
        · obtain rfl : m = k := by omega
          have k1 : ¬ ((m : Int) < m) := by omega
          have hfin := HR.out
          have HFL : Hid (L.take m = L) := Lib.hid (List.take_of_length_le (by rw [HSL.out]; exact Nat.le_refl _))
          rw [HFL.out] at hfin hjl
          obtain ⟨p9, c9, rfl, h9, h10, h11⟩ := nsAt_own hjl.symm hfin
          have HF9 := Lib.hid h9
          have HF11 := Lib.hid h11
          clear hfin HR h9 h11 hjl
          go_wp2
          go_ret
          refine ⟨p9, j, c9, rfl, ?_, h10, HF11.out, by omega, grownBy_trans HG.out (grownBy_trans HG2.out HGR.out)⟩
          rw [← HE.out]
          exact HF9.out.wide

end Go.Proofs.YtcfhnfnhdhloiaaGreat
/-! The reference's patches: Less, named. -/
namespace Go.Proofs.YtcfhnfnhdhloiaaGreat
open Go.RowKit

theorem ltLn_iff {a b : Ln} : ltLn a b = true ↔ a.1 < b.1 ∨ (a.1 = b.1 ∧ a.2 < b.2) := by
  simp only [ltLn, Bool.or_eq_true, Bool.and_eq_true, decide_eq_true_eq]
set_option maxHeartbeats 1000000 in
theorem refLess_c (a b : Ln) (r : Bool) (w : World) (hr : r = ltLn a b) :
    Calls Tryz.prog 67 #[.agg #[.int .u32 (a.1 : Int), .int .i64 a.2], .agg #[.int .u32 (b.1 : Int), .int .i64 b.2]] w fun e w' => e = .returned (.bool r) ∧ w.grownBy w' none := by
  obtain ⟨x, m⟩ := a
  obtain ⟨y, n⟩ := b
  have HR := Lib.hid hr
  clear hr
  have HG := Lib.hid (grownBy_trans (World.grownBy_alloc w (.cells #[.int .u32 (x : Int), .int .i64 m] 44) none) (World.grownBy_alloc _ (.cells #[.int .u32 (y : Int), .int .i64 n] 44) none))
  rcases Nat.lt_trichotomy x y with h | h | h
  · have e1 : (x : Int) < y := by omega
    obtain rfl : r = true := by rw [HR.out]; exact ltLn_iff.2 (.inl h)
    clear h
    go_enter Tryz.func67, Tryz.ntmps67
    go_wp2
    go_ret
    exact ⟨rfl, HG.out⟩
  · subst h
    have e1 : ¬ (x : Int) < x := by omega
    by_cases h2 : m < n
    · obtain rfl : r = true := by rw [HR.out]; exact ltLn_iff.2 (.inr ⟨rfl, h2⟩)
      go_enter Tryz.func67, Tryz.ntmps67
      go_wp2
      go_ret
      exact ⟨rfl, HG.out⟩
    · obtain rfl : r = false := by rw [HR.out, Bool.eq_false_iff]; intro h; rcases ltLn_iff.1 h with h | h; exact absurd h (Nat.lt_irrefl _); exact h2 h.2
      go_enter Tryz.func67, Tryz.ntmps67
      go_wp2
      go_ret
      exact ⟨rfl, HG.out⟩
  · have e1 : ¬ (x : Int) < y := by omega
    have e2 : ((x : Int) == (y : Int)) = false := by simp; omega
    have e3 : ¬ (x : Int) = y := by omega
    obtain rfl : r = false := by rw [HR.out, Bool.eq_false_iff]; intro h; rcases ltLn_iff.1 h with h | h <;> simp only at h <;> omega
    clear h
    go_enter Tryz.func67, Tryz.ntmps67
    go_wp2
    go_ret
    exact ⟨rfl, HG.out⟩

set_option maxHeartbeats 2000000 in
theorem refNamed_c (x : Ln) (id a b : Nat) (r : Bool) (w : World) (hr : r = true ↔ Named x id a b) :
    Calls Tryz.prog 66 #[.agg #[.int .u32 (x.1 : Int), .int .i64 x.2], .int .u32 (id : Int), .int .i64 (a : Int), .int .i64 (b : Int)] w fun e w' => e = .returned (.bool r) ∧ w.grownBy w' none := by
  obtain ⟨y, m⟩ := x
  have HR := Lib.hid hr
  clear hr
  have HG := Lib.hid (World.grownBy_alloc w (.cells #[.int .u32 (y : Int), .int .i64 m] 44) none)
  by_cases h0 : 0 ≤ m
  · by_cases h1 : m < 40
    · by_cases h2 : y = id
      · subst h2
        have e0 : ((y : Int) != (y : Int)) = false := by simp
        by_cases h3 : (a : Int) ≤ m
        · by_cases h4 : m < (b : Int)
          · obtain rfl : r = true := HR.out.2 ⟨h0, h1, fun _ => ⟨h3, h4⟩⟩
            go_enter Tryz.func66, Tryz.ntmps66
            go_wp2
            go_ret
            exact ⟨rfl, HG.out⟩
          · obtain rfl : r = false := no_false HR.out fun h => h4 (h.own rfl).2
            go_enter Tryz.func66, Tryz.ntmps66
            go_wp2
            go_ret
            exact ⟨rfl, HG.out⟩
        · obtain rfl : r = false := no_false HR.out fun h => h3 (h.own rfl).1
          go_enter Tryz.func66, Tryz.ntmps66
          go_wp2
          go_ret
          exact ⟨rfl, HG.out⟩
      · have e0 : ((y : Int) != (id : Int)) = true := by simp; omega
        obtain rfl : r = true := HR.out.2 ⟨h0, h1, fun e => absurd e h2⟩
        clear h2
        go_enter Tryz.func66, Tryz.ntmps66
        go_wp2
        go_ret
        exact ⟨rfl, HG.out⟩
    · obtain rfl : r = false := no_false HR.out fun h => h1 h.hi
      go_enter Tryz.func66, Tryz.ntmps66
      go_wp2
      go_ret
      exact ⟨rfl, HG.out⟩
  · obtain rfl : r = false := no_false HR.out fun h => h0 h.lo
    go_enter Tryz.func66, Tryz.ntmps66
    go_wp2
    go_ret
    exact ⟨rfl, HG.out⟩

end Go.Proofs.YtcfhnfnhdhloiaaGreat
/-! The reference's patches: SameIDs, sameTexts, SameHunk, Same. -/
namespace Go.Proofs.YtcfhnfnhdhloiaaGreat
open Go.RowKit

theorem eq_get {α : Type} {la lb : List α} {d : α} (hl : la.length = lb.length) (h : ∀ j, j < la.length → la[j]?.getD d = lb[j]?.getD d) : la = lb := by
  apply List.ext_getElem hl
  intro j h1 h2
  have := h j h1
  rwa [List.getElem?_eq_getElem h1, List.getElem?_eq_getElem h2] at this

set_option maxHeartbeats 1000000 in
theorem refSameIDs_c (p q : Option Addr) (n m c d lo hi lo' hi' : Nat) (la lb : List Nat) (r : Bool) (w : World) (hp : NsAt .u32 w lo hi p n la) (hq : NsAt .u32 w lo' hi' q m lb) (hn : n ≤ 1000000) (hm : m ≤ 1000000) (hr : r = true ↔ la = lb) :
    Calls Tryz.prog 9 #[.slice p n c, .slice q m d] w fun e w' => e = .returned (.bool r) ∧ w.grownBy w' none := by
  have HP := Lib.hid hp
  have HQ := Lib.hid hq
  have HR := Lib.hid hr
  have HPL := Lib.hid hp.len
  have HQL := Lib.hid hq.len
  clear hp hq hr
  by_cases hnm : n = m
  · subst hnm
    have e0 : ((n : Int) != (n : Int)) = false := by simp
    have HL := Lib.hid (HPL.out.trans HQL.out.symm)
    go_enter Tryz.func9, Tryz.ntmps9
    go_wp2
    go_loopw [5] (fun i wr => ∃ k : Nat, k ≤ n ∧ i = .int .i64 k ∧ Hid (∀ j, j < k → la[j]?.getD 0 = lb[j]?.getD 0) ∧ Hid (w.grownBy wr none)) (fun i _ => n - (intOf i).toNat)
    case atStart => exact ⟨0, Nat.zero_le _, rfl, Lib.hid (fun j hj => absurd hj (Nat.not_lt_zero _)), Lib.hid (grownBy_refl _ _)⟩
    case round =>
      obtain ⟨k, hk, rfl, HE, HG⟩ := hrel
      by_cases hkn : k < n
      · have k0 : (0 : Int) ≤ k := by omega
        have k1 : (k : Int) < n := by omega
        obtain ⟨b, o, rfl, _, _, _, hc⟩ := (HP.out.calm HG.out).cell (by omega)
        obtain ⟨b', o', rfl, _, _, _, hc'⟩ := (HQ.out.calm HG.out).cell (by omega)
        have x0 := hc k hkn
        have y0 := hc' k hkn
        have HU := Lib.hid (show la[k]?.getD 0 = lb[k]?.getD 0 → ∀ j, j < k + 1 → la[j]?.getD 0 = lb[j]?.getD 0 from fun h => upto_succ (q := fun j => la[j]?.getD 0 = lb[j]?.getD 0) HE.out h)
        have HX := Lib.hid (show la = lb → la[k]?.getD 0 = lb[k]?.getD 0 from fun h => by rw [h])
        have HG2 := Lib.hid (fun z => grownBy_trans HG.out (grownBy_drewN wr z none))
        clear hc hc' HE HG
        generalize la[k]?.getD 0 = x at *
        generalize lb[k]?.getD 0 = y at *
        by_cases hxy : x = y
        · subst hxy
          have e1 : ((x : Int) != (x : Int)) = false := by simp
          have HU2 := Lib.hid (HU.out rfl)
          go_wp2
          go_quiet (fail)
          go_wp2
          exact ⟨⟨k + 1, by omega, by go_num, HU2, Lib.hid (HG2.out _)⟩, by simp [intOf]; omega⟩
        · have e1 : ((x : Int) != (y : Int)) = true := by simp; omega
          obtain rfl : r = false := no_false HR.out fun h => hxy (HX.out h)
          go_wp2
          go_quiet (fail)
          go_wp2
          go_ret
          exact ⟨rfl, HG2.out _⟩
      · obtain rfl : n = k := by omega
        have k1 : ¬ ((n : Int) < n) := by omega
        obtain rfl : r = true := HR.out.2 (eq_get (d := 0) HL.out (by rw [HPL.out]; exact HE.out))
        go_wp2
        go_ret
        exact ⟨rfl, HG.out⟩
  · have e0 : ((n : Int) != (m : Int)) = true := by simp; omega
    obtain rfl : r = false := no_false HR.out fun h => hnm (by rw [← HPL.out, ← HQL.out, h])
    go_enter Tryz.func9, Tryz.ntmps9
    go_wp2
    go_ret
    exact ⟨rfl, grownBy_refl _ _⟩

set_option maxHeartbeats 1000000 in
theorem refSameTexts_c (p q : Option Addr) (n m c d lo hi lo' hi' : Nat) (la lb : List ByteArray) (r : Bool) (w : World) (hp : StrsAt w lo hi p n la) (hq : StrsAt w lo' hi' q m lb) (hn : n ≤ 1000000) (hm : m ≤ 1000000) (hr : r = true ↔ la = lb) :
    Calls Tryz.prog 46 #[.slice p n c, .slice q m d] w fun e w' => e = .returned (.bool r) ∧ w.grownBy w' none := by
  have HP := Lib.hid hp
  have HQ := Lib.hid hq
  have HR := Lib.hid hr
  have HPL := Lib.hid hp.len
  have HQL := Lib.hid hq.len
  clear hp hq hr
  by_cases hnm : n = m
  · subst hnm
    have e0 : ((n : Int) != (n : Int)) = false := by simp
    have HL := Lib.hid (HPL.out.trans HQL.out.symm)
    go_enter Tryz.func46, Tryz.ntmps46
    go_wp2
    go_loopw [5] (fun i wr => ∃ k : Nat, k ≤ n ∧ i = .int .i64 k ∧ Hid (∀ j, j < k → la[j]?.getD .empty = lb[j]?.getD .empty) ∧ Hid (w.grownBy wr none)) (fun i _ => n - (intOf i).toNat)
    case atStart => exact ⟨0, Nat.zero_le _, rfl, Lib.hid (fun j hj => absurd hj (Nat.not_lt_zero _)), Lib.hid (grownBy_refl _ _)⟩
    case round =>
      obtain ⟨k, hk, rfl, HE, HG⟩ := hrel
      by_cases hkn : k < n
      · have k0 : (0 : Int) ≤ k := by omega
        have k1 : (k : Int) < n := by omega
        obtain ⟨b, o, rfl, _, _, _, hc⟩ := (HP.out.calm HG.out).cell (by omega)
        obtain ⟨b', o', rfl, _, _, _, hc'⟩ := (HQ.out.calm HG.out).cell (by omega)
        have x0 := hc k hkn
        have y0 := hc' k hkn
        have HU := Lib.hid (show la[k]?.getD .empty = lb[k]?.getD .empty → ∀ j, j < k + 1 → la[j]?.getD .empty = lb[j]?.getD .empty from fun h => upto_succ (q := fun j => la[j]?.getD .empty = lb[j]?.getD .empty) HE.out h)
        have HX := Lib.hid (show la = lb → la[k]?.getD .empty = lb[k]?.getD .empty from fun h => by rw [h])
        have HG2 := Lib.hid (fun z => grownBy_trans HG.out (grownBy_drewN wr z none))
        clear hc hc' HE HG
        generalize la[k]?.getD .empty = x at *
        generalize lb[k]?.getD .empty = y at *
        by_cases hxy : x = y
        · subst hxy
          have e1 : (x.toList == x.toList) = true := toList_eqP rfl
          have HU2 := Lib.hid (HU.out rfl)
          go_wp2
          go_quiet (fail)
          go_wp2
          exact ⟨⟨k + 1, by omega, by go_num, HU2, Lib.hid (HG2.out _)⟩, by simp [intOf]; omega⟩
        · have e1 : (x.toList == y.toList) = false := toList_neP hxy
          obtain rfl : r = false := no_false HR.out fun h => hxy (HX.out h)
          go_wp2
          go_quiet (fail)
          go_wp2
          go_ret
          exact ⟨rfl, HG2.out _⟩
      · obtain rfl : n = k := by omega
        have k1 : ¬ ((n : Int) < n) := by omega
        obtain rfl : r = true := HR.out.2 (eq_get (d := .empty) HL.out (by rw [HPL.out]; exact HE.out))
        go_wp2
        go_ret
        exact ⟨rfl, HG.out⟩
  · have e0 : ((n : Int) != (m : Int)) = true := by simp; omega
    obtain rfl : r = false := no_false HR.out fun h => hnm (by rw [← HPL.out, ← HQL.out, h])
    go_enter Tryz.func46, Tryz.ntmps46
    go_wp2
    go_ret
    exact ⟨rfl, grownBy_refl _ _⟩

end Go.Proofs.YtcfhnfnhdhloiaaGreat
/-! Lines' numbers and edges compared; the reference's SameHunk, Same. -/
namespace Go.Proofs.YtcfhnfnhdhloiaaGreat
open Go.RowKit

theorem ln_in (d : Nat) (x y m n : Int) (w : World) : (Op.equalIn (d + 1 + 1) 44 (.agg #[.int .u32 x, .int .i64 m]) (.agg #[.int .u32 y, .int .i64 n])).run Tryz.prog w = .ok (x == y && m == n) w := by
  rw [run_equalIn_agg _ _ _ _ _ (by kernel_rfl) Tryz.stoodInHeld44]
  have e : (Tryz.prog.fieldsOf 44).toList = [{ name := "Patch", type := 22, offset := 0, embedded := false, tag := "", pkgPath := "", byteOffset := 0 }, { name := "N", type := 3, offset := 1, embedded := false, tag := "", pkgPath := "", byteOffset := 8 }] := by kernel_rfl
  rw [e]
  simp [Op.eqFields, part, go_sem]
  cases h : (x == y) <;> cases h' : (m == n) <;> simp_all
theorem ln_eql (x y m n : Int) (w : World) : (binOp .eql 44 (.agg #[.int .u32 x, .int .i64 m]) (.agg #[.int .u32 y, .int .i64 n])).run Tryz.prog w = .ok (.bool (x == y && m == n)) w := by
  rw [run_eql_struct, ln_in 9998]
  rfl
theorem ln_neq (x y m n : Int) (w : World) : (binOp .neq 44 (.agg #[.int .u32 x, .int .i64 m]) (.agg #[.int .u32 y, .int .i64 n])).run Tryz.prog w = .ok (.bool (!(x == y && m == n))) w := by
  rw [run_neq_struct, ln_in 9998]
  rfl
theorem ed_neq (x y m n x' y' m' n' : Int) (w : World) : (binOp .neq 46 (.agg #[.int .u32 x, .int .i64 m, .int .u32 x', .int .i64 m']) (.agg #[.int .u32 y, .int .i64 n, .int .u32 y', .int .i64 n'])).run Tryz.prog w = .ok (.bool (!((x == y && m == n) && (x' == y' && m' == n')))) w := by
  rw [run_neq_struct, run_equalIn_agg _ _ _ _ _ (by kernel_rfl) Tryz.stoodInHeld46]
  have e : (Tryz.prog.fieldsOf 46).toList = [{ name := "A", type := 44, offset := 0, embedded := false, tag := "", pkgPath := "", byteOffset := 0 }, { name := "B", type := 44, offset := 2, embedded := false, tag := "", pkgPath := "", byteOffset := 16 }] := by kernel_rfl
  have l1 := ln_in 9997 x y m n
  have l2 := ln_in 9997 x' y' m' n'
  rw [e]
  simp [Op.eqFields, part, go_sem]
  by_cases h1 : x = y <;> by_cases h2 : m = n <;> by_cases h3 : x' = y' <;> by_cases h4 : m' = n' <;> simp [h1, h2, h3, h4]

theorem BoxV.second (w : World) (vs us : List Value) (t u : TypeId) : BoxV ((w.alloc (.cells vs.toArray t)).alloc (.cells us.toArray u)) (w.heap.size + 1) us u := by
  have h := BoxV.new (w.alloc (.cells vs.toArray t)) us u
  have e : (w.alloc (.cells vs.toArray t)).heap.size = w.heap.size + 1 := by simp
  rwa [e] at h
/-- The cells of a box of four. -/
theorem BoxV.four {w : World} {g : Nat} {a b c d : Value} {t : TypeId} (h : BoxV w g [a, b, c, d] t) : w.cell? ⟨g, 0, none⟩ = some a ∧ w.cell? ⟨g, 1, none⟩ = some b ∧ w.cell? ⟨g, 2, none⟩ = some c ∧ w.cell? ⟨g, 3, none⟩ = some d := ⟨h.cell rfl, h.cell rfl, h.cell rfl, h.cell rfl⟩
theorem hk_eq {x y : Hk} (h1 : hPath x = hPath y) (h2 : hAdds x = hAdds y) (h3 : hEdges x = hEdges y) (h4 : hKills x = hKills y) : x = y := Prod.ext h1 (Prod.ext h2 (Prod.ext h3 h4))

set_option maxHeartbeats 8000000 in
theorem refSameHunk_c (x y : Hk) (pa : Option Addr) (na ca : Nat) (pe : Option Addr) (ne ce : Nat) (pk : Option Addr) (nk ck : Nat) (qa : Option Addr) (ma da : Nat) (qe : Option Addr) (me de : Nat) (qk : Option Addr) (mk dk : Nat) (lo hi lo' hi' : Nat) (r : Bool) (w : World)
    (h : HkAt w lo hi pa na ca pe ne ce pk nk ck x) (h' : HkAt w lo' hi' qa ma da qe me de qk mk dk y) (hb : na ≤ 1000000 ∧ ne ≤ 1000000 ∧ nk ≤ 1000000) (hb' : ma ≤ 1000000 ∧ me ≤ 1000000 ∧ mk ≤ 1000000) (hr : r = true ↔ x = y) :
    Calls Tryz.prog 47 #[.agg #[.string (hPath x), .slice pa na ca, .slice pe ne ce, .slice pk nk ck], .agg #[.string (hPath y), .slice qa ma da, .slice qe me de, .slice qk mk dk]] w fun e w' => e = .returned (.bool r) ∧ w.grownBy w' none := by
  have HR := Lib.hid hr
  have H := Lib.hid h
  have H' := Lib.hid h'
  have HB1 := Lib.hid ((BoxV.new w [.string (hPath x), .slice pa na ca, .slice pe ne ce, .slice pk nk ck] 50).calm (World.grownBy_alloc _ (.cells [.string (hPath y), .slice qa ma da, .slice qe me de, .slice qk mk dk].toArray 50) none))
  have HB2 := Lib.hid (BoxV.second w [.string (hPath x), .slice pa na ca, .slice pe ne ce, .slice pk nk ck] [.string (hPath y), .slice qa ma da, .slice qe me de, .slice qk mk dk] 50 50)
  have HG := Lib.hid (grownBy_trans (World.grownBy_alloc w (.cells [.string (hPath x), .slice pa na ca, .slice pe ne ce, .slice pk nk ck].toArray 50) none) (World.grownBy_alloc _ (.cells [.string (hPath y), .slice qa ma da, .slice qe me de, .slice qk mk dk].toArray 50) none))
  have HEQ := Lib.hid (fun (h : x = y) => (⟨by rw [h], by rw [h], by rw [h], by rw [h]⟩ : hPath x = hPath y ∧ hAdds x = hAdds y ∧ hEdges x = hEdges y ∧ hKills x = hKills y))
  have HQE := Lib.hid (fun h1 h2 h3 h4 => HR.out.2 (hk_eq (x := x) (y := y) h1 h2 h3 h4))
  clear hr h h'
  go_enter Tryz.func47, Tryz.ntmps47
  go_upto_region 1 with fail
  generalize (w.alloc _).alloc _ = w2 at *
  have H2 := Lib.hid (H.out.calm HG.out)
  have H2' := Lib.hid (H'.out.calm HG.out)
  clear H H'
  generalize w.heap.size = g at *
  obtain ⟨a0, a1, a2, a3⟩ := HB1.out.four
  obtain ⟨b0, b1, b2, b3⟩ := HB2.out.four
  by_cases hp : hPath x = hPath y
  · have e1 := toList_eqP hp
    obtain ⟨ra, hra⟩ : ∃ ra : Bool, ra = true ↔ hAdds x = hAdds y := ⟨decide _, decide_eq_true_iff⟩
    have HP0 := Lib.hid hp
    clear hp
    go_wp2_with fail
    refine (refSameTexts_c pa qa na ma ca da lo hi lo' hi' (hAdds x) (hAdds y) ra _ H2.out.adds H2'.out.adds (by omega) (by omega) hra).mono ?_
    rintro e w3 ⟨rfl, hg3⟩
    have HG3 := Lib.hid hg3
    obtain ⟨c0, c1, c2, c3⟩ := (HB1.out.calm hg3).four
    obtain ⟨d0, d1, d2, d3⟩ := (HB2.out.calm hg3).four
    clear a0 a1 a2 a3 b0 b1 b2 b3 hg3
    have HAD := Lib.hid hra
    clear hra
    cases ra with
    | false =>
      obtain rfl : r = false := no_false HR.out fun h => by have := HAD.out.2 (HEQ.out h).2.1; cases this
      go_wp2
      go_ret
      exact ⟨rfl, grownBy_trans HG.out HG3.out⟩
    | true =>
      have HA0 := Lib.hid (HAD.out.1 rfl)
      have HEX := Lib.hid H2.out.edges
      have HEY := Lib.hid H2'.out.edges
      have HKX := Lib.hid H2.out.kills
      have HKY := Lib.hid H2'.out.kills
      by_cases hne : ne = me
      · subst hne
        have f1 : ((ne : Int) != (ne : Int)) = false := by simp
        by_cases hnk : nk = mk
        · subst hnk
          have f2 : ((nk : Int) != (nk : Int)) = false := by simp
          go_wp2
          go_loopw [5] (fun i wr => ∃ k : Nat, k ≤ ne ∧ i = .int .i64 k ∧ Hid (∀ j, j < k → (hEdges x)[j]?.getD ((0, 0), (0, 0)) = (hEdges y)[j]?.getD ((0, 0), (0, 0))) ∧ Hid (w2.grownBy wr none)) (fun i _ => ne - (intOf i).toNat)
          case atStart => exact ⟨0, Nat.zero_le _, rfl, Lib.hid (fun j hj => absurd hj (Nat.not_lt_zero _)), HG3⟩
          case round =>
            obtain ⟨k, hk, rfl, HE, HGW⟩ := hrel
            have ax := (HB1.out.calm HGW.out).cell (k := 2) rfl
            have bx := (HB2.out.calm HGW.out).cell (k := 2) rfl
            by_cases hkn : k < ne
            · have k0 : (0 : Int) ≤ k := by omega
              have k1 : (k : Int) < ne := by omega
              obtain ⟨b, o, rfl, _, _, _, hc⟩ := (HEX.out.calm HGW.out).cell (by omega)
              obtain ⟨b', o', rfl, _, _, _, hc'⟩ := (HEY.out.calm HGW.out).cell (by omega)
              obtain ⟨x1, x2, x3, x4⟩ := hc k hkn
              obtain ⟨y1, y2, y3, y4⟩ := hc' k hkn
              have HU := Lib.hid (show (hEdges x)[k]?.getD ((0, 0), (0, 0)) = (hEdges y)[k]?.getD ((0, 0), (0, 0)) → ∀ j, j < k + 1 → (hEdges x)[j]?.getD ((0, 0), (0, 0)) = (hEdges y)[j]?.getD ((0, 0), (0, 0)) from fun h => upto_succ (q := fun j => (hEdges x)[j]?.getD ((0, 0), (0, 0)) = (hEdges y)[j]?.getD ((0, 0), (0, 0))) HE.out h)
              have HX := Lib.hid (show x = y → (hEdges x)[k]?.getD ((0, 0), (0, 0)) = (hEdges y)[k]?.getD ((0, 0), (0, 0)) from fun h => by rw [(HEQ.out h).2.2.1])
              have HG2 := Lib.hid (fun z => grownBy_trans HGW.out (grownBy_drewN wr z none))
              clear hc hc' HE HGW
              generalize (hEdges x)[k]?.getD ((0, 0), (0, 0)) = u at *
              generalize (hEdges y)[k]?.getD ((0, 0), (0, 0)) = v at *
              obtain ⟨⟨u1, u2⟩, u3, u4⟩ := u
              obtain ⟨⟨v1, v2⟩, v3, v4⟩ := v
              simp only at x1 x2 x3 x4 y1 y2 y3 y4
              have hq := ed_neq (u1 : Int) v1 u2 v2 u3 v3 u4 v4
              by_cases hxy : (((u1, u2), u3, u4) : Ed) = ((v1, v2), v3, v4)
              · have HU2 := Lib.hid (HU.out hxy)
                have hb1 : (!(((u1 : Int) == (v1 : Int)) && (u2 == v2) && (((u3 : Int) == (v3 : Int)) && (u4 == v4)))) = false := by
                  simp only [Prod.mk.injEq] at hxy
                  obtain ⟨⟨rfl, rfl⟩, rfl, rfl⟩ := hxy
                  simp
                rw [hb1] at hq
                clear hxy hb1
                go_wp2
                go_quiet (fail)
                go_wp2
                exact ⟨⟨k + 1, by omega, by go_num, HU2, Lib.hid (HG2.out _)⟩, by simp [intOf]; omega⟩
              · have HN2 := Lib.hid (fun h => hxy (HX.out h))
                have hb1 : (!(((u1 : Int) == (v1 : Int)) && (u2 == v2) && (((u3 : Int) == (v3 : Int)) && (u4 == v4)))) = true := by
                  rw [Bool.not_eq_true', Bool.eq_false_iff]
                  intro h
                  simp only [Bool.and_eq_true, beq_iff_eq] at h
                  apply hxy
                  simp only [Prod.mk.injEq]
                  omega
                rw [hb1] at hq
                clear hxy hb1
                obtain rfl : r = false := no_false HR.out HN2.out
                go_wp2
                go_quiet (fail)
                go_wp2
                go_ret
                exact ⟨rfl, grownBy_trans HG.out (HG2.out _)⟩
            · obtain rfl : ne = k := by omega
              have k1 : ¬ ((ne : Int) < ne) := by omega
              have HE0 : Hid (hEdges x = hEdges y) := Lib.hid (eq_get (d := ((0, 0), (0, 0))) (HEX.out.len.trans HEY.out.len.symm) (by rw [HEX.out.len]; exact HE.out))
              clear HE
              go_wp2
              go_loopw [6] (fun i wr => ∃ k : Nat, k ≤ nk ∧ i = .int .i64 k ∧ Hid (∀ j, j < k → (hKills x)[j]?.getD (0, 0) = (hKills y)[j]?.getD (0, 0)) ∧ Hid (w2.grownBy wr none)) (fun i _ => nk - (intOf i).toNat)
              case atStart => exact ⟨0, Nat.zero_le _, rfl, Lib.hid (fun j hj => absurd hj (Nat.not_lt_zero _)), HGW⟩
              case round =>
                obtain ⟨k, hk, rfl, HE, HGW⟩ := hrel
                have ax := (HB1.out.calm HGW.out).cell (k := 3) rfl
                have bx := (HB2.out.calm HGW.out).cell (k := 3) rfl
                by_cases hkn : k < nk
                · have k0 : (0 : Int) ≤ k := by omega
                  have k1 : (k : Int) < nk := by omega
                  obtain ⟨b, o, rfl, _, _, _, hc⟩ := (HKX.out.calm HGW.out).cell (by omega)
                  obtain ⟨b', o', rfl, _, _, _, hc'⟩ := (HKY.out.calm HGW.out).cell (by omega)
                  obtain ⟨x1, x2⟩ := hc k hkn
                  obtain ⟨y1, y2⟩ := hc' k hkn
                  have HU := Lib.hid (show (hKills x)[k]?.getD (0, 0) = (hKills y)[k]?.getD (0, 0) → ∀ j, j < k + 1 → (hKills x)[j]?.getD (0, 0) = (hKills y)[j]?.getD (0, 0) from fun h => upto_succ (q := fun j => (hKills x)[j]?.getD (0, 0) = (hKills y)[j]?.getD (0, 0)) HE.out h)
                  have HX := Lib.hid (show x = y → (hKills x)[k]?.getD (0, 0) = (hKills y)[k]?.getD (0, 0) from fun h => by rw [(HEQ.out h).2.2.2])
                  have HG2 := Lib.hid (fun z => grownBy_trans HGW.out (grownBy_drewN wr z none))
                  clear hc hc' HE HGW
                  generalize (hKills x)[k]?.getD (0, 0) = u at *
                  generalize (hKills y)[k]?.getD (0, 0) = v at *
                  obtain ⟨u1, u2⟩ := u
                  obtain ⟨v1, v2⟩ := v
                  simp only at x1 x2 y1 y2
                  have hq := ln_neq (u1 : Int) v1 u2 v2
                  by_cases hxy : ((u1, u2) : Ln) = (v1, v2)
                  · have HU2 := Lib.hid (HU.out hxy)
                    have hb1 : (!(((u1 : Int) == (v1 : Int)) && (u2 == v2))) = false := by
                      simp only [Prod.mk.injEq] at hxy
                      obtain ⟨rfl, rfl⟩ := hxy
                      simp
                    rw [hb1] at hq
                    clear hxy hb1
                    go_wp2
                    go_quiet (fail)
                    go_wp2
                    exact ⟨⟨k + 1, by omega, by go_num, HU2, Lib.hid (HG2.out _)⟩, by simp [intOf]; omega⟩
                  · have HN2 := Lib.hid (fun h => hxy (HX.out h))
                    have hb1 : (!(((u1 : Int) == (v1 : Int)) && (u2 == v2))) = true := by
                      rw [Bool.not_eq_true', Bool.eq_false_iff]
                      intro h
                      simp only [Bool.and_eq_true, beq_iff_eq] at h
                      apply hxy
                      simp only [Prod.mk.injEq]
                      omega
                    rw [hb1] at hq
                    clear hxy hb1
                    obtain rfl : r = false := no_false HR.out HN2.out
                    go_wp2
                    go_quiet (fail)
                    go_wp2
                    go_ret
                    exact ⟨rfl, grownBy_trans HG.out (HG2.out _)⟩
                · obtain rfl : nk = k := by omega
                  have k1 : ¬ ((nk : Int) < nk) := by omega
                  obtain rfl : r = true := HQE.out HP0.out HA0.out HE0.out (eq_get (d := (0, 0)) (HKX.out.len.trans HKY.out.len.symm) (by rw [HKX.out.len]; exact HE.out))
                  go_wp2
                  go_ret
                  exact ⟨rfl, grownBy_trans HG.out HGW.out⟩
        · have f2 : ((nk : Int) != (mk : Int)) = true := by simp; omega
          obtain rfl : r = false := no_false HR.out fun h => hnk (by rw [← HKX.out.len, ← HKY.out.len, (HEQ.out h).2.2.2])
          go_wp2
          go_ret
          exact ⟨rfl, grownBy_trans HG.out HG3.out⟩
      · have f1 : ((ne : Int) != (me : Int)) = true := by simp; omega
        obtain rfl : r = false := no_false HR.out fun h => hne (by rw [← HEX.out.len, ← HEY.out.len, (HEQ.out h).2.2.1])
        go_wp2
        go_ret
        exact ⟨rfl, grownBy_trans HG.out HG3.out⟩
  · have e1 := toList_neP hp
    obtain rfl : r = false := no_false HR.out fun h => hp (HEQ.out h).1
    clear hp
    go_wp2
    go_ret
    exact ⟨rfl, HG.out⟩

end Go.Proofs.YtcfhnfnhdhloiaaGreat
/-! The reference's patches: Same. -/
namespace Go.Proofs.YtcfhnfnhdhloiaaGreat
open Go.RowKit

/-- No patch is greater than these. -/
structure PBig (p : Pt) : Prop where
  hunks : (pHunks p).length ≤ 20
  deps : (pDeps p).length ≤ 1000
  makes : (pMakes p).length ≤ 1000
  drops : (pDrops p).length ≤ 1000
  ms : ∀ s ∈ pMakes p, s.size ≤ 1000000
  xs : ∀ s ∈ pDrops p, s.size ≤ 1000000
  hs : ∀ h ∈ pHunks p, (hAdds h).length ≤ 1000 ∧ (hEdges h).length ≤ 1000 ∧ (hKills h).length ≤ 1000 ∧ (hPath h).size ≤ 1000000 ∧ ∀ s ∈ hAdds h, s.size ≤ 1000000
theorem PFew.big {p : Pt} (h : PFew p) : PBig p where
  hunks := by have := h.hunks; omega
  deps := by have := h.deps; omega
  makes := by have := h.makes; omega
  drops := by have := h.drops; omega
  ms s hs := by have := h.ms s hs; omega
  xs s hs := by have := h.xs s hs; omega
  hs x hx := by
    obtain ⟨h1, h2, h3, h4, h5⟩ := h.hs x hx
    exact ⟨by omega, by omega, by omega, by omega, fun s hs => by have := h5 s hs; omega⟩
theorem BoxV.five {w : World} {g : Nat} {a b c d e : Value} {t : TypeId} (h : BoxV w g [a, b, c, d, e] t) : w.cell? ⟨g, 0, none⟩ = some a ∧ w.cell? ⟨g, 1, none⟩ = some b ∧ w.cell? ⟨g, 2, none⟩ = some c ∧ w.cell? ⟨g, 3, none⟩ = some d ∧ w.cell? ⟨g, 4, none⟩ = some e := ⟨h.cell rfl, h.cell rfl, h.cell rfl, h.cell rfl, h.cell rfl⟩
theorem pt_eq {x y : Pt} (h1 : pID x = pID y) (h2 : pDeps x = pDeps y) (h3 : pMakes x = pMakes y) (h4 : pDrops x = pDrops y) (h5 : pHunks x = pHunks y) : x = y := Prod.ext h1 (Prod.ext h2 (Prod.ext h3 (Prod.ext h4 h5)))

theorem bool_of (P : Prop) : ∃ r : Bool, r = true ↔ P := by
  by_cases h : P
  · exact ⟨true, iff_of_true rfl h⟩
  · exact ⟨false, iff_of_false Bool.false_ne_true h⟩

set_option maxHeartbeats 8000000 in
theorem refSame_c (x y : Pt) (id : Nat) (pd : Option Addr) (nd cd : Nat) (pm : Option Addr) (nm cm : Nat) (px : Option Addr) (nx cx : Nat) (ph : Option Addr) (nh ch : Nat) (id' : Nat) (qd : Option Addr) (md dd : Nat) (qm : Option Addr) (mm dm : Nat) (qx : Option Addr) (mx dx : Nat) (qh : Option Addr) (mh dh : Nat) (lo hi lo' hi' : Nat) (r : Bool) (w : World)
    (h : PtAt w lo hi id pd nd cd pm nm cm px nx cx ph nh ch x) (h' : PtAt w lo' hi' id' qd md dd qm mm dm qx mx dx qh mh dh y) (hb : PBig x) (hb' : PBig y) (hr : r = true ↔ x = y) :
    Calls Tryz.prog 18 #[.agg #[.int .u32 (id : Int), .slice pd nd cd, .slice pm nm cm, .slice px nx cx, .slice ph nh ch], .agg #[.int .u32 (id' : Int), .slice qd md dd, .slice qm mm dm, .slice qx mx dx, .slice qh mh dh]] w fun e w' => e = .returned (.bool r) ∧ w.grownBy w' none := by
  have HR := Lib.hid hr
  have H := Lib.hid h
  have H' := Lib.hid h'
  have HB1 := Lib.hid ((BoxV.new w [.int .u32 (id : Int), .slice pd nd cd, .slice pm nm cm, .slice px nx cx, .slice ph nh ch] 27).calm (World.grownBy_alloc _ (.cells [.int .u32 (id' : Int), .slice qd md dd, .slice qm mm dm, .slice qx mx dx, .slice qh mh dh].toArray 27) none))
  have HB2 := Lib.hid (BoxV.second w [.int .u32 (id : Int), .slice pd nd cd, .slice pm nm cm, .slice px nx cx, .slice ph nh ch] [.int .u32 (id' : Int), .slice qd md dd, .slice qm mm dm, .slice qx mx dx, .slice qh mh dh] 27 27)
  have HG := Lib.hid (grownBy_trans (World.grownBy_alloc w (.cells [.int .u32 (id : Int), .slice pd nd cd, .slice pm nm cm, .slice px nx cx, .slice ph nh ch].toArray 27) none) (World.grownBy_alloc _ (.cells [.int .u32 (id' : Int), .slice qd md dd, .slice qm mm dm, .slice qx mx dx, .slice qh mh dh].toArray 27) none))
  have HEQ := Lib.hid (fun (h : x = y) => (⟨by rw [h], by rw [h], by rw [h], by rw [h], by rw [h]⟩ : pID x = pID y ∧ pDeps x = pDeps y ∧ pMakes x = pMakes y ∧ pDrops x = pDrops y ∧ pHunks x = pHunks y))
  have HQE := Lib.hid (fun h1 h2 h3 h4 h5 => HR.out.2 (pt_eq (x := x) (y := y) h1 h2 h3 h4 h5))
  have HBX := Lib.hid hb
  have HBY := Lib.hid hb'
  have hd1 : nd ≤ 1000000 := by have := hb.deps; have := h.deps.len; omega
  have hd2 : md ≤ 1000000 := by have := hb'.deps; have := h'.deps.len; omega
  have hm1 : nm ≤ 1000000 := by have := hb.makes; have := h.makes.len; omega
  have hm2 : mm ≤ 1000000 := by have := hb'.makes; have := h'.makes.len; omega
  have hx1 : nx ≤ 1000000 := by have := hb.drops; have := h.drops.len; omega
  have hx2 : mx ≤ 1000000 := by have := hb'.drops; have := h'.drops.len; omega
  have hh1 : nh ≤ 1000000 := by have := hb.hunks; have := h.hunks.len; omega
  clear hr h h' hb hb'
  go_enter Tryz.func18, Tryz.ntmps18
  go_upto_region 1 with fail
  generalize (w.alloc _).alloc _ = w2 at *
  have H2 := Lib.hid (H.out.calm HG.out)
  have H2' := Lib.hid (H'.out.calm HG.out)
  clear H H'
  generalize w.heap.size = g at *
  obtain ⟨a0, a1, a2, a3, a4⟩ := HB1.out.five
  obtain ⟨b0, b1, b2, b3, b4⟩ := HB2.out.five
  by_cases hp : id = id'
  · have e1 : ((id : Int) != (id' : Int)) = false := by simp; omega
    obtain ⟨rd, hrd⟩ : ∃ r : Bool, r = true ↔ pDeps x = pDeps y := ⟨decide _, decide_eq_true_iff⟩
    obtain ⟨rm, hrm⟩ : ∃ r : Bool, r = true ↔ pMakes x = pMakes y := ⟨decide _, decide_eq_true_iff⟩
    obtain ⟨rx, hrx⟩ : ∃ r : Bool, r = true ↔ pDrops x = pDrops y := ⟨decide _, decide_eq_true_iff⟩
    have HID := Lib.hid (show pID x = pID y by rw [H2.out.num, H2'.out.num, hp])
    have HRD := Lib.hid hrd
    have HRM := Lib.hid hrm
    have HRX := Lib.hid hrx
    clear hp hrd hrm hrx
    go_wp2_with fail
    refine (refSameIDs_c pd qd nd md cd dd lo hi lo' hi' (pDeps x) (pDeps y) rd _ H2.out.deps H2'.out.deps hd1 hd2 HRD.out).mono ?_
    rintro e w3 ⟨rfl, hg3⟩
    have HG3 := Lib.hid hg3
    obtain ⟨a0, a1, a2, a3, a4⟩ := (HB1.out.calm hg3).five
    obtain ⟨b0, b1, b2, b3, b4⟩ := (HB2.out.calm hg3).five
    clear hg3
    cases rd with
    | false =>
      obtain rfl : r = false := no_false HR.out fun h => by have := HRD.out.2 (HEQ.out h).2.1; cases this
      go_wp2
      go_ret
      exact ⟨rfl, grownBy_trans HG.out HG3.out⟩
    | true =>
      have HD0 := Lib.hid (HRD.out.1 rfl)
      go_wp2_with fail
      refine (refSameTexts_c pm qm nm mm cm dm lo hi lo' hi' (pMakes x) (pMakes y) rm _ (H2.out.makes.calm HG3.out) (H2'.out.makes.calm HG3.out) hm1 hm2 HRM.out).mono ?_
      rintro e w4 ⟨rfl, hg4⟩
      have HG4 := Lib.hid (grownBy_trans HG3.out hg4)
      obtain ⟨a0, a1, a2, a3, a4⟩ := (HB1.out.calm HG4.out).five
      obtain ⟨b0, b1, b2, b3, b4⟩ := (HB2.out.calm HG4.out).five
      clear hg4
      cases rm with
      | false =>
        obtain rfl : r = false := no_false HR.out fun h => by have := HRM.out.2 (HEQ.out h).2.2.1; cases this
        go_wp2
        go_ret
        exact ⟨rfl, grownBy_trans HG.out HG4.out⟩
      | true =>
        have HM0 := Lib.hid (HRM.out.1 rfl)
        go_wp2_with fail
        refine (refSameTexts_c px qx nx mx cx dx lo hi lo' hi' (pDrops x) (pDrops y) rx _ (H2.out.drops.calm HG4.out) (H2'.out.drops.calm HG4.out) hx1 hx2 HRX.out).mono ?_
        rintro e w5 ⟨rfl, hg5⟩
        have HG5 := Lib.hid (grownBy_trans HG4.out hg5)
        obtain ⟨a0, a1, a2, a3, a4⟩ := (HB1.out.calm HG5.out).five
        obtain ⟨b0, b1, b2, b3, b4⟩ := (HB2.out.calm HG5.out).five
        clear hg5
        cases rx with
        | false =>
          obtain rfl : r = false := no_false HR.out fun h => by have := HRX.out.2 (HEQ.out h).2.2.2.1; cases this
          go_wp2
          go_ret
          exact ⟨rfl, grownBy_trans HG.out HG5.out⟩
        | true =>
          have HX0 := Lib.hid (HRX.out.1 rfl)
          have HHX := Lib.hid H2.out.hunks
          have HHY := Lib.hid H2'.out.hunks
          by_cases hnh : nh = mh
          · subst hnh
            have f1 : ((nh : Int) != (nh : Int)) = false := by simp
            go_wp2
            go_loopw [5] (fun i wr => ∃ k : Nat, k ≤ nh ∧ i = .int .i64 k ∧ Hid (∀ j, j < k → (pHunks x)[j]?.getD hk0 = (pHunks y)[j]?.getD hk0) ∧ Hid (w2.grownBy wr none)) (fun i _ => nh - (intOf i).toNat)
            case atStart => exact ⟨0, Nat.zero_le _, rfl, Lib.hid (fun j hj => absurd hj (Nat.not_lt_zero _)), HG5⟩
            case round =>
              clear a0 a1 a2 a3 a4 b0 b1 b2 b3 b4
              obtain ⟨k, hk, rfl, HE, HGW⟩ := hrel
              have ax := (HB1.out.calm HGW.out).cell (k := 4) rfl
              have bx := (HB2.out.calm HGW.out).cell (k := 4) rfl
              by_cases hkn : k < nh
              · have k0 : (0 : Int) ≤ k := by omega
                have k1 : (k : Int) < nh := by omega
                obtain ⟨b, o, rfl, _, _, _, hc⟩ := (HHX.out.calm HGW.out).cell (by omega)
                obtain ⟨b', o', rfl, _, _, _, hc'⟩ := (HHY.out.calm HGW.out).cell (by omega)
                obtain ⟨pa, na, ca, pe, ne, ce, pk, nk, ck, x1, x2, x3, x4, hx⟩ := hc k hkn
                obtain ⟨qa, ma, da, qe, me, de, qk, mk, dk, y1, y2, y3, y4, hy⟩ := hc' k hkn
                have HU := Lib.hid (show (pHunks x)[k]?.getD hk0 = (pHunks y)[k]?.getD hk0 → ∀ j, j < k + 1 → (pHunks x)[j]?.getD hk0 = (pHunks y)[j]?.getD hk0 from fun h => upto_succ (q := fun j => (pHunks x)[j]?.getD hk0 = (pHunks y)[j]?.getD hk0) HE.out h)
                have HX := Lib.hid (show x = y → (pHunks x)[k]?.getD hk0 = (pHunks y)[k]?.getD hk0 from fun h => by rw [(HEQ.out h).2.2.2.2])
                have HN1 := Lib.hid (HBX.out.hs _ (get_mem (d := hk0) (show k < (pHunks x).length by rw [HHX.out.len]; exact hkn)))
                have HN2 := Lib.hid (HBY.out.hs _ (get_mem (d := hk0) (show k < (pHunks y).length by rw [HHY.out.len]; exact hkn)))
                have HGD := Lib.hid (fun z => grownBy_trans HGW.out (grownBy_drewN wr z none))
                have HXA := Lib.hid (hx.calm (grownBy_drewN wr 1 none))
                have HYA := Lib.hid (hy.calm (grownBy_drewN wr 1 none))
                clear hc hc' HE HGW hx hy
                generalize (pHunks x)[k]?.getD hk0 = u at *
                generalize (pHunks y)[k]?.getD hk0 = v at *
                obtain ⟨rh, hrh⟩ : ∃ r : Bool, r = true ↔ u = v := bool_of _
                have HRH := Lib.hid hrh
                clear hrh
                go_wp2_with fail
                go_region_held3 (fun W => (W.cell? ⟨g, 4, none⟩ = some (.slice (some ⟨b, o, none⟩) nh ch) ∧ W.cell? ⟨g + 1, 4, none⟩ = some (.slice (some ⟨b', o', none⟩) nh dh)) ∧ (W.cell? ⟨b, o + k * 4, none⟩ = some (.string (hPath u)) ∧ W.cell? ⟨b, o + k * 4 + 1, none⟩ = some (.slice pa na ca) ∧ W.cell? ⟨b, o + k * 4 + 2, none⟩ = some (.slice pe ne ce) ∧ W.cell? ⟨b, o + k * 4 + 3, none⟩ = some (.slice pk nk ck)) ∧ W.cell? ⟨b', o' + k * 4, none⟩ = some (.string (hPath v)) ∧ W.cell? ⟨b', o' + k * 4 + 1, none⟩ = some (.slice qa ma da) ∧ W.cell? ⟨b', o' + k * 4 + 2, none⟩ = some (.slice qe me de) ∧ W.cell? ⟨b', o' + k * 4 + 3, none⟩ = some (.slice qk mk dk)) (first | exact hbx | go_keep)
                  (first | (go_at_call 47; refine (refSameHunk_c u v pa na ca pe ne ce pk nk ck qa ma da qe me de qk mk dk lo hi lo' hi' rh _ HXA.out HYA.out (by have := HN1.out; have := HXA.out.adds.len; have := HXA.out.edges.len; have := HXA.out.kills.len; omega) (by have := HN2.out; have := HYA.out.adds.len; have := HYA.out.edges.len; have := HYA.out.kills.len; omega) HRH.out).mono ?_; rintro e w6 ⟨rfl, hg6⟩; have hbx := And.intro (And.intro (cell_calmQ hg6 ax) (cell_calmQ hg6 bx)) (And.intro (And.intro (cell_calmQ hg6 x1) (And.intro (cell_calmQ hg6 x2) (And.intro (cell_calmQ hg6 x3) (cell_calmQ hg6 x4)))) (And.intro (cell_calmQ hg6 y1) (And.intro (cell_calmQ hg6 y2) (And.intro (cell_calmQ hg6 y3) (cell_calmQ hg6 y4))))); have HG6 := Lib.hid (grownBy_trans (HGD.out 1) hg6); clear hg6))
                cases rh with
                | false =>
                  obtain rfl : r = false := no_false HR.out fun h => by have := HRH.out.2 (HX.out h); cases this
                  go_wp2
                  go_ret
                  exact ⟨rfl, grownBy_trans HG.out HG6.out⟩
                | true =>
                  have HU2 := Lib.hid (HU.out (HRH.out.1 rfl))
                  go_wp2
                  exact ⟨⟨k + 1, by omega, by go_num, HU2, HG6⟩, by simp [intOf]; omega⟩
              · obtain rfl : nh = k := by omega
                have k1 : ¬ ((nh : Int) < nh) := by omega
                obtain rfl : r = true := HQE.out HID.out HD0.out HM0.out HX0.out (eq_get (d := hk0) (HHX.out.len.trans HHY.out.len.symm) (by rw [HHX.out.len]; exact HE.out))
                go_wp2
                go_ret
                exact ⟨rfl, grownBy_trans HG.out HGW.out⟩
          · have f1 : ((nh : Int) != (mh : Int)) = true := by simp; omega
            obtain rfl : r = false := no_false HR.out fun h => hnh (by rw [← HHX.out.len, ← HHY.out.len, (HEQ.out h).2.2.2.2])
            go_wp2
            go_ret
            exact ⟨rfl, grownBy_trans HG.out HG5.out⟩
  · have e1 : ((id : Int) != (id' : Int)) = true := by simp; omega
    obtain rfl : r = false := no_false HR.out fun h => hp (by rw [← H2.out.num, ← H2'.out.num, (HEQ.out h).1])
    clear hp
    go_wp2
    go_ret
    exact ⟨rfl, HG.out⟩

end Go.Proofs.YtcfhnfnhdhloiaaGreat
