/- Relations in which pairs rise: the least pairs have the same closure; one less of them hasn't. -/
import Derived.Test.YtkipldmkdnjkaaaDoorMade3
import Derived.Test.YtkipldmkdnjkaaaDoorOrdQ
namespace Go.Proofs.YtkipldmkdnjkaaaDoor

def Rises (C : Nat → Nat → Bool) : Prop := ∀ x y, C x y = true → x < y
theorem rises_clo {k : Nat} {R : Nat → Nat → Bool} (h : Rises R) : Rises (clo k R) := by
  have : Sub (clo k R) (fun x y => decide (x < y)) := clo_least (fun x y e => by simpa using h x y e) (fun a b c h1 h2 => by simp at *; omega)
  intro x y e
  simpa using this x y e
theorem rise_one {C : Nat → Nat → Bool} (h : Rises C) (x y : Nat) : oneC C x y = decide (x = y) := by
  unfold oneC
  cases h1 : C x y
  · simp
  · cases h2 : C y x
    · simp
    · have := h x y h1
      have := h y x h2
      omega
theorem rise_circ {C : Nat → Nat → Bool} (h : Rises C) (k : Nat) : circL C k = (List.range k).map fun x => [x] := by
  have h1 : leadsC C k = List.range k := by
    unfold leadsC
    rw [List.filter_eq_self]
    intro x _
    rw [leadC_iff]
    intro b hb
    rw [rise_one h]
    simp
    omega
  unfold circL
  rw [h1]
  apply List.map_congr_left
  intro x hx
  have hxk : x < k := by simpa using hx
  have h2 : ∀ m, clsC C m x = if x < m then [x] else [] := by
    intro m
    induction m with
    | zero => rfl
    | succ m ih =>
      rw [cls_succ, ih, rise_one h]
      by_cases e1 : x = m
      · subst e1
        simp
      · by_cases e2 : x < m
        · rw [if_pos e2, if_neg (by simpa using e1), if_pos (by omega)]
          simp
        · rw [if_neg e2, if_neg (by simpa using e1), if_neg (by omega)]
          rfl
  rw [h2, if_pos hxk]
theorem rise_ord {C : Nat → Nat → Bool} (h : Rises C) (k : Nat) : ordB C k = true := by
  unfold ordB
  rw [List.all_eq_true]
  intro a _
  cases e : C a a with
  | false => rfl
  | true => have := h a a e; omega

def midS (C : Nat → Nat → Bool) (k x y : Nat) : Bool := (List.range k).any fun z => C x z && C z y
def redS (C : Nat → Nat → Bool) (k x y : Nat) : Bool := C x y && !midS C k x y

theorem red_eq {C : Nat → Nat → Bool} (h : Rises C) (k : Nat) : redL C k = pairsL k (redS C k) k := by
  have ha : ∀ x y, aheadL C [x] [y] = C x y := by
    intro x y
    unfold aheadL
    cases e : C x y with
    | false => simp [e]
    | true =>
      have := h x y e
      have : x ≠ y := by omega
      simp [e, this]
  unfold redL
  rw [rise_circ h]
  unfold redK pairsL
  rw [List.flatMap_map]
  congr 1
  funext x
  unfold redF onL
  rw [List.filter_map, List.map_map]
  congr 1
  apply List.filter_congr
  intro y _
  simp only [Function.comp, ha, redS]
  congr 2
  unfold betw midS
  rw [List.any_map]
  congr 1
  funext z
  simp only [Function.comp, ha]

theorem redS_sub (C : Nat → Nat → Bool) (k : Nat) : Sub (redS C k) C := fun x y h => by
  unfold redS at h
  simp at h
  exact h.1
theorem redS_supp {C : Nat → Nat → Bool} {k : Nat} (h : Supp k C) : Supp k (redS C k) := fun x y e => h x y (redS_sub C k x y e)
theorem redS_clo {C : Nat → Nat → Bool} {k : Nat} (hs : Supp k C) (ht : Trans C) (hr : Rises C) : clo k (redS C k) = C := by
  apply Sub.antisymm
  · exact clo_least (redS_sub C k) ht
  · have htc := clo_trans (redS_supp (k := k) hs)
    have key : ∀ d x y, y - x ≤ d → C x y = true → clo k (redS C k) x y = true := by
      intro d
      induction d with
      | zero =>
        intro x y hd h
        have := hr x y h
        omega
      | succ d ih =>
        intro x y hd h
        cases hm : midS C k x y with
        | false => exact clo_sub _ _ _ _ (by unfold redS; rw [h, hm]; rfl)
        | true =>
          unfold midS at hm
          rw [List.any_eq_true] at hm
          obtain ⟨z, _, hz⟩ := hm
          simp at hz
          have h1 := hr x z hz.1
          have h2 := hr z y hz.2
          exact htc _ _ _ (ih x z (by omega) hz.1) (ih z y (by omega) hz.2)
    intro x y h
    exact key _ x y (Nat.le_refl _) h
/-- Without one of them. -/
theorem redS_less {C : Nat → Nat → Bool} {k x y : Nat} (hs : Supp k C) (ht : Trans C) {T : Nat → Nat → Bool} (h1 : Sub T (redS C k)) (h2 : redS C k x y = true) (h3 : T x y = false) : clo k T ≠ C := by
  intro e
  have hc := redS_sub C k x y h2
  have : Sub (clo k T) (fun a b => C a b && !(decide (a = x) && decide (b = y))) := by
    apply clo_least
    · intro a b hab
      have hab' := redS_sub C k a b (h1 a b hab)
      by_cases e1 : a = x ∧ b = y
      · obtain ⟨rfl, rfl⟩ := e1
        rw [h3] at hab
        cases hab
      · simp only [hab', Bool.true_and, Bool.not_eq_true', Bool.and_eq_false_iff, decide_eq_false_iff_not]
        by_cases e2 : a = x
        · exact .inr fun e3 => e1 ⟨e2, e3⟩
        · exact .inl e2
    · intro a b c hab hbc
      simp only [Bool.and_eq_true] at hab hbc
      have hac := ht _ _ _ hab.1 hbc.1
      by_cases e1 : a = x ∧ c = y
      · obtain ⟨rfl, rfl⟩ := e1
        unfold redS at h2
        simp only [Bool.and_eq_true, Bool.not_eq_true'] at h2
        have hm : midS C k a c = true := by
          unfold midS
          rw [List.any_eq_true]
          exact ⟨b, by simpa using (hs a b hab.1).2, by rw [hab.1, hbc.1]; rfl⟩
        rw [hm] at h2
        cases h2.2
      · simp only [hac, Bool.true_and, Bool.not_eq_true', Bool.and_eq_false_iff, decide_eq_false_iff_not]
        by_cases e2 : a = x
        · exact .inr fun e3 => e1 ⟨e2, e3⟩
        · exact .inl e2
  have h4 := this x y (by rw [e]; exact hc)
  simp at h4

theorem pairsL_nodup (n : Nat) (R : Nat → Nat → Bool) (k : Nat) : (pairsL n R k).Pairwise (· ≠ ·) := by
  unfold pairsL
  rw [List.pairwise_flatMap]
  constructor
  · intro a _
    rw [List.pairwise_map]
    unfold onL
    refine (List.nodup_range.filter (R a)).imp ?_
    intro x y h e
    apply h
    have := congrArg Prod.snd e
    simp at this
    omega
  · refine List.nodup_range.imp ?_
    intro a b hab x hx y hy e
    obtain ⟨u, _, rfl⟩ := List.mem_map.1 hx
    obtain ⟨v, _, rfl⟩ := List.mem_map.1 hy
    apply hab
    have := congrArg Prod.fst e
    simp at this
    omega

def lessL (P : List (Int × Int)) (d : Nat) : List (Int × Int) := P.take d ++ P.drop (d + 1)
theorem less_mem {P : List (Int × Int)} {d : Nat} {p : Int × Int} (h : p ∈ lessL P d) : p ∈ P := by
  unfold lessL at h
  rcases List.mem_append.1 h with h | h
  · exact List.mem_of_mem_take h
  · exact List.mem_of_mem_drop h
theorem less_not {P : List (Int × Int)} {d : Nat} {p : Int × Int} (hn : P.Pairwise (· ≠ ·)) (hp : P[d]? = some p) : p ∉ lessL P d := by
  intro h
  obtain ⟨hd, hpe⟩ := List.getElem?_eq_some_iff.1 hp
  unfold lessL at h
  rcases List.mem_append.1 h with h | h
  · obtain ⟨i, hi⟩ := List.getElem?_of_mem h
    rw [List.getElem?_take] at hi
    split at hi
    · rename_i hlt
      obtain ⟨h1, h2⟩ := List.getElem?_eq_some_iff.1 hi
      exact List.pairwise_iff_getElem.1 hn i d h1 hd hlt (h2.trans hpe.symm)
    · cases hi
  · obtain ⟨i, hi⟩ := List.getElem?_of_mem h
    rw [List.getElem?_drop] at hi
    obtain ⟨h1, h2⟩ := List.getElem?_eq_some_iff.1 hi
    exact List.pairwise_iff_getElem.1 hn d (d + 1 + i) hd h1 (by omega) (hpe.trans h2.symm)

/-- What the law takes of the pairs. -/
def riseP (k : Nat) (p : Int × Int) : Bool := decide (0 ≤ p.1) && (decide (p.1 < p.2) && decide (p.2 < (k : Int)))
def riseL (k : Nat) (l : List (Int × Int)) : List (Int × Int) := l.filter (riseP k)
theorem riseL_in {k : Nat} {l : List (Int × Int)} : ∀ p ∈ riseL k l, 0 ≤ p.1 ∧ p.1 < p.2 ∧ p.2 < (k : Int) := by
  intro p hp
  have := (List.mem_filter.1 hp).2
  simpa [riseP] using this
theorem allIn_ok {k : Nat} {l : List (Int × Int)} (hk : k ≤ 200) (h : ∀ p ∈ l, inI k p.1 p.2) : ofErr k l = 0 := by
  unfold ofErr
  rw [if_neg (by omega), Int.toNat_natCast, if_pos]
  unfold allIn
  rw [List.all_eq_true]
  intro p hp
  simpa using h p hp
theorem riseL_ok {k : Nat} (l : List (Int × Int)) (hk : k ≤ 200) : ofErr k (riseL k l) = 0 :=
  allIn_ok hk fun p hp => by have := riseL_in p hp; unfold inI; omega
theorem riseL_rises (k : Nat) (l : List (Int × Int)) : Rises (ofL k (riseL k l)) := fun x y h => by
  have := riseL_in _ ((ofL_iff k _ x y).1 h).2.2
  simp at this
  omega
theorem riseL_take {k : Nat} {l : List (Int × Int)} {i : Nat} {p : Int × Int} (h : l[i]? = some p) : riseL k (l.take (i + 1)) = riseL k (l.take i) ++ if riseP k p then [p] else [] := by
  unfold riseL
  rw [List.take_add_one, h, List.filter_append]
  cases e : riseP k p <;> simp [e]

/-- All together. -/
theorem least_all {k : Nat} {R : Nat → Nat → Bool} (hs : Supp k R) (hr : Rises R) : clo k (ofL k (redL (clo k R) k)) = clo k R ∧ (∀ p ∈ redL (clo k R) k, inI k p.1 p.2) ∧
    ∀ d, d < (redL (clo k R) k).length → clo k (ofL k (lessL (redL (clo k R) k) d)) ≠ clo k R := by
  have hcs := clo_supp (n := k) hs
  have hct := clo_trans hs
  have hcr := rises_clo (k := k) hr
  rw [red_eq hcr]
  refine ⟨by rw [ofL_pairsL (redS_supp hcs), redS_clo hcs hct hcr], pairsL_in, fun d hd => ?_⟩
  obtain ⟨p, hp⟩ : ∃ p, (pairsL k (redS (clo k R) k) k)[d]? = some p := ⟨_, List.getElem?_eq_getElem hd⟩
  have hin := pairsL_in p (List.mem_of_getElem? hp)
  obtain ⟨px, py⟩ := p
  unfold inI at hin
  obtain ⟨x, rfl⟩ := Int.eq_ofNat_of_zero_le hin.1
  obtain ⟨y, rfl⟩ := Int.eq_ofNat_of_zero_le hin.2.2.1
  have hm := pairsL_mem.1 (List.mem_of_getElem? hp)
  refine redS_less (x := x) (y := y) hcs hct ?_ hm.2.2 ?_
  · intro a b hab
    have := less_mem ((ofL_iff k _ a b).1 hab).2.2
    exact (pairsL_mem.1 this).2.2
  · cases e : ofL k (lessL (pairsL k (redS (clo k R) k) k) d) x y with
    | false => rfl
    | true => exact absurd ((ofL_iff k _ x y).1 e).2.2 (less_not (pairsL_nodup _ _ _) hp)

end Go.Proofs.YtkipldmkdnjkaaaDoor
