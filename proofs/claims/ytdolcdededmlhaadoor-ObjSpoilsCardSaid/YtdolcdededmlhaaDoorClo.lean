/- Plain facts on relations of numbers: what going through the elements once makes of one: the least transitive relation that holds it; and the list of its pairs. -/
import Derived.Test.YtdolcdededmlhaaDoorRow
namespace Go.Proofs.YtdolcdededmlhaaDoor

/-- Who is ahead behind the steps over one element. -/
def wvia (R : Nat → Nat → Bool) (v : Nat) (a b : Nat) : Bool := R a b || (R a v && R v b)

/-- Who is ahead behind the steps over the elements ahead of k. -/
def warsh (R : Nat → Nat → Bool) : Nat → Nat → Nat → Bool
  | 0 => R
  | k + 1 => wvia (warsh R k) k

/-- Of n elements. -/
def Supp (n : Nat) (R : Nat → Nat → Bool) : Prop := ∀ a b, R a b = true → a < n ∧ b < n
def Trans (R : Nat → Nat → Bool) : Prop := ∀ a b c, R a b = true → R b c = true → R a c = true
def Sub (R T : Nat → Nat → Bool) : Prop := ∀ a b, R a b = true → T a b = true

theorem Sub.refl (R : Nat → Nat → Bool) : Sub R R := fun _ _ h => h
theorem Sub.trans {R S T : Nat → Nat → Bool} (h : Sub R S) (k : Sub S T) : Sub R T := fun a b e => k a b (h a b e)
theorem Sub.antisymm {R T : Nat → Nat → Bool} (h : Sub R T) (k : Sub T R) : R = T := by
  funext a b
  rw [Bool.eq_iff_iff]
  exact ⟨h a b, k a b⟩

theorem wvia_iff (R : Nat → Nat → Bool) (v a b : Nat) : wvia R v a b = true ↔ R a b = true ∨ (R a v = true ∧ R v b = true) := by simp [wvia]
theorem wvia_sub (R : Nat → Nat → Bool) (v : Nat) : Sub R (wvia R v) := fun a b h => (wvia_iff R v a b).2 (.inl h)
theorem wvia_supp {n : Nat} {R : Nat → Nat → Bool} (h : Supp n R) (v : Nat) : Supp n (wvia R v) := fun a b e => by
  rcases (wvia_iff R v a b).1 e with e | ⟨e1, e2⟩
  · exact h a b e
  · exact ⟨(h a v e1).1, (h v b e2).2⟩
theorem wvia_row (R : Nat → Nat → Bool) (v b : Nat) : wvia R v v b = R v b := by
  unfold wvia
  cases R v b <;> simp

theorem warsh_sub (R : Nat → Nat → Bool) (k : Nat) : Sub R (warsh R k) := by
  induction k with
  | zero => exact Sub.refl R
  | succ k ih => exact ih.trans (wvia_sub _ _)
theorem warsh_supp {n : Nat} {R : Nat → Nat → Bool} (h : Supp n R) (k : Nat) : Supp n (warsh R k) := by
  induction k with
  | zero => exact h
  | succ k ih => exact wvia_supp ih k
theorem warsh_least {R T : Nat → Nat → Bool} (h : Sub R T) (ht : Trans T) (k : Nat) : Sub (warsh R k) T := by
  induction k with
  | zero => exact h
  | succ k ih =>
    intro a b e
    rcases (wvia_iff _ _ _ _).1 e with e | ⟨e1, e2⟩
    · exact ih a b e
    · exact ht a k b (ih a k e1) (ih k b e2)

theorem warsh_mid (R : Nat → Nat → Bool) (k : Nat) : ∀ j, j < k → ∀ a b, warsh R k a j = true → warsh R k j b = true → warsh R k a b = true := by
  induction k with
  | zero => intro j hj; omega
  | succ k ih =>
    intro j hj a b h1 h2
    have g1 := (wvia_iff _ _ _ _).1 h1
    have g2 := (wvia_iff _ _ _ _).1 h2
    apply (wvia_iff _ _ _ _).2
    by_cases e : j = k
    · subst e
      have a1 : warsh R j a j = true := by rcases g1 with g | g; exact g; exact g.1
      have a2 : warsh R j j b = true := by rcases g2 with g | g; exact g; exact g.2
      exact .inr ⟨a1, a2⟩
    · have hj' : j < k := by omega
      rcases g1 with g1 | ⟨g1, g1'⟩
      · rcases g2 with g2 | ⟨g2, g2'⟩
        · exact .inl (ih j hj' a b g1 g2)
        · exact .inr ⟨ih j hj' a k g1 g2, g2'⟩
      · rcases g2 with g2 | ⟨g2, g2'⟩
        · exact .inr ⟨g1, ih j hj' k b g1' g2⟩
        · exact .inr ⟨g1, g2'⟩

/-- The closure. -/
def clo (n : Nat) (R : Nat → Nat → Bool) : Nat → Nat → Bool := warsh R n

theorem clo_trans {n : Nat} {R : Nat → Nat → Bool} (h : Supp n R) : Trans (clo n R) := fun a b c h1 h2 => warsh_mid R n b ((warsh_supp h n a b h1).2) a c h1 h2
theorem clo_sub (n : Nat) (R : Nat → Nat → Bool) : Sub R (clo n R) := warsh_sub R n
theorem clo_supp {n : Nat} {R : Nat → Nat → Bool} (h : Supp n R) : Supp n (clo n R) := warsh_supp h n
theorem clo_least {n : Nat} {R T : Nat → Nat → Bool} (h : Sub R T) (ht : Trans T) : Sub (clo n R) T := warsh_least h ht n
theorem clo_of_trans {n : Nat} {R : Nat → Nat → Bool} (h : Trans R) : clo n R = R := (clo_least (Sub.refl R) h).antisymm (clo_sub n R)
theorem clo_clo {n : Nat} {R : Nat → Nat → Bool} (h : Supp n R) : clo n (clo n R) = clo n R := clo_of_trans (clo_trans h)
theorem clo_mono {n : Nat} {R T : Nat → Nat → Bool} (h : Sub R T) (ht : Supp n T) : Sub (clo n R) (clo n T) := clo_least (h.trans (clo_sub n T)) (clo_trans ht)

/-- One pair more. -/
def addR (R : Nat → Nat → Bool) (a b : Nat) (x y : Nat) : Bool := R x y || (decide (x = a) && decide (y = b))
theorem addR_iff (R : Nat → Nat → Bool) (a b x y : Nat) : addR R a b x y = true ↔ R x y = true ∨ (x = a ∧ y = b) := by simp [addR]
theorem addR_sub (R : Nat → Nat → Bool) (a b : Nat) : Sub R (addR R a b) := fun x y h => (addR_iff R a b x y).2 (.inl h)
theorem addR_supp {n : Nat} {R : Nat → Nat → Bool} (h : Supp n R) {a b : Nat} (ha : a < n) (hb : b < n) : Supp n (addR R a b) := fun x y e => by
  rcases (addR_iff R a b x y).1 e with e | ⟨rfl, rfl⟩
  · exact h x y e
  · exact ⟨ha, hb⟩
theorem addR_self {R : Nat → Nat → Bool} {a b : Nat} (h : R a b = true) : addR R a b = R := by
  apply Sub.antisymm _ (addR_sub R a b)
  intro x y e
  rcases (addR_iff R a b x y).1 e with e | ⟨rfl, rfl⟩
  · exact e
  · exact h

/-- The pair (a, b), if both are elements. -/
def addI (n : Nat) (R : Nat → Nat → Bool) (p : Int × Int) : Nat → Nat → Bool := if 0 ≤ p.1 ∧ p.1 < n ∧ 0 ≤ p.2 ∧ p.2 < n then addR R p.1.toNat p.2.toNat else R
theorem addI_supp {n : Nat} {R : Nat → Nat → Bool} (h : Supp n R) (p : Int × Int) : Supp n (addI n R p) := by
  unfold addI
  split
  · exact addR_supp h (by omega) (by omega)
  · exact h
theorem addI_sub (n : Nat) (R : Nat → Nat → Bool) (p : Int × Int) : Sub R (addI n R p) := by
  unfold addI
  split
  · exact addR_sub _ _ _
  · exact Sub.refl R

theorem supp_none (n : Nat) : Supp n (fun _ _ => false) := fun _ _ h => by cases h

/-- Of all pairs of a list. -/
def ofL (n : Nat) (l : List (Int × Int)) : Nat → Nat → Bool := l.foldl (addI n) (fun _ _ => false)
theorem foldl_supp {n : Nat} (l : List (Int × Int)) : ∀ {R : Nat → Nat → Bool}, Supp n R → Supp n (l.foldl (addI n) R) := by
  induction l with
  | nil => exact fun h => h
  | cons p l ih => exact fun h => ih (addI_supp h p)
theorem ofL_supp (n : Nat) (l : List (Int × Int)) : Supp n (ofL n l) := foldl_supp l (supp_none n)
theorem ofL_snoc (n : Nat) (l : List (Int × Int)) (p : Int × Int) : ofL n (l ++ [p]) = addI n (ofL n l) p := by simp [ofL]

/-- The pairs, rising. -/
def pairsL (n : Nat) (R : Nat → Nat → Bool) (k : Nat) : List (Int × Int) := (List.range k).flatMap fun a => (onL (R a) n).map fun b : Nat => ((a : Int), (b : Int))
theorem pairsL_succ (n : Nat) (R : Nat → Nat → Bool) (k : Nat) : pairsL n R (k + 1) = pairsL n R k ++ (onL (R k) n).map fun b : Nat => ((k : Int), (b : Int)) := by
  unfold pairsL; rw [List.range_succ, List.flatMap_append]; simp
theorem pairsL_congr {n : Nat} {R T : Nat → Nat → Bool} (k : Nat) (h : ∀ a, a < k → ∀ b, b < n → R a b = T a b) : pairsL n R k = pairsL n T k := by
  induction k with
  | zero => rfl
  | succ k ih =>
    rw [pairsL_succ, pairsL_succ, ih (fun a ha => h a (by omega)), onL_congr (h k (by omega))]
theorem pairsL_mem {n : Nat} {R : Nat → Nat → Bool} {k a b : Nat} : ((a : Int), (b : Int)) ∈ pairsL n R k ↔ a < k ∧ b < n ∧ R a b = true := by
  unfold pairsL onL
  simp only [List.mem_flatMap, List.mem_range, List.mem_map, List.mem_filter, Prod.mk.injEq]
  constructor
  · rintro ⟨x, hx, y, ⟨hy, hr⟩, e1, e2⟩
    obtain rfl : x = a := by omega
    obtain rfl : y = b := by omega
    exact ⟨hx, hy, hr⟩
  · rintro ⟨h1, h2, h3⟩
    exact ⟨a, h1, b, ⟨h2, h3⟩, rfl, rfl⟩
/-- Relations of the same pairs are the same. -/
theorem pairsL_inj {n : Nat} {R T : Nat → Nat → Bool} (h1 : Supp n R) (h2 : Supp n T) (e : pairsL n R n = pairsL n T n) : R = T := by
  apply Sub.antisymm
  · intro a b h
    have := pairsL_mem.2 ⟨(h1 a b h).1, (h1 a b h).2, h⟩
    rw [e] at this
    exact (pairsL_mem.1 this).2.2
  · intro a b h
    have := pairsL_mem.2 ⟨(h2 a b h).1, (h2 a b h).2, h⟩
    rw [← e] at this
    exact (pairsL_mem.1 this).2.2
theorem pairsL_len (n : Nat) (R : Nat → Nat → Bool) (k : Nat) : (pairsL n R k).length ≤ k * n := by
  induction k with
  | zero => simp [pairsL]
  | succ k ih =>
    rw [pairsL_succ, List.length_append, List.length_map, Nat.succ_mul]
    have := onL_le (R k) n
    omega

/-- How many pairs the rows ahead of k have. -/
theorem pairsL_count (n : Nat) (R : Nat → Nat → Bool) (k : Nat) : (pairsL n R (k + 1)).length = (pairsL n R k).length + (onL (R k) n).length := by
  rw [pairsL_succ, List.length_append, List.length_map]

/-- Behind the steps over v of the rows ahead of k: whether one of them grew. -/
def grewV (n : Nat) (R : Nat → Nat → Bool) (v k : Nat) : Bool := (List.range k).any fun a => R a v && ((List.range n).any fun b => R v b && !R a b)
/-- Whether anything became so in the steps over the elements ahead of k. -/
def grewC (n : Nat) (R : Nat → Nat → Bool) (k : Nat) : Bool := (List.range k).any fun v => grewV n (warsh R v) v n

theorem grewV_iff (n : Nat) (R : Nat → Nat → Bool) (v k : Nat) : grewV n R v k = true ↔ ∃ a b, a < k ∧ b < n ∧ R a v = true ∧ R v b = true ∧ R a b = false := by
  unfold grewV
  simp only [List.any_eq_true, List.mem_range, Bool.and_eq_true, Bool.not_eq_true']
  constructor
  · rintro ⟨a, ha, h1, b, hb, h2, h3⟩; exact ⟨a, b, ha, hb, h1, h2, h3⟩
  · rintro ⟨a, b, ha, hb, h1, h2, h3⟩; exact ⟨a, ha, h1, b, hb, h2, h3⟩

theorem grewV_same {n : Nat} {R : Nat → Nat → Bool} (h : Supp n R) (v : Nat) (e : grewV n R v n = false) : wvia R v = R := by
  apply Sub.antisymm _ (wvia_sub R v)
  intro a b hw
  rcases (wvia_iff R v a b).1 hw with hr | ⟨h1, h2⟩
  · exact hr
  · cases hr : R a b
    · have : grewV n R v n = true := (grewV_iff n R v n).2 ⟨a, b, (h a v h1).1, (h v b h2).2, h1, h2, hr⟩
      rw [e] at this
      cases this
    · rfl

theorem grewC_none {n : Nat} {R : Nat → Nat → Bool} (h : Supp n R) (k : Nat) (e : grewC n R k = false) : warsh R k = R := by
  induction k with
  | zero => rfl
  | succ k ih =>
    unfold grewC at e
    rw [List.range_succ, List.any_append, Bool.or_eq_false_iff] at e
    have e1 := ih e.1
    have e2 : grewV n (warsh R k) k n = false := by simpa using e.2
    show wvia (warsh R k) k = R
    rw [grewV_same (warsh_supp h k) k e2, e1]

theorem warsh_mono_k {R : Nat → Nat → Bool} {j k : Nat} (h : j ≤ k) : Sub (warsh R j) (warsh R k) := by
  induction k with
  | zero => obtain rfl : j = 0 := by omega
            exact Sub.refl _
  | succ k ih =>
    by_cases e : j = k + 1
    · subst e; exact Sub.refl _
    · exact (ih (by omega)).trans (wvia_sub _ _)

theorem grewC_some {n : Nat} {R : Nat → Nat → Bool} (k : Nat) (e : grewC n R k = true) : ∃ a b, warsh R k a b = true ∧ R a b = false := by
  unfold grewC at e
  rw [List.any_eq_true] at e
  obtain ⟨v, hv, hg⟩ := e
  have hv' : v < k := by simpa using hv
  obtain ⟨a, b, _, _, h1, h2, h3⟩ := (grewV_iff _ _ _ _).1 hg
  refine ⟨a, b, warsh_mono_k (R := R) (by omega : v + 1 ≤ k) a b ((wvia_iff _ _ _ _).2 (.inr ⟨h1, h2⟩)), ?_⟩
  cases hr : R a b
  · rfl
  · rw [warsh_sub R v a b hr] at h3; cases h3

/-- The steps told of growth just when the closure is another one. -/
theorem grewC_iff {n : Nat} {R : Nat → Nat → Bool} (h : Supp n R) : grewC n R n = true ↔ clo n R ≠ R := by
  constructor
  · intro e heq
    obtain ⟨a, b, h1, h2⟩ := grewC_some n e
    have : clo n R a b = true := h1
    rw [heq, h2] at this
    cases this
  · intro hne
    cases e : grewC n R n
    · exact absurd (grewC_none h n e) hne
    · rfl

/-- Rows ahead of k behind the steps over v, the others as they were. -/
def midV (R : Nat → Nat → Bool) (v k : Nat) (a b : Nat) : Bool := if a < k then wvia R v a b else R a b
theorem midV_zero (R : Nat → Nat → Bool) (v : Nat) : midV R v 0 = R := by funext a b; simp [midV]
theorem midV_all {n : Nat} {R : Nat → Nat → Bool} (h : Supp n R) (v : Nat) : midV R v n = wvia R v := by
  funext a b
  unfold midV
  split
  · rfl
  · rename_i ha
    cases hw : wvia R v a b
    · cases hr : R a b
      · rfl
      · exact absurd (h a b hr).1 ha
    · exact absurd (wvia_supp h v a b hw).1 ha
theorem midV_row (R : Nat → Nat → Bool) (v k b : Nat) : midV R v k v b = R v b := by
  unfold midV; split
  · exact wvia_row R v b
  · rfl
theorem midV_supp {n : Nat} {R : Nat → Nat → Bool} (h : Supp n R) (v k : Nat) : Supp n (midV R v k) := fun a b e => by
  unfold midV at e
  split at e
  · exact wvia_supp h v a b e
  · exact h a b e
theorem midV_succ (R : Nat → Nat → Bool) (v k a b : Nat) : midV R v (k + 1) a b = if a = k then wvia R v k b else midV R v k a b := by
  unfold midV
  by_cases e : a = k
  · subst e; simp
  · by_cases h : a < k
    · rw [if_pos (by omega), if_neg e, if_pos h]
    · rw [if_neg (by omega), if_neg e, if_neg h]
theorem grewV_succ (n : Nat) (R : Nat → Nat → Bool) (v k : Nat) : grewV n R v (k + 1) = (grewV n R v k || (R k v && ((List.range n).any fun b => R v b && !R k b))) := by
  unfold grewV; rw [List.range_succ, List.any_append]; simp
theorem grewC_succ (n : Nat) (R : Nat → Nat → Bool) (k : Nat) : grewC n R (k + 1) = (grewC n R k || grewV n (warsh R k) k n) := by
  unfold grewC; rw [List.range_succ, List.any_append]; simp

/-- The pairs whose both elements are kept. -/
def keptB (keep : List Bool) (a : Nat) : Bool := keep[a]?.getD false
def onlyR (keep : List Bool) (R : Nat → Nat → Bool) (a b : Nat) : Bool := R a b && (keptB keep a && keptB keep b)
theorem onlyR_supp {n : Nat} {R : Nat → Nat → Bool} (h : Supp n R) (keep : List Bool) : Supp n (onlyR keep R) := fun a b e => h a b (by unfold onlyR at e; simp at e; exact e.1)
theorem onlyR_trans {R : Nat → Nat → Bool} (h : Trans R) (keep : List Bool) : Trans (onlyR keep R) := fun a b c h1 h2 => by
  unfold onlyR at h1 h2 ⊢
  simp only [Bool.and_eq_true] at h1 h2 ⊢
  exact ⟨h a b c h1.1 h2.1, h1.2.1, h2.2.2⟩

end Go.Proofs.YtdolcdededmlhaaDoor
