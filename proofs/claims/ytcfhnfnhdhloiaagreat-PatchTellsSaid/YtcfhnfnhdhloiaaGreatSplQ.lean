/- The reference's way through a text, in plain words: where the last line ended, what has come. -/
import Derived.Test.YtcfhnfnhdhloiaaGreatPatP
namespace Go.Proofs.YtcfhnfnhdhloiaaGreat

theorem cutL_split {a : List UInt8} (h : a = [] ∨ ∃ c, a = c ++ [10]) (b : List UInt8) : cutL (a ++ b) = cutL a ++ cutL b := by
  rcases h with rfl | ⟨c, rfl⟩
  · rfl
  · rw [List.append_assoc, List.singleton_append]
    exact cutL_append c b

/-- At place i, the last line's end at f: what has come. -/
structure RL (s : ByteArray) (f i : Nat) (pre : List ByteArray) : Prop where
  fi : f ≤ i
  il : i ≤ s.size
  ends : (bl s).take f = [] ∨ ∃ a, (bl s).take f = a ++ [10]
  pre' : pre = (cutL ((bl s).take f)).map mkB
  no : ∀ k, f ≤ k → k < i → (bl s)[k]? ≠ some 10

theorem extract_mk (s : ByteArray) (a b : Nat) : s.extract a b = mkB (((bl s).drop a).take (b - a)) := by
  apply bl_inj
  rw [bl_mk]
  exact Lib.extract_data s a b

theorem mid_no {s : ByteArray} {f i : Nat} (no : ∀ k, f ≤ k → k < i → (bl s)[k]? ≠ some 10) : ∀ x ∈ ((bl s).drop f).take (i - f), x ≠ 10 := by
  rintro x hx rfl
  obtain ⟨j, hj⟩ := List.mem_iff_getElem?.1 hx
  rw [List.getElem?_take] at hj
  split at hj
  · rename_i hlt
    rw [List.getElem?_drop] at hj
    exact no (f + j) (by omega) (by omega) hj
  · cases hj

theorem RL.start (s : ByteArray) : RL s 0 0 [] := ⟨Nat.le_refl _, Nat.zero_le _, .inl rfl, rfl, fun k _ h => absurd h (by omega)⟩

theorem RL.more {s : ByteArray} {f i : Nat} {pre : List ByteArray} (h : RL s f i pre) (hi : i < s.size) (hx : (bl s)[i]? ≠ some 10) : RL s f (i + 1) pre :=
  ⟨Nat.le_succ_of_le h.fi, hi, h.ends, h.pre', fun k h1 h2 => by
    by_cases e : k = i
    · subst e; exact hx
    · exact h.no k h1 (by omega)⟩

theorem RL.cut {s : ByteArray} {f i : Nat} {pre : List ByteArray} (h : RL s f i pre) (hi : i < s.size) (hx : (bl s)[i]? = some 10) : RL s (i + 1) (i + 1) (pre ++ [s.extract f (i + 1)]) := by
  have hm := mid_no h.no
  have hfi := h.fi
  have e1 : ((bl s).drop f).take (i + 1 - f) = ((bl s).drop f).take (i - f) ++ [10] := by
    rw [show i + 1 - f = (i - f) + 1 from by omega, List.take_add_one, List.getElem?_drop, show f + (i - f) = i from by omega, hx]
    rfl
  have e2 : (bl s).take (i + 1) = (bl s).take f ++ (((bl s).drop f).take (i - f) ++ [10]) := by
    rw [← e1, ← List.take_add, show f + (i + 1 - f) = i + 1 from by omega]
  refine ⟨Nat.le_refl _, hi, .inr ⟨(bl s).take f ++ ((bl s).drop f).take (i - f), by rw [e2, List.append_assoc]⟩, ?_, fun k h1 h2 => absurd h2 (by omega)⟩
  rw [e2, cutL_split h.ends, cutL_end hm, List.map_append, ← h.pre', extract_mk, e1]
  rfl

theorem RL.last {s : ByteArray} {f : Nat} {pre : List ByteArray} (h : RL s f s.size pre) (hf : f < s.size) : linesS s = pre ++ [s.extract f s.size] := by
  have hm := mid_no h.no
  have hl : ((bl s).drop f).take (s.size - f) = (bl s).drop f := List.take_of_length_le (by rw [List.length_drop, bl_size]; exact Nat.le_refl _)
  rw [hl] at hm
  have hne : (bl s).drop f ≠ [] := by
    intro e
    have := congrArg List.length e
    rw [List.length_drop, bl_size] at this
    simp at this
    omega
  have e : cutL (bl s) = cutL ((bl s).take f) ++ [(bl s).drop f] := by
    rw [← cutL_one hne hm, ← cutL_split h.ends, List.take_append_drop]
  unfold linesS
  rw [e, List.map_append, ← h.pre', extract_mk, hl]
  rfl

theorem RL.none {s : ByteArray} {f : Nat} {pre : List ByteArray} (h : RL s f s.size pre) (hf : ¬ f < s.size) : linesS s = pre := by
  have hfe : f = s.size := by have := h.fi; omega
  unfold linesS
  rw [h.pre', hfe, List.take_of_length_le (by rw [bl_size]; exact Nat.le_refl _)]

theorem RL.len {s : ByteArray} {f i : Nat} {pre : List ByteArray} (h : RL s f i pre) : pre.length ≤ f := by
  rw [h.pre', List.length_map]
  have hk : ∀ l : List UInt8, (cutL l).length ≤ l.length := fun l => by
    have := linesS_len (mkB l)
    unfold linesS at this
    rw [List.length_map, bl_mk, ← bl_size, bl_mk] at this
    exact this
  exact Nat.le_trans (hk _) (by rw [List.length_take]; exact Nat.min_le_left _ _)

end Go.Proofs.YtcfhnfnhdhloiaaGreat
