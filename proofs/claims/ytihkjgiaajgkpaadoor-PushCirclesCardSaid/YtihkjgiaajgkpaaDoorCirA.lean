/- PushCircles: what is asked, in plain lists; what lies while its labels and maps are made. -/
import Derived.Test.YtihkjgiaajgkpaaDoorRow7
import Derived.Test.YtihkjgiaajgkpaaDoorSamA
namespace Go.Proofs.YtihkjgiaajgkpaaDoor
open Go.RowKit

def sX : ByteArray := ⟨#[120]⟩
theorem pairsL_none (n k : Nat) : pairsL n (fun _ _ => false) k = [] := by
  unfold pairsL onL
  rw [List.flatMap_eq_nil_iff]
  intro a _
  simp
theorem chk_alone {L : List ByteArray} (h : labErr L = 0) : chk L [] = 0 := by
  have h1 := chk_pairs h rfl (supp_none L.length)
  have ht : Trans (fun _ _ : Nat => false) := fun _ _ _ h _ => by cases h
  rwa [clo_of_trans ht, pairsL_none] at h1
theorem labs_same {k : Nat} (hk : k ≤ 40) : labErr (List.replicate k sX) = 0 := by
  refine lab_of_all (by simpa using hk) ?_
  rw [List.all_eq_true]
  intro s hs
  rw [List.eq_of_mem_replicate hs]
  decide
theorem cir_arrow {k : Nat} {f : List Int} (hk : k ≤ 40) (hl : f.length = k) (hf : ∀ i, i < k → 0 ≤ f[i]?.getD 0 ∧ f[i]?.getD 0 < k) : arB (List.replicate k sX) [] (List.replicate k sX) (rowP k) f = true := by
  have hle : (List.replicate k sX).length = k := List.length_replicate
  refine arB_mk (chk_alone (labs_same hk)) (rowP_obj (labs_same hk) hle) (by rw [hl, hle]) (fun i hi => ?_) (fun x hx => by cases hx)
  have h1 := hf i (by omega)
  refine ⟨hasZ_iff.2 (by rw [hle]; exact h1), ?_⟩
  rw [List.getElem?_replicate_of_lt (by omega), List.getElem?_replicate_of_lt (by omega)]
theorem cirG_len (k : Nat) : (cirG k).length = k := by simp [cirG]
theorem cirG_at {k i : Nat} (h : i < k) : (cirG k)[i]?.getD 0 = (k : Int) - 1 - i := by
  unfold cirG
  rw [List.getElem?_map, List.getElem?_range h]
  rfl
/-- What Push answers. -/
structure CirA (k : Nat) (A : List ByteArray) (B : List (Int × Int)) (I J : List Int) : Prop where
  a : A.length = k
  b : B.length = k * k
  i : I = idL k
  j : J = cirG k
theorem cir_ans {k : Nat} (h2 : 2 ≤ k) (h9 : k < 10) (L : List ByteArray) : CirA k (labG L (joinsL (k + k) (idL k) (shL k (cirG k)))) (gluP (joinsL (k + k) (idL k) (shL k (cirG k))) (rowP k ++ shP k (rowP k))) ((atZ (joinsL (k + k) (idL k) (shL k (cirG k)))).take k) ((atZ (joinsL (k + k) (idL k) (shL k (cirG k)))).drop k) := by
  have h := cirOK_at h2 h9
  unfold cirOK at h
  simp only [Bool.and_eq_true, decide_eq_true_eq] at h
  obtain ⟨e1, e2, e3, e4, e5, _⟩ := h
  change CirA k (labG L (cirJ k)) (gluP (cirJ k) (rowP k ++ shP k (rowP k))) ((atZ (cirJ k)).take k) ((atZ (cirJ k)).drop k)
  refine ⟨by rw [labG_len, e1], ?_, e4, e5⟩
  have hs := gluR_supp (cirJ k) (rowP k ++ shP k (rowP k))
  unfold gluP
  rw [e1] at hs ⊢
  rw [agreeR_eq hs (cirT_supp k) e2, cirT_clo h2]
  exact e3

/-- What lies while the row's labels and maps are made. -/
structure CE (w W : World) (vl : Value) (gf cf gg cg k i j l : Nat) : Prop where
  gr : w.grownBy W none
  ls : W.ownsRow w.heap.size 9 1 vl i (scells (List.replicate i sX))
  f : W.ownsRow w.heap.size 3 1 (.slice (some ⟨gf, 0, none⟩) j cf) j (zcells (idL j))
  g : W.ownsRow w.heap.size 3 1 (.slice (some ⟨gg, 0, none⟩) l cg) l (zcells ((cirG k).take l))
  ne : gf ≠ gg
  gl : gg < W.heap.size
  fl : gf < W.heap.size
theorem CE.calm {w W W' : World} {vl : Value} {gf cf gg cg k i j l : Nat} (h : CE w W vl gf cf gg cg k i j l) (hg : W.grownBy W' none) : CE w W' vl gf cf gg cg k i j l :=
  ⟨grownBy_trans h.gr hg, ownsRow_calm h.ls hg, ownsRow_calm h.f hg, ownsRow_calm h.g hg, h.ne, Nat.lt_of_lt_of_le h.gl hg.size, Nat.lt_of_lt_of_le h.fl hg.size⟩
theorem CE.start (w : World) (k : Nat) : CE w ((w.alloc (.cells #[] 3)).alloc (.cells #[] 3)) (.slice none 0 0) w.heap.size 0 (w.heap.size + 1) 0 k 0 0 0 := by
  have g1 := World.grownBy_alloc w (.cells #[] 3) none
  have g2 := World.grownBy_alloc (w.alloc (.cells #[] 3)) (.cells #[] 3) none
  have o2 : ((w.alloc (.cells #[] 3)).alloc (.cells #[] 3)).ownsRow w.heap.size 3 1 (.slice (some ⟨(w.alloc (.cells #[] 3)).heap.size, 0, none⟩) 0 0) 0 [] := World.ownsRow_made _ #[] 0 (by rw [World.size_alloc]; omega) (Nat.zero_le _) rfl
  rw [World.size_alloc] at o2
  exact ⟨grownBy_trans g1 g2, World.ownsRow_nil _ _ _ _, ownsRow_calm (World.ownsRow_made w #[] 0 (Nat.le_refl _) (Nat.zero_le _) rfl) g2, o2, by omega, by simp, by simp; omega⟩
theorem own_apart {W W' : World} {base n size : Nat} {e : TypeId} {g c : Nat} {xs : List Value} {row : Option Nat} (h : W.ownsRow base e size (.slice (some ⟨g, 0, none⟩) n c) n xs) (hr : row ≠ some g) (hl : g < W.heap.size) (hg : W.grownBy W' row) : W'.ownsRow base e size (.slice (some ⟨g, 0, none⟩) n c) n xs := by
  refine ⟨h.1, ?_⟩
  rcases h.2 with ⟨h1, _⟩ | ⟨g', cap, cur, e1, h1, h2, h3⟩
  · injection h1 with h1
    cases h1
  · injection e1 with e1 e2 e3
    injection e1 with e1
    injection e1 with e1
    subst e1 e3
    exact .inr ⟨g, c, cur, rfl, h1, (hg.block g hl (fun e => hr e.symm)).trans h2, h3⟩
theorem CE.str {w W W' : World} {vl v' : Value} {gf cf gg cg k i j l : Nat} (h : CE w W vl gf cf gg cg k i j l) (ho : W'.ownsRow w.heap.size 9 1 v' (i + 1) (scells (List.replicate i sX) ++ [.string sX])) (hg : W.grownBy W' vl.ownBlock) : CE w W' v' gf cf gg cg k (i + 1) j l :=
  ⟨ownsRow_new h.gr h.ls hg, by rw [List.replicate_succ']; simpa [scells] using ho, own_other h.f h.ls (by decide) hg, own_other h.g h.ls (by decide) hg, h.ne, Nat.lt_of_lt_of_le h.gl hg.size, Nat.lt_of_lt_of_le h.fl hg.size⟩
theorem CE.fst {w W W' : World} {vl : Value} {gf gf' cf cf' gg cg k i j l H : Nat} (h : CE w W vl gf cf gg cg k i j l) (ho : W'.ownsRow w.heap.size 3 1 (.slice (some ⟨gf', 0, none⟩) (j + 1) cf') (j + 1) (zcells (idL j) ++ [.int .i64 (j : Int)])) (hg : W.grownBy W' (Value.slice (some ⟨gf, 0, none⟩) j cf).ownBlock) (hb : (Value.slice (some ⟨gf, 0, none⟩) j cf).ownBlock = some gf' ∨ gf' = H) (hgH : gg < H) (hlt : gf' < W'.heap.size) : CE w W' vl gf' cf' gg cg k i (j + 1) l := by
  have hg' : W.grownBy W' (some gf) := hg
  have hne : gf' ≠ gg := by
    rcases hb with hb | hb
    · have : gf = gf' := by injection hb
      have := h.ne
      omega
    · omega
  exact ⟨ownsRow_new h.gr h.f hg, own_other h.ls h.f (by decide) hg, by rw [idL_succ, zcells_snoc]; exact ho, own_apart h.g (fun e => h.ne (by injection e)) h.gl hg', hne, Nat.lt_of_lt_of_le h.gl hg.size, hlt⟩
theorem CE.snd {w W W' : World} {vl : Value} {gf cf gg gg' cg cg' k i j l H : Nat} (h : CE w W vl gf cf gg cg k i j l) (hl : l < k) (ho : W'.ownsRow w.heap.size 3 1 (.slice (some ⟨gg', 0, none⟩) (l + 1) cg') (l + 1) (zcells ((cirG k).take l) ++ [.int .i64 ((k : Int) - 1 - l)])) (hg : W.grownBy W' (Value.slice (some ⟨gg, 0, none⟩) l cg).ownBlock) (hb : (Value.slice (some ⟨gg, 0, none⟩) l cg).ownBlock = some gg' ∨ gg' = H) (hfH : gf < H) (hlt : gg' < W'.heap.size) : CE w W' vl gf cf gg' cg' k i j (l + 1) := by
  have hg' : W.grownBy W' (some gg) := hg
  have hne : gf ≠ gg' := by
    rcases hb with hb | hb
    · have : gg = gg' := by injection hb
      have := h.ne
      omega
    · omega
  refine ⟨ownsRow_new h.gr h.g hg, own_other h.ls h.g (by decide) hg, own_apart h.f (fun e => h.ne (by injection e with e; exact e.symm)) h.fl hg', ?_, hne, hlt, Nat.lt_of_lt_of_le h.fl hg.size⟩
  have ht : (cirG k).take (l + 1) = (cirG k).take l ++ [(k : Int) - 1 - l] := by
    rw [List.take_add_one, List.getElem?_eq_getElem (by rw [cirG_len]; exact hl)]
    have := cirG_at hl
    rw [List.getElem?_eq_getElem (by rw [cirG_len]; exact hl)] at this
    simp only [Option.getD_some] at this
    rw [this]
    rfl
  rw [ht, zcells_snoc]
  exact ho

end Go.Proofs.YtihkjgiaajgkpaaDoor
