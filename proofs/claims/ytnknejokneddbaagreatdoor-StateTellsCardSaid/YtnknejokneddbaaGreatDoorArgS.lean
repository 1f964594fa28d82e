/- Arguments that are rows of patches, or files. -/
import Derived.Test.YtnknejokneddbaaGreatDoorArgT
import Derived.Test.YtnknejokneddbaaGreatDoorStaM
namespace Go.Proofs.YtnknejokneddbaaGreatDoor
open Go.ChangeShapes Go.WideShapes Go.ChangeAt Go.WideMaps Go.WideElems Go.RowKit Go.Deep

section
variable {P : Program} {H : Type} {enc : TypeId × Value → H} {W : World} {fuel : Nat}
variable {tU tI tS tSs tUs tL tLs tE tEs tH tHs tP : TypeId} {fL fE fH fP : Array Field}
variable {tB tN tNs tR tRs tF tPs : TypeId} {fN fR fF : Array Field}

/-- Patches that came in. -/
structure PsArg (w : World) (p : Option Addr) (n c : Nat) (l : List Pt) : Prop where
 at' : PtsAt w 0 w.heap.size p n l
 cap : n ≤ c
 nil : p = none → c = 0
 mn : n ≤ maxLen
 each : ∀ x ∈ l, pID x < 4294967296 ∧ (∀ d ∈ pDeps x, d < 4294967296) ∧ (∀ h ∈ pHunks x, numH h) ∧ (pDeps x).length ≤ maxLen ∧ (pMakes x).length ≤ maxLen ∧ (pDrops x).length ≤ maxLen ∧ (pHunks x).length ≤ maxLen
theorem ptsT (T : PTys P tU tI tS tSs tUs tL tLs tE tEs tH tHs tP fL fE fH fP) (uPs : P.underlying tPs = some (.slice tP)) {v : Value} {x : DataW H × List MemPlace} (hf : DataW.trod enc P W 0 (fun _ => true) true fuel tPs [v] = some x) :
  ∃ p L c l, v = .slice p L c ∧ PsArg W p L c l := by
 rcases open_slice uPs hf with ⟨hcs, _⟩ | ⟨a, len, cap, m, n, D, Pl, hcs, _, hl, hm, hmm, _, hi⟩
 ·simp only [List.cons.injEq, and_true] at hcs
  subst hcs
  exact ⟨none, 0, 0, [], rfl, ⟨ptsAt_nil _ _ _, Nat.le_refl _, fun _ => rfl, Nat.zero_le _, (fun x hx => by cases hx)⟩⟩
 ·simp only [List.cons.injEq, and_true] at hcs
  subst hcs
  simp only [if_true] at hmm
  have key : ∀ i, i < len → ∃ x : Pt, (∃ pd nd cd pm nm cm px nx cx ph nh ch, W.cell? (a.add (i * 5)) = some (.int .u32 ((pID x : Nat) : Int)) ∧ W.cell? ((a.add (i * 5)).add 1) = some (.slice pd nd cd) ∧ W.cell? ((a.add (i * 5)).add 2) = some (.slice pm nm cm) ∧
    W.cell? ((a.add (i * 5)).add 3) = some (.slice px nx cx) ∧ W.cell? ((a.add (i * 5)).add 4) = some (.slice ph nh ch) ∧ PtAt W 0 W.heap.size (pID x) pd nd cd pm nm cm px nx cx ph nh ch x) ∧
    (pID x < 4294967296 ∧ (∀ d ∈ pDeps x, d < 4294967296) ∧ (∀ h ∈ pHunks x, numH h) ∧ (pDeps x).length ≤ maxLen ∧ (pMakes x).length ≤ maxLen ∧ (pDrops x).length ≤ maxLen ∧ (pHunks x).length ≤ maxLen) := by
   intro i hil
   obtain ⟨cs', hc, ht⟩ := hi i (by omega)
   rw [T.cP] at hc
   obtain ⟨_, hcl, hat⟩ := World.cells?_some hc
   obtain ⟨id, pd, nd, cd, pm, nm, cm, px, nx, cx, ph, nh, ch, p, rfl, ha⟩ := ptT T ht
   have c0 := hat 0 (by omega)
   rw [add_zero'] at c0
   have hid := ha.at'.num
   subst hid
   exact ⟨p, ⟨pd, nd, cd, pm, nm, cm, px, nx, cx, ph, nh, ch, c0, hat 1 (by omega), hat 2 (by omega), hat 3 (by omega), hat 4 (by omega), ha.at'⟩, ha.idN, ha.depN, ha.hkN, by rw [ha.at'.deps.len]; exact ha.md, by rw [ha.at'.makes.len]; exact ha.mm, by rw [ha.at'.drops.len]; exact ha.mx, by rw [ha.at'.hunks.len]; exact ha.mh⟩
  obtain ⟨l, hll, hS⟩ := list_ofT pt0 key
  refine ⟨some a, len, cap, l, rfl, ⟨⟨hll, fun hn => ?_⟩, hl, (fun h => by cases h), Nat.le_trans hl hm, fun x hx => ?_⟩⟩
  ·obtain ⟨⟨_, _, _, _, _, _, _, _, _, _, _, _, hc0, _⟩, _⟩ := hS 0 hn
   rw [Nat.zero_mul, add_zero'] at hc0
   obtain ⟨b, off, rfl⟩ := cell_plain hc0
   refine ⟨b, off, rfl, Nat.zero_le _, cell_lt hc0, Nat.le_refl _, fun i hil => ?_⟩
   have hs := (hS i hil).1
   simp only [add_plain] at hs
   exact hs
  ·obtain ⟨i, hi', rfl⟩ := List.getElem_of_mem hx
   have hs := (hS i (by omega)).2
   rwa [List.getElem?_eq_getElem hi'] at hs
end

set_option maxRecDepth 20000 in
theorem ptsAt_of {H : Type} {enc : TypeId × Value → H} {W : World} {base : Nat} {v : Value} {d : DataW H} {ps : List MemPlace} (hok : Value.okWide Tryz.prog W .any base 22 v)
  (h : DataW.Trod enc Tryz.prog W 0 (fun _ => true) true 22 v d ps) : ∃ p n c l, v = .slice p n c ∧ PsArg W p n c l := by
 obtain ⟨a0, len, cap, rfl⟩ := okWide_slice Tryz.underlying22 hok
 obtain ⟨fuel, hf⟩ := h
 have hf' : DataW.trod enc Tryz.prog W 0 (fun _ => true) true fuel 22 [.slice a0 len cap] = some (d, ps) := hf
 obtain ⟨p, n, c, l, e, ha⟩ := ptsT patTys Tryz.underlying22 hf'
 exact ⟨p, n, c, l, e, ha⟩

end Go.Proofs.YtnknejokneddbaaGreatDoor
