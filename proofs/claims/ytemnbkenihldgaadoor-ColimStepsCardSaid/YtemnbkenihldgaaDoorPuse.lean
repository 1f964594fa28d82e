/- Package push: fold's contract. -/
import Derived.Test.YtemnbkenihldgaaDoorPusc
namespace Go.Proofs.YtemnbkenihldgaaDoor
open Go.RowKit Go.Shelf
attribute [local go_sem] Oper.semAt_some

/-- What fold leaves. -/
def FoldPost (N : Nat) (Lb : List ByteArray) (P : List (Int × Int)) (f g : List Int) (w : World) (e : Ending) (w' : World) : Prop :=
  ∃ u v b, e = .returned (.tuple #[.agg #[u, v], .slice (some ⟨b, 0, none⟩) N N]) ∧ OwnObj w' w.heap.size u v (labG Lb (joinsL N f g)) (gluP (joinsL N f g) P) ∧ w.heap.size ≤ b ∧ RowZ w' b (atZ (joinsL N f g)) ∧ w.grownBy w' none

end Go.Proofs.YtemnbkenihldgaaDoor
