/-
  DERIVED. GIVEN WITH THE SEED: THE CARDS: each row of YtemnbkenihldgaaDoorRows.lean that lists a variable, with what it lists TIED to the program's text (the seventh form; the later family's looks); each row that meets fmt, with fmt's text TOLD by the authors' own Lean function (tested against real Go, not proved from fmt's source: count such statements apart). THE CARD IS WHAT COUNTS. Prove the row's statement (the work); the ties are given (YtemnbkenihldgaaDoorTie.lean); close each card by the builder's one call (the guide's Derived/Test/ToyasCard.lean, 'card_holds'). Laid BY PROGRAM, IN A SANDBOX (cutbox-door.mjs). By AI agents, Wed Nov 11 2026. No macro, syntax, notation, axiom, sorry.
-/
import Derived.Test.YtemnbkenihldgaaDoorRows
import GoSem.ClaimSeven
namespace Go.Proofs.YtemnbkenihldgaaDoor
namespace Rows

/-- THE TIED CARD OF 'centolaw9.ColimSteps'. -/
def colimStepsCard : Claim7 := { stood := { row := colimStepsRow, standIns := [], harness := (true, "1e72a9f118bed9f67e15c216b6e4e3d38ffac27df015aa5f5fef1272e3b53a2b"), looks := false }, kinds := [], alts := [], laidByText := true, laidKinds := [.data], laidTests := true, laidLooks := .later }
def ColimStepsCardSaid : Prop := Claim7.holds Tryd.pinned (.plain (OpenSpec.ofChange colimStepsSpec)) colimStepsCard

/-- THE SECOND FORM's CARD OF 'centolaw9.ColimSteps'. -/
def colimStepsUptoCard : Claim7 := { stood := { row := colimStepsUptoRow, standIns := [], harness := (true, "1e72a9f118bed9f67e15c216b6e4e3d38ffac27df015aa5f5fef1272e3b53a2b"), looks := false }, kinds := [], alts := [], laidByText := true, laidKinds := [.data], laidTests := true, laidLooks := .later }
def ColimStepsUptoCardSaid : Prop := Claim7.holds Tryd.pinned (.plain (OpenSpec.upto colimStepsSpec)) colimStepsUptoCard
end Rows
end Go.Proofs.YtemnbkenihldgaaDoor
