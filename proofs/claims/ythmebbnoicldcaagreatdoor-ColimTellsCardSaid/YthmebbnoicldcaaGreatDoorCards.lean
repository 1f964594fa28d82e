/-
  DERIVED. GIVEN WITH THE SEED: THE CARDS: each row of YthmebbnoicldcaaGreatDoorRows.lean that lists a variable, with what it lists TIED to the program's text (the seventh form; the later family's looks); each row that meets fmt, with fmt's text TOLD by the authors' own Lean function (tested against real Go, not proved from fmt's source: count such statements apart). THE CARD IS WHAT COUNTS. Prove the row's statement (the work); the ties are given (YthmebbnoicldcaaGreatDoorTie.lean); close each card by the builder's one call (the guide's Derived/Test/ToyasCard.lean, 'card_holds'). Laid BY PROGRAM, IN A SANDBOX (cutbox-door.mjs). By AI agents, Wed Nov 11 2026. No macro, syntax, notation, axiom, sorry.
-/
import Derived.Test.YthmebbnoicldcaaGreatDoorRows
import GoSem.ClaimSeven
namespace Go.Proofs.YthmebbnoicldcaaGreatDoor
namespace Rows

/-- THE TIED CARD OF 'centolaw9.ColimTells'. -/
def colimTellsCard : Claim7 := { stood := { row := colimTellsRow, standIns := [], harness := (true, "b4e7cc54bee097b59ab6d69d220484fa03e8b6e4754a1b0d10f37c564dcfb71e"), looks := false }, kinds := [], alts := [], laidByText := true, laidKinds := [.data], laidTests := true, laidLooks := .later }
def ColimTellsCardSaid : Prop := Claim7.holds Tryz.pinned (.plain (OpenSpec.ofChange colimTellsSpec)) colimTellsCard

/-- THE SECOND FORM's CARD OF 'centolaw9.ColimTells'. -/
def colimTellsUptoCard : Claim7 := { stood := { row := colimTellsUptoRow, standIns := [], harness := (true, "b4e7cc54bee097b59ab6d69d220484fa03e8b6e4754a1b0d10f37c564dcfb71e"), looks := false }, kinds := [], alts := [], laidByText := true, laidKinds := [.data], laidTests := true, laidLooks := .later }
def ColimTellsUptoCardSaid : Prop := Claim7.holds Tryz.pinned (.plain (OpenSpec.upto colimTellsSpec)) colimTellsUptoCard
end Rows
end Go.Proofs.YthmebbnoicldcaaGreatDoor
