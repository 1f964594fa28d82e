/-
  DERIVED. GIVEN WITH THE SEED: THE CARDS: each row of YthmebbnoicldcaaDoorRows.lean that lists a variable, with what it lists TIED to the program's text (the seventh form; the later family's looks); each row that meets fmt, with fmt's text TOLD by the authors' own Lean function (tested against real Go, not proved from fmt's source: count such statements apart). THE CARD IS WHAT COUNTS. Prove the row's statement (the work); the ties are given (YthmebbnoicldcaaDoorTie.lean); close each card by the builder's one call (the guide's Derived/Test/ToyasCard.lean, 'card_holds'). Laid BY PROGRAM, IN A SANDBOX (cutbox-door.mjs). By AI agents, Wed Nov 11 2026. No macro, syntax, notation, axiom, sorry.
-/
import Derived.Test.YthmebbnoicldcaaDoorRows
import GoSem.ClaimSeven
namespace Go.Proofs.YthmebbnoicldcaaDoor
namespace Rows

/-- THE TIED CARD OF 'centolaw9.ColimOne'. -/
def colimOneCard : Claim7 := { stood := { row := colimOneRow, standIns := [], harness := (true, "866e7f2713c21f305731cd8469aa023f35c2d7c9cc07a0b202f6849bcdf733aa"), looks := false }, kinds := [], alts := [], laidByText := true, laidKinds := [.data], laidTests := true, laidLooks := .later }
def ColimOneCardSaid : Prop := Claim7.holds Tryd.pinned (.plain (OpenSpec.ofChange colimOneSpec)) colimOneCard

/-- THE TIED CARD OF 'centolaw9.ColimPush'. -/
def colimPushCard : Claim7 := { stood := { row := colimPushRow, standIns := [], harness := (true, "866e7f2713c21f305731cd8469aa023f35c2d7c9cc07a0b202f6849bcdf733aa"), looks := false }, kinds := [], alts := [], laidByText := true, laidKinds := [.data], laidTests := true, laidLooks := .later }
def ColimPushCardSaid : Prop := Claim7.holds Tryd.pinned (.plain (OpenSpec.ofChange colimPushSpec)) colimPushCard

/-- THE TIED CARD OF 'centolaw9.ColimSteps'. -/
def colimStepsCard : Claim7 := { stood := { row := colimStepsRow, standIns := [], harness := (true, "866e7f2713c21f305731cd8469aa023f35c2d7c9cc07a0b202f6849bcdf733aa"), looks := false }, kinds := [], alts := [], laidByText := true, laidKinds := [.data], laidTests := true, laidLooks := .later }
def ColimStepsCardSaid : Prop := Claim7.holds Tryd.pinned (.plain (OpenSpec.ofChange colimStepsSpec)) colimStepsCard

/-- THE TIED CARD OF 'centolaw9.ColimPlain'. -/
def colimPlainCard : Claim7 := { stood := { row := colimPlainRow, standIns := [], harness := (true, "866e7f2713c21f305731cd8469aa023f35c2d7c9cc07a0b202f6849bcdf733aa"), looks := false }, kinds := [], alts := [], laidByText := true, laidKinds := [.data], laidTests := true, laidLooks := .later }
def ColimPlainCardSaid : Prop := Claim7.holds Tryd.pinned (.plain (OpenSpec.ofChange colimPlainSpec)) colimPlainCard

/-- THE SECOND FORM's CARD OF 'centolaw9.ColimOne'. -/
def colimOneUptoCard : Claim7 := { stood := { row := colimOneUptoRow, standIns := [], harness := (true, "866e7f2713c21f305731cd8469aa023f35c2d7c9cc07a0b202f6849bcdf733aa"), looks := false }, kinds := [], alts := [], laidByText := true, laidKinds := [.data], laidTests := true, laidLooks := .later }
def ColimOneUptoCardSaid : Prop := Claim7.holds Tryd.pinned (.plain (OpenSpec.upto colimOneSpec)) colimOneUptoCard

/-- THE SECOND FORM's CARD OF 'centolaw9.ColimPush'. -/
def colimPushUptoCard : Claim7 := { stood := { row := colimPushUptoRow, standIns := [], harness := (true, "866e7f2713c21f305731cd8469aa023f35c2d7c9cc07a0b202f6849bcdf733aa"), looks := false }, kinds := [], alts := [], laidByText := true, laidKinds := [.data], laidTests := true, laidLooks := .later }
def ColimPushUptoCardSaid : Prop := Claim7.holds Tryd.pinned (.plain (OpenSpec.upto colimPushSpec)) colimPushUptoCard

/-- THE SECOND FORM's CARD OF 'centolaw9.ColimSteps'. -/
def colimStepsUptoCard : Claim7 := { stood := { row := colimStepsUptoRow, standIns := [], harness := (true, "866e7f2713c21f305731cd8469aa023f35c2d7c9cc07a0b202f6849bcdf733aa"), looks := false }, kinds := [], alts := [], laidByText := true, laidKinds := [.data], laidTests := true, laidLooks := .later }
def ColimStepsUptoCardSaid : Prop := Claim7.holds Tryd.pinned (.plain (OpenSpec.upto colimStepsSpec)) colimStepsUptoCard

/-- THE SECOND FORM's CARD OF 'centolaw9.ColimPlain'. -/
def colimPlainUptoCard : Claim7 := { stood := { row := colimPlainUptoRow, standIns := [], harness := (true, "866e7f2713c21f305731cd8469aa023f35c2d7c9cc07a0b202f6849bcdf733aa"), looks := false }, kinds := [], alts := [], laidByText := true, laidKinds := [.data], laidTests := true, laidLooks := .later }
def ColimPlainUptoCardSaid : Prop := Claim7.holds Tryd.pinned (.plain (OpenSpec.upto colimPlainSpec)) colimPlainUptoCard
end Rows
end Go.Proofs.YthmebbnoicldcaaDoor
