/-
  DERIVED. GIVEN WITH THE SEED: THE CARDS: each row of YtdolcdededmlhaaDoorRows.lean that lists a variable, with what it lists TIED to the program's text (the seventh form; the later family's looks); each row that meets fmt, with fmt's text TOLD by the authors' own Lean function (tested against real Go, not proved from fmt's source: count such statements apart). THE CARD IS WHAT COUNTS. Prove the row's statement (the work); the ties are given (YtdolcdededmlhaaDoorTie.lean); close each card by the builder's one call (the guide's Derived/Test/ToyasCard.lean, 'card_holds'). Laid BY PROGRAM, IN A SANDBOX (cutbox-door.mjs). By AI agents, Wed Nov 11 2026. No macro, syntax, notation, axiom, sorry.
-/
import Derived.Test.YtdolcdededmlhaaDoorRows
import GoSem.ClaimSeven
namespace Go.Proofs.YtdolcdededmlhaaDoor
namespace Rows

/-- THE TIED CARD OF 'centolaw4.ObjTells'. -/
def objTellsCard : Claim7 := { stood := { row := objTellsRow, standIns := [], harness := (true, "d6cfb937e1e95397ac9eeda2d2b5937ad891b695a15a1c17fc5fc40874989b71"), looks := false }, kinds := [], alts := [], laidByText := true, laidKinds := [.data], laidTests := true, laidLooks := .later }
def ObjTellsCardSaid : Prop := Claim7.holds Tryd.pinned (.plain (OpenSpec.ofChange objTellsSpec)) objTellsCard

/-- THE TIED CARD OF 'centolaw4.ObjMakes'. -/
def objMakesCard : Claim7 := { stood := { row := objMakesRow, standIns := [], harness := (true, "d6cfb937e1e95397ac9eeda2d2b5937ad891b695a15a1c17fc5fc40874989b71"), looks := false }, kinds := [], alts := [], laidByText := true, laidKinds := [.data], laidTests := true, laidLooks := .later }
def ObjMakesCardSaid : Prop := Claim7.holds Tryd.pinned (.plain (OpenSpec.ofChange objMakesSpec)) objMakesCard

/-- THE TIED CARD OF 'centolaw4.ObjSpoils'. -/
def objSpoilsCard : Claim7 := { stood := { row := objSpoilsRow, standIns := [], harness := (true, "d6cfb937e1e95397ac9eeda2d2b5937ad891b695a15a1c17fc5fc40874989b71"), looks := false }, kinds := [], alts := [], laidByText := true, laidKinds := [.data], laidTests := true, laidLooks := .later }
def ObjSpoilsCardSaid : Prop := Claim7.holds Tryd.pinned (.plain (OpenSpec.ofChange objSpoilsSpec)) objSpoilsCard

/-- THE TIED CARD OF 'centolaw4.ObjLarge'. -/
def objLargeCard : Claim7 := { stood := { row := objLargeRow, standIns := [], harness := (true, "d6cfb937e1e95397ac9eeda2d2b5937ad891b695a15a1c17fc5fc40874989b71"), looks := false }, kinds := [], alts := [], laidByText := true, laidKinds := [.data], laidTests := true, laidLooks := .later }
def ObjLargeCardSaid : Prop := Claim7.holds Tryd.pinned (.plain (OpenSpec.ofChange objLargeSpec)) objLargeCard

/-- THE SECOND FORM's CARD OF 'centolaw4.ObjTells'. -/
def objTellsUptoCard : Claim7 := { stood := { row := objTellsUptoRow, standIns := [], harness := (true, "d6cfb937e1e95397ac9eeda2d2b5937ad891b695a15a1c17fc5fc40874989b71"), looks := false }, kinds := [], alts := [], laidByText := true, laidKinds := [.data], laidTests := true, laidLooks := .later }
def ObjTellsUptoCardSaid : Prop := Claim7.holds Tryd.pinned (.plain (OpenSpec.upto objTellsSpec)) objTellsUptoCard

/-- THE SECOND FORM's CARD OF 'centolaw4.ObjMakes'. -/
def objMakesUptoCard : Claim7 := { stood := { row := objMakesUptoRow, standIns := [], harness := (true, "d6cfb937e1e95397ac9eeda2d2b5937ad891b695a15a1c17fc5fc40874989b71"), looks := false }, kinds := [], alts := [], laidByText := true, laidKinds := [.data], laidTests := true, laidLooks := .later }
def ObjMakesUptoCardSaid : Prop := Claim7.holds Tryd.pinned (.plain (OpenSpec.upto objMakesSpec)) objMakesUptoCard

/-- THE SECOND FORM's CARD OF 'centolaw4.ObjSpoils'. -/
def objSpoilsUptoCard : Claim7 := { stood := { row := objSpoilsUptoRow, standIns := [], harness := (true, "d6cfb937e1e95397ac9eeda2d2b5937ad891b695a15a1c17fc5fc40874989b71"), looks := false }, kinds := [], alts := [], laidByText := true, laidKinds := [.data], laidTests := true, laidLooks := .later }
def ObjSpoilsUptoCardSaid : Prop := Claim7.holds Tryd.pinned (.plain (OpenSpec.upto objSpoilsSpec)) objSpoilsUptoCard

/-- THE SECOND FORM's CARD OF 'centolaw4.ObjLarge'. -/
def objLargeUptoCard : Claim7 := { stood := { row := objLargeUptoRow, standIns := [], harness := (true, "d6cfb937e1e95397ac9eeda2d2b5937ad891b695a15a1c17fc5fc40874989b71"), looks := false }, kinds := [], alts := [], laidByText := true, laidKinds := [.data], laidTests := true, laidLooks := .later }
def ObjLargeUptoCardSaid : Prop := Claim7.holds Tryd.pinned (.plain (OpenSpec.upto objLargeSpec)) objLargeUptoCard
end Rows
end Go.Proofs.YtdolcdededmlhaaDoor
