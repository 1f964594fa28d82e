/-
  DERIVED. GIVEN WITH THE SEED: THE CARDS: each row of YtkcofakhcpajmaaDoorRows.lean that lists a variable, with what it lists TIED to the program's text (the seventh form; the later family's looks); each row that meets fmt, with fmt's text TOLD by the authors' own Lean function (tested against real Go, not proved from fmt's source: count such statements apart). THE CARD IS WHAT COUNTS. Prove the row's statement (the work); the ties are given (YtkcofakhcpajmaaDoorTie.lean); close each card by the builder's one call (the guide's Derived/Test/ToyasCard.lean, 'card_holds'). Laid BY PROGRAM, IN A SANDBOX (cutbox-door.mjs). By AI agents, Wed Nov 11 2026. No macro, syntax, notation, axiom, sorry.
-/
import Derived.Test.YtkcofakhcpajmaaDoorRows
import GoSem.ClaimSeven
namespace Go.Proofs.YtkcofakhcpajmaaDoor
namespace Rows

/-- THE TIED CARD OF 'centolaw2.RelTells'. -/
def relTellsCard : Claim7 := { stood := { row := relTellsRow, standIns := [], harness := (true, "386c33cd4cdf1443ce0e790f33cef877711ab110365fe159cd90a9d6a28981d1"), looks := false }, kinds := [], alts := [], laidByText := true, laidKinds := [.data], laidTests := true, laidLooks := .later }
def RelTellsCardSaid : Prop := Claim7.holds Tryd.pinned (.plain (OpenSpec.ofChange relTellsSpec)) relTellsCard

/-- THE TIED CARD OF 'centolaw2.RelPlays'. -/
def relPlaysCard : Claim7 := { stood := { row := relPlaysRow, standIns := [], harness := (true, "386c33cd4cdf1443ce0e790f33cef877711ab110365fe159cd90a9d6a28981d1"), looks := false }, kinds := [], alts := [], laidByText := true, laidKinds := [.data], laidTests := true, laidLooks := .later }
def RelPlaysCardSaid : Prop := Claim7.holds Tryd.pinned (.plain (OpenSpec.ofChange relPlaysSpec)) relPlaysCard

/-- THE TIED CARD OF 'centolaw2.RelWays'. -/
def relWaysCard : Claim7 := { stood := { row := relWaysRow, standIns := [], harness := (true, "386c33cd4cdf1443ce0e790f33cef877711ab110365fe159cd90a9d6a28981d1"), looks := false }, kinds := [], alts := [], laidByText := true, laidKinds := [.data], laidTests := true, laidLooks := .later }
def RelWaysCardSaid : Prop := Claim7.holds Tryd.pinned (.plain (OpenSpec.ofChange relWaysSpec)) relWaysCard

/-- THE TIED CARD OF 'centolaw2.RelJoins'. -/
def relJoinsCard : Claim7 := { stood := { row := relJoinsRow, standIns := [], harness := (true, "386c33cd4cdf1443ce0e790f33cef877711ab110365fe159cd90a9d6a28981d1"), looks := false }, kinds := [], alts := [], laidByText := true, laidKinds := [.data], laidTests := true, laidLooks := .later }
def RelJoinsCardSaid : Prop := Claim7.holds Tryd.pinned (.plain (OpenSpec.ofChange relJoinsSpec)) relJoinsCard

/-- THE TIED CARD OF 'centolaw2.RelOnly'. -/
def relOnlyCard : Claim7 := { stood := { row := relOnlyRow, standIns := [], harness := (true, "386c33cd4cdf1443ce0e790f33cef877711ab110365fe159cd90a9d6a28981d1"), looks := false }, kinds := [], alts := [], laidByText := true, laidKinds := [.data], laidTests := true, laidLooks := .later }
def RelOnlyCardSaid : Prop := Claim7.holds Tryd.pinned (.plain (OpenSpec.ofChange relOnlySpec)) relOnlyCard

/-- THE SECOND FORM's CARD OF 'centolaw2.RelTells'. -/
def relTellsUptoCard : Claim7 := { stood := { row := relTellsUptoRow, standIns := [], harness := (true, "386c33cd4cdf1443ce0e790f33cef877711ab110365fe159cd90a9d6a28981d1"), looks := false }, kinds := [], alts := [], laidByText := true, laidKinds := [.data], laidTests := true, laidLooks := .later }
def RelTellsUptoCardSaid : Prop := Claim7.holds Tryd.pinned (.plain (OpenSpec.upto relTellsSpec)) relTellsUptoCard

/-- THE SECOND FORM's CARD OF 'centolaw2.RelPlays'. -/
def relPlaysUptoCard : Claim7 := { stood := { row := relPlaysUptoRow, standIns := [], harness := (true, "386c33cd4cdf1443ce0e790f33cef877711ab110365fe159cd90a9d6a28981d1"), looks := false }, kinds := [], alts := [], laidByText := true, laidKinds := [.data], laidTests := true, laidLooks := .later }
def RelPlaysUptoCardSaid : Prop := Claim7.holds Tryd.pinned (.plain (OpenSpec.upto relPlaysSpec)) relPlaysUptoCard

/-- THE SECOND FORM's CARD OF 'centolaw2.RelWays'. -/
def relWaysUptoCard : Claim7 := { stood := { row := relWaysUptoRow, standIns := [], harness := (true, "386c33cd4cdf1443ce0e790f33cef877711ab110365fe159cd90a9d6a28981d1"), looks := false }, kinds := [], alts := [], laidByText := true, laidKinds := [.data], laidTests := true, laidLooks := .later }
def RelWaysUptoCardSaid : Prop := Claim7.holds Tryd.pinned (.plain (OpenSpec.upto relWaysSpec)) relWaysUptoCard

/-- THE SECOND FORM's CARD OF 'centolaw2.RelJoins'. -/
def relJoinsUptoCard : Claim7 := { stood := { row := relJoinsUptoRow, standIns := [], harness := (true, "386c33cd4cdf1443ce0e790f33cef877711ab110365fe159cd90a9d6a28981d1"), looks := false }, kinds := [], alts := [], laidByText := true, laidKinds := [.data], laidTests := true, laidLooks := .later }
def RelJoinsUptoCardSaid : Prop := Claim7.holds Tryd.pinned (.plain (OpenSpec.upto relJoinsSpec)) relJoinsUptoCard

/-- THE SECOND FORM's CARD OF 'centolaw2.RelOnly'. -/
def relOnlyUptoCard : Claim7 := { stood := { row := relOnlyUptoRow, standIns := [], harness := (true, "386c33cd4cdf1443ce0e790f33cef877711ab110365fe159cd90a9d6a28981d1"), looks := false }, kinds := [], alts := [], laidByText := true, laidKinds := [.data], laidTests := true, laidLooks := .later }
def RelOnlyUptoCardSaid : Prop := Claim7.holds Tryd.pinned (.plain (OpenSpec.upto relOnlySpec)) relOnlyUptoCard
end Rows
end Go.Proofs.YtkcofakhcpajmaaDoor
