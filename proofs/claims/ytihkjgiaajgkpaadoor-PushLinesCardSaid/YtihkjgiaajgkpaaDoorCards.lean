/-
  DERIVED. GIVEN WITH THE SEED: THE CARDS: each row of YtihkjgiaajgkpaaDoorRows.lean that lists a variable, with what it lists TIED to the program's text (the seventh form; the later family's looks); each row that meets fmt, with fmt's text TOLD by the authors' own Lean function (tested against real Go, not proved from fmt's source: count such statements apart). THE CARD IS WHAT COUNTS. Prove the row's statement (the work); the ties are given (YtihkjgiaajgkpaaDoorTie.lean); close each card by the builder's one call (the guide's Derived/Test/ToyasCard.lean, 'card_holds'). Laid BY PROGRAM, IN A SANDBOX (cutbox-door.mjs). By AI agents, Wed Nov 11 2026. No macro, syntax, notation, axiom, sorry.
-/
import Derived.Test.YtihkjgiaajgkpaaDoorRows
import GoSem.ClaimSeven
namespace Go.Proofs.YtihkjgiaajgkpaaDoor
namespace Rows

/-- THE TIED CARD OF 'centolaw7.PushTells'. -/
def pushTellsCard : Claim7 := { stood := { row := pushTellsRow, standIns := [], harness := (true, "ce3714df8cdb8a3b72d7eb5769023622ae7442c4ffe3dea81199ab90f28bc1be"), looks := false }, kinds := [], alts := [], laidByText := true, laidKinds := [.data], laidTests := true, laidLooks := .later }
def PushTellsCardSaid : Prop := Claim7.holds Tryd.pinned (.plain (OpenSpec.ofChange pushTellsSpec)) pushTellsCard

/-- THE TIED CARD OF 'centolaw7.PushSums'. -/
def pushSumsCard : Claim7 := { stood := { row := pushSumsRow, standIns := [], harness := (true, "ce3714df8cdb8a3b72d7eb5769023622ae7442c4ffe3dea81199ab90f28bc1be"), looks := false }, kinds := [], alts := [], laidByText := true, laidKinds := [.data], laidTests := true, laidLooks := .later }
def PushSumsCardSaid : Prop := Claim7.holds Tryd.pinned (.plain (OpenSpec.ofChange pushSumsSpec)) pushSumsCard

/-- THE TIED CARD OF 'centolaw7.PushSquare'. -/
def pushSquareCard : Claim7 := { stood := { row := pushSquareRow, standIns := [], harness := (true, "ce3714df8cdb8a3b72d7eb5769023622ae7442c4ffe3dea81199ab90f28bc1be"), looks := false }, kinds := [], alts := [], laidByText := true, laidKinds := [.data], laidTests := true, laidLooks := .later }
def PushSquareCardSaid : Prop := Claim7.holds Tryd.pinned (.plain (OpenSpec.ofChange pushSquareSpec)) pushSquareCard

/-- THE TIED CARD OF 'centolaw7.PushSame'. -/
def pushSameCard : Claim7 := { stood := { row := pushSameRow, standIns := [], harness := (true, "ce3714df8cdb8a3b72d7eb5769023622ae7442c4ffe3dea81199ab90f28bc1be"), looks := false }, kinds := [], alts := [], laidByText := true, laidKinds := [.data], laidTests := true, laidLooks := .later }
def PushSameCardSaid : Prop := Claim7.holds Tryd.pinned (.plain (OpenSpec.ofChange pushSameSpec)) pushSameCard

/-- THE TIED CARD OF 'centolaw7.PushLines'. -/
def pushLinesCard : Claim7 := { stood := { row := pushLinesRow, standIns := [], harness := (true, "ce3714df8cdb8a3b72d7eb5769023622ae7442c4ffe3dea81199ab90f28bc1be"), looks := false }, kinds := [], alts := [], laidByText := true, laidKinds := [.data], laidTests := true, laidLooks := .later }
def PushLinesCardSaid : Prop := Claim7.holds Tryd.pinned (.plain (OpenSpec.ofChange pushLinesSpec)) pushLinesCard

/-- THE TIED CARD OF 'centolaw7.PushCircles'. -/
def pushCirclesCard : Claim7 := { stood := { row := pushCirclesRow, standIns := [], harness := (true, "ce3714df8cdb8a3b72d7eb5769023622ae7442c4ffe3dea81199ab90f28bc1be"), looks := false }, kinds := [], alts := [], laidByText := true, laidKinds := [.data], laidTests := true, laidLooks := .later }
def PushCirclesCardSaid : Prop := Claim7.holds Tryd.pinned (.plain (OpenSpec.ofChange pushCirclesSpec)) pushCirclesCard

/-- THE TIED CARD OF 'centolaw7.PushEquals'. -/
def pushEqualsCard : Claim7 := { stood := { row := pushEqualsRow, standIns := [], harness := (true, "ce3714df8cdb8a3b72d7eb5769023622ae7442c4ffe3dea81199ab90f28bc1be"), looks := false }, kinds := [], alts := [], laidByText := true, laidKinds := [.data], laidTests := true, laidLooks := .later }
def PushEqualsCardSaid : Prop := Claim7.holds Tryd.pinned (.plain (OpenSpec.ofChange pushEqualsSpec)) pushEqualsCard

/-- THE SECOND FORM's CARD OF 'centolaw7.PushTells'. -/
def pushTellsUptoCard : Claim7 := { stood := { row := pushTellsUptoRow, standIns := [], harness := (true, "ce3714df8cdb8a3b72d7eb5769023622ae7442c4ffe3dea81199ab90f28bc1be"), looks := false }, kinds := [], alts := [], laidByText := true, laidKinds := [.data], laidTests := true, laidLooks := .later }
def PushTellsUptoCardSaid : Prop := Claim7.holds Tryd.pinned (.plain (OpenSpec.upto pushTellsSpec)) pushTellsUptoCard

/-- THE SECOND FORM's CARD OF 'centolaw7.PushSums'. -/
def pushSumsUptoCard : Claim7 := { stood := { row := pushSumsUptoRow, standIns := [], harness := (true, "ce3714df8cdb8a3b72d7eb5769023622ae7442c4ffe3dea81199ab90f28bc1be"), looks := false }, kinds := [], alts := [], laidByText := true, laidKinds := [.data], laidTests := true, laidLooks := .later }
def PushSumsUptoCardSaid : Prop := Claim7.holds Tryd.pinned (.plain (OpenSpec.upto pushSumsSpec)) pushSumsUptoCard

/-- THE SECOND FORM's CARD OF 'centolaw7.PushSquare'. -/
def pushSquareUptoCard : Claim7 := { stood := { row := pushSquareUptoRow, standIns := [], harness := (true, "ce3714df8cdb8a3b72d7eb5769023622ae7442c4ffe3dea81199ab90f28bc1be"), looks := false }, kinds := [], alts := [], laidByText := true, laidKinds := [.data], laidTests := true, laidLooks := .later }
def PushSquareUptoCardSaid : Prop := Claim7.holds Tryd.pinned (.plain (OpenSpec.upto pushSquareSpec)) pushSquareUptoCard

/-- THE SECOND FORM's CARD OF 'centolaw7.PushSame'. -/
def pushSameUptoCard : Claim7 := { stood := { row := pushSameUptoRow, standIns := [], harness := (true, "ce3714df8cdb8a3b72d7eb5769023622ae7442c4ffe3dea81199ab90f28bc1be"), looks := false }, kinds := [], alts := [], laidByText := true, laidKinds := [.data], laidTests := true, laidLooks := .later }
def PushSameUptoCardSaid : Prop := Claim7.holds Tryd.pinned (.plain (OpenSpec.upto pushSameSpec)) pushSameUptoCard

/-- THE SECOND FORM's CARD OF 'centolaw7.PushLines'. -/
def pushLinesUptoCard : Claim7 := { stood := { row := pushLinesUptoRow, standIns := [], harness := (true, "ce3714df8cdb8a3b72d7eb5769023622ae7442c4ffe3dea81199ab90f28bc1be"), looks := false }, kinds := [], alts := [], laidByText := true, laidKinds := [.data], laidTests := true, laidLooks := .later }
def PushLinesUptoCardSaid : Prop := Claim7.holds Tryd.pinned (.plain (OpenSpec.upto pushLinesSpec)) pushLinesUptoCard

/-- THE SECOND FORM's CARD OF 'centolaw7.PushCircles'. -/
def pushCirclesUptoCard : Claim7 := { stood := { row := pushCirclesUptoRow, standIns := [], harness := (true, "ce3714df8cdb8a3b72d7eb5769023622ae7442c4ffe3dea81199ab90f28bc1be"), looks := false }, kinds := [], alts := [], laidByText := true, laidKinds := [.data], laidTests := true, laidLooks := .later }
def PushCirclesUptoCardSaid : Prop := Claim7.holds Tryd.pinned (.plain (OpenSpec.upto pushCirclesSpec)) pushCirclesUptoCard

/-- THE SECOND FORM's CARD OF 'centolaw7.PushEquals'. -/
def pushEqualsUptoCard : Claim7 := { stood := { row := pushEqualsUptoRow, standIns := [], harness := (true, "ce3714df8cdb8a3b72d7eb5769023622ae7442c4ffe3dea81199ab90f28bc1be"), looks := false }, kinds := [], alts := [], laidByText := true, laidKinds := [.data], laidTests := true, laidLooks := .later }
def PushEqualsUptoCardSaid : Prop := Claim7.holds Tryd.pinned (.plain (OpenSpec.upto pushEqualsSpec)) pushEqualsUptoCard
end Rows
end Go.Proofs.YtihkjgiaajgkpaaDoor
