/-
  DERIVED. GIVEN WITH THE SEED: THE CARDS: each row of YtgpcakcjiaoimaaDoorRows.lean that lists a variable, with what it lists TIED to the program's text (the seventh form; the later family's looks); each row that meets fmt, with fmt's text TOLD by the authors' own Lean function (tested against real Go, not proved from fmt's source: count such statements apart). THE CARD IS WHAT COUNTS. Prove the row's statement (the work); the ties are given (YtgpcakcjiaoimaaDoorTie.lean); close each card by the builder's one call (the guide's Derived/Test/ToyasCard.lean, 'card_holds'). Laid BY PROGRAM, IN A SANDBOX (cutbox-door.mjs). By AI agents, Wed Nov 11 2026. No macro, syntax, notation, axiom, sorry.
-/
import Derived.Test.YtgpcakcjiaoimaaDoorRows
import GoSem.ClaimSeven
namespace Go.Proofs.YtgpcakcjiaoimaaDoor
namespace Rows

/-- THE TIED CARD OF 'centolaw8.ConeTells'. -/
def coneTellsCard : Claim7 := { stood := { row := coneTellsRow, standIns := [], harness := (true, "cb812782b33046ddf8243b53b4072f41386d34c43691c551efb8fa85640b8945"), looks := false }, kinds := [], alts := [], laidByText := true, laidKinds := [.data], laidTests := true, laidLooks := .later }
def ConeTellsCardSaid : Prop := Claim7.holds Tryd.pinned (.plain (OpenSpec.ofChange coneTellsSpec)) coneTellsCard

/-- THE TIED CARD OF 'centolaw8.ConeOne'. -/
def coneOneCard : Claim7 := { stood := { row := coneOneRow, standIns := [], harness := (true, "cb812782b33046ddf8243b53b4072f41386d34c43691c551efb8fa85640b8945"), looks := false }, kinds := [], alts := [], laidByText := true, laidKinds := [.data], laidTests := true, laidLooks := .later }
def ConeOneCardSaid : Prop := Claim7.holds Tryd.pinned (.plain (OpenSpec.ofChange coneOneSpec)) coneOneCard

/-- THE TIED CARD OF 'centolaw8.ConeSwaps'. -/
def coneSwapsCard : Claim7 := { stood := { row := coneSwapsRow, standIns := [], harness := (true, "cb812782b33046ddf8243b53b4072f41386d34c43691c551efb8fa85640b8945"), looks := false }, kinds := [], alts := [], laidByText := true, laidKinds := [.data], laidTests := true, laidLooks := .later }
def ConeSwapsCardSaid : Prop := Claim7.holds Tryd.pinned (.plain (OpenSpec.ofChange coneSwapsSpec)) coneSwapsCard

/-- THE TIED CARD OF 'centolaw8.ConeOwn'. -/
def coneOwnCard : Claim7 := { stood := { row := coneOwnRow, standIns := [], harness := (true, "cb812782b33046ddf8243b53b4072f41386d34c43691c551efb8fa85640b8945"), looks := false }, kinds := [], alts := [], laidByText := true, laidKinds := [.data], laidTests := true, laidLooks := .later }
def ConeOwnCardSaid : Prop := Claim7.holds Tryd.pinned (.plain (OpenSpec.ofChange coneOwnSpec)) coneOwnCard

/-- THE SECOND FORM's CARD OF 'centolaw8.ConeTells'. -/
def coneTellsUptoCard : Claim7 := { stood := { row := coneTellsUptoRow, standIns := [], harness := (true, "cb812782b33046ddf8243b53b4072f41386d34c43691c551efb8fa85640b8945"), looks := false }, kinds := [], alts := [], laidByText := true, laidKinds := [.data], laidTests := true, laidLooks := .later }
def ConeTellsUptoCardSaid : Prop := Claim7.holds Tryd.pinned (.plain (OpenSpec.upto coneTellsSpec)) coneTellsUptoCard

/-- THE SECOND FORM's CARD OF 'centolaw8.ConeOne'. -/
def coneOneUptoCard : Claim7 := { stood := { row := coneOneUptoRow, standIns := [], harness := (true, "cb812782b33046ddf8243b53b4072f41386d34c43691c551efb8fa85640b8945"), looks := false }, kinds := [], alts := [], laidByText := true, laidKinds := [.data], laidTests := true, laidLooks := .later }
def ConeOneUptoCardSaid : Prop := Claim7.holds Tryd.pinned (.plain (OpenSpec.upto coneOneSpec)) coneOneUptoCard

/-- THE SECOND FORM's CARD OF 'centolaw8.ConeSwaps'. -/
def coneSwapsUptoCard : Claim7 := { stood := { row := coneSwapsUptoRow, standIns := [], harness := (true, "cb812782b33046ddf8243b53b4072f41386d34c43691c551efb8fa85640b8945"), looks := false }, kinds := [], alts := [], laidByText := true, laidKinds := [.data], laidTests := true, laidLooks := .later }
def ConeSwapsUptoCardSaid : Prop := Claim7.holds Tryd.pinned (.plain (OpenSpec.upto coneSwapsSpec)) coneSwapsUptoCard

/-- THE SECOND FORM's CARD OF 'centolaw8.ConeOwn'. -/
def coneOwnUptoCard : Claim7 := { stood := { row := coneOwnUptoRow, standIns := [], harness := (true, "cb812782b33046ddf8243b53b4072f41386d34c43691c551efb8fa85640b8945"), looks := false }, kinds := [], alts := [], laidByText := true, laidKinds := [.data], laidTests := true, laidLooks := .later }
def ConeOwnUptoCardSaid : Prop := Claim7.holds Tryd.pinned (.plain (OpenSpec.upto coneOwnSpec)) coneOwnUptoCard
end Rows
end Go.Proofs.YtgpcakcjiaoimaaDoor
