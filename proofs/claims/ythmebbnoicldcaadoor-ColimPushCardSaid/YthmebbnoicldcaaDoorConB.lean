/- Cocone: whether four maps are a cocone, as package cone and as the reference tell it. -/
import Derived.Test.YthmebbnoicldcaaDoorConP
namespace Go.Proofs.YthmebbnoicldcaaDoor
open Go.RowKit

end Go.Proofs.YthmebbnoicldcaaDoor
