/- Cocone: whether four maps are a cocone, as package cone and as the reference tell it. -/
import Derived.Test.YtemnbkenihldgaaDoorConP
namespace Go.Proofs.YtemnbkenihldgaaDoor
open Go.RowKit

end Go.Proofs.YtemnbkenihldgaaDoor
