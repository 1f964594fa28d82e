/- The law folder's own patches. -/
import Derived.Test.YtnknejokneddbaaGreatDoorStaM
import Derived.Test.YtnknejokneddbaaGreatDoorRefPa
/-! The law folder's own patch, and what is true of it. -/
namespace Go.Proofs.YtnknejokneddbaaGreatDoor

def kA : ByteArray := ⟨#[97]⟩
def kX : ByteArray := ⟨#[120, 10]⟩
def kY : ByteArray := ⟨#[121]⟩
theorem path_kA : IsPath kA := ⟨by decide +kernel, by decide +kernel, by decide +kernel⟩
theorem line_kX : IsLine kX := ⟨lines_one.2 ⟨by decide +kernel, by decide +kernel⟩, by decide +kernel⟩
theorem line_kY : IsLine kY := ⟨lines_one.2 ⟨by decide +kernel, by decide +kernel⟩, by decide +kernel⟩
end Go.Proofs.YtnknejokneddbaaGreatDoor
/-! The law folder's own patch in memory. -/
namespace Go.Proofs.YtnknejokneddbaaGreatDoor
open Go.RowKit

theorem size_alloc (w : World) (o : Obj) : (w.alloc o).heap.size = w.heap.size + 1 := by simp
end Go.Proofs.YtnknejokneddbaaGreatDoor
