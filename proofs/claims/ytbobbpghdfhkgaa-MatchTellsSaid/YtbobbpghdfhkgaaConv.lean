/- A string of one byte, made of a slice of one byte. -/
import Derived.Test.YtbobbpghdfhkgaaSplP
import Derived.Test.YtbobbpghdfhkgaaBits
import Derived.Laws.BytesArg
namespace Go.Proofs.Ytbobbpghdfhkgaa
open Go.RowKit

/-- A text of one byte. -/
def oneS (z : Int) : ByteArray := strOfNums [z]
theorem bl_oneS (z : Int) : bl (oneS z) = [UInt8.ofNat z.toNat] := by
  unfold bl oneS
  rw [strOfNums_data]
  rfl
theorem oneS_size (z : Int) : (oneS z).size = 1 := by rw [← bl_size, bl_oneS]; rfl
theorem oneS_lit (x : UInt8) : oneS (x.toNat : Int) = ⟨#[x]⟩ := by
  apply bl_inj
  rw [bl_oneS, Int.toNat_natCast, UInt8.ofNat_toNat]
  rfl
theorem oneS_inj {z y : Nat} (hz : z < 256) (hy : y < 256) (h : oneS (z : Int) = oneS (y : Int)) : z = y := by
  have := congrArg bl h
  rw [bl_oneS, bl_oneS, Int.toNat_natCast, Int.toNat_natCast] at this
  have e := congrArg UInt8.toNat (List.cons.inj this).1
  rw [UInt8.toNat_ofNat', UInt8.toNat_ofNat'] at e
  rwa [Nat.mod_eq_of_lt hz, Nat.mod_eq_of_lt hy] at e
theorem conv_u8 (z : Int) (w : World) : (convert 22 9 (.slice (some ⟨w.heap.size, 0, none⟩) 1 1)).run Try.prog (w.alloc (.cells #[.int .u8 z] 5)) = .ok (.string (oneS z)) (w.alloc (.cells #[.int .u8 z] 5)) := by
  refine run_convert_bytes_arg _ 22 5 Try.underlying22 Try.underlying5 w.heap.size 0 1 1 [z] rfl (fun i hi => ?_) _ Try.underlying9
  obtain rfl : i = 0 := by omega
  simp

end Go.Proofs.Ytbobbpghdfhkgaa
