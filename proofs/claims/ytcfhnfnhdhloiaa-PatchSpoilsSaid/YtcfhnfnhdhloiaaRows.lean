/-
  No cell of these rows narrows 'for every input' (looked for: loops, veiled, ifaces, maps, wideKeys, modest, calm, conditions, laid).
  DERIVED. THE GIVEN ROWS OF THIS SEAT. 3 by the template 'for every input the law returns true; each argument reads behind the call as it read before'; 0 by the template 'total and deterministic' (their statements: YtcfhnfnhdhloiaaTotals.lean).
  GIVEN WITH THE SEED: the statements are not yours to turn. If you find one false, say at which input.
  Laid BY PROGRAM, IN A SANDBOX (cutbox-rows.mjs): the forced cells as the released guide's own fill.sh prints them over the translation bec90b542a03b765… (all of the seat's roots in one cut). By AI agents, Wed Nov 11 2026. No macro, syntax, notation, axiom, sorry.
-/
import Derived.Test.YtcfhnfnhdhloiaaChecked
import GoSem.Claim
import GoSem.ClaimJoined
import GoSem.ClaimMapViews
import Derived.JoinedTies
import Derived.KernelRfl
namespace Go.Proofs.Ytcfhnfnhdhloiaa
/- THE CELL 'sum', in the pinned program and in every row, IS THE sha256 OF THE DUMP (.gsa) THAT YtcfhnfnhdhloiaaProg.lean LOADS. Nothing in Lean hashes anything: it is a label: what it is worth is what the hold of that sum in a sandbox is worth. -/
noncomputable def Try.pinned : Pinned := { name := "ytcfhnfnhdhloiaa", sum := "bec90b542a03b765675c29f583ede57d80ae65930a2cc1c6d6360346c43f376f", checked := Try.checked }
namespace Rows
def none {H : Type} : Left H := { results := [], args := [] }

/-- 'centolaw12.PatchCopies': WHATEVER THE INPUT: true; the input reads as it did. -/
def patchCopiesSpec : ChangeSpec := { name := "patchCopies", fn := fun _ => fun
  | [d] => { results := [.lit (.bool true)], args := [d] }
  | _ => none }
def patchCopiesRow : OpenClaim := { program := "ytcfhnfnhdhloiaa", sum := "bec90b542a03b765675c29f583ede57d80ae65930a2cc1c6d6360346c43f376f", func := "cento/centolaw12.PatchCopies", spec := "patchCopies", inPlace := ["internal/bytealg.IndexByteString"], unfollowed := true, recurses := true, apart := false }
def PatchCopiesSaid : Prop := patchCopiesRow.holds Try.pinned (OpenSpec.ofChange patchCopiesSpec)

/-- ITS FALSE NEIGHBOUR: 'it returns false'. Refute it at one input. -/
def patchCopiesWrong : ChangeSpec := { name := "patchCopies", fn := fun _ => fun
  | [d] => { results := [.lit (.bool false)], args := [d] }
  | _ => none }
def PatchCopiesWrongFalsely : Prop := patchCopiesRow.holds Try.pinned (OpenSpec.ofChange patchCopiesWrong)

/-- 'centolaw12.PatchSpoils': WHATEVER THE INPUT: true; the input reads as it did. -/
def patchSpoilsSpec : ChangeSpec := { name := "patchSpoils", fn := fun _ => fun
  | [d1, d2, d3] => { results := [.lit (.bool true)], args := [d1, d2, d3] }
  | _ => none }
def patchSpoilsRow : OpenClaim := { program := "ytcfhnfnhdhloiaa", sum := "bec90b542a03b765675c29f583ede57d80ae65930a2cc1c6d6360346c43f376f", func := "cento/centolaw12.PatchSpoils", spec := "patchSpoils", inPlace := ["internal/bytealg.IndexByteString"], unfollowed := true, recurses := true, apart := false }
def PatchSpoilsSaid : Prop := patchSpoilsRow.holds Try.pinned (OpenSpec.ofChange patchSpoilsSpec)

/-- ITS FALSE NEIGHBOUR: 'it returns false'. Refute it at one input. -/
def patchSpoilsWrong : ChangeSpec := { name := "patchSpoils", fn := fun _ => fun
  | [d1, d2, d3] => { results := [.lit (.bool false)], args := [d1, d2, d3] }
  | _ => none }
def PatchSpoilsWrongFalsely : Prop := patchSpoilsRow.holds Try.pinned (OpenSpec.ofChange patchSpoilsWrong)

/-- 'centolaw12.PatchIDs': WHATEVER THE INPUT: true; the input reads as it did. -/
def patchIDsSpec : ChangeSpec := { name := "patchIDs", fn := fun _ => fun
  | [d1, d2, d3, d4] => { results := [.lit (.bool true)], args := [d1, d2, d3, d4] }
  | _ => none }
def patchIDsRow : OpenClaim := { program := "ytcfhnfnhdhloiaa", sum := "bec90b542a03b765675c29f583ede57d80ae65930a2cc1c6d6360346c43f376f", func := "cento/centolaw12.PatchIDs", spec := "patchIDs", inPlace := ["internal/bytealg.IndexByteString"], unfollowed := true, recurses := true, apart := false }
def PatchIDsSaid : Prop := patchIDsRow.holds Try.pinned (OpenSpec.ofChange patchIDsSpec)

/-- ITS FALSE NEIGHBOUR: 'it returns false'. Refute it at one input. -/
def patchIDsWrong : ChangeSpec := { name := "patchIDs", fn := fun _ => fun
  | [d1, d2, d3, d4] => { results := [.lit (.bool false)], args := [d1, d2, d3, d4] }
  | _ => none }
def PatchIDsWrongFalsely : Prop := patchIDsRow.holds Try.pinned (OpenSpec.ofChange patchIDsWrong)

/- THE SECOND FORM. 'bulk': how many values and letters a reading holds, each counted each time it is reached (what is shared counts as often as it is met; a slice's spare places count too). A statement '..UptoSaid' is the law's where the arguments, and the package variables that the reading takes, are together of bulk at most 1048576: NARROWER than '..Said'. Prove '..Said' where nothing that the law and all that it calls make is longer than what came in: it says more and counts as full. Else prove '..UptoSaid'. A law counts once. -/
mutual
def uptoBulk {H : Type} : DataW H → Nat
  | .lit (.string bytes) => bytes.length + 1
  | .lit _ => 1
  | .nil => 1
  | .ptr d => uptoBulk d + 1
  | .slice elems spare => uptoBulkAll elems + uptoBulkAll spare + 1
  | .agg parts => uptoBulkAll parts + 1
  | .iface _ d => uptoBulk d + 1
  | .map entries => uptoBulkEntries entries + 1
  | .held _ => 1
def uptoBulkAll {H : Type} : List (DataW H) → Nat
  | [] => 0
  | d :: r => uptoBulk d + uptoBulkAll r
def uptoBulkEntries {H : Type} : List (Lit × DataW H) → Nat
  | [] => 0
  | x :: r => uptoBulkEntry x + uptoBulkEntries r
def uptoBulkEntry {H : Type} : Lit × DataW H → Nat
  | (.string bytes, d) => bytes.length + uptoBulk d + 1
  | (_, d) => uptoBulk d + 1
 end
def uptoSmall : (H : Type) → List (DataW H) → Bool := fun _ ds => decide (uptoBulkAll ds ≤ 1048576)
def OpenSpec.upto (s : _root_.Go.ChangeSpec) : _root_.Go.OpenSpec := { _root_.Go.OpenSpec.ofChange s with cond := some uptoSmall }

/-- 'centolaw12.PatchCopies', WHERE WHAT IT READS IS OF BULK AT MOST 1048576: true; the input reads as it did. -/
def patchCopiesUptoRow : OpenClaim := { program := "ytcfhnfnhdhloiaa", sum := "bec90b542a03b765675c29f583ede57d80ae65930a2cc1c6d6360346c43f376f", func := "cento/centolaw12.PatchCopies", spec := "patchCopies", inPlace := ["internal/bytealg.IndexByteString"], unfollowed := true, recurses := true, apart := false, narrowed := true }
def PatchCopiesUptoSaid : Prop := patchCopiesUptoRow.holds Try.pinned (OpenSpec.upto patchCopiesSpec)

/-- 'centolaw12.PatchSpoils', WHERE WHAT IT READS IS OF BULK AT MOST 1048576: true; the input reads as it did. -/
def patchSpoilsUptoRow : OpenClaim := { program := "ytcfhnfnhdhloiaa", sum := "bec90b542a03b765675c29f583ede57d80ae65930a2cc1c6d6360346c43f376f", func := "cento/centolaw12.PatchSpoils", spec := "patchSpoils", inPlace := ["internal/bytealg.IndexByteString"], unfollowed := true, recurses := true, apart := false, narrowed := true }
def PatchSpoilsUptoSaid : Prop := patchSpoilsUptoRow.holds Try.pinned (OpenSpec.upto patchSpoilsSpec)

/-- 'centolaw12.PatchIDs', WHERE WHAT IT READS IS OF BULK AT MOST 1048576: true; the input reads as it did. -/
def patchIDsUptoRow : OpenClaim := { program := "ytcfhnfnhdhloiaa", sum := "bec90b542a03b765675c29f583ede57d80ae65930a2cc1c6d6360346c43f376f", func := "cento/centolaw12.PatchIDs", spec := "patchIDs", inPlace := ["internal/bytealg.IndexByteString"], unfollowed := true, recurses := true, apart := false, narrowed := true }
def PatchIDsUptoSaid : Prop := patchIDsUptoRow.holds Try.pinned (OpenSpec.upto patchIDsSpec)

end Rows
end Go.Proofs.Ytcfhnfnhdhloiaa
