/-
  No cell of these rows narrows 'for every input' (looked for: loops, veiled, ifaces, maps, wideKeys, modest, calm, conditions, laid).
  DERIVED. THE GIVEN ROWS OF THIS SEAT. 3 by the template 'for every input the law returns true; each argument reads behind the call as it read before'; 0 by the template 'total and deterministic' (their statements: YtjimgihfejjilaaTotals.lean).
  GIVEN WITH THE SEED: the statements are not yours to turn. If you find one false, say at which input.
  Laid BY PROGRAM, IN A SANDBOX (cutbox-rows.mjs): the forced cells as the released guide's own fill.sh prints them over the translation 7be0f8c039ecfdb1… (all of the seat's roots in one cut). By AI agents, Wed Nov 11 2026. No macro, syntax, notation, axiom, sorry.
-/
import Derived.Test.YtjimgihfejjilaaChecked
import GoSem.Claim
import GoSem.ClaimJoined
import GoSem.ClaimMapViews
import Derived.JoinedTies
import Derived.KernelRfl
namespace Go.Proofs.Ytjimgihfejjilaa
/- THE CELL 'sum', in the pinned program and in every row, IS THE sha256 OF THE DUMP (.gsa) THAT YtjimgihfejjilaaProg.lean LOADS. Nothing in Lean hashes anything: it is a label: what it is worth is what the hold of that sum in a sandbox is worth. -/
noncomputable def Try.pinned : Pinned := { name := "ytjimgihfejjilaa", sum := "7be0f8c039ecfdb1621c6d6b379d97625e209a96774018d6b3b1693802dfcbde", checked := Try.checked }
namespace Rows
def none {H : Type} : Left H := { results := [], args := [] }

/-- 'centolaw5.ArrowTells': WHATEVER THE INPUT: true; the input reads as it did. -/
def arrowTellsSpec : ChangeSpec := { name := "arrowTells", fn := fun _ => fun
  | [d1, d2, d3, d4, d5] => { results := [.lit (.bool true)], args := [d1, d2, d3, d4, d5] }
  | _ => none }
def arrowTellsRow : OpenClaim := { program := "ytjimgihfejjilaa", sum := "7be0f8c039ecfdb1621c6d6b379d97625e209a96774018d6b3b1693802dfcbde", func := "cento/centolaw5.ArrowTells", spec := "arrowTells", unfollowed := true, recurses := true, apart := false }
def ArrowTellsSaid : Prop := arrowTellsRow.holds Try.pinned (OpenSpec.ofChange arrowTellsSpec)

/-- ITS FALSE NEIGHBOUR: 'it returns false'. Refute it at one input. -/
def arrowTellsWrong : ChangeSpec := { name := "arrowTells", fn := fun _ => fun
  | [d1, d2, d3, d4, d5] => { results := [.lit (.bool false)], args := [d1, d2, d3, d4, d5] }
  | _ => none }
def ArrowTellsWrongFalsely : Prop := arrowTellsRow.holds Try.pinned (OpenSpec.ofChange arrowTellsWrong)

/-- 'centolaw5.ArrowThen': WHATEVER THE INPUT: true; the input reads as it did. -/
def arrowThenSpec : ChangeSpec := { name := "arrowThen", fn := fun _ => fun
  | [d1, d2, d3, d4, d5] => { results := [.lit (.bool true)], args := [d1, d2, d3, d4, d5] }
  | _ => none }
def arrowThenRow : OpenClaim := { program := "ytjimgihfejjilaa", sum := "7be0f8c039ecfdb1621c6d6b379d97625e209a96774018d6b3b1693802dfcbde", func := "cento/centolaw5.ArrowThen", spec := "arrowThen", unfollowed := true, recurses := true, apart := false }
def ArrowThenSaid : Prop := arrowThenRow.holds Try.pinned (OpenSpec.ofChange arrowThenSpec)

/-- ITS FALSE NEIGHBOUR: 'it returns false'. Refute it at one input. -/
def arrowThenWrong : ChangeSpec := { name := "arrowThen", fn := fun _ => fun
  | [d1, d2, d3, d4, d5] => { results := [.lit (.bool false)], args := [d1, d2, d3, d4, d5] }
  | _ => none }
def ArrowThenWrongFalsely : Prop := arrowThenRow.holds Try.pinned (OpenSpec.ofChange arrowThenWrong)

/-- 'centolaw5.ArrowTurns': WHATEVER THE INPUT: true; the input reads as it did. -/
def arrowTurnsSpec : ChangeSpec := { name := "arrowTurns", fn := fun _ => fun
  | [d1, d2] => { results := [.lit (.bool true)], args := [d1, d2] }
  | _ => none }
def arrowTurnsRow : OpenClaim := { program := "ytjimgihfejjilaa", sum := "7be0f8c039ecfdb1621c6d6b379d97625e209a96774018d6b3b1693802dfcbde", func := "cento/centolaw5.ArrowTurns", spec := "arrowTurns", unfollowed := true, recurses := true, apart := false }
def ArrowTurnsSaid : Prop := arrowTurnsRow.holds Try.pinned (OpenSpec.ofChange arrowTurnsSpec)

/-- ITS FALSE NEIGHBOUR: 'it returns false'. Refute it at one input. -/
def arrowTurnsWrong : ChangeSpec := { name := "arrowTurns", fn := fun _ => fun
  | [d1, d2] => { results := [.lit (.bool false)], args := [d1, d2] }
  | _ => none }
def ArrowTurnsWrongFalsely : Prop := arrowTurnsRow.holds Try.pinned (OpenSpec.ofChange arrowTurnsWrong)

/- THE SECOND FORM. 'bulk': how many values and letters a reading holds, each counted each time it is reached (what is shared counts as often as it is met; a slice's spare places count too). A statement '..UptoSaid' is the law's where the arguments, and the package variables that the reading takes, are together of bulk at most 1048576: NARROWER than '..Said'. Prove '..Said' where nothing that the law and all that it calls make is longer than what came in: it says more and counts as full. Else prove '..UptoSaid'. A law counts once. -/
mutual
def uptoBulk {H : Type} : DataW H → Nat
  | .lit (.string bytes) => bytes.length + 1
  | .lit _ => 1
  | .nil => 1
  | .ptr d => uptoBulk d + 1
  | .slice elems spare => uptoBulkAll elems + uptoBulkAll spare + 1
  | .agg parts => uptoBulkAll parts + 1
  | .iface _ d => uptoBulk d + 1
  | .map entries => uptoBulkEntries entries + 1
  | .held _ => 1
def uptoBulkAll {H : Type} : List (DataW H) → Nat
  | [] => 0
  | d :: r => uptoBulk d + uptoBulkAll r
def uptoBulkEntries {H : Type} : List (Lit × DataW H) → Nat
  | [] => 0
  | x :: r => uptoBulkEntry x + uptoBulkEntries r
def uptoBulkEntry {H : Type} : Lit × DataW H → Nat
  | (.string bytes, d) => bytes.length + uptoBulk d + 1
  | (_, d) => uptoBulk d + 1
 end
def uptoSmall : (H : Type) → List (DataW H) → Bool := fun _ ds => decide (uptoBulkAll ds ≤ 1048576)
def OpenSpec.upto (s : _root_.Go.ChangeSpec) : _root_.Go.OpenSpec := { _root_.Go.OpenSpec.ofChange s with cond := some uptoSmall }

/-- 'centolaw5.ArrowTells', WHERE WHAT IT READS IS OF BULK AT MOST 1048576: true; the input reads as it did. -/
def arrowTellsUptoRow : OpenClaim := { program := "ytjimgihfejjilaa", sum := "7be0f8c039ecfdb1621c6d6b379d97625e209a96774018d6b3b1693802dfcbde", func := "cento/centolaw5.ArrowTells", spec := "arrowTells", unfollowed := true, recurses := true, apart := false, narrowed := true }
def ArrowTellsUptoSaid : Prop := arrowTellsUptoRow.holds Try.pinned (OpenSpec.upto arrowTellsSpec)

/-- 'centolaw5.ArrowThen', WHERE WHAT IT READS IS OF BULK AT MOST 1048576: true; the input reads as it did. -/
def arrowThenUptoRow : OpenClaim := { program := "ytjimgihfejjilaa", sum := "7be0f8c039ecfdb1621c6d6b379d97625e209a96774018d6b3b1693802dfcbde", func := "cento/centolaw5.ArrowThen", spec := "arrowThen", unfollowed := true, recurses := true, apart := false, narrowed := true }
def ArrowThenUptoSaid : Prop := arrowThenUptoRow.holds Try.pinned (OpenSpec.upto arrowThenSpec)

/-- 'centolaw5.ArrowTurns', WHERE WHAT IT READS IS OF BULK AT MOST 1048576: true; the input reads as it did. -/
def arrowTurnsUptoRow : OpenClaim := { program := "ytjimgihfejjilaa", sum := "7be0f8c039ecfdb1621c6d6b379d97625e209a96774018d6b3b1693802dfcbde", func := "cento/centolaw5.ArrowTurns", spec := "arrowTurns", unfollowed := true, recurses := true, apart := false, narrowed := true }
def ArrowTurnsUptoSaid : Prop := arrowTurnsUptoRow.holds Try.pinned (OpenSpec.upto arrowTurnsSpec)

end Rows
end Go.Proofs.Ytjimgihfejjilaa
