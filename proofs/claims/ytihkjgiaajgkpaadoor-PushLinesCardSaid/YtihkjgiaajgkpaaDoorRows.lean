/-
  NARROWER THAN 'FOR EVERY INPUT', by the rows' own cells (each row's printed sentence says how): PushTells: laid · PushSums: laid · PushSquare: laid · PushSame: laid · PushLines: laid · PushCircles: laid · PushEquals: laid.
  DERIVED. THE GIVEN ROWS OF THIS SEAT. 7 by the template 'for every input the law returns true; each argument reads behind the call as it read before'; 0 by the template 'total and deterministic' (their statements: YtihkjgiaajgkpaaDoorTotals.lean).
  GIVEN WITH THE SEED: the statements are not yours to turn. If you find one false, say at which input.
  Laid BY PROGRAM, IN A SANDBOX (cutbox-rows.mjs): the forced cells as the released guide's own fill.sh prints them over the translation 33480b7c8d4ccd52… (all of the seat's roots in one cut). By AI agents, Wed Nov 11 2026. No macro, syntax, notation, axiom, sorry.
-/
import Derived.Test.YtihkjgiaajgkpaaDoorChecked
import GoSem.Claim
import GoSem.ClaimJoined
import GoSem.ClaimMapViews
import Derived.JoinedTies
import Derived.KernelRfl
namespace Go.Proofs.YtihkjgiaajgkpaaDoor
/- THE CELL 'sum', in the pinned program and in every row, IS THE sha256 OF THE DUMP (.gsa) THAT YtihkjgiaajgkpaaDoorProg.lean LOADS. Nothing in Lean hashes anything: it is a label: what it is worth is what the hold of that sum in a sandbox is worth. -/
noncomputable def Tryd.pinned : Pinned := { name := "ytihkjgiaajgkpaadoor", sum := "33480b7c8d4ccd52dac5886fbf2b756efa6925ee86393a517c1ecc8d785217e1", checked := Tryd.checked }
namespace Rows
def none {H : Type} : Left H := { results := [], args := [] }

/- WHAT THE LISTED PACKAGE-LEVEL VARIABLES READ AS WHEN THE CALL BEGINS. Each datum BY PROGRAM (the guide's laid-datum.mjs) off the statement by which the dump's own 'gosem.cut.vars' lays the variable. In a bare row this is a premise. The card (YtihkjgiaajgkpaaDoorCards.lean) ties it to the program's text. -/
def laid_math_bits_deBruijn64tab {H : Type} : DataW H := .agg [.lit (.int .u8 0), .lit (.int .u8 1), .lit (.int .u8 56), .lit (.int .u8 2), .lit (.int .u8 57), .lit (.int .u8 49), .lit (.int .u8 28), .lit (.int .u8 3), .lit (.int .u8 61), .lit (.int .u8 58), .lit (.int .u8 42), .lit (.int .u8 50), .lit (.int .u8 38), .lit (.int .u8 29), .lit (.int .u8 17), .lit (.int .u8 4), .lit (.int .u8 62), .lit (.int .u8 47), .lit (.int .u8 59), .lit (.int .u8 36), .lit (.int .u8 45), .lit (.int .u8 43), .lit (.int .u8 51), .lit (.int .u8 22), .lit (.int .u8 53), .lit (.int .u8 39), .lit (.int .u8 33), .lit (.int .u8 30), .lit (.int .u8 24), .lit (.int .u8 18), .lit (.int .u8 12), .lit (.int .u8 5), .lit (.int .u8 63), .lit (.int .u8 55), .lit (.int .u8 48), .lit (.int .u8 27), .lit (.int .u8 60), .lit (.int .u8 41), .lit (.int .u8 37), .lit (.int .u8 16), .lit (.int .u8 46), .lit (.int .u8 35), .lit (.int .u8 44), .lit (.int .u8 21), .lit (.int .u8 52), .lit (.int .u8 32), .lit (.int .u8 23), .lit (.int .u8 11), .lit (.int .u8 54), .lit (.int .u8 26), .lit (.int .u8 40), .lit (.int .u8 15), .lit (.int .u8 34), .lit (.int .u8 20), .lit (.int .u8 31), .lit (.int .u8 10), .lit (.int .u8 25), .lit (.int .u8 14), .lit (.int .u8 19), .lit (.int .u8 9), .lit (.int .u8 13), .lit (.int .u8 8), .lit (.int .u8 7), .lit (.int .u8 6)]

/-- 'centolaw7.PushTells': WHATEVER THE INPUT: true; the input reads as it did. -/
def pushTellsSpec : ChangeSpec := { name := "pushTells", fn := fun _ => fun
  | [d1, d2, d3, d4, d5] => { results := [.lit (.bool true)], args := [d1, d2, d3, d4, d5] }
  | _ => none }
def pushTellsRow : OpenClaim := { program := "ytihkjgiaajgkpaadoor", sum := "33480b7c8d4ccd52dac5886fbf2b756efa6925ee86393a517c1ecc8d785217e1", func := "cento/centolaw7.PushTells", spec := "pushTells", unfollowed := true, recurses := true, named := ["math/bits.deBruijn64tab"], apart := false, laid := [("math/bits.deBruijn64tab", laid_math_bits_deBruijn64tab)] }
def PushTellsSaid : Prop := pushTellsRow.holds Tryd.pinned (OpenSpec.ofChange pushTellsSpec)

/-- ITS FALSE NEIGHBOUR: 'it returns false'. Refute it at one input. -/
def pushTellsWrong : ChangeSpec := { name := "pushTells", fn := fun _ => fun
  | [d1, d2, d3, d4, d5] => { results := [.lit (.bool false)], args := [d1, d2, d3, d4, d5] }
  | _ => none }
def PushTellsWrongFalsely : Prop := pushTellsRow.holds Tryd.pinned (OpenSpec.ofChange pushTellsWrong)

/-- 'centolaw7.PushSums': WHATEVER THE INPUT: true; the input reads as it did. -/
def pushSumsSpec : ChangeSpec := { name := "pushSums", fn := fun _ => fun
  | [d1, d2, d3, d4] => { results := [.lit (.bool true)], args := [d1, d2, d3, d4] }
  | _ => none }
def pushSumsRow : OpenClaim := { program := "ytihkjgiaajgkpaadoor", sum := "33480b7c8d4ccd52dac5886fbf2b756efa6925ee86393a517c1ecc8d785217e1", func := "cento/centolaw7.PushSums", spec := "pushSums", unfollowed := true, recurses := true, named := ["math/bits.deBruijn64tab"], apart := false, laid := [("math/bits.deBruijn64tab", laid_math_bits_deBruijn64tab)] }
def PushSumsSaid : Prop := pushSumsRow.holds Tryd.pinned (OpenSpec.ofChange pushSumsSpec)

/-- ITS FALSE NEIGHBOUR: 'it returns false'. Refute it at one input. -/
def pushSumsWrong : ChangeSpec := { name := "pushSums", fn := fun _ => fun
  | [d1, d2, d3, d4] => { results := [.lit (.bool false)], args := [d1, d2, d3, d4] }
  | _ => none }
def PushSumsWrongFalsely : Prop := pushSumsRow.holds Tryd.pinned (OpenSpec.ofChange pushSumsWrong)

/-- 'centolaw7.PushSquare': WHATEVER THE INPUT: true; the input reads as it did. -/
def pushSquareSpec : ChangeSpec := { name := "pushSquare", fn := fun _ => fun
  | [d1, d2, d3, d4, d5] => { results := [.lit (.bool true)], args := [d1, d2, d3, d4, d5] }
  | _ => none }
def pushSquareRow : OpenClaim := { program := "ytihkjgiaajgkpaadoor", sum := "33480b7c8d4ccd52dac5886fbf2b756efa6925ee86393a517c1ecc8d785217e1", func := "cento/centolaw7.PushSquare", spec := "pushSquare", unfollowed := true, recurses := true, named := ["math/bits.deBruijn64tab"], apart := false, laid := [("math/bits.deBruijn64tab", laid_math_bits_deBruijn64tab)] }
def PushSquareSaid : Prop := pushSquareRow.holds Tryd.pinned (OpenSpec.ofChange pushSquareSpec)

/-- ITS FALSE NEIGHBOUR: 'it returns false'. Refute it at one input. -/
def pushSquareWrong : ChangeSpec := { name := "pushSquare", fn := fun _ => fun
  | [d1, d2, d3, d4, d5] => { results := [.lit (.bool false)], args := [d1, d2, d3, d4, d5] }
  | _ => none }
def PushSquareWrongFalsely : Prop := pushSquareRow.holds Tryd.pinned (OpenSpec.ofChange pushSquareWrong)

/-- 'centolaw7.PushSame': WHATEVER THE INPUT: true; the input reads as it did. -/
def pushSameSpec : ChangeSpec := { name := "pushSame", fn := fun _ => fun
  | [d1, d2, d3] => { results := [.lit (.bool true)], args := [d1, d2, d3] }
  | _ => none }
def pushSameRow : OpenClaim := { program := "ytihkjgiaajgkpaadoor", sum := "33480b7c8d4ccd52dac5886fbf2b756efa6925ee86393a517c1ecc8d785217e1", func := "cento/centolaw7.PushSame", spec := "pushSame", unfollowed := true, recurses := true, named := ["math/bits.deBruijn64tab"], apart := false, laid := [("math/bits.deBruijn64tab", laid_math_bits_deBruijn64tab)] }
def PushSameSaid : Prop := pushSameRow.holds Tryd.pinned (OpenSpec.ofChange pushSameSpec)

/-- ITS FALSE NEIGHBOUR: 'it returns false'. Refute it at one input. -/
def pushSameWrong : ChangeSpec := { name := "pushSame", fn := fun _ => fun
  | [d1, d2, d3] => { results := [.lit (.bool false)], args := [d1, d2, d3] }
  | _ => none }
def PushSameWrongFalsely : Prop := pushSameRow.holds Tryd.pinned (OpenSpec.ofChange pushSameWrong)

/-- 'centolaw7.PushLines': WHATEVER THE INPUT: true; the input reads as it did. -/
def pushLinesSpec : ChangeSpec := { name := "pushLines", fn := fun _ => fun
  | [d1, d2] => { results := [.lit (.bool true)], args := [d1, d2] }
  | _ => none }
def pushLinesRow : OpenClaim := { program := "ytihkjgiaajgkpaadoor", sum := "33480b7c8d4ccd52dac5886fbf2b756efa6925ee86393a517c1ecc8d785217e1", func := "cento/centolaw7.PushLines", spec := "pushLines", unfollowed := true, recurses := true, named := ["math/bits.deBruijn64tab"], apart := false, laid := [("math/bits.deBruijn64tab", laid_math_bits_deBruijn64tab)] }
def PushLinesSaid : Prop := pushLinesRow.holds Tryd.pinned (OpenSpec.ofChange pushLinesSpec)

/-- ITS FALSE NEIGHBOUR: 'it returns false'. Refute it at one input. -/
def pushLinesWrong : ChangeSpec := { name := "pushLines", fn := fun _ => fun
  | [d1, d2] => { results := [.lit (.bool false)], args := [d1, d2] }
  | _ => none }
def PushLinesWrongFalsely : Prop := pushLinesRow.holds Tryd.pinned (OpenSpec.ofChange pushLinesWrong)

/-- 'centolaw7.PushCircles': WHATEVER THE INPUT: true; the input reads as it did. -/
def pushCirclesSpec : ChangeSpec := { name := "pushCircles", fn := fun _ => fun
  | [d] => { results := [.lit (.bool true)], args := [d] }
  | _ => none }
def pushCirclesRow : OpenClaim := { program := "ytihkjgiaajgkpaadoor", sum := "33480b7c8d4ccd52dac5886fbf2b756efa6925ee86393a517c1ecc8d785217e1", func := "cento/centolaw7.PushCircles", spec := "pushCircles", unfollowed := true, recurses := true, named := ["math/bits.deBruijn64tab"], apart := false, laid := [("math/bits.deBruijn64tab", laid_math_bits_deBruijn64tab)] }
def PushCirclesSaid : Prop := pushCirclesRow.holds Tryd.pinned (OpenSpec.ofChange pushCirclesSpec)

/-- ITS FALSE NEIGHBOUR: 'it returns false'. Refute it at one input. -/
def pushCirclesWrong : ChangeSpec := { name := "pushCircles", fn := fun _ => fun
  | [d] => { results := [.lit (.bool false)], args := [d] }
  | _ => none }
def PushCirclesWrongFalsely : Prop := pushCirclesRow.holds Tryd.pinned (OpenSpec.ofChange pushCirclesWrong)

/-- 'centolaw7.PushEquals': WHATEVER THE INPUT: true; the input reads as it did. -/
def pushEqualsSpec : ChangeSpec := { name := "pushEquals", fn := fun _ => fun
  | [d1, d2, d3] => { results := [.lit (.bool true)], args := [d1, d2, d3] }
  | _ => none }
def pushEqualsRow : OpenClaim := { program := "ytihkjgiaajgkpaadoor", sum := "33480b7c8d4ccd52dac5886fbf2b756efa6925ee86393a517c1ecc8d785217e1", func := "cento/centolaw7.PushEquals", spec := "pushEquals", unfollowed := true, recurses := true, named := ["math/bits.deBruijn64tab"], apart := false, laid := [("math/bits.deBruijn64tab", laid_math_bits_deBruijn64tab)] }
def PushEqualsSaid : Prop := pushEqualsRow.holds Tryd.pinned (OpenSpec.ofChange pushEqualsSpec)

/-- ITS FALSE NEIGHBOUR: 'it returns false'. Refute it at one input. -/
def pushEqualsWrong : ChangeSpec := { name := "pushEquals", fn := fun _ => fun
  | [d1, d2, d3] => { results := [.lit (.bool false)], args := [d1, d2, d3] }
  | _ => none }
def PushEqualsWrongFalsely : Prop := pushEqualsRow.holds Tryd.pinned (OpenSpec.ofChange pushEqualsWrong)

/- THE SECOND FORM. 'bulk': how many values and letters a reading holds, each counted each time it is reached (what is shared counts as often as it is met; a slice's spare places count too). A statement '..UptoSaid' is the law's where the arguments, and the package variables that the reading takes, are together of bulk at most 1048576: NARROWER than '..Said'. Prove '..Said' where nothing that the law and all that it calls make is longer than what came in: it says more and counts as full. Else prove '..UptoSaid'. A law counts once. -/
mutual
def uptoBulk {H : Type} : DataW H → Nat
  | .lit (.string bytes) => bytes.length + 1
  | .lit _ => 1
  | .nil => 1
  | .ptr d => uptoBulk d + 1
  | .slice elems spare => uptoBulkAll elems + uptoBulkAll spare + 1
  | .agg parts => uptoBulkAll parts + 1
  | .iface _ d => uptoBulk d + 1
  | .map entries => uptoBulkEntries entries + 1
  | .held _ => 1
def uptoBulkAll {H : Type} : List (DataW H) → Nat
  | [] => 0
  | d :: r => uptoBulk d + uptoBulkAll r
def uptoBulkEntries {H : Type} : List (Lit × DataW H) → Nat
  | [] => 0
  | x :: r => uptoBulkEntry x + uptoBulkEntries r
def uptoBulkEntry {H : Type} : Lit × DataW H → Nat
  | (.string bytes, d) => bytes.length + uptoBulk d + 1
  | (_, d) => uptoBulk d + 1
 end
def uptoSmall : (H : Type) → List (DataW H) → Bool := fun _ ds => decide (uptoBulkAll ds ≤ 1048576)
def OpenSpec.upto (s : _root_.Go.ChangeSpec) : _root_.Go.OpenSpec := { _root_.Go.OpenSpec.ofChange s with cond := some uptoSmall }

/-- 'centolaw7.PushTells', WHERE WHAT IT READS IS OF BULK AT MOST 1048576: true; the input reads as it did. -/
def pushTellsUptoRow : OpenClaim := { program := "ytihkjgiaajgkpaadoor", sum := "33480b7c8d4ccd52dac5886fbf2b756efa6925ee86393a517c1ecc8d785217e1", func := "cento/centolaw7.PushTells", spec := "pushTells", unfollowed := true, recurses := true, named := ["math/bits.deBruijn64tab"], apart := false, laid := [("math/bits.deBruijn64tab", laid_math_bits_deBruijn64tab)], narrowed := true }
def PushTellsUptoSaid : Prop := pushTellsUptoRow.holds Tryd.pinned (OpenSpec.upto pushTellsSpec)

/-- 'centolaw7.PushSums', WHERE WHAT IT READS IS OF BULK AT MOST 1048576: true; the input reads as it did. -/
def pushSumsUptoRow : OpenClaim := { program := "ytihkjgiaajgkpaadoor", sum := "33480b7c8d4ccd52dac5886fbf2b756efa6925ee86393a517c1ecc8d785217e1", func := "cento/centolaw7.PushSums", spec := "pushSums", unfollowed := true, recurses := true, named := ["math/bits.deBruijn64tab"], apart := false, laid := [("math/bits.deBruijn64tab", laid_math_bits_deBruijn64tab)], narrowed := true }
def PushSumsUptoSaid : Prop := pushSumsUptoRow.holds Tryd.pinned (OpenSpec.upto pushSumsSpec)

/-- 'centolaw7.PushSquare', WHERE WHAT IT READS IS OF BULK AT MOST 1048576: true; the input reads as it did. -/
def pushSquareUptoRow : OpenClaim := { program := "ytihkjgiaajgkpaadoor", sum := "33480b7c8d4ccd52dac5886fbf2b756efa6925ee86393a517c1ecc8d785217e1", func := "cento/centolaw7.PushSquare", spec := "pushSquare", unfollowed := true, recurses := true, named := ["math/bits.deBruijn64tab"], apart := false, laid := [("math/bits.deBruijn64tab", laid_math_bits_deBruijn64tab)], narrowed := true }
def PushSquareUptoSaid : Prop := pushSquareUptoRow.holds Tryd.pinned (OpenSpec.upto pushSquareSpec)

/-- 'centolaw7.PushSame', WHERE WHAT IT READS IS OF BULK AT MOST 1048576: true; the input reads as it did. -/
def pushSameUptoRow : OpenClaim := { program := "ytihkjgiaajgkpaadoor", sum := "33480b7c8d4ccd52dac5886fbf2b756efa6925ee86393a517c1ecc8d785217e1", func := "cento/centolaw7.PushSame", spec := "pushSame", unfollowed := true, recurses := true, named := ["math/bits.deBruijn64tab"], apart := false, laid := [("math/bits.deBruijn64tab", laid_math_bits_deBruijn64tab)], narrowed := true }
def PushSameUptoSaid : Prop := pushSameUptoRow.holds Tryd.pinned (OpenSpec.upto pushSameSpec)

/-- 'centolaw7.PushLines', WHERE WHAT IT READS IS OF BULK AT MOST 1048576: true; the input reads as it did. -/
def pushLinesUptoRow : OpenClaim := { program := "ytihkjgiaajgkpaadoor", sum := "33480b7c8d4ccd52dac5886fbf2b756efa6925ee86393a517c1ecc8d785217e1", func := "cento/centolaw7.PushLines", spec := "pushLines", unfollowed := true, recurses := true, named := ["math/bits.deBruijn64tab"], apart := false, laid := [("math/bits.deBruijn64tab", laid_math_bits_deBruijn64tab)], narrowed := true }
def PushLinesUptoSaid : Prop := pushLinesUptoRow.holds Tryd.pinned (OpenSpec.upto pushLinesSpec)

/-- 'centolaw7.PushCircles', WHERE WHAT IT READS IS OF BULK AT MOST 1048576: true; the input reads as it did. -/
def pushCirclesUptoRow : OpenClaim := { program := "ytihkjgiaajgkpaadoor", sum := "33480b7c8d4ccd52dac5886fbf2b756efa6925ee86393a517c1ecc8d785217e1", func := "cento/centolaw7.PushCircles", spec := "pushCircles", unfollowed := true, recurses := true, named := ["math/bits.deBruijn64tab"], apart := false, laid := [("math/bits.deBruijn64tab", laid_math_bits_deBruijn64tab)], narrowed := true }
def PushCirclesUptoSaid : Prop := pushCirclesUptoRow.holds Tryd.pinned (OpenSpec.upto pushCirclesSpec)

/-- 'centolaw7.PushEquals', WHERE WHAT IT READS IS OF BULK AT MOST 1048576: true; the input reads as it did. -/
def pushEqualsUptoRow : OpenClaim := { program := "ytihkjgiaajgkpaadoor", sum := "33480b7c8d4ccd52dac5886fbf2b756efa6925ee86393a517c1ecc8d785217e1", func := "cento/centolaw7.PushEquals", spec := "pushEquals", unfollowed := true, recurses := true, named := ["math/bits.deBruijn64tab"], apart := false, laid := [("math/bits.deBruijn64tab", laid_math_bits_deBruijn64tab)], narrowed := true }
def PushEqualsUptoSaid : Prop := pushEqualsUptoRow.holds Tryd.pinned (OpenSpec.upto pushEqualsSpec)

end Rows
end Go.Proofs.YtihkjgiaajgkpaaDoor
