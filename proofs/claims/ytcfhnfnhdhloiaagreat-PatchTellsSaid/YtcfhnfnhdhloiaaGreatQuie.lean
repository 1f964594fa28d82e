/- Regions that draw and whose callees make memory, but yield one value in every later world: one walk serves. -/
import Derived.Test.YtcfhnfnhdhloiaaGreatBits
namespace Go.Proofs.YtcfhnfnhdhloiaaGreat
open Go.RowKit

/-- A world that came of w by new memory and draws alone. -/
structure Later (w : World) where
  at_ : World
  ok : w.grownBy at_ none

theorem region_quiet_in {P : Program} {C : World → Prop} {id : Nat} {Q : Exit → Act → World → Prop} {a : Act} {w : World} {l : List Oper} (hm : P.follows .mixedOrders = true) (hB : Region.lexB .any l.toArray = true) (hC : C { w with drawn := w.drawn + 1 })
    (h : wpQuiet P l.toArray C (fun a' => ∀ w', C w' → Q .normal a' w') l a) : (Code.region id l.toArray true).wp P Q a w :=
  wp_region_quiet hm hB hC (by simpa using h)

/-- A callee's contract that leaves all that lay, in every later world. -/
theorem later_call {P : Program} {f : FuncId} {args : Array Value} {v : Value} {w0 : World} (h : ∀ w, w0.grownBy w none → Calls P f args w fun e w' => e = .returned v ∧ w.grownBy w' none) (z : Later w0) :
    Calls P f args z.at_ fun e w' => e = .returned v ∧ ∃ z' : Later w0, w' = z'.at_ := by
  refine (h z.at_ z.ok).mono ?_
  rintro e w' ⟨rfl, hg⟩
  exact ⟨rfl, ⟨w', grownBy_trans z.ok hg⟩, rfl⟩
theorem later_one (w : World) : Nonempty (Later w) := ⟨⟨w, grownBy_refl w none⟩⟩
theorem later_drew (w : World) : ∃ z : Later w, { w with drawn := w.drawn + 1 } = z.at_ := ⟨⟨_, grownBy_drewN w 1 none⟩, rfl⟩
theorem later_cell {w : World} {a : Addr} {v : Value} (h : w.cell? a = some v) (z : Later w) : z.at_.cell? a = some v :=
  World.grownBy.cell z.ok h (by simp)

end Go.Proofs.YtcfhnfnhdhloiaaGreat
