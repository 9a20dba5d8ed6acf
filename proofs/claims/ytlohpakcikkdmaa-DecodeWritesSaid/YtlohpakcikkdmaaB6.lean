/- Tables as values. -/
import Derived.Deep.WholeRow
import Derived.Laws.ResultCell
import Derived.Test.YtlohpakcikkdmaaB5
namespace Go.Proofs.Ytlohpakcikkdmaa
open Go.ChangeShapes Go.WideShapes Go.ChangeAt Go.RowKit
set_option linter.unusedVariables false
set_option linter.unusedSimpArgs false
theorem results_cell1 {fn : Func} {p : Tmp} {ty : TypeId} (h : fn.results = #[.cell p ty]) (tmps : Array Value) (P : Program) (w : World) :
    (results fn tmps).run P w = ((asAddr (tmps.getD p undef)).run P w).andThen fun a w₁ => ((loadVar ty a).run P w₁).andThen fun v w₂ => .ok v w₂ := by
  simp only [results, h]
  simp only [Sem.run_bind, Result.andThen, List.mapM_toArray]
  rw [List.mapM_cons, List.mapM_nil]
  simp only [Sem.run_bind, Sem.run_map, Result.andThen]
  cases h1 : Sem.run P (asAddr (tmps.getD p undef)) w with
  | halt a b => rfl
  | ok a w1 =>
    dsimp only
    cases h2 : Sem.run P (loadVar ty a) w1 <;> rfl
/-- A table as a value. -/
def cellsT (T : List Row) : Array Value := (T.flatMap (fun r => (cellsR r).toList)).toArray
def noughtT (n : Nat) : Array Value := cellsT (List.replicate n ⟨0, 0, 0, 0⟩)
def RetT (T : List Row) (W : World) (e : Ending) (w' : World) : Prop := e = .returned (.agg (cellsT T)) ∧ Below W.heap.size W w'
end Go.Proofs.Ytlohpakcikkdmaa
