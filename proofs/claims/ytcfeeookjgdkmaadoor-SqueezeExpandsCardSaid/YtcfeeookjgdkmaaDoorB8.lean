/- The contract of rows: the table as an array in memory. -/
import Derived.Deep.WholeRow
import Derived.Laws.ResultCell
import Derived.Test.YtcfeeookjgdkmaaDoorB7
namespace Go.Proofs.YtcfeeookjgdkmaaDoor
open Go.ChangeShapes Go.WideShapes Go.ChangeAt Go.RowKit
set_option linter.unusedVariables false
set_option linter.unusedSimpArgs false
theorem results_cell1 {fn : Func} {p : Tmp} {ty : TypeId} (h : fn.results = #[.cell p ty]) (tmps : Array Value) (P : Program) (w : World) :
    (results fn tmps).run P w = ((asAddr (tmps.getD p undef)).run P w).andThen fun a w₁ => ((loadVar ty a).run P w₁).andThen fun v w₂ => .ok v w₂ := by
  simp only [results, h]
  simp only [Sem.run_bind, Result.andThen, List.mapM_toArray]
  rw [List.mapM_cons, List.mapM_nil]
  simp only [Sem.run_bind, Sem.run_map, Result.andThen]
  cases h1 : Sem.run P (asAddr (tmps.getD p undef)) w with
  | halt a b => rfl
  | ok a w1 =>
    dsimp only
    cases h2 : Sem.run P (loadVar ty a) w1 <;> rfl
/-- A table as a value. -/
def cellsT (T : List SRow) : Array Value := (T.flatMap (fun r => (cellsS r).toList)).toArray
def noughtT (n : Nat) : Array Value := cellsT (List.replicate n ⟨0, 0, 0, 0, 0, 0, 0⟩)
def RetT (T : List SRow) (W : World) (e : Ending) (w' : World) : Prop := e = .returned (.agg (cellsT T)) ∧ Below W.heap.size W w'
theorem zero35 : (Tryd.prog.info? 35).map (fun i => (i.zero, i.size)) = some (some (.agg (noughtT 36)), 252) := by kernel_rfl
theorem size_rows : (cellsT rowsL).size = 252 := by decide +kernel
theorem one_rows : (cellsT rowsL).all (·.oneCell') = true := by decide +kernel
theorem under35 : Tryd.prog.underlying 35 = some (.array 36 34) := by kernel_rfl
set_option maxRecDepth 100000 in
set_option maxHeartbeats 8000000 in
theorem rows_c (w : World) : Calls Tryd.prog 14 #[] w (RetT rowsL w) := by
  have hv36 := (zero_of_info zero35).1
  have hsc := run_storeCells_new (P := Tryd.prog) w 35 (noughtT 36) (cellsT rowsL) (by rw [size_rows]; exact (zero_of_info zero35).2) (by decide +kernel) one_rows
  have hld := run_loadVar_new (P := Tryd.prog) w 35 (cellsT rowsL) 36 34 under35 (by rw [size_rows]; exact (zero_of_info zero35).2)
  have hz : (noughtT 36).size = 252 := by decide +kernel
  have HS := Lib.hid hsc; have HL := Lib.hid hld
  clear hsc hld
  go_enter Tryd.func14, Tryd.ntmps14
  go_wp2_with fail
  generalize hC : Array.setIfInBounds _ 251 _ = C
  clear hC
  generalize hD : List.set _ 251 _ = D
  have hD' : D = (cellsT rowsL).toList := by rw [← hD]; kernel_rfl
  clear hD
  subst hD'
  simp only [HS.out, Result.andThen]
  rw [Oper.upon_skip]
  go_wp2_with fail
  refine bodyPost_ret (v := .agg (cellsT rowsL)) ?_ rfl ⟨rfl, (by repeat (first | (with_reducible first | exact Below.refl _ _ | assumption | exact Nat.le_refl _ | refine Below.drew ?_ | refine Below.alloc ?_ ?_ _ | refine Below.setCell ?_ ?_ _ | refine le_alloc ?_ | refine le_set ?_ | refine le_drew ?_ | refine below_step (by assumption) ?_ ?_ | refine le_below (by assumption) ?_) | (dsimp only; omega)))⟩
  rw [results_cell1 rfl]
  show ((loadVar 35 ⟨w.heap.size, 0, none⟩).run Tryd.prog (w.alloc (Obj.cells (cellsT rowsL) 35))).andThen (fun v w₂ => .ok v w₂) = _
  rw [HL.out]; rfl
end Go.Proofs.YtcfeeookjgdkmaaDoor
