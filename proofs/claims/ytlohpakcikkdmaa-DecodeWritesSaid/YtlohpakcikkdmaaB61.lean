/- The contract of floats. -/
import Derived.Test.YtlohpakcikkdmaaB6
namespace Go.Proofs.Ytlohpakcikkdmaa
open Go.ChangeShapes Go.WideShapes Go.ChangeAt Go.RowKit
set_option linter.unusedVariables false
set_option linter.unusedSimpArgs false
theorem zero40 : (Try.prog.info? 40).map (fun i => (i.zero, i.size)) = some (some (.agg (noughtT 26)), 104) := by kernel_rfl
theorem size_floats : (cellsT floatsL).size = 104 := by decide +kernel
theorem one_floats : (cellsT floatsL).all (·.oneCell') = true := by decide +kernel
theorem under40 : Try.prog.underlying 40 = some (.array 26 35) := by kernel_rfl
set_option maxRecDepth 100000 in
set_option maxHeartbeats 8000000 in
theorem floats_c (w : World) : Calls Try.prog 16 #[] w (RetT floatsL w) := by
  have hv36 := (zero_of_info zero40).1
  have hsc := run_storeCells_new (P := Try.prog) w 40 (noughtT 26) (cellsT floatsL) (by rw [size_floats]; exact (zero_of_info zero40).2) (by decide +kernel) one_floats
  have hld := run_loadVar_new (P := Try.prog) w 40 (cellsT floatsL) 26 35 under40 (by rw [size_floats]; exact (zero_of_info zero40).2)
  have hz : (noughtT 26).size = 104 := by decide +kernel
  have HS := Lib.hid hsc; have HL := Lib.hid hld
  clear hsc hld
  go_enter Try.func16, Try.ntmps16
  go_wp2_with fail
  generalize hC : Array.setIfInBounds _ 103 _ = C
  clear hC
  generalize hD : List.set _ 103 _ = D
  have hD' : D = (cellsT floatsL).toList := by rw [← hD]; kernel_rfl
  clear hD
  subst hD'
  simp only [HS.out, Result.andThen]
  rw [Oper.upon_skip]
  go_wp2_with fail
  refine bodyPost_ret (v := .agg (cellsT floatsL)) ?_ rfl ⟨rfl, (by repeat (first | (with_reducible first | exact Below.refl _ _ | assumption | exact Nat.le_refl _ | refine Below.drew ?_ | refine Below.alloc ?_ ?_ _ | refine Below.setCell ?_ ?_ _ | refine le_alloc ?_ | refine le_set ?_ | refine le_drew ?_ | refine below_step (by assumption) ?_ ?_ | refine le_below (by assumption) ?_) | (dsimp only; omega)))⟩
  rw [results_cell1 rfl]
  show ((loadVar 40 ⟨w.heap.size, 0, none⟩).run Try.prog (w.alloc (Obj.cells (cellsT floatsL) 40))).andThen (fun v w₂ => .ok v w₂) = _
  rw [HL.out]; rfl
end Go.Proofs.Ytlohpakcikkdmaa
