/- The contract of wholes. -/
import Derived.Test.YtlohpakcikkdmaaB6
namespace Go.Proofs.Ytlohpakcikkdmaa
open Go.ChangeShapes Go.WideShapes Go.ChangeAt Go.RowKit
set_option linter.unusedVariables false
set_option linter.unusedSimpArgs false
theorem zero36 : (Try.prog.info? 36).map (fun i => (i.zero, i.size)) = some (some (.agg (noughtT 44)), 176) := by kernel_rfl
theorem size_wholes : (cellsT wholesL).size = 176 := by decide +kernel
theorem one_wholes : (cellsT wholesL).all (·.oneCell') = true := by decide +kernel
theorem under36 : Try.prog.underlying 36 = some (.array 44 35) := by kernel_rfl
set_option maxRecDepth 100000 in
set_option maxHeartbeats 8000000 in
theorem wholes_c (w : World) : Calls Try.prog 14 #[] w (RetT wholesL w) := by
  have hv36 := (zero_of_info zero36).1
  have hsc := run_storeCells_new (P := Try.prog) w 36 (noughtT 44) (cellsT wholesL) (by rw [size_wholes]; exact (zero_of_info zero36).2) (by decide +kernel) one_wholes
  have hld := run_loadVar_new (P := Try.prog) w 36 (cellsT wholesL) 44 35 under36 (by rw [size_wholes]; exact (zero_of_info zero36).2)
  have hz : (noughtT 44).size = 176 := by decide +kernel
  have HS := Lib.hid hsc; have HL := Lib.hid hld
  clear hsc hld
  go_enter Try.func14, Try.ntmps14
  go_wp2_with fail
  generalize hC : Array.setIfInBounds _ 175 _ = C
  clear hC
  generalize hD : List.set _ 175 _ = D
  have hD' : D = (cellsT wholesL).toList := by rw [← hD]; kernel_rfl
  clear hD
  subst hD'
  simp only [HS.out, Result.andThen]
  rw [Oper.upon_skip]
  go_wp2_with fail
  refine bodyPost_ret (v := .agg (cellsT wholesL)) ?_ rfl ⟨rfl, (by repeat (first | (with_reducible first | exact Below.refl _ _ | assumption | exact Nat.le_refl _ | refine Below.drew ?_ | refine Below.alloc ?_ ?_ _ | refine Below.setCell ?_ ?_ _ | refine le_alloc ?_ | refine le_set ?_ | refine le_drew ?_ | refine below_step (by assumption) ?_ ?_ | refine le_below (by assumption) ?_) | (dsimp only; omega)))⟩
  rw [results_cell1 rfl]
  show ((loadVar 36 ⟨w.heap.size, 0, none⟩).run Try.prog (w.alloc (Obj.cells (cellsT wholesL) 36))).andThen (fun v w₂ => .ok v w₂) = _
  rw [HL.out]; rfl
end Go.Proofs.Ytlohpakcikkdmaa
