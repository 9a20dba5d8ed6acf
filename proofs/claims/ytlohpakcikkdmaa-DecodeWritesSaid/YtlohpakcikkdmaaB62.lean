/- The contract of systems. -/
import Derived.Test.YtlohpakcikkdmaaB6
namespace Go.Proofs.Ytlohpakcikkdmaa
open Go.ChangeShapes Go.WideShapes Go.ChangeAt Go.RowKit
set_option linter.unusedVariables false
set_option linter.unusedSimpArgs false
theorem zero38 : (Try.prog.info? 38).map (fun i => (i.zero, i.size)) = some (some (.agg (noughtT 25)), 100) := by kernel_rfl
theorem size_systems : (cellsT systemsL).size = 100 := by decide +kernel
theorem one_systems : (cellsT systemsL).all (·.oneCell') = true := by decide +kernel
theorem under38 : Try.prog.underlying 38 = some (.array 25 35) := by kernel_rfl
set_option maxRecDepth 100000 in
set_option maxHeartbeats 8000000 in
theorem systems_c (w : World) : Calls Try.prog 15 #[] w (RetT systemsL w) := by
  have hv36 := (zero_of_info zero38).1
  have hsc := run_storeCells_new (P := Try.prog) w 38 (noughtT 25) (cellsT systemsL) (by rw [size_systems]; exact (zero_of_info zero38).2) (by decide +kernel) one_systems
  have hld := run_loadVar_new (P := Try.prog) w 38 (cellsT systemsL) 25 35 under38 (by rw [size_systems]; exact (zero_of_info zero38).2)
  have hz : (noughtT 25).size = 100 := by decide +kernel
  have HS := Lib.hid hsc; have HL := Lib.hid hld
  clear hsc hld
  go_enter Try.func15, Try.ntmps15
  go_wp2_with fail
  generalize hC : Array.setIfInBounds _ 99 _ = C
  clear hC
  generalize hD : List.set _ 99 _ = D
  have hD' : D = (cellsT systemsL).toList := by rw [← hD]; kernel_rfl
  clear hD
  subst hD'
  simp only [HS.out, Result.andThen]
  rw [Oper.upon_skip]
  go_wp2_with fail
  refine bodyPost_ret (v := .agg (cellsT systemsL)) ?_ rfl ⟨rfl, (by repeat (first | (with_reducible first | exact Below.refl _ _ | assumption | exact Nat.le_refl _ | refine Below.drew ?_ | refine Below.alloc ?_ ?_ _ | refine Below.setCell ?_ ?_ _ | refine le_alloc ?_ | refine le_set ?_ | refine le_drew ?_ | refine below_step (by assumption) ?_ ?_ | refine le_below (by assumption) ?_) | (dsimp only; omega)))⟩
  rw [results_cell1 rfl]
  show ((loadVar 38 ⟨w.heap.size, 0, none⟩).run Try.prog (w.alloc (Obj.cells (cellsT systemsL) 38))).andThen (fun v w₂ => .ok v w₂) = _
  rw [HL.out]; rfl
end Go.Proofs.Ytlohpakcikkdmaa
