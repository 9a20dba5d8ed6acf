/- The package's variable as a law's condition gives it. -/
import Derived.Test.YteeifdmnagbjeaaDoorF1
import Derived.Test.YteeifdmnagbjeaaDoorRows
import Derived.ProofKit
import Derived.OpenShut
import Derived.ChangeSame
import Derived.LaidMore
import Derived.Stop.Joined
import Derived.Deep.Strs
import Derived.Lib.LaidTab
import Derived.Lib.SmallJoins
namespace Go.Proofs.YteeifdmnagbjeaaDoor
open Go.ChangeShapes Go.WideShapes Go.ChangeAt Go.RowKit Go.WideMaps Go.WideElems Go.Joins Go.Deep Y
set_option linter.unusedVariables false
set_option linter.unusedSimpArgs false
def laidL : List (String × DataW Unit) := [("tandem/trap.order", Rows.laid_tandem_trap_order)]
theorem g0_ : Tryd.prog.globalNamed "tandem/trap.order" = some 0 := by kernel_rfl
theorem t0_ : (Tryd.prog.globals[0]?).map (·.type) = some 61 := by kernel_rfl
theorem of_laid {W : World} (h : laidMetH Tryd.prog laidL W) : G W := by
  rw [MakeChecks.laidMetH_plain _ _ _ (by kernel_rfl)] at h
  obtain ⟨ps, ⟨g0, t0, cs0, f0, p0, q0, hg0, ht0, hv0, hd0, _, _⟩, _, _⟩ := h
  obtain rfl := Option.some.inj (g0_.symm.trans hg0)
  obtain rfl := Option.some.inj (t0_.symm.trans ht0)
  have e0 : cs0.toList = ordC.toList := Lib.cells_of_tab (zs := [11, 3, 7, 9, 1, 5]) (k := .u64) (show Tryd.prog.underlying 61 = some (.array 6 22) by kernel_rfl) (show Tryd.prog.underlying 22 = some (.int .u64) by kernel_rfl) (by kernel_rfl) (by kernel_rfl) hd0
  have a0 : cs0 = ordC := Array.toList_inj.1 e0
  subst a0
  simp only [World.var?, hg0, Option.bind_some] at hv0
  unfold G
  generalize hh : W.heap[0]? = ob at hv0
  match ob, hv0 with
  | some (.cells cs t fr), hv => exact ⟨t, fr, by rw [Option.some.inj hv]⟩
theorem door_met (os : Os) (args : Array Value) : laidMetH Tryd.prog laidL ((World.doorLaid Tryd.prog 400 os).forCall (fun _ _ => 0) ⟨#[], args, []⟩).memory :=
  laidMetH_of_parts3 (fuel := 8) (laidMet_of_run' 8 (by kernel_rfl) (by kernel_rfl)) (by kernel_rfl) (by kernel_rfl)
end Go.Proofs.YteeifdmnagbjeaaDoor
