/- Halves 32768 to 40959. -/
import Derived.Test.YtcfeeookjgdkmaaDoorM1
namespace Go.Proofs.YtcfeeookjgdkmaaDoor
set_option linter.unusedVariables false
set_option linter.unusedSimpArgs false
theorem part_32 : allB okB 10 32 = true := by decide +kernel
theorem part_33 : allB okB 10 33 = true := by decide +kernel
theorem part_34 : allB okB 10 34 = true := by decide +kernel
theorem part_35 : allB okB 10 35 = true := by decide +kernel
theorem part_36 : allB okB 10 36 = true := by decide +kernel
theorem part_37 : allB okB 10 37 = true := by decide +kernel
theorem part_38 : allB okB 10 38 = true := by decide +kernel
theorem part_39 : allB okB 10 39 = true := by decide +kernel
end Go.Proofs.YtcfeeookjgdkmaaDoor
