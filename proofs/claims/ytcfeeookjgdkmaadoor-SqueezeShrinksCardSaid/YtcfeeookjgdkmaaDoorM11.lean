/- Halves 8192 to 16383. -/
import Derived.Test.YtcfeeookjgdkmaaDoorM1
namespace Go.Proofs.YtcfeeookjgdkmaaDoor
set_option linter.unusedVariables false
set_option linter.unusedSimpArgs false
theorem part_8 : allB okB 10 8 = true := by decide +kernel
theorem part_9 : allB okB 10 9 = true := by decide +kernel
theorem part_10 : allB okB 10 10 = true := by decide +kernel
theorem part_11 : allB okB 10 11 = true := by decide +kernel
theorem part_12 : allB okB 10 12 = true := by decide +kernel
theorem part_13 : allB okB 10 13 = true := by decide +kernel
theorem part_14 : allB okB 10 14 = true := by decide +kernel
theorem part_15 : allB okB 10 15 = true := by decide +kernel
end Go.Proofs.YtcfeeookjgdkmaaDoor
