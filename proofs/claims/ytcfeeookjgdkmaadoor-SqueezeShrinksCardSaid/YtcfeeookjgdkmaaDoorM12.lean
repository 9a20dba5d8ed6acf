/- Halves 16384 to 24575. -/
import Derived.Test.YtcfeeookjgdkmaaDoorM1
namespace Go.Proofs.YtcfeeookjgdkmaaDoor
set_option linter.unusedVariables false
set_option linter.unusedSimpArgs false
theorem part_16 : allB okB 10 16 = true := by decide +kernel
theorem part_17 : allB okB 10 17 = true := by decide +kernel
theorem part_18 : allB okB 10 18 = true := by decide +kernel
theorem part_19 : allB okB 10 19 = true := by decide +kernel
theorem part_20 : allB okB 10 20 = true := by decide +kernel
theorem part_21 : allB okB 10 21 = true := by decide +kernel
theorem part_22 : allB okB 10 22 = true := by decide +kernel
theorem part_23 : allB okB 10 23 = true := by decide +kernel
end Go.Proofs.YtcfeeookjgdkmaaDoor
