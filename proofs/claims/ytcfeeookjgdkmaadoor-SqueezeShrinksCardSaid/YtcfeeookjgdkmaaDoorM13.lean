/- Halves 24576 to 32767. -/
import Derived.Test.YtcfeeookjgdkmaaDoorM1
namespace Go.Proofs.YtcfeeookjgdkmaaDoor
set_option linter.unusedVariables false
set_option linter.unusedSimpArgs false
theorem part_24 : allB okB 10 24 = true := by decide +kernel
theorem part_25 : allB okB 10 25 = true := by decide +kernel
theorem part_26 : allB okB 10 26 = true := by decide +kernel
theorem part_27 : allB okB 10 27 = true := by decide +kernel
theorem part_28 : allB okB 10 28 = true := by decide +kernel
theorem part_29 : allB okB 10 29 = true := by decide +kernel
theorem part_30 : allB okB 10 30 = true := by decide +kernel
theorem part_31 : allB okB 10 31 = true := by decide +kernel
end Go.Proofs.YtcfeeookjgdkmaaDoor
