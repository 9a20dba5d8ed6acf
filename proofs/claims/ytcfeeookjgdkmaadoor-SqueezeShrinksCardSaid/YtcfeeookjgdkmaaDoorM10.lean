/- Halves 0 to 8191. -/
import Derived.Test.YtcfeeookjgdkmaaDoorM1
namespace Go.Proofs.YtcfeeookjgdkmaaDoor
set_option linter.unusedVariables false
set_option linter.unusedSimpArgs false
theorem part_0 : allB okB 10 0 = true := by decide +kernel
theorem part_1 : allB okB 10 1 = true := by decide +kernel
theorem part_2 : allB okB 10 2 = true := by decide +kernel
theorem part_3 : allB okB 10 3 = true := by decide +kernel
theorem part_4 : allB okB 10 4 = true := by decide +kernel
theorem part_5 : allB okB 10 5 = true := by decide +kernel
theorem part_6 : allB okB 10 6 = true := by decide +kernel
theorem part_7 : allB okB 10 7 = true := by decide +kernel
end Go.Proofs.YtcfeeookjgdkmaaDoor
