/- Halves 49152 to 57343. -/
import Derived.Test.YtcfeeookjgdkmaaDoorM1
namespace Go.Proofs.YtcfeeookjgdkmaaDoor
set_option linter.unusedVariables false
set_option linter.unusedSimpArgs false
theorem part_48 : allB okB 10 48 = true := by decide +kernel
theorem part_49 : allB okB 10 49 = true := by decide +kernel
theorem part_50 : allB okB 10 50 = true := by decide +kernel
theorem part_51 : allB okB 10 51 = true := by decide +kernel
theorem part_52 : allB okB 10 52 = true := by decide +kernel
theorem part_53 : allB okB 10 53 = true := by decide +kernel
theorem part_54 : allB okB 10 54 = true := by decide +kernel
theorem part_55 : allB okB 10 55 = true := by decide +kernel
end Go.Proofs.YtcfeeookjgdkmaaDoor
