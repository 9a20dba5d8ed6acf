/- Halves 57344 to 65535. -/
import Derived.Test.YtcfeeookjgdkmaaDoorM1
namespace Go.Proofs.YtcfeeookjgdkmaaDoor
set_option linter.unusedVariables false
set_option linter.unusedSimpArgs false
theorem part_56 : allB okB 10 56 = true := by decide +kernel
theorem part_57 : allB okB 10 57 = true := by decide +kernel
theorem part_58 : allB okB 10 58 = true := by decide +kernel
theorem part_59 : allB okB 10 59 = true := by decide +kernel
theorem part_60 : allB okB 10 60 = true := by decide +kernel
theorem part_61 : allB okB 10 61 = true := by decide +kernel
theorem part_62 : allB okB 10 62 = true := by decide +kernel
theorem part_63 : allB okB 10 63 = true := by decide +kernel
end Go.Proofs.YtcfeeookjgdkmaaDoor
