/- Halves 40960 to 49151. -/
import Derived.Test.YtcfeeookjgdkmaaDoorM1
namespace Go.Proofs.YtcfeeookjgdkmaaDoor
set_option linter.unusedVariables false
set_option linter.unusedSimpArgs false
theorem part_40 : allB okB 10 40 = true := by decide +kernel
theorem part_41 : allB okB 10 41 = true := by decide +kernel
theorem part_42 : allB okB 10 42 = true := by decide +kernel
theorem part_43 : allB okB 10 43 = true := by decide +kernel
theorem part_44 : allB okB 10 44 = true := by decide +kernel
theorem part_45 : allB okB 10 45 = true := by decide +kernel
theorem part_46 : allB okB 10 46 = true := by decide +kernel
theorem part_47 : allB okB 10 47 = true := by decide +kernel
end Go.Proofs.YtcfeeookjgdkmaaDoor
