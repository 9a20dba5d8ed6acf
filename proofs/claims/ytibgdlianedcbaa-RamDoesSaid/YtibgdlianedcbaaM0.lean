/- The RAM in plain words. -/
import Derived.Test.YtibgdlianedcbaaProg
namespace Go.Proofs.Ytibgdlianedcbaa
set_option linter.unusedVariables false
set_option linter.unusedSimpArgs false
/-- Is there a number of that size at that place? -/
def hasV (at_ : Nat) (sz : Int) : Bool := decide ((sz = 1 ∨ sz = 2 ∨ sz = 4 ∨ sz = 8) ∧ 2147483648 ≤ at_ ∧ (at_ : Int) - 2147483648 + sz ≤ 1048576)
end Go.Proofs.Ytibgdlianedcbaa
