/- SoftModes: words for the walks. -/
import Derived.Test.YtcjpmmhkaacpfaaH1
import Derived.Test.YtcjpmmhkaacpfaaPFits
import Derived.Lib.QuietBelow
import Derived.Deep.QuietTactic
import Derived.BigQuiet
namespace Go.Proofs.Ytcjpmmhkaacpfaa
open Go.ChangeShapes Go.WideShapes Go.ChangeAt Go.RowKit Go.Sort
set_option linter.unusedVariables false
set_option linter.unusedSimpArgs false
theorem q_bool {W : World} {dd : Nat} {os : Array Obj} {f : FuncId} {args : Array Value} {n m : Bool} (h : n = m) (c : Calls Try.prog f args (grow (redrawn W dd) os) (RetB n (grow (redrawn W dd) os))) :
    Calls Try.prog f args (grow (redrawn W dd) os) fun e w'' => e = .returned (.bool m) ∧ ∃ p : Regrown, w'' = grow (redrawn W p.d) p.os := Calls.regrown_of (c.mono fun _ _ h' => ⟨by rw [h'.1, h], h'.2⟩)
theorem par_even {f : Int} (h : f = 0 ∨ f = 8) : bits .and .i64 f 1 = 0 := by rcases h with rfl | rfl <;> decide
theorem par_odd {f : Int} (h : f = 1 ∨ f = 3 ∨ f = 5) : bits .and .i64 f 1 = 1 := by rcases h with rfl | rfl | rfl <;> decide
theorem keyI_bd (d : Bool) (r : Nat) : -9223372036854775807 ≤ keyI d r ∧ keyI d r ≤ 9223372036854775807 := by
  have h : r % signB d < 9223372036854775808 := Nat.lt_of_lt_of_le (Nat.mod_lt _ (by cases d <;> decide)) (by cases d <;> decide)
  unfold keyI; split <;> omega
end Go.Proofs.Ytcjpmmhkaacpfaa
