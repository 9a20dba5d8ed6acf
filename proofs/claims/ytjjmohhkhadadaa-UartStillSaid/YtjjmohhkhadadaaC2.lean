/- The walk of UartStill. -/
import Derived.Test.YtjjmohhkhadadaaC1
namespace Go.Proofs.Ytjjmohhkhadadaa
open Go.ChangeShapes Go.WideShapes Go.ChangeAt Go.RowKit
set_option linter.unusedVariables false
set_option linter.unusedSimpArgs false
/-- Both stand alike. -/
def Same (w0 : World) (b o : Nat) (w : World) : Prop := ∃ U, U.sent = [120] ∧ All w0 [eU b U, eU o U] w
def stillF (R : Nat → Nat) (n : Nat) : Ur := { roomF R n with scr := 90, sent := [120] }
theorem wr_no (k v : Nat) (U : Ur) (h : k ≠ 1 ∧ k ≠ 2 ∧ k ≠ 8) : wrK k U v = U := by unfold wrK; rw [if_neg h.1, if_neg h.2.1, if_neg h.2.2]
theorem next_no (k : Nat) (U : Ur) (h : k ≠ 1 ∧ k ≠ 6) : nextK k U = U := by unfold nextK; rw [if_neg h.1, if_neg h.2]
theorem lt9 (k : Nat) (h : k < 9) : k = 0 ∨ k = 1 ∨ k = 2 ∨ k = 3 ∨ k = 4 ∨ k = 5 ∨ k = 6 ∨ k = 7 ∨ k = 8 := by omega
set_option maxRecDepth 100000 in
theorem still_e0 (w : World) (s : Value) (v : Nat) : Calls Try.prog 6 #[s, .int .u64 0, .int .i64 1, .int .u64 v] w (RetB true w) := by
  go_enter Try.func6, Try.ntmps6
  go_wp2_with fail
  refine (fixed_c w).mono ?_; rintro e w1 ⟨rfl, hb1⟩
  go_wp2_with fail
  go_ret
  exact retB_mk rfl hb1
set_option maxRecDepth 100000 in
theorem still_e1 (w : World) (s : Value) (v : Nat) : Calls Try.prog 6 #[s, .int .u64 1, .int .i64 1, .int .u64 v] w (RetB true w) := by
  go_enter Try.func6, Try.ntmps6
  go_wp2_with fail
  refine (fixed_c w).mono ?_; rintro e w1 ⟨rfl, hb1⟩
  go_wp2_with fail
  go_ret
  exact retB_mk rfl hb1
set_option maxRecDepth 100000 in
theorem still_e7 (w : World) (s : Value) (v : Nat) : Calls Try.prog 6 #[s, .int .u64 7, .int .i64 1, .int .u64 v] w (RetB true w) := by
  go_enter Try.func6, Try.ntmps6
  go_wp2_with fail
  refine (fixed_c w).mono ?_; rintro e w1 ⟨rfl, hb1⟩
  go_wp2_with fail
  go_ret
  exact retB_mk rfl hb1
end Go.Proofs.Ytjjmohhkhadadaa
