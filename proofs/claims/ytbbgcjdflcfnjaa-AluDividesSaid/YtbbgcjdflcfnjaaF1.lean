/- The answers that the document fixes. -/
import Derived.Test.YtbbgcjdflcfnjaaB7
import Derived.Test.YtbbgcjdflcfnjaaB8
namespace Go.Proofs.Ytbbgcjdflcfnjaa
open Go.ChangeShapes Go.WideShapes Go.ChangeAt Go.RowKit
set_option linter.unusedVariables false
set_option linter.unusedSimpArgs false
/-- A call that tells a number and a bool. -/
def RetN (n : Nat) (b : Bool) (W : World) (e : Ending) (w' : World) : Prop := e = .returned (.tuple #[.int .u64 (n : Int), .bool b]) ∧ Below W.heap.size W w'
def RetC (x b : Bool) (W : World) (e : Ending) (w' : World) : Prop := e = .returned (.tuple #[.bool x, .bool b]) ∧ Below W.heap.size W w'
theorem retN_of {o : Option Nat} {n : Nat} {b : Bool} {W w' : World} {e : Ending} (ho : o = if b then some n else none) (hn : b = false → n = 0) (h : RetO .u64 o W e w') : RetN n b W e w' := by
  subst ho; cases b
  · have := hn rfl; subst this; exact h
  · exact h
theorem retC_of {o : Option Bool} {x : Bool} {W w' : World} {e : Ending} (ho : o = some x) (h : RetD o W e w') : RetC x true W e w' := by subst ho; exact h
theorem f_add (w : World) : Calls Try.prog 11 #[.int .i64 13, .bool true, .int .u64 2147483647, .int .u64 1] w (RetN 18446744071562067968 true w) :=
  (do_c 13 true 2147483647 1 (by show _ < _; decide) (by show _ < _; decide) w).mono fun _ _ h => retN_of (by decide +kernel) (by decide) h
theorem f_mulhsu (w : World) : Calls Try.prog 11 #[.int .i64 25, .bool false, .int .u64 18446744073709551615, .int .u64 18446744073709551615] w (RetN 18446744073709551615 true w) :=
  (do_c 25 false 18446744073709551615 18446744073709551615 (by show _ < _; decide) (by show _ < _; decide) w).mono fun _ _ h => retN_of (by decide +kernel) (by decide) h
theorem f_slt (w : World) : Calls Try.prog 11 #[.int .i64 16, .bool true, .int .u64 1, .int .u64 2] w (RetN 0 false w) :=
  (do_c 16 true 1 2 (by show _ < _; decide) (by show _ < _; decide) w).mono fun _ _ h => retN_of (by decide +kernel) (by decide) h
theorem f_blt (w : World) : Calls Try.prog 14 #[.int .i64 7, .int .u64 18446744073709551615, .int .u64 0] w (RetC true true w) :=
  (branch_c 7 18446744073709551615 0 (by show _ < _; decide) (by show _ < _; decide) w).mono fun _ _ h => retC_of (by decide +kernel) h
theorem f_min (w : World) : Calls Try.prog 16 #[.int .i64 45, .int .i64 4, .int .u64 4294967295, .int .u64 1] w (RetN 4294967295 true w) :=
  (atomic_c 45 4 4294967295 1 (by show _ < _; decide) (by show _ < _; decide) w).mono fun _ _ h => retN_of (by decide +kernel) (by decide) h
theorem f_ext (w : World) : Calls Try.prog 18 #[.int .u64 511, .int .i64 1, .bool false] w (RetN 18446744073709551615 true w) :=
  (extend_c 511 1 false (by show _ < _; decide) w).mono fun _ _ h => retN_of (by decide +kernel) (by decide) h
set_option maxRecDepth 100000 in
theorem fixed_c (w : World) : Calls Try.prog 13 #[] w (RetB true w) := by
  go_enter Try.func13, Try.ntmps13
  go_wp2_with fail
  refine (f_add _).mono ?_; rintro e w1 ⟨rfl, hb1⟩
  go_wp2_with fail
  refine (f_mulhsu _).mono ?_; rintro e w2 ⟨rfl, hb2⟩
  go_wp2_with fail
  refine (f_blt _).mono ?_; rintro e w3 ⟨rfl, hb3⟩
  go_wp2_with fail
  refine (f_min _).mono ?_; rintro e w4 ⟨rfl, hb4⟩
  go_wp2_with fail
  refine (f_ext _).mono ?_; rintro e w5 ⟨rfl, hb5⟩
  go_wp2_with fail
  refine (f_slt _).mono ?_; rintro e w6 ⟨rfl, hb6⟩
  go_wp2_with fail
  go_ret
  exact retB_mk rfl (by repeat (first | (with_reducible first | exact Below.refl _ _ | assumption | exact Nat.le_refl _ | refine Below.drew ?_ | refine Below.alloc ?_ ?_ _ | refine below_drewN ?_ _ | refine Below.setCell ?_ ?_ _ | refine le_alloc ?_ | refine le_set ?_ | refine le_drew ?_ | refine le_drewN ?_ | refine below_step (by assumption) ?_ ?_ | refine le_below (by assumption) ?_) | (dsimp only; omega)))
end Go.Proofs.Ytbbgcjdflcfnjaa
