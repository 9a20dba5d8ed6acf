/- AluUppers, of whatever its calls tell. -/
import Derived.Test.YtbbgcjdflcfnjaaF2
import Derived.BigGuardPart
namespace Go.Proofs.Ytbbgcjdflcfnjaa
open Go.ChangeShapes Go.WideShapes Go.ChangeAt Go.RowKit
set_option linter.unusedVariables false
set_option linter.unusedSimpArgs false

set_option maxRecDepth 100000 in
set_option maxHeartbeats 8000000 in
theorem uppers_core (a b bb lo hi low high s t sum : Nat) (x0 x1 xc xa xb : Bool)
    (D1 : Hid (∀ v, Calls Try.prog 11 #[.int .i64 23, .bool false, .int .u64 a, .int .u64 b] v (RetN lo true v))) (D2 : Hid (∀ v, Calls Try.prog 11 #[.int .i64 26, .bool false, .int .u64 a, .int .u64 b] v (RetN hi true v))) (D3 : Hid (∀ v, Calls Try.prog 11 #[.int .i64 23, .bool false, .int .u64 a, .int .u64 bb] v (RetN low true v))) (D4 : Hid (∀ v, Calls Try.prog 11 #[.int .i64 26, .bool false, .int .u64 a, .int .u64 bb] v (RetN high true v))) (D5 : Hid (∀ v, Calls Try.prog 11 #[.int .i64 25, .bool false, .int .u64 a, .int .u64 b] v (RetN s true v))) (D6 : Hid (∀ v, Calls Try.prog 11 #[.int .i64 24, .bool false, .int .u64 a, .int .u64 b] v (RetN t true v)))
    (e1 : IntKind.u64.wrap ((b : Int) + 1) = (bb : Int)) (es : IntKind.u64.wrap ((lo : Int) + (a : Int)) = (sum : Int))
    (e0 : ((b : Int) != 18446744073709551615) = x0) (e00 : ((b : Int) == 0) = x1)
    (ea : ((a : Int) / 9223372036854775808 == 1) = xa) (eb : ((b : Int) / 9223372036854775808 == 1) = xb)
    (c1 : xc = true → (sum : Int) < (lo : Int)) (c0 : xc = false → decide ((sum : Int) < (lo : Int)) = false ∧ ¬ (sum : Int) < (lo : Int))
    (l1 : x0 = true → low = sum) (h1 : x0 = true → xc = true → IntKind.u64.wrap ((hi : Int) + 1) = (high : Int)) (h0 : x0 = true → xc = false → high = hi)
    (ew : IntKind.u64.wrap (hi : Int) = (hi : Int))
    (z : x1 = true → ((lo : Int) != 0) = false ∧ ((hi : Int) != 0) = false)
    (s1 : xa = true → IntKind.u64.wrap ((hi : Int) - (b : Int)) = (s : Int)) (s0 : xa = false → s = hi)
    (t1 : xb = true → IntKind.u64.wrap ((s : Int) - (a : Int)) = (t : Int)) (t0 : xb = false → t = s)
    (w : World) : Calls Try.prog 9 #[.int .u64 a, .int .u64 b] w (RetB true w) := by
  have ew' : IntKind.u64.wrap ((hi : Int) + 0) = (hi : Int) := by rw [Int.add_zero]; exact ew
  have hz : x1 = true → x0 = true := by
    intro h; rw [← e0]; rw [h] at e00; have := eq_of_beq e00; rw [this]; decide
  cases x0 <;> cases x1 <;> cases xc <;> cases xa <;> cases xb
  all_goals first
    | (exact absurd (hz rfl) (by decide))
    | skip
  all_goals (
    clear hz
    first | (have k1 := c1 rfl) | (obtain ⟨k1, k2⟩ := c0 rfl)
    first | (have k3 := l1 rfl; subst k3) | skip
    first | (have k4 := h1 rfl rfl) | (have k4 := h0 rfl rfl; subst k4) | skip
    first | (obtain ⟨k5, k6⟩ := z rfl) | skip
    first | (have k7 := s1 rfl) | (have k7 := s0 rfl; subst k7)
    first | (have k8 := t1 rfl) | (have k8 := t0 rfl; subst k8)
    clear c1 c0 l1 h1 h0 z s1 s0 t1 t0
    go_enter Try.func9, Try.ntmps9
    go_wp2_with fail
    refine (D1.out _).mono ?_; rintro e w1 ⟨rfl, hb1⟩
    go_wp2_with fail
    refine (D2.out _).mono ?_; rintro e w2 ⟨rfl, hb2⟩
    go_wp2_with fail
    refine (D3.out _).mono ?_; rintro e w3 ⟨rfl, hb3⟩
    go_wp2_with fail
    refine (D4.out _).mono ?_; rintro e w4 ⟨rfl, hb4⟩
    go_wp2_with fail
    refine (D5.out _).mono ?_; rintro e w5 ⟨rfl, hb5⟩
    go_wp2_with fail
    refine (D6.out _).mono ?_; rintro e w6 ⟨rfl, hb6⟩
    go_wp2_with fail
    refine (fixed_c _).mono ?_; rintro e w7 ⟨rfl, hb7⟩
    go_wp2_with fail
    go_ret
    exact retB_mk (by first | rfl | simp) (by repeat (first | (with_reducible first | exact Below.refl _ _ | assumption | exact Nat.le_refl _ | refine Below.drew ?_ | refine Below.alloc ?_ ?_ _ | refine below_drewN ?_ _ | refine Below.setCell ?_ ?_ _ | refine le_alloc ?_ | refine le_set ?_ | refine le_drew ?_ | refine le_drewN ?_ | refine below_step (by assumption) ?_ ?_ | refine le_below (by assumption) ?_) | (dsimp only; omega))))
end Go.Proofs.Ytbbgcjdflcfnjaa
