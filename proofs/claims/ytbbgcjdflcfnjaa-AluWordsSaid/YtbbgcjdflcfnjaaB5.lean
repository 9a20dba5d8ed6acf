/- The contracts of turned, signs, upper, whole, Do. -/
import Derived.Test.YtbbgcjdflcfnjaaB3
import Derived.Test.YtbbgcjdflcfnjaaB4
import Derived.Test.YtbbgcjdflcfnjaaM2
namespace Go.Proofs.Ytbbgcjdflcfnjaa
open Go.ChangeShapes Go.WideShapes Go.ChangeAt Go.RowKit
set_option linter.unusedVariables false
set_option linter.unusedSimpArgs false
theorem retO_none {t : IntKind} {W w' : World} {e : Ending} (h : RetO t none W e w') : e = .returned (.tuple #[.int t 0, .bool false]) ∧ Below W.heap.size W w' := h
theorem retO_some {t : IntKind} {n : Nat} {W w' : World} {e : Ending} (h : RetO t (some n) W e w') : e = .returned (.tuple #[.int t (n : Int), .bool true]) ∧ Below W.heap.size W w' := h
set_option maxRecDepth 100000 in
theorem turned_c (a : Nat) (ha : Hid (a < 18446744073709551616)) (w : World) : Calls Try.prog 38 #[.int .u64 a] w (RetV .u64 ((a ^^^ 9223372036854775808 : Nat) : Int) w) := by
  have E : Hid (bits .xor .u64 (a : Int) 9223372036854775808 = ((a ^^^ 9223372036854775808 : Nat) : Int)) := by
    show _ = _; rw [show (9223372036854775808 : Int) = ((9223372036854775808 : Nat) : Int) from rfl, bits_xor_u64_nat a _ ha.out (by decide)]
  go_enter Try.func38, Try.ntmps38
  go_wp2
  go_ret
  exact retV_mk E.out (by repeat (first | (with_reducible first | exact Below.refl _ _ | assumption | exact Nat.le_refl _ | refine Below.drew ?_ | refine Below.alloc ?_ ?_ _ | refine below_drewN ?_ _ | refine Below.setCell ?_ ?_ _ | refine le_alloc ?_ | refine le_set ?_ | refine le_drew ?_ | refine le_drewN ?_ | refine below_step (by assumption) ?_ ?_ | refine le_below (by assumption) ?_) | (dsimp only; omega)))
set_option maxRecDepth 100000 in
theorem signs_c (a : Nat) (ha : Hid (a < 18446744073709551616)) (w : World) : Calls Try.prog 44 #[.int .u64 a] w (RetV .u64 ((signV a : Nat) : Int) w) := by
  go_enter Try.func44, Try.ntmps44
  go_wp2
  go_ret
  exact retV_mk (by (try simp only [IntKind.wrap_u64]); exact signV_eq a ha.out) (by repeat (first | (with_reducible first | exact Below.refl _ _ | assumption | exact Nat.le_refl _ | refine Below.drew ?_ | refine Below.alloc ?_ ?_ _ | refine below_drewN ?_ _ | refine Below.setCell ?_ ?_ _ | refine le_alloc ?_ | refine le_set ?_ | refine le_drew ?_ | refine le_drewN ?_ | refine below_step (by assumption) ?_ ?_ | refine le_below (by assumption) ?_) | (dsimp only; omega)))
theorem signV_lt (a : Nat) : signV a < 18446744073709551616 := by unfold signV; split <;> decide
set_option maxRecDepth 100000 in
theorem upper_26 (a b : Nat) (ha : Hid (a < 18446744073709551616)) (hb : Hid (b < 18446744073709551616)) (w : World) : Calls Try.prog 39 #[.int .i64 26, .int .u64 a, .int .u64 b] w (RetO .u64 (upperV 26 a b) w) := by
  go_enter Try.func39, Try.ntmps39
  go_wp2_with fail
  refine (Try.bits_Mul64 a b ha.out hb.out _).mono ?_; rintro e u3 ⟨rfl, rfl⟩
  go_wp2_with fail
  go_ret2
  exact retO_mk _ (by rfl) (by (try simp only [IntKind.wrap_u64]); rw [show (a : Int) * (b : Int) / 18446744073709551616 = ((a * b / 18446744073709551616 : Nat) : Int) by simp]; have h1 := ha.out; have h2 := hb.out; have h3 := hi_lt a b h1 h2; generalize a * b / 18446744073709551616 = m at *; omega) rfl (by repeat (first | (with_reducible first | exact Below.refl _ _ | assumption | exact Nat.le_refl _ | refine Below.drew ?_ | refine Below.alloc ?_ ?_ _ | refine below_drewN ?_ _ | refine Below.setCell ?_ ?_ _ | refine le_alloc ?_ | refine le_set ?_ | refine le_drew ?_ | refine le_drewN ?_ | refine below_step (by assumption) ?_ ?_ | refine le_below (by assumption) ?_) | (dsimp only; omega)))
set_option maxRecDepth 100000 in
theorem upper_25 (a b : Nat) (ha : Hid (a < 18446744073709551616)) (hb : Hid (b < 18446744073709551616)) (w : World) : Calls Try.prog 39 #[.int .i64 25, .int .u64 a, .int .u64 b] w (RetO .u64 (upperV 25 a b) w) := by
  have Ea : Hid (bits .and .u64 (b : Int) ((signV a : Nat) : Int) = ((lessU a b : Nat) : Int)) := by show _ = _; rw [bits_and_u64_nat b _ hb.out (signV_lt a), and_sign b a hb.out]
  go_enter Try.func39, Try.ntmps39
  go_wp2_with fail
  refine (signs_c a ha _).mono ?_; rintro e u2 ⟨rfl, hb2⟩
  go_wp2_with fail
  refine (Try.bits_Mul64 a b ha.out hb.out _).mono ?_; rintro e u3 ⟨rfl, rfl⟩
  go_wp2_with fail
  go_ret2
  exact retO_mk _ (by rfl) (by (try simp only [IntKind.wrap_u64]); rw [show (a : Int) * (b : Int) / 18446744073709551616 = ((a * b / 18446744073709551616 : Nat) : Int) by simp]; have h1 := ha.out; have h2 := hb.out; have h3 := hi_lt a b h1 h2; have h4 := lessU_le a b; have h5 := lessU_le b a; (try rw [Eb.out]); (try rw [Ea.out]); generalize a * b / 18446744073709551616 = m at *; generalize lessU a b = p at *; generalize lessU b a = q at *; omega) rfl (by repeat (first | (with_reducible first | exact Below.refl _ _ | assumption | exact Nat.le_refl _ | refine Below.drew ?_ | refine Below.alloc ?_ ?_ _ | refine below_drewN ?_ _ | refine Below.setCell ?_ ?_ _ | refine le_alloc ?_ | refine le_set ?_ | refine le_drew ?_ | refine le_drewN ?_ | refine below_step (by assumption) ?_ ?_ | refine le_below (by assumption) ?_) | (dsimp only; omega)))
set_option maxRecDepth 100000 in
theorem upper_24 (a b : Nat) (ha : Hid (a < 18446744073709551616)) (hb : Hid (b < 18446744073709551616)) (w : World) : Calls Try.prog 39 #[.int .i64 24, .int .u64 a, .int .u64 b] w (RetO .u64 (upperV 24 a b) w) := by
  have Ea : Hid (bits .and .u64 (b : Int) ((signV a : Nat) : Int) = ((lessU a b : Nat) : Int)) := by show _ = _; rw [bits_and_u64_nat b _ hb.out (signV_lt a), and_sign b a hb.out]
  have Eb : Hid (bits .and .u64 (a : Int) ((signV b : Nat) : Int) = ((lessU b a : Nat) : Int)) := by show _ = _; rw [bits_and_u64_nat a _ ha.out (signV_lt b), and_sign a b ha.out]
  go_enter Try.func39, Try.ntmps39
  go_wp2_with fail
  refine (signs_c b hb _).mono ?_; rintro e u1 ⟨rfl, hb1⟩
  go_wp2_with fail
  refine (signs_c a ha _).mono ?_; rintro e u2 ⟨rfl, hb2⟩
  go_wp2_with fail
  refine (Try.bits_Mul64 a b ha.out hb.out _).mono ?_; rintro e u3 ⟨rfl, rfl⟩
  go_wp2_with fail
  go_ret2
  exact retO_mk _ (by rfl) (by (try simp only [IntKind.wrap_u64]); rw [show (a : Int) * (b : Int) / 18446744073709551616 = ((a * b / 18446744073709551616 : Nat) : Int) by simp]; have h1 := ha.out; have h2 := hb.out; have h3 := hi_lt a b h1 h2; have h4 := lessU_le a b; have h5 := lessU_le b a; (try rw [Eb.out]); (try rw [Ea.out]); generalize a * b / 18446744073709551616 = m at *; generalize lessU a b = p at *; generalize lessU b a = q at *; omega) rfl (by repeat (first | (with_reducible first | exact Below.refl _ _ | assumption | exact Nat.le_refl _ | refine Below.drew ?_ | refine Below.alloc ?_ ?_ _ | refine below_drewN ?_ _ | refine Below.setCell ?_ ?_ _ | refine le_alloc ?_ | refine le_set ?_ | refine le_drew ?_ | refine le_drewN ?_ | refine below_step (by assumption) ?_ ?_ | refine le_below (by assumption) ?_) | (dsimp only; omega)))
set_option maxRecDepth 100000 in
theorem upper_no (k : Int) (a b : Nat) (h24 : ¬ k = 24) (h25 : ¬ k = 25) (h26 : ¬ k = 26) (w : World) : Calls Try.prog 39 #[.int .i64 k, .int .u64 a, .int .u64 b] w (RetO .u64 (upperV k a b) w) := by
  have hv : Hid (upperV k a b = none) := by show _ = _; unfold upperV; rw [if_neg h24, if_neg h25, if_neg h26]
  go_enter Try.func39, Try.ntmps39
  go_wp2_with fail
  go_ret2
  exact retO_no hv.out rfl rfl (by repeat (first | (with_reducible first | exact Below.refl _ _ | assumption | exact Nat.le_refl _ | refine Below.drew ?_ | refine Below.alloc ?_ ?_ _ | refine below_drewN ?_ _ | refine Below.setCell ?_ ?_ _ | refine le_alloc ?_ | refine le_set ?_ | refine le_drew ?_ | refine le_drewN ?_ | refine below_step (by assumption) ?_ ?_ | refine le_below (by assumption) ?_) | (dsimp only; omega)))
theorem upper_c (k : Int) (a b : Nat) (ha : Hid (a < 18446744073709551616)) (hb : Hid (b < 18446744073709551616)) (w : World) : Calls Try.prog 39 #[.int .i64 k, .int .u64 a, .int .u64 b] w (RetO .u64 (upperV k a b) w) := by
  by_cases h24 : k = 24
  · subst h24; exact upper_24 a b ha hb w
  by_cases h25 : k = 25
  · subst h25; exact upper_25 a b ha hb w
  by_cases h26 : k = 26
  · subst h26; exact upper_26 a b ha hb w
  exact upper_no k a b h24 h25 h26 w
set_option maxRecDepth 100000 in
theorem whole_16 (a b : Nat) (ha : Hid (a < 18446744073709551616)) (hb : Hid (b < 18446744073709551616)) (w : World) : Calls Try.prog 23 #[.int .i64 16, .int .u64 a, .int .u64 b] w (RetO .u64 (wholeV 16 a b) w) := by
  have hv : Hid (wholeV 16 a b = some (if sgn H64 a < sgn H64 b then 1 else 0)) := rfl
  have hx := Lib.hid (fun w => turned_c a ha w)
  have hy := Lib.hid (fun w => turned_c b hb w)
  have ht := Lib.hid (turned_lt a b ha.out hb.out)
  generalize a ^^^ 9223372036854775808 = x at *
  generalize b ^^^ 9223372036854775808 = y at *
  by_cases hl : x < y
  · have H := Lib.hid (ht.out.1 hl)
    have hl' : (x : Int) < (y : Int) := by omega
    clear hl
    go_enter Try.func23, Try.ntmps23
    go_wp2_with fail
    refine (hx.out _).mono ?_; rintro e u1 ⟨rfl, hb1⟩
    go_wp2_with fail
    refine (hy.out _).mono ?_; rintro e u2 ⟨rfl, hb2⟩
    go_wp2_with fail
    go_ret2
    exact retO_mk 1 (by rw [hv.out, if_pos H.out]) rfl rfl (by repeat (first | (with_reducible first | exact Below.refl _ _ | assumption | exact Nat.le_refl _ | refine Below.drew ?_ | refine Below.alloc ?_ ?_ _ | refine below_drewN ?_ _ | refine Below.setCell ?_ ?_ _ | refine le_alloc ?_ | refine le_set ?_ | refine le_drew ?_ | refine le_drewN ?_ | refine below_step (by assumption) ?_ ?_ | refine le_below (by assumption) ?_) | (dsimp only; omega)))
  · have H := Lib.hid (fun h => hl (ht.out.2 h))
    have hl' : decide ((x : Int) < (y : Int)) = false := decide_eq_false (by omega)
    have hl2 : ¬ (x : Int) < (y : Int) := by omega
    clear hl
    go_enter Try.func23, Try.ntmps23
    go_wp2_with fail
    refine (hx.out _).mono ?_; rintro e u1 ⟨rfl, hb1⟩
    go_wp2_with fail
    refine (hy.out _).mono ?_; rintro e u2 ⟨rfl, hb2⟩
    go_wp2_with fail
    go_ret2
    exact retO_mk 0 (by rw [hv.out, if_neg H.out]) rfl rfl (by repeat (first | (with_reducible first | exact Below.refl _ _ | assumption | exact Nat.le_refl _ | refine Below.drew ?_ | refine Below.alloc ?_ ?_ _ | refine below_drewN ?_ _ | refine Below.setCell ?_ ?_ _ | refine le_alloc ?_ | refine le_set ?_ | refine le_drew ?_ | refine le_drewN ?_ | refine below_step (by assumption) ?_ ?_ | refine le_below (by assumption) ?_) | (dsimp only; omega)))
set_option maxRecDepth 100000 in
theorem whole_17 (a b : Nat) (ha : Hid (a < 18446744073709551616)) (hb : Hid (b < 18446744073709551616)) (w : World) : Calls Try.prog 23 #[.int .i64 17, .int .u64 a, .int .u64 b] w (RetO .u64 (wholeV 17 a b) w) := by
  have hv : Hid (wholeV 17 a b = some (if a < b then 1 else 0)) := rfl
  by_cases hl : a < b
  · have H := Lib.hid hl
    have hl' : ((a : Int) < (b : Int)) := by omega
    clear hl
    go_enter Try.func23, Try.ntmps23
    go_wp2_with fail
    go_ret2
    exact retO_mk 1 (by rw [hv.out, if_pos H.out]) rfl rfl (by repeat (first | (with_reducible first | exact Below.refl _ _ | assumption | exact Nat.le_refl _ | refine Below.drew ?_ | refine Below.alloc ?_ ?_ _ | refine below_drewN ?_ _ | refine Below.setCell ?_ ?_ _ | refine le_alloc ?_ | refine le_set ?_ | refine le_drew ?_ | refine le_drewN ?_ | refine below_step (by assumption) ?_ ?_ | refine le_below (by assumption) ?_) | (dsimp only; omega)))
  · have H := Lib.hid hl
    have hl' : decide ((a : Int) < (b : Int)) = false := decide_eq_false (by omega)
    clear hl
    go_enter Try.func23, Try.ntmps23
    go_wp2_with fail
    go_ret2
    exact retO_mk 0 (by rw [hv.out, if_neg H.out]) rfl rfl (by repeat (first | (with_reducible first | exact Below.refl _ _ | assumption | exact Nat.le_refl _ | refine Below.drew ?_ | refine Below.alloc ?_ ?_ _ | refine below_drewN ?_ _ | refine Below.setCell ?_ ?_ _ | refine le_alloc ?_ | refine le_set ?_ | refine le_drew ?_ | refine le_drewN ?_ | refine below_step (by assumption) ?_ ?_ | refine le_below (by assumption) ?_) | (dsimp only; omega)))
set_option maxRecDepth 100000 in
theorem whole_18 (a b : Nat) (ha : Hid (a < 18446744073709551616)) (hb : Hid (b < 18446744073709551616)) (w : World) : Calls Try.prog 23 #[.int .i64 18, .int .u64 a, .int .u64 b] w (RetO .u64 (wholeV 18 a b) w) := by
  go_enter Try.func23, Try.ntmps23
  go_wp2_with fail
  go_ret2
  exact retO_mk _ (by rfl) (by (try simp only [IntKind.wrap_u64]); exact bits_xor_u64_nat a b ha.out hb.out) rfl (by repeat (first | (with_reducible first | exact Below.refl _ _ | assumption | exact Nat.le_refl _ | refine Below.drew ?_ | refine Below.alloc ?_ ?_ _ | refine below_drewN ?_ _ | refine Below.setCell ?_ ?_ _ | refine le_alloc ?_ | refine le_set ?_ | refine le_drew ?_ | refine le_drewN ?_ | refine below_step (by assumption) ?_ ?_ | refine le_below (by assumption) ?_) | (dsimp only; omega)))
set_option maxRecDepth 100000 in
theorem whole_21 (a b : Nat) (ha : Hid (a < 18446744073709551616)) (hb : Hid (b < 18446744073709551616)) (w : World) : Calls Try.prog 23 #[.int .i64 21, .int .u64 a, .int .u64 b] w (RetO .u64 (wholeV 21 a b) w) := by
  go_enter Try.func23, Try.ntmps23
  go_wp2_with fail
  go_ret2
  exact retO_mk _ (by rfl) (by (try simp only [IntKind.wrap_u64]); exact bits_or_u64_nat a b ha.out hb.out) rfl (by repeat (first | (with_reducible first | exact Below.refl _ _ | assumption | exact Nat.le_refl _ | refine Below.drew ?_ | refine Below.alloc ?_ ?_ _ | refine below_drewN ?_ _ | refine Below.setCell ?_ ?_ _ | refine le_alloc ?_ | refine le_set ?_ | refine le_drew ?_ | refine le_drewN ?_ | refine below_step (by assumption) ?_ ?_ | refine le_below (by assumption) ?_) | (dsimp only; omega)))
set_option maxRecDepth 100000 in
theorem whole_22 (a b : Nat) (ha : Hid (a < 18446744073709551616)) (hb : Hid (b < 18446744073709551616)) (w : World) : Calls Try.prog 23 #[.int .i64 22, .int .u64 a, .int .u64 b] w (RetO .u64 (wholeV 22 a b) w) := by
  go_enter Try.func23, Try.ntmps23
  go_wp2_with fail
  go_ret2
  exact retO_mk _ (by rfl) (by (try simp only [IntKind.wrap_u64]); exact bits_and_u64_nat a b ha.out hb.out) rfl (by repeat (first | (with_reducible first | exact Below.refl _ _ | assumption | exact Nat.le_refl _ | refine Below.drew ?_ | refine Below.alloc ?_ ?_ _ | refine below_drewN ?_ _ | refine Below.setCell ?_ ?_ _ | refine le_alloc ?_ | refine le_set ?_ | refine le_drew ?_ | refine le_drewN ?_ | refine below_step (by assumption) ?_ ?_ | refine le_below (by assumption) ?_) | (dsimp only; omega)))
set_option maxRecDepth 100000 in
theorem whole_else (k : Int) (a b : Nat) (ha : Hid (a < 18446744073709551616)) (hb : Hid (b < 18446744073709551616)) (h16 : ¬ k = 16) (h17 : ¬ k = 17) (h18 : ¬ k = 18) (h21 : ¬ k = 21) (h22 : ¬ k = 22) (w : World) : Calls Try.prog 23 #[.int .i64 k, .int .u64 a, .int .u64 b] w (RetO .u64 (wholeV k a b) w) := by
  have hv : Hid (wholeV k a b = upperV k a b) := by show _ = _; unfold wholeV; rw [if_neg h16, if_neg h17, if_neg h18, if_neg h21, if_neg h22]
  obtain ⟨o, ho⟩ : ∃ o, o = upperV k a b := ⟨_, rfl⟩
  have hc := Lib.hid (fun w => upper_c k a b ha hb w)
  rw [← ho] at hc hv
  clear ho
  cases o with
  | none =>
    go_enter Try.func23, Try.ntmps23
    go_wp2_with fail
    refine (hc.out _).mono ?_; rintro e u1 h; obtain ⟨rfl, hb1⟩ := retO_none h
    go_wp2_with fail
    go_ret2
    exact retO_no hv.out rfl rfl (by repeat (first | (with_reducible first | exact Below.refl _ _ | assumption | exact Nat.le_refl _ | refine Below.drew ?_ | refine Below.alloc ?_ ?_ _ | refine below_drewN ?_ _ | refine Below.setCell ?_ ?_ _ | refine le_alloc ?_ | refine le_set ?_ | refine le_drew ?_ | refine le_drewN ?_ | refine below_step (by assumption) ?_ ?_ | refine le_below (by assumption) ?_) | (dsimp only; omega)))
  | some n =>
    go_enter Try.func23, Try.ntmps23
    go_wp2_with fail
    refine (hc.out _).mono ?_; rintro e u1 h; obtain ⟨rfl, hb1⟩ := retO_some h
    go_wp2_with fail
    go_ret2
    exact retO_mk n hv.out rfl rfl (by repeat (first | (with_reducible first | exact Below.refl _ _ | assumption | exact Nat.le_refl _ | refine Below.drew ?_ | refine Below.alloc ?_ ?_ _ | refine below_drewN ?_ _ | refine Below.setCell ?_ ?_ _ | refine le_alloc ?_ | refine le_set ?_ | refine le_drew ?_ | refine le_drewN ?_ | refine below_step (by assumption) ?_ ?_ | refine le_below (by assumption) ?_) | (dsimp only; omega)))
theorem whole_c (k : Int) (a b : Nat) (ha : Hid (a < 18446744073709551616)) (hb : Hid (b < 18446744073709551616)) (w : World) : Calls Try.prog 23 #[.int .i64 k, .int .u64 a, .int .u64 b] w (RetO .u64 (wholeV k a b) w) := by
  by_cases h16 : k = 16
  · subst h16; exact whole_16 a b ha hb w
  by_cases h17 : k = 17
  · subst h17; exact whole_17 a b ha hb w
  by_cases h18 : k = 18
  · subst h18; exact whole_18 a b ha hb w
  by_cases h21 : k = 21
  · subst h21; exact whole_21 a b ha hb w
  by_cases h22 : k = 22
  · subst h22; exact whole_22 a b ha hb w
  exact whole_else k a b ha hb h16 h17 h18 h21 h22 w
end Go.Proofs.Ytbbgcjdflcfnjaa
