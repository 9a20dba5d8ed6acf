/- The answers that the document fixes. -/
import Derived.Test.YtlohpakcikkdmaaE7
namespace Go.Proofs.Ytlohpakcikkdmaa
open Go.ChangeShapes Go.WideShapes Go.ChangeAt Go.RowKit
set_option linter.unusedVariables false
set_option linter.unusedSimpArgs false

theorem dec_0 (w : World) : Calls Try.prog 10 #[.int .u32 4293918867] w (fun e w' => e = .returned (.agg #[.int .i64 13, .int .i64 1, .int .i64 0, .int .i64 0, .int .i64 0, .int .i64 0, .int .i64 0, .int .i64 0, .int .i64 (-1), .bool true, .bool false, .bool false]) ∧ Below w.heap.size w w') :=
  (Decode_c 4293918867 (by show _ < _; decide) w).mono fun _ _ h => ⟨by rw [h.1, show decF 4293918867 = ⟨13, 1, 0, 0, 0, 0, 0, 0, (-1), true, false, false⟩ by decide +kernel]; rfl, h.2⟩
theorem eqv_0 (w : World) : (Op.equalIn 10000 25 (.agg #[.int .i64 13, .int .i64 1, .int .i64 0, .int .i64 0, .int .i64 0, .int .i64 0, .int .i64 0, .int .i64 0, .int .i64 (-1), .bool true, .bool false, .bool false]) (.agg #[.int .i64 13, .int .i64 1, .int .i64 0, .int .i64 0, .int .i64 0, .int .i64 0, .int .i64 0, .int .i64 0, .int .i64 (-1), .bool true, .bool false, .bool false])).run Try.prog w = .ok true w := by
  rw [eq25 13 1 0 0 0 0 0 0 (-1) true false false 13 1 0 0 0 0 0 0 (-1) true false false w]; rfl
theorem dec_1 (w : World) : Calls Try.prog 10 #[.int .u32 4288671855] w (fun e w' => e = .returned (.agg #[.int .i64 3, .int .i64 0, .int .i64 0, .int .i64 0, .int .i64 0, .int .i64 0, .int .i64 0, .int .i64 0, .int .i64 (-8), .bool false, .bool false, .bool false]) ∧ Below w.heap.size w w') :=
  (Decode_c 4288671855 (by show _ < _; decide) w).mono fun _ _ h => ⟨by rw [h.1, show decF 4288671855 = ⟨3, 0, 0, 0, 0, 0, 0, 0, (-8), false, false, false⟩ by decide +kernel]; rfl, h.2⟩
theorem eqv_1 (w : World) : (Op.equalIn 10000 25 (.agg #[.int .i64 3, .int .i64 0, .int .i64 0, .int .i64 0, .int .i64 0, .int .i64 0, .int .i64 0, .int .i64 0, .int .i64 (-8), .bool false, .bool false, .bool false]) (.agg #[.int .i64 3, .int .i64 0, .int .i64 0, .int .i64 0, .int .i64 0, .int .i64 0, .int .i64 0, .int .i64 0, .int .i64 (-8), .bool false, .bool false, .bool false])).run Try.prog w = .ok true w := by
  rw [eq25 3 0 0 0 0 0 0 0 (-8) false false false 3 0 0 0 0 0 0 0 (-8) false false false w]; rfl
theorem dec_2 (w : World) : Calls Try.prog 10 #[.int .u32 0] w (fun e w' => e = .returned (.agg #[.int .i64 0, .int .i64 0, .int .i64 0, .int .i64 0, .int .i64 0, .int .i64 0, .int .i64 0, .int .i64 0, .int .i64 0, .bool false, .bool false, .bool false]) ∧ Below w.heap.size w w') :=
  (Decode_c 0 (by show _ < _; decide) w).mono fun _ _ h => ⟨by rw [h.1, show decF 0 = ⟨0, 0, 0, 0, 0, 0, 0, 0, 0, false, false, false⟩ by decide +kernel]; rfl, h.2⟩
theorem eqv_2 (w : World) : (Op.equalIn 10000 25 (.agg #[.int .i64 0, .int .i64 0, .int .i64 0, .int .i64 0, .int .i64 0, .int .i64 0, .int .i64 0, .int .i64 0, .int .i64 0, .bool false, .bool false, .bool false]) (.agg #[.int .i64 0, .int .i64 0, .int .i64 0, .int .i64 0, .int .i64 0, .int .i64 0, .int .i64 0, .int .i64 0, .int .i64 0, .bool false, .bool false, .bool false])).run Try.prog w = .ok true w := by
  rw [eq25 0 0 0 0 0 0 0 0 0 false false false 0 0 0 0 0 0 0 0 0 false false false w]; rfl
theorem dec_3 (w : World) : Calls Try.prog 10 #[.int .u32 3256186195] w (fun e w' => e = .returned (.agg #[.int .i64 73, .int .i64 10, .int .i64 10, .int .i64 0, .int .i64 0, .int .i64 7, .int .i64 0, .int .i64 8, .int .i64 0, .bool false, .bool true, .bool true]) ∧ Below w.heap.size w w') :=
  (Decode_c 3256186195 (by show _ < _; decide) w).mono fun _ _ h => ⟨by rw [h.1, show decF 3256186195 = ⟨73, 10, 10, 0, 0, 7, 0, 8, 0, false, true, true⟩ by decide +kernel]; rfl, h.2⟩
theorem eqv_3 (w : World) : (Op.equalIn 10000 25 (.agg #[.int .i64 73, .int .i64 10, .int .i64 10, .int .i64 0, .int .i64 0, .int .i64 7, .int .i64 0, .int .i64 8, .int .i64 0, .bool false, .bool true, .bool true]) (.agg #[.int .i64 73, .int .i64 10, .int .i64 10, .int .i64 0, .int .i64 0, .int .i64 7, .int .i64 0, .int .i64 8, .int .i64 0, .bool false, .bool true, .bool true])).run Try.prog w = .ok true w := by
  rw [eq25 73 10 10 0 0 7 0 8 0 false true true 73 10 10 0 0 7 0 8 0 false true true w]; rfl
theorem enc_0 (w : World) : Calls Try.prog 12 #[.agg #[.int .i64 23, .int .i64 10, .int .i64 10, .int .i64 11, .int .i64 0, .int .i64 0, .int .i64 0, .int .i64 0, .int .i64 0, .bool false, .bool false, .bool false]] w (RetA 45417779 true w) :=
  (Encode_c ⟨23, 10, 10, 11, 0, 0, 0, 0, 0, false, false, false⟩ w).mono fun _ _ h => ⟨by rw [h.1, show encN ⟨23, 10, 10, 11, 0, 0, 0, 0, 0, false, false, false⟩ = 45417779 by decide +kernel, show encB ⟨23, 10, 10, 11, 0, 0, 0, 0, 0, false, false, false⟩ = true by decide +kernel], h.2⟩
set_option maxRecDepth 100000 in
set_option maxHeartbeats 2000000 in
theorem awake_c (w : World) : Calls Try.prog 9 #[] w (RetB true w) := by
  have g25 := guard25
  have e0 := eqv_0; have e1 := eqv_1; have e2 := eqv_2; have e3 := eqv_3
  go_enter Try.func9, Try.ntmps9
  go_wp2_with fail
  refine (enc_0 _).mono ?_; rintro e w1 ⟨rfl, hb1⟩
  go_wp2_with fail
  refine (dec_0 _).mono ?_; rintro e w2 ⟨rfl, hb2⟩
  go_wp2_with fail
  refine (dec_1 _).mono ?_; rintro e w3 ⟨rfl, hb3⟩
  go_wp2_with fail
  refine (dec_2 _).mono ?_; rintro e w4 ⟨rfl, hb4⟩
  go_wp2_with fail
  refine (dec_3 _).mono ?_; rintro e w5 ⟨rfl, hb5⟩
  go_wp2_with fail
  go_ret
  exact retB_mk rfl (by repeat (first | (with_reducible first | exact Below.refl _ _ | assumption | exact Nat.le_refl _ | refine Below.drew ?_ | refine Below.alloc ?_ ?_ _ | refine Below.setCell ?_ ?_ _ | refine le_alloc ?_ | refine le_set ?_ | refine le_drew ?_ | refine below_step (by assumption) ?_ ?_ | refine le_below (by assumption) ?_) | (dsimp only; omega)))
end Go.Proofs.Ytlohpakcikkdmaa
