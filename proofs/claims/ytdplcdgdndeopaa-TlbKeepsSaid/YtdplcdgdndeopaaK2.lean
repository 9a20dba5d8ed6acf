/- The code's mayBeKept. -/
import Derived.Test.YtdplcdgdndeopaaK1
namespace Go.Proofs.Ytdplcdgdndeopaa
open Go.ChangeShapes Go.WideShapes Go.ChangeAt Go.RowKit Go.Sort
set_option linter.unusedVariables false
set_option linter.unusedSimpArgs false
set_option maxRecDepth 100000 in
theorem may_lo (ad sp lf : Nat) (lv : Int) (gl : Bool) (h : lv < 0) (w : World) : Calls Try.prog 24 #[.agg #[.int .u64 (ad : Nat), .int .i64 lv, .int .u64 (sp : Nat), .bool gl, .int .u64 (lf : Nat)]] w (RetB false w) := by
  have d1 : decide (0 ≤ lv) = false := decide_eq_false (by omega)
  have d2 : ¬ (0 ≤ lv) := by omega
  clear h
  go_enter Try.func24, Try.ntmps24
  go_wp2_with fail
  go_ret
  exact retB_mk rfl (by repeat (first | (with_reducible first | exact Below.refl _ _ | assumption | exact Nat.le_refl _ | refine Below.drew ?_ | refine Below.alloc ?_ ?_ _ | refine Below.setCell ?_ ?_ _ | refine le_alloc ?_ | refine le_set ?_ | refine le_drew ?_ | refine below_step (by assumption) ?_ ?_ | refine le_below (by assumption) ?_) | (dsimp only; omega)))
set_option maxRecDepth 100000 in
theorem may_hi (ad sp lf : Nat) (lv : Int) (gl : Bool) (h : 2 < lv) (w : World) : Calls Try.prog 24 #[.agg #[.int .u64 (ad : Nat), .int .i64 lv, .int .u64 (sp : Nat), .bool gl, .int .u64 (lf : Nat)]] w (RetB false w) := by
  have d1 : decide (0 ≤ lv) = true := decide_eq_true (by omega)
  have d2 : decide (lv < 3) = false := decide_eq_false (by omega)
  clear h
  go_enter Try.func24, Try.ntmps24
  go_wp2_with fail
  go_ret
  exact retB_mk rfl (by repeat (first | (with_reducible first | exact Below.refl _ _ | assumption | exact Nat.le_refl _ | refine Below.drew ?_ | refine Below.alloc ?_ ?_ _ | refine Below.setCell ?_ ?_ _ | refine le_alloc ?_ | refine le_set ?_ | refine le_drew ?_ | refine below_step (by assumption) ?_ ?_ | refine le_below (by assumption) ?_) | (dsimp only; omega)))
set_option maxRecDepth 100000 in
theorem may_0n (ad sp lf : Nat) (gl : Bool) (h : 65535 < sp) (w : World) : Calls Try.prog 24 #[.agg #[.int .u64 (ad : Nat), .int .i64 0, .int .u64 (sp : Nat), .bool gl, .int .u64 (lf : Nat)]] w (RetB false w) := by
  have d1 : decide ((sp : Int) ≤ 65535) = false := decide_eq_false (by omega)
  clear h
  go_enter Try.func24, Try.ntmps24
  go_wp2_with fail
  go_ret
  exact retB_mk rfl (by repeat (first | (with_reducible first | exact Below.refl _ _ | assumption | exact Nat.le_refl _ | refine Below.drew ?_ | refine Below.alloc ?_ ?_ _ | refine Below.setCell ?_ ?_ _ | refine le_alloc ?_ | refine le_set ?_ | refine le_drew ?_ | refine below_step (by assumption) ?_ ?_ | refine le_below (by assumption) ?_) | (dsimp only; omega)))
set_option maxRecDepth 100000 in
theorem may_0y (ad sp lf : Nat) (gl : Bool) (h : sp ≤ 65535) (ha : ad < 18446744073709551616) (w : World) : Calls Try.prog 24 #[.agg #[.int .u64 (ad : Nat), .int .i64 0, .int .u64 (sp : Nat), .bool gl, .int .u64 (lf : Nat)]] w (RetB (ad / 4096 * 4096 == ad) w) := by
  have d1 : decide ((sp : Int) ≤ 65535) = true := decide_eq_true (by omega)
  have q0 := fun u => hasPage_0 ad sp lf ad gl ha u
  generalize (ad / 4096 * 4096 == ad) = q at q0 ⊢
  clear h ha
  go_enter Try.func24, Try.ntmps24
  go_wp2_with (go_at_call 30; refine (q0 _).mono ?_; rintro e w2 ⟨rfl, hb2⟩; have HB2 := Lib.hid hb2; clear hb2)
  go_ret
  exact retB_mk rfl (below_step HB2.out (by repeat (first | (with_reducible first | exact Below.refl _ _ | assumption | exact Nat.le_refl _ | refine Below.drew ?_ | refine Below.alloc ?_ ?_ _ | refine Below.setCell ?_ ?_ _ | refine le_alloc ?_ | refine le_set ?_ | refine le_drew ?_ | refine below_step (by assumption) ?_ ?_ | refine le_below (by assumption) ?_) | (dsimp only; omega))) (by repeat (first | (with_reducible first | exact Below.refl _ _ | assumption | exact Nat.le_refl _ | refine Below.drew ?_ | refine Below.alloc ?_ ?_ _ | refine Below.setCell ?_ ?_ _ | refine le_alloc ?_ | refine le_set ?_ | refine le_drew ?_ | refine below_step (by assumption) ?_ ?_ | refine le_below (by assumption) ?_) | (dsimp only; omega))))
set_option maxRecDepth 100000 in
theorem may_1n (ad sp lf : Nat) (gl : Bool) (h : 65535 < sp) (w : World) : Calls Try.prog 24 #[.agg #[.int .u64 (ad : Nat), .int .i64 1, .int .u64 (sp : Nat), .bool gl, .int .u64 (lf : Nat)]] w (RetB false w) := by
  have d1 : decide ((sp : Int) ≤ 65535) = false := decide_eq_false (by omega)
  clear h
  go_enter Try.func24, Try.ntmps24
  go_wp2_with fail
  go_ret
  exact retB_mk rfl (by repeat (first | (with_reducible first | exact Below.refl _ _ | assumption | exact Nat.le_refl _ | refine Below.drew ?_ | refine Below.alloc ?_ ?_ _ | refine Below.setCell ?_ ?_ _ | refine le_alloc ?_ | refine le_set ?_ | refine le_drew ?_ | refine below_step (by assumption) ?_ ?_ | refine le_below (by assumption) ?_) | (dsimp only; omega)))
set_option maxRecDepth 100000 in
theorem may_1y (ad sp lf : Nat) (gl : Bool) (h : sp ≤ 65535) (ha : ad < 18446744073709551616) (w : World) : Calls Try.prog 24 #[.agg #[.int .u64 (ad : Nat), .int .i64 1, .int .u64 (sp : Nat), .bool gl, .int .u64 (lf : Nat)]] w (RetB (ad / 2097152 * 2097152 == ad) w) := by
  have d1 : decide ((sp : Int) ≤ 65535) = true := decide_eq_true (by omega)
  have q0 := fun u => hasPage_1 ad sp lf ad gl ha u
  generalize (ad / 2097152 * 2097152 == ad) = q at q0 ⊢
  clear h ha
  go_enter Try.func24, Try.ntmps24
  go_wp2_with (go_at_call 30; refine (q0 _).mono ?_; rintro e w2 ⟨rfl, hb2⟩; have HB2 := Lib.hid hb2; clear hb2)
  go_ret
  exact retB_mk rfl (below_step HB2.out (by repeat (first | (with_reducible first | exact Below.refl _ _ | assumption | exact Nat.le_refl _ | refine Below.drew ?_ | refine Below.alloc ?_ ?_ _ | refine Below.setCell ?_ ?_ _ | refine le_alloc ?_ | refine le_set ?_ | refine le_drew ?_ | refine below_step (by assumption) ?_ ?_ | refine le_below (by assumption) ?_) | (dsimp only; omega))) (by repeat (first | (with_reducible first | exact Below.refl _ _ | assumption | exact Nat.le_refl _ | refine Below.drew ?_ | refine Below.alloc ?_ ?_ _ | refine Below.setCell ?_ ?_ _ | refine le_alloc ?_ | refine le_set ?_ | refine le_drew ?_ | refine below_step (by assumption) ?_ ?_ | refine le_below (by assumption) ?_) | (dsimp only; omega))))
set_option maxRecDepth 100000 in
theorem may_2n (ad sp lf : Nat) (gl : Bool) (h : 65535 < sp) (w : World) : Calls Try.prog 24 #[.agg #[.int .u64 (ad : Nat), .int .i64 2, .int .u64 (sp : Nat), .bool gl, .int .u64 (lf : Nat)]] w (RetB false w) := by
  have d1 : decide ((sp : Int) ≤ 65535) = false := decide_eq_false (by omega)
  clear h
  go_enter Try.func24, Try.ntmps24
  go_wp2_with fail
  go_ret
  exact retB_mk rfl (by repeat (first | (with_reducible first | exact Below.refl _ _ | assumption | exact Nat.le_refl _ | refine Below.drew ?_ | refine Below.alloc ?_ ?_ _ | refine Below.setCell ?_ ?_ _ | refine le_alloc ?_ | refine le_set ?_ | refine le_drew ?_ | refine below_step (by assumption) ?_ ?_ | refine le_below (by assumption) ?_) | (dsimp only; omega)))
set_option maxRecDepth 100000 in
theorem may_2y (ad sp lf : Nat) (gl : Bool) (h : sp ≤ 65535) (ha : ad < 18446744073709551616) (w : World) : Calls Try.prog 24 #[.agg #[.int .u64 (ad : Nat), .int .i64 2, .int .u64 (sp : Nat), .bool gl, .int .u64 (lf : Nat)]] w (RetB (ad / 1073741824 * 1073741824 == ad) w) := by
  have d1 : decide ((sp : Int) ≤ 65535) = true := decide_eq_true (by omega)
  have q0 := fun u => hasPage_2 ad sp lf ad gl ha u
  generalize (ad / 1073741824 * 1073741824 == ad) = q at q0 ⊢
  clear h ha
  go_enter Try.func24, Try.ntmps24
  go_wp2_with (go_at_call 30; refine (q0 _).mono ?_; rintro e w2 ⟨rfl, hb2⟩; have HB2 := Lib.hid hb2; clear hb2)
  go_ret
  exact retB_mk rfl (below_step HB2.out (by repeat (first | (with_reducible first | exact Below.refl _ _ | assumption | exact Nat.le_refl _ | refine Below.drew ?_ | refine Below.alloc ?_ ?_ _ | refine Below.setCell ?_ ?_ _ | refine le_alloc ?_ | refine le_set ?_ | refine le_drew ?_ | refine below_step (by assumption) ?_ ?_ | refine le_below (by assumption) ?_) | (dsimp only; omega))) (by repeat (first | (with_reducible first | exact Below.refl _ _ | assumption | exact Nat.le_refl _ | refine Below.drew ?_ | refine Below.alloc ?_ ?_ _ | refine Below.setCell ?_ ?_ _ | refine le_alloc ?_ | refine le_set ?_ | refine le_drew ?_ | refine below_step (by assumption) ?_ ?_ | refine le_below (by assumption) ?_) | (dsimp only; omega))))
theorem okP_lo {x : En} (h : x.lv < 0) : okP x = false := by unfold okP; rw [decide_eq_true h]; rfl
theorem okP_hi {x : En} (h : 2 < x.lv) : okP x = false := by unfold okP; rw [decide_eq_true h]; simp
theorem okP_sp {x : En} (h : 65535 < x.sp) : okP x = false := by unfold okP; rw [decide_eq_true h]; simp
theorem okP_in {x : En} (h : x.lv = 0 ∨ x.lv = 1 ∨ x.lv = 2) (hs : x.sp ≤ 65535) : okP x = (x.ad / szN x.lv * szN x.lv == x.ad) := by
  have e := hasP_self x
  unfold hasP at e
  rw [e]
  unfold okP
  rw [decide_eq_false (show ¬ x.lv < 0 by omega), decide_eq_false (show ¬ 2 < x.lv by omega), decide_eq_false (show ¬ 65535 < x.sp by omega)]
  simp
theorem may_c (x : En) (hx : x.Wf) (w : World) : Calls Try.prog 24 #[.agg x.v] w (RetB (okP x) w) := by
  by_cases h1 : x.lv < 0
  · rw [okP_lo h1]; exact may_lo x.ad x.sp x.lf x.lv x.gl h1 w
  by_cases h2 : 2 < x.lv
  · rw [okP_hi h2]; exact may_hi x.ad x.sp x.lf x.lv x.gl h2 w
  obtain ⟨ad, lv, sp, gl, lf⟩ := x
  have ha := hx.ad
  replace h1 : ¬ lv < 0 := h1
  replace h2 : ¬ 2 < lv := h2
  have hl : lv = 0 ∨ lv = 1 ∨ lv = 2 := by omega
  by_cases h3 : 65535 < sp
  · rw [okP_sp h3]
    rcases hl with rfl | rfl | rfl
    · exact may_0n ad sp lf gl h3 w
    · exact may_1n ad sp lf gl h3 w
    · exact may_2n ad sp lf gl h3 w
  · rw [okP_in hl (by show sp ≤ _; omega)]
    rcases hl with rfl | rfl | rfl
    · exact may_0y ad sp lf gl (by omega) ha w
    · exact may_1y ad sp lf gl (by omega) ha w
    · exact may_2y ad sp lf gl (by omega) ha w
end Go.Proofs.Ytdplcdgdndeopaa
