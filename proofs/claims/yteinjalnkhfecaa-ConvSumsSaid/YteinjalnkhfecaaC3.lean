/- The contract of whole: a number rounded to a whole one's distance from 0. -/
import Derived.Test.YteinjalnkhfecaaC2
import Derived.BigQuiet
import Derived.Deep.QuietTactic
namespace Go.Proofs.Yteinjalnkhfecaa
open Go.ChangeShapes Go.WideShapes Go.ChangeAt Go.RowKit
set_option linter.unusedVariables false
set_option linter.unusedSimpArgs false
theorem below_drewN {B : Nat} {w w' : World} (h : Below B w w') (n : Nat) : Below B w (w'.drewN n) := ⟨h.os, h.tape, h.output, h.size, h.block⟩
theorem le_drewN {n k : Nat} {w : World} (h : n ≤ w.heap.size) : n ≤ (w.drewN k).heap.size := h
/-- The distance from 0, whether it differs, whether it has room in 64 bits. -/
def wholeV (rm : Int) (m : Bool) (e : Int) (g : Nat) : Nat × Bool × Bool :=
  if g = 0 then (0, false, true) else if 64 < (blen g : Int) + e then (0, false, false) else if 0 ≤ e then (g * 2 ^ e.toNat, false, true) else (cutK rm m g (-e).toNat, diffV g (-e).toNat, true)
def RetY (r : Nat × Bool × Bool) (W : World) (e : Ending) (w' : World) : Prop := e = .returned (.tuple #[.int .u64 r.1, .bool r.2.1, .bool r.2.2]) ∧ Below W.heap.size W w'
theorem retY_mk {r : Nat × Bool × Bool} {x : Nat} {b c : Bool} {a : Int} {b' c' : Bool} {W w' : World} (h : r = (x, b, c)) (ha : a = x) (hb : b' = b) (hc : c' = c) (h' : Below W.heap.size W w') : RetY r W (.returned (.tuple #[.int .u64 a, .bool b', .bool c'])) w' := by
  subst h; exact ⟨by rw [ha, hb, hc], h'⟩
set_option maxRecDepth 100000 in
theorem whole_0 (rm : Int) (m : Bool) (e : Int) (w : World) : Calls Try.prog 43 #[.int .i64 rm, .agg #[.bool m, .int .i64 e, .int .u64 0]] w (RetY (0, false, true) w) := by
  go_enter Try.func43, Try.ntmps43
  go_wp2_with fail
  exact bodyPost_ret (v := .tuple #[_, _, _]) (by simp [results, Try.results43, go_sem] <;> (first | rfl | (repeat' (first | rfl | apply And.intro)))) rfl (retY_mk rfl rfl rfl rfl (by repeat (first | (with_reducible first | exact Below.refl _ _ | assumption | exact Nat.le_refl _ | refine Below.drew ?_ | refine Below.alloc ?_ ?_ _ | refine Below.setCell ?_ ?_ _ | refine le_alloc ?_ | refine le_set ?_ | refine le_drew ?_ | refine below_step (by assumption) ?_ ?_ | refine le_below (by assumption) ?_) | (dsimp only; omega))))
set_option maxRecDepth 100000 in
theorem whole_far (rm : Int) (m : Bool) (e : Int) (g : Nat) (h0 : ((g : Int) == 0) = false) (L : Hid (∀ v, Calls Try.prog 83 #[.int .u64 g] v (fun q v' => q = .returned (.int .i64 (blen g : Nat)) ∧ v' = v)))
    (hs : (blen g : Int) + e > 64) (hs2 : wrap64 ((blen g : Int) + e) = (blen g : Int) + e) (w : World) : Calls Try.prog 43 #[.int .i64 rm, .agg #[.bool m, .int .i64 e, .int .u64 g]] w (RetY (0, false, false) w) := by
  generalize blen g = n at *
  have hs3 : 64 < (n : Int) + e := by omega
  go_enter Try.func43, Try.ntmps43
  go_wp2_with fail
  go_quiet (exact Calls.quiet_of_same (L.out _))
  go_wp2_with fail
  exact bodyPost_ret (v := .tuple #[_, _, _]) (by simp [results, Try.results43, go_sem] <;> (first | rfl | (repeat' (first | rfl | apply And.intro)))) rfl (retY_mk rfl rfl rfl rfl (by repeat (first | (with_reducible first | exact Below.refl _ _ | assumption | exact Nat.le_refl _ | refine Below.drew ?_ | refine Below.alloc ?_ ?_ _ | refine below_drewN ?_ _ | refine Below.setCell ?_ ?_ _ | refine le_alloc ?_ | refine le_set ?_ | refine le_drew ?_ | refine le_drewN ?_ | refine below_step (by assumption) ?_ ?_ | refine le_below (by assumption) ?_) | (dsimp only; omega))))
set_option maxRecDepth 100000 in
theorem whole_near (rm : Int) (m : Bool) (e g v : Nat) (h0 : ((g : Int) == 0) = false) (L : Hid (∀ v, Calls Try.prog 83 #[.int .u64 g] v (fun q v' => q = .returned (.int .i64 (blen g : Nat)) ∧ v' = v)))
    (hs : ¬ (blen g : Int) + (e : Int) > 64) (hs2 : wrap64 ((blen g : Int) + (e : Int)) = (blen g : Int) + (e : Int)) (he : (e : Int) ≤ 64) (E : Hid (IntKind.u64.wrap ((g : Int) * 2 ^ e) = (v : Int))) (w : World) : Calls Try.prog 43 #[.int .i64 rm, .agg #[.bool m, .int .i64 e, .int .u64 g]] w (RetY (v, false, true) w) := by
  generalize blen g = n at *
  have hs3 : ¬ 64 < (n : Int) + (e : Int) := by omega
  go_enter Try.func43, Try.ntmps43
  go_wp2_with fail
  go_quiet (exact Calls.quiet_of_same (L.out _))
  go_wp2_with fail
  exact bodyPost_ret (v := .tuple #[_, _, _]) (by simp [results, Try.results43, go_sem] <;> (first | rfl | (repeat' (first | rfl | apply And.intro)))) rfl (retY_mk rfl E.out rfl rfl (by repeat (first | (with_reducible first | exact Below.refl _ _ | assumption | exact Nat.le_refl _ | refine Below.drew ?_ | refine Below.alloc ?_ ?_ _ | refine below_drewN ?_ _ | refine Below.setCell ?_ ?_ _ | refine le_alloc ?_ | refine le_set ?_ | refine le_drew ?_ | refine le_drewN ?_ | refine below_step (by assumption) ?_ ?_ | refine le_below (by assumption) ?_) | (dsimp only; omega))))
set_option maxRecDepth 100000 in
theorem whole_cut (rm : Int) (m : Bool) (e : Int) (g k : Nat) (hg : Hid (g < 18446744073709551616)) (hg0 : Hid (g ≠ 0)) (h0 : ((g : Int) == 0) = false) (L : Hid (∀ v, Calls Try.prog 83 #[.int .u64 g] v (fun q v' => q = .returned (.int .i64 (blen g : Nat)) ∧ v' = v)))
    (hs : ¬ (blen g : Int) + e > 64) (hs2 : wrap64 ((blen g : Int) + e) = (blen g : Int) + e) (hk : -e = (k : Int)) (hk2 : wrap64 (k : Int) = (k : Int)) (hk1 : Hid (1 ≤ k ∧ k ≤ 60000)) (hne : ¬ 0 ≤ e) (w : World) :
    Calls Try.prog 43 #[.int .i64 rm, .agg #[.bool m, .int .i64 e, .int .u64 g]] w (RetY (cutK rm m g k, diffV g k, true) w) := by
  have D := Lib.hid (fun v => cut_c rm m e g k hg hg0 hk1.out.1 hk1.out.2 v)
  generalize blen g = n at *
  have hs3 : ¬ 64 < (n : Int) + e := by omega
  go_enter Try.func43, Try.ntmps43
  go_wp2_with fail
  go_quiet (exact Calls.quiet_of_same (L.out _))
  go_wp2_with fail
  rw [hk2]
  refine (D.out _).mono ?_
  rintro q w2 ⟨rfl, hb2⟩
  go_wp2_with fail
  exact bodyPost_ret (v := .tuple #[_, _, _]) (by simp [results, Try.results43, go_sem] <;> (first | rfl | (repeat' (first | rfl | apply And.intro)))) rfl (retY_mk rfl rfl rfl rfl (by repeat (first | (with_reducible first | exact Below.refl _ _ | assumption | exact Nat.le_refl _ | refine Below.drew ?_ | refine Below.alloc ?_ ?_ _ | refine below_drewN ?_ _ | refine Below.setCell ?_ ?_ _ | refine le_alloc ?_ | refine le_set ?_ | refine le_drew ?_ | refine le_drewN ?_ | refine below_step (by assumption) ?_ ?_ | refine le_below (by assumption) ?_) | (dsimp only; omega))))
end Go.Proofs.Yteinjalnkhfecaa
