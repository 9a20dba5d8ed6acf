/- SoftScales, of whatever its calls tell. -/
import Derived.Test.YtnmkahdgfakpiaaJ1
import Derived.Test.YtnmkahdgfakpiaaH1
import Derived.BigGuardPart
namespace Go.Proofs.Ytnmkahdgfakpiaa
open Go.ChangeShapes Go.WideShapes Go.ChangeAt Go.RowKit
set_option linter.unusedVariables false
set_option linter.unusedSimpArgs false
def RetG8 (n : Nat) (k : Int) (W : World) (e : Ending) (w' : World) : Prop := e = .returned (.tuple #[.int .u64 (n : Int), .int .i64 k]) ∧ Below W.heap.size W w'
set_option maxRecDepth 100000 in
set_option maxHeartbeats 16000000 in
theorem scale_8 (a0 a1 a2 : Int) (a b t : Nat) (hs : bits .and .i64 a0 1 = 1) (KK : Hid (IntKind.u64.wrap (IntKind.u64.wrap (wrap64 (wrap64 (1023 + wrap64 (a2.tmod 20 + 20)) - 19)) * 4503599627370496) = ((t * 4503599627370496 : Nat) : Int)))
    (x y v ww z : Nat) (g h i j l : Int) (nx ny ix iy bg bh bi bj bl fv fw : Bool)
    (MX : Hid (∀ u, Calls Try.prog 17 #[.int .i64 8, .int .i64 (modeV a1), .int .u64 (a : Nat), .int .u64 (t * 4503599627370496 : Nat)] u (RetG8 x g u))) (MY : Hid (∀ u, Calls Try.prog 17 #[.int .i64 8, .int .i64 (modeV a1), .int .u64 (b : Nat), .int .u64 (t * 4503599627370496 : Nat)] u (RetG8 y h u)))
    (N1 : Hid (∀ u, Calls Try.prog 27 #[.int .i64 8, .int .u64 (x : Nat)] u (RetB nx u))) (N2 : Hid (∀ u, Calls Try.prog 27 #[.int .i64 8, .int .u64 (y : Nat)] u (RetB ny u)))
    (N3 : Hid (∀ u, Calls Try.prog 30 #[.int .i64 8, .int .u64 (x : Nat)] u (RetB ix u))) (N4 : Hid (∀ u, Calls Try.prog 30 #[.int .i64 8, .int .u64 (y : Nat)] u (RetB iy u)))
    (eg : (g != 0) = bg) (eh : (h != 0) = bh)
    (AV : Hid (∀ u, Calls Try.prog 13 #[.int .i64 8, .int .i64 (modeV a1), .int .u64 (a : Nat), .int .u64 (b : Nat)] u (RetG8 v i u))) (AW : Hid (∀ u, Calls Try.prog 13 #[.int .i64 8, .int .i64 (modeV a1), .int .u64 (x : Nat), .int .u64 (y : Nat)] u (RetG8 ww j u)))
    (MZ : Hid (∀ u, Calls Try.prog 17 #[.int .i64 8, .int .i64 (modeV a1), .int .u64 (v : Nat), .int .u64 (t * 4503599627370496 : Nat)] u (RetG8 z l u)))
    (ei : (bits .andNot .i64 i 1 != 0) = bi) (ej : (bits .andNot .i64 j 1 != 0) = bj) (el : (l != 0) = bl)
    (F1 : Hid (∀ u, Calls Try.prog 32 #[.int .i64 8, .int .u64 (v : Nat)] u (RetB fv u))) (F2 : Hid (∀ u, Calls Try.prog 32 #[.int .i64 8, .int .u64 (ww : Nat)] u (RetB fw u)))
    (fin : nx = false → ny = false → ix = false → iy = false → bg = false → bh = false → bi = false → bj = false → bl = false → fv = false → fw = false → z = ww ∧ i = j)
    (w : World) : Calls Try.prog 11 #[.int .i64 a0, .int .i64 a1, .int .i64 a2, .int .u64 a, .int .u64 b] w (RetB true w) := by
  cases nx
  case true =>
    as_aux_lemma =>
      clear fin
      go_enter Try.func11, Try.ntmps11
      go_wp2_with fail
      refine (awake_c _).mono ?_; rintro e w1 ⟨rfl, hb1⟩
      go_wp2_with fail
      refine (size_8 a0 hs _).mono ?_; rintro e w2 ⟨rfl, hb2⟩
      go_wp2_with fail
      refine (mode_v a1 _).mono ?_; rintro e w3 ⟨rfl, hb3⟩
      go_wp2_with fail
      (try rw [KK.out])
      refine (MX.out _).mono ?_; rintro e w4 ⟨rfl, hb4⟩
      go_wp2_with fail
      (try rw [KK.out])
      refine (MY.out _).mono ?_; rintro e w5 ⟨rfl, hb5⟩
      go_wp2_with fail
      refine (N1.out _).mono ?_; rintro e w6 ⟨rfl, hb6⟩
      go_wp2_with fail
      go_ret
      exact retB_mk (by first | rfl | simp) (by repeat (first | (with_reducible first | exact Below.refl _ _ | assumption | exact Nat.le_refl _ | refine Below.drew ?_ | refine Below.alloc ?_ ?_ _ | refine Below.setCell ?_ ?_ _ | refine le_alloc ?_ | refine le_set ?_ | refine le_drew ?_ | refine below_step (by assumption) ?_ ?_ | refine le_below (by assumption) ?_) | (dsimp only; omega)))
  cases ny
  case true =>
    as_aux_lemma =>
      clear fin
      go_enter Try.func11, Try.ntmps11
      go_wp2_with fail
      refine (awake_c _).mono ?_; rintro e w1 ⟨rfl, hb1⟩
      go_wp2_with fail
      refine (size_8 a0 hs _).mono ?_; rintro e w2 ⟨rfl, hb2⟩
      go_wp2_with fail
      refine (mode_v a1 _).mono ?_; rintro e w3 ⟨rfl, hb3⟩
      go_wp2_with fail
      (try rw [KK.out])
      refine (MX.out _).mono ?_; rintro e w4 ⟨rfl, hb4⟩
      go_wp2_with fail
      (try rw [KK.out])
      refine (MY.out _).mono ?_; rintro e w5 ⟨rfl, hb5⟩
      go_wp2_with fail
      refine (N1.out _).mono ?_; rintro e w6 ⟨rfl, hb6⟩
      go_wp2_with fail
      refine (N2.out _).mono ?_; rintro e w7 ⟨rfl, hb7⟩
      go_wp2_with fail
      go_ret
      exact retB_mk (by first | rfl | simp) (by repeat (first | (with_reducible first | exact Below.refl _ _ | assumption | exact Nat.le_refl _ | refine Below.drew ?_ | refine Below.alloc ?_ ?_ _ | refine Below.setCell ?_ ?_ _ | refine le_alloc ?_ | refine le_set ?_ | refine le_drew ?_ | refine below_step (by assumption) ?_ ?_ | refine le_below (by assumption) ?_) | (dsimp only; omega)))
  cases ix
  case true =>
    as_aux_lemma =>
      clear fin
      go_enter Try.func11, Try.ntmps11
      go_wp2_with fail
      refine (awake_c _).mono ?_; rintro e w1 ⟨rfl, hb1⟩
      go_wp2_with fail
      refine (size_8 a0 hs _).mono ?_; rintro e w2 ⟨rfl, hb2⟩
      go_wp2_with fail
      refine (mode_v a1 _).mono ?_; rintro e w3 ⟨rfl, hb3⟩
      go_wp2_with fail
      (try rw [KK.out])
      refine (MX.out _).mono ?_; rintro e w4 ⟨rfl, hb4⟩
      go_wp2_with fail
      (try rw [KK.out])
      refine (MY.out _).mono ?_; rintro e w5 ⟨rfl, hb5⟩
      go_wp2_with fail
      refine (N1.out _).mono ?_; rintro e w6 ⟨rfl, hb6⟩
      go_wp2_with fail
      refine (N2.out _).mono ?_; rintro e w7 ⟨rfl, hb7⟩
      go_wp2_with fail
      refine (N3.out _).mono ?_; rintro e w8 ⟨rfl, hb8⟩
      go_wp2_with fail
      go_ret
      exact retB_mk (by first | rfl | simp) (by repeat (first | (with_reducible first | exact Below.refl _ _ | assumption | exact Nat.le_refl _ | refine Below.drew ?_ | refine Below.alloc ?_ ?_ _ | refine Below.setCell ?_ ?_ _ | refine le_alloc ?_ | refine le_set ?_ | refine le_drew ?_ | refine below_step (by assumption) ?_ ?_ | refine le_below (by assumption) ?_) | (dsimp only; omega)))
  cases iy
  case true =>
    as_aux_lemma =>
      clear fin
      go_enter Try.func11, Try.ntmps11
      go_wp2_with fail
      refine (awake_c _).mono ?_; rintro e w1 ⟨rfl, hb1⟩
      go_wp2_with fail
      refine (size_8 a0 hs _).mono ?_; rintro e w2 ⟨rfl, hb2⟩
      go_wp2_with fail
      refine (mode_v a1 _).mono ?_; rintro e w3 ⟨rfl, hb3⟩
      go_wp2_with fail
      (try rw [KK.out])
      refine (MX.out _).mono ?_; rintro e w4 ⟨rfl, hb4⟩
      go_wp2_with fail
      (try rw [KK.out])
      refine (MY.out _).mono ?_; rintro e w5 ⟨rfl, hb5⟩
      go_wp2_with fail
      refine (N1.out _).mono ?_; rintro e w6 ⟨rfl, hb6⟩
      go_wp2_with fail
      refine (N2.out _).mono ?_; rintro e w7 ⟨rfl, hb7⟩
      go_wp2_with fail
      refine (N3.out _).mono ?_; rintro e w8 ⟨rfl, hb8⟩
      go_wp2_with fail
      refine (N4.out _).mono ?_; rintro e w9 ⟨rfl, hb9⟩
      go_wp2_with fail
      go_ret
      exact retB_mk (by first | rfl | simp) (by repeat (first | (with_reducible first | exact Below.refl _ _ | assumption | exact Nat.le_refl _ | refine Below.drew ?_ | refine Below.alloc ?_ ?_ _ | refine Below.setCell ?_ ?_ _ | refine le_alloc ?_ | refine le_set ?_ | refine le_drew ?_ | refine below_step (by assumption) ?_ ?_ | refine le_below (by assumption) ?_) | (dsimp only; omega)))
  cases bg
  case true =>
    as_aux_lemma =>
      clear fin
      go_enter Try.func11, Try.ntmps11
      go_wp2_with fail
      refine (awake_c _).mono ?_; rintro e w1 ⟨rfl, hb1⟩
      go_wp2_with fail
      refine (size_8 a0 hs _).mono ?_; rintro e w2 ⟨rfl, hb2⟩
      go_wp2_with fail
      refine (mode_v a1 _).mono ?_; rintro e w3 ⟨rfl, hb3⟩
      go_wp2_with fail
      (try rw [KK.out])
      refine (MX.out _).mono ?_; rintro e w4 ⟨rfl, hb4⟩
      go_wp2_with fail
      (try rw [KK.out])
      refine (MY.out _).mono ?_; rintro e w5 ⟨rfl, hb5⟩
      go_wp2_with fail
      refine (N1.out _).mono ?_; rintro e w6 ⟨rfl, hb6⟩
      go_wp2_with fail
      refine (N2.out _).mono ?_; rintro e w7 ⟨rfl, hb7⟩
      go_wp2_with fail
      refine (N3.out _).mono ?_; rintro e w8 ⟨rfl, hb8⟩
      go_wp2_with fail
      refine (N4.out _).mono ?_; rintro e w9 ⟨rfl, hb9⟩
      go_wp2_with fail
      go_ret
      exact retB_mk (by first | rfl | simp) (by repeat (first | (with_reducible first | exact Below.refl _ _ | assumption | exact Nat.le_refl _ | refine Below.drew ?_ | refine Below.alloc ?_ ?_ _ | refine Below.setCell ?_ ?_ _ | refine le_alloc ?_ | refine le_set ?_ | refine le_drew ?_ | refine below_step (by assumption) ?_ ?_ | refine le_below (by assumption) ?_) | (dsimp only; omega)))
  cases bh
  case true =>
    as_aux_lemma =>
      clear fin
      go_enter Try.func11, Try.ntmps11
      go_wp2_with fail
      refine (awake_c _).mono ?_; rintro e w1 ⟨rfl, hb1⟩
      go_wp2_with fail
      refine (size_8 a0 hs _).mono ?_; rintro e w2 ⟨rfl, hb2⟩
      go_wp2_with fail
      refine (mode_v a1 _).mono ?_; rintro e w3 ⟨rfl, hb3⟩
      go_wp2_with fail
      (try rw [KK.out])
      refine (MX.out _).mono ?_; rintro e w4 ⟨rfl, hb4⟩
      go_wp2_with fail
      (try rw [KK.out])
      refine (MY.out _).mono ?_; rintro e w5 ⟨rfl, hb5⟩
      go_wp2_with fail
      refine (N1.out _).mono ?_; rintro e w6 ⟨rfl, hb6⟩
      go_wp2_with fail
      refine (N2.out _).mono ?_; rintro e w7 ⟨rfl, hb7⟩
      go_wp2_with fail
      refine (N3.out _).mono ?_; rintro e w8 ⟨rfl, hb8⟩
      go_wp2_with fail
      refine (N4.out _).mono ?_; rintro e w9 ⟨rfl, hb9⟩
      go_wp2_with fail
      go_ret
      exact retB_mk (by first | rfl | simp) (by repeat (first | (with_reducible first | exact Below.refl _ _ | assumption | exact Nat.le_refl _ | refine Below.drew ?_ | refine Below.alloc ?_ ?_ _ | refine Below.setCell ?_ ?_ _ | refine le_alloc ?_ | refine le_set ?_ | refine le_drew ?_ | refine below_step (by assumption) ?_ ?_ | refine le_below (by assumption) ?_) | (dsimp only; omega)))
  cases bi
  case true =>
    as_aux_lemma =>
      clear fin
      go_enter Try.func11, Try.ntmps11
      go_wp2_with fail
      refine (awake_c _).mono ?_; rintro e w1 ⟨rfl, hb1⟩
      go_wp2_with fail
      refine (size_8 a0 hs _).mono ?_; rintro e w2 ⟨rfl, hb2⟩
      go_wp2_with fail
      refine (mode_v a1 _).mono ?_; rintro e w3 ⟨rfl, hb3⟩
      go_wp2_with fail
      (try rw [KK.out])
      refine (MX.out _).mono ?_; rintro e w4 ⟨rfl, hb4⟩
      go_wp2_with fail
      (try rw [KK.out])
      refine (MY.out _).mono ?_; rintro e w5 ⟨rfl, hb5⟩
      go_wp2_with fail
      refine (N1.out _).mono ?_; rintro e w6 ⟨rfl, hb6⟩
      go_wp2_with fail
      refine (N2.out _).mono ?_; rintro e w7 ⟨rfl, hb7⟩
      go_wp2_with fail
      refine (N3.out _).mono ?_; rintro e w8 ⟨rfl, hb8⟩
      go_wp2_with fail
      refine (N4.out _).mono ?_; rintro e w9 ⟨rfl, hb9⟩
      go_wp2_with fail
      refine (AV.out _).mono ?_; rintro e w10 ⟨rfl, hb10⟩
      go_wp2_with fail
      refine (AW.out _).mono ?_; rintro e w11 ⟨rfl, hb11⟩
      go_wp2_with fail
      (try rw [KK.out])
      refine (MZ.out _).mono ?_; rintro e w12 ⟨rfl, hb12⟩
      go_wp2_with fail
      go_ret
      exact retB_mk (by first | rfl | simp) (by repeat (first | (with_reducible first | exact Below.refl _ _ | assumption | exact Nat.le_refl _ | refine Below.drew ?_ | refine Below.alloc ?_ ?_ _ | refine Below.setCell ?_ ?_ _ | refine le_alloc ?_ | refine le_set ?_ | refine le_drew ?_ | refine below_step (by assumption) ?_ ?_ | refine le_below (by assumption) ?_) | (dsimp only; omega)))
  cases bj
  case true =>
    as_aux_lemma =>
      clear fin
      go_enter Try.func11, Try.ntmps11
      go_wp2_with fail
      refine (awake_c _).mono ?_; rintro e w1 ⟨rfl, hb1⟩
      go_wp2_with fail
      refine (size_8 a0 hs _).mono ?_; rintro e w2 ⟨rfl, hb2⟩
      go_wp2_with fail
      refine (mode_v a1 _).mono ?_; rintro e w3 ⟨rfl, hb3⟩
      go_wp2_with fail
      (try rw [KK.out])
      refine (MX.out _).mono ?_; rintro e w4 ⟨rfl, hb4⟩
      go_wp2_with fail
      (try rw [KK.out])
      refine (MY.out _).mono ?_; rintro e w5 ⟨rfl, hb5⟩
      go_wp2_with fail
      refine (N1.out _).mono ?_; rintro e w6 ⟨rfl, hb6⟩
      go_wp2_with fail
      refine (N2.out _).mono ?_; rintro e w7 ⟨rfl, hb7⟩
      go_wp2_with fail
      refine (N3.out _).mono ?_; rintro e w8 ⟨rfl, hb8⟩
      go_wp2_with fail
      refine (N4.out _).mono ?_; rintro e w9 ⟨rfl, hb9⟩
      go_wp2_with fail
      refine (AV.out _).mono ?_; rintro e w10 ⟨rfl, hb10⟩
      go_wp2_with fail
      refine (AW.out _).mono ?_; rintro e w11 ⟨rfl, hb11⟩
      go_wp2_with fail
      (try rw [KK.out])
      refine (MZ.out _).mono ?_; rintro e w12 ⟨rfl, hb12⟩
      go_wp2_with fail
      go_ret
      exact retB_mk (by first | rfl | simp) (by repeat (first | (with_reducible first | exact Below.refl _ _ | assumption | exact Nat.le_refl _ | refine Below.drew ?_ | refine Below.alloc ?_ ?_ _ | refine Below.setCell ?_ ?_ _ | refine le_alloc ?_ | refine le_set ?_ | refine le_drew ?_ | refine below_step (by assumption) ?_ ?_ | refine le_below (by assumption) ?_) | (dsimp only; omega)))
  cases bl
  case true =>
    as_aux_lemma =>
      clear fin
      go_enter Try.func11, Try.ntmps11
      go_wp2_with fail
      refine (awake_c _).mono ?_; rintro e w1 ⟨rfl, hb1⟩
      go_wp2_with fail
      refine (size_8 a0 hs _).mono ?_; rintro e w2 ⟨rfl, hb2⟩
      go_wp2_with fail
      refine (mode_v a1 _).mono ?_; rintro e w3 ⟨rfl, hb3⟩
      go_wp2_with fail
      (try rw [KK.out])
      refine (MX.out _).mono ?_; rintro e w4 ⟨rfl, hb4⟩
      go_wp2_with fail
      (try rw [KK.out])
      refine (MY.out _).mono ?_; rintro e w5 ⟨rfl, hb5⟩
      go_wp2_with fail
      refine (N1.out _).mono ?_; rintro e w6 ⟨rfl, hb6⟩
      go_wp2_with fail
      refine (N2.out _).mono ?_; rintro e w7 ⟨rfl, hb7⟩
      go_wp2_with fail
      refine (N3.out _).mono ?_; rintro e w8 ⟨rfl, hb8⟩
      go_wp2_with fail
      refine (N4.out _).mono ?_; rintro e w9 ⟨rfl, hb9⟩
      go_wp2_with fail
      refine (AV.out _).mono ?_; rintro e w10 ⟨rfl, hb10⟩
      go_wp2_with fail
      refine (AW.out _).mono ?_; rintro e w11 ⟨rfl, hb11⟩
      go_wp2_with fail
      (try rw [KK.out])
      refine (MZ.out _).mono ?_; rintro e w12 ⟨rfl, hb12⟩
      go_wp2_with fail
      go_ret
      exact retB_mk (by first | rfl | simp) (by repeat (first | (with_reducible first | exact Below.refl _ _ | assumption | exact Nat.le_refl _ | refine Below.drew ?_ | refine Below.alloc ?_ ?_ _ | refine Below.setCell ?_ ?_ _ | refine le_alloc ?_ | refine le_set ?_ | refine le_drew ?_ | refine below_step (by assumption) ?_ ?_ | refine le_below (by assumption) ?_) | (dsimp only; omega)))
  cases fv
  case true =>
    as_aux_lemma =>
      clear fin
      go_enter Try.func11, Try.ntmps11
      go_wp2_with fail
      refine (awake_c _).mono ?_; rintro e w1 ⟨rfl, hb1⟩
      go_wp2_with fail
      refine (size_8 a0 hs _).mono ?_; rintro e w2 ⟨rfl, hb2⟩
      go_wp2_with fail
      refine (mode_v a1 _).mono ?_; rintro e w3 ⟨rfl, hb3⟩
      go_wp2_with fail
      (try rw [KK.out])
      refine (MX.out _).mono ?_; rintro e w4 ⟨rfl, hb4⟩
      go_wp2_with fail
      (try rw [KK.out])
      refine (MY.out _).mono ?_; rintro e w5 ⟨rfl, hb5⟩
      go_wp2_with fail
      refine (N1.out _).mono ?_; rintro e w6 ⟨rfl, hb6⟩
      go_wp2_with fail
      refine (N2.out _).mono ?_; rintro e w7 ⟨rfl, hb7⟩
      go_wp2_with fail
      refine (N3.out _).mono ?_; rintro e w8 ⟨rfl, hb8⟩
      go_wp2_with fail
      refine (N4.out _).mono ?_; rintro e w9 ⟨rfl, hb9⟩
      go_wp2_with fail
      refine (AV.out _).mono ?_; rintro e w10 ⟨rfl, hb10⟩
      go_wp2_with fail
      refine (AW.out _).mono ?_; rintro e w11 ⟨rfl, hb11⟩
      go_wp2_with fail
      (try rw [KK.out])
      refine (MZ.out _).mono ?_; rintro e w12 ⟨rfl, hb12⟩
      go_wp2_with fail
      refine (F1.out _).mono ?_; rintro e w13 ⟨rfl, hb13⟩
      go_wp2_with fail
      go_ret
      exact retB_mk (by first | rfl | simp) (by repeat (first | (with_reducible first | exact Below.refl _ _ | assumption | exact Nat.le_refl _ | refine Below.drew ?_ | refine Below.alloc ?_ ?_ _ | refine Below.setCell ?_ ?_ _ | refine le_alloc ?_ | refine le_set ?_ | refine le_drew ?_ | refine below_step (by assumption) ?_ ?_ | refine le_below (by assumption) ?_) | (dsimp only; omega)))
  cases fw
  case true =>
    as_aux_lemma =>
      clear fin
      go_enter Try.func11, Try.ntmps11
      go_wp2_with fail
      refine (awake_c _).mono ?_; rintro e w1 ⟨rfl, hb1⟩
      go_wp2_with fail
      refine (size_8 a0 hs _).mono ?_; rintro e w2 ⟨rfl, hb2⟩
      go_wp2_with fail
      refine (mode_v a1 _).mono ?_; rintro e w3 ⟨rfl, hb3⟩
      go_wp2_with fail
      (try rw [KK.out])
      refine (MX.out _).mono ?_; rintro e w4 ⟨rfl, hb4⟩
      go_wp2_with fail
      (try rw [KK.out])
      refine (MY.out _).mono ?_; rintro e w5 ⟨rfl, hb5⟩
      go_wp2_with fail
      refine (N1.out _).mono ?_; rintro e w6 ⟨rfl, hb6⟩
      go_wp2_with fail
      refine (N2.out _).mono ?_; rintro e w7 ⟨rfl, hb7⟩
      go_wp2_with fail
      refine (N3.out _).mono ?_; rintro e w8 ⟨rfl, hb8⟩
      go_wp2_with fail
      refine (N4.out _).mono ?_; rintro e w9 ⟨rfl, hb9⟩
      go_wp2_with fail
      refine (AV.out _).mono ?_; rintro e w10 ⟨rfl, hb10⟩
      go_wp2_with fail
      refine (AW.out _).mono ?_; rintro e w11 ⟨rfl, hb11⟩
      go_wp2_with fail
      (try rw [KK.out])
      refine (MZ.out _).mono ?_; rintro e w12 ⟨rfl, hb12⟩
      go_wp2_with fail
      refine (F1.out _).mono ?_; rintro e w13 ⟨rfl, hb13⟩
      go_wp2_with fail
      refine (F2.out _).mono ?_; rintro e w14 ⟨rfl, hb14⟩
      go_wp2_with fail
      go_ret
      exact retB_mk (by first | rfl | simp) (by repeat (first | (with_reducible first | exact Below.refl _ _ | assumption | exact Nat.le_refl _ | refine Below.drew ?_ | refine Below.alloc ?_ ?_ _ | refine Below.setCell ?_ ?_ _ | refine le_alloc ?_ | refine le_set ?_ | refine le_drew ?_ | refine below_step (by assumption) ?_ ?_ | refine le_below (by assumption) ?_) | (dsimp only; omega)))
  obtain ⟨rfl, rfl⟩ := fin rfl rfl rfl rfl rfl rfl rfl rfl rfl rfl rfl
  go_enter Try.func11, Try.ntmps11
  go_wp2_with fail
  refine (awake_c _).mono ?_; rintro e w1 ⟨rfl, hb1⟩
  go_wp2_with fail
  refine (size_8 a0 hs _).mono ?_; rintro e w2 ⟨rfl, hb2⟩
  go_wp2_with fail
  refine (mode_v a1 _).mono ?_; rintro e w3 ⟨rfl, hb3⟩
  go_wp2_with fail
  (try rw [KK.out])
  refine (MX.out _).mono ?_; rintro e w4 ⟨rfl, hb4⟩
  go_wp2_with fail
  (try rw [KK.out])
  refine (MY.out _).mono ?_; rintro e w5 ⟨rfl, hb5⟩
  go_wp2_with fail
  refine (N1.out _).mono ?_; rintro e w6 ⟨rfl, hb6⟩
  go_wp2_with fail
  refine (N2.out _).mono ?_; rintro e w7 ⟨rfl, hb7⟩
  go_wp2_with fail
  refine (N3.out _).mono ?_; rintro e w8 ⟨rfl, hb8⟩
  go_wp2_with fail
  refine (N4.out _).mono ?_; rintro e w9 ⟨rfl, hb9⟩
  go_wp2_with fail
  refine (AV.out _).mono ?_; rintro e w10 ⟨rfl, hb10⟩
  go_wp2_with fail
  refine (AW.out _).mono ?_; rintro e w11 ⟨rfl, hb11⟩
  go_wp2_with fail
  (try rw [KK.out])
  refine (MZ.out _).mono ?_; rintro e w12 ⟨rfl, hb12⟩
  go_wp2_with fail
  refine (F1.out _).mono ?_; rintro e w13 ⟨rfl, hb13⟩
  go_wp2_with fail
  refine (F2.out _).mono ?_; rintro e w14 ⟨rfl, hb14⟩
  go_wp2_with fail
  go_ret
  exact retB_mk (by first | rfl | simp) (by repeat (first | (with_reducible first | exact Below.refl _ _ | assumption | exact Nat.le_refl _ | refine Below.drew ?_ | refine Below.alloc ?_ ?_ _ | refine Below.setCell ?_ ?_ _ | refine le_alloc ?_ | refine le_set ?_ | refine le_drew ?_ | refine below_step (by assumption) ?_ ?_ | refine le_below (by assumption) ?_) | (dsimp only; omega)))
end Go.Proofs.Ytnmkahdgfakpiaa
