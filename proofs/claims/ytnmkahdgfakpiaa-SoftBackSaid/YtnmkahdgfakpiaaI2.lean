/- SoftBack, of whatever its calls tell. -/
import Derived.Test.YtnmkahdgfakpiaaI1
import Derived.Test.YtnmkahdgfakpiaaH1
import Derived.BigGuardPart
namespace Go.Proofs.Ytnmkahdgfakpiaa
open Go.ChangeShapes Go.WideShapes Go.ChangeAt Go.RowKit
set_option linter.unusedVariables false
set_option linter.unusedSimpArgs false
def RetK (n : Nat) (k : Int) (W : World) (e : Ending) (w' : World) : Prop := e = .returned (.tuple #[.int .u64 (n : Int), .int .i64 k]) ∧ Below W.heap.size W w'
set_option maxRecDepth 100000 in
theorem end0_4 (a0 a1 : Int) (a b A B : Nat) (hs : bits .and .i64 a0 1 = 0)
    (K1 : Hid (∀ v, Calls Try.prog 29 #[.int .i64 4, .int .u64 a] v (RetU A v))) (K2 : Hid (∀ v, Calls Try.prog 29 #[.int .i64 4, .int .u64 b] v (RetU B v)))
    (N1 : Hid (∀ v, Calls Try.prog 27 #[.int .i64 4, .int .u64 A] v (RetB true v)))
    (w : World) : Calls Try.prog 10 #[.int .i64 a0, .int .i64 a1, .int .u64 a, .int .u64 b] w (RetB true w) := by
  go_enter Try.func10, Try.ntmps10
  go_wp2_with fail
  refine (awake_c _).mono ?_; rintro e w1 ⟨rfl, hb1⟩
  go_wp2_with fail
  refine (size_4 a0 hs _).mono ?_; rintro e w2 ⟨rfl, hb2⟩
  go_wp2_with fail
  refine (mode_v a1 _).mono ?_; rintro e w3 ⟨rfl, hb3⟩
  go_wp2_with fail
  refine (K1.out _).mono ?_; rintro e w4 ⟨rfl, hb4⟩
  go_wp2_with fail
  refine (K2.out _).mono ?_; rintro e w5 ⟨rfl, hb5⟩
  go_wp2_with fail
  refine (N1.out _).mono ?_; rintro e w6 ⟨rfl, hb6⟩
  go_wp2_with fail
  go_ret
  exact retB_mk rfl (by repeat (first | (with_reducible first | exact Below.refl _ _ | assumption | exact Nat.le_refl _ | refine Below.drew ?_ | refine Below.alloc ?_ ?_ _ | refine Below.setCell ?_ ?_ _ | refine le_alloc ?_ | refine le_set ?_ | refine le_drew ?_ | refine below_step (by assumption) ?_ ?_ | refine le_below (by assumption) ?_) | (dsimp only; omega)))
set_option maxRecDepth 100000 in
theorem end1_4 (a0 a1 : Int) (a b A B : Nat) (hs : bits .and .i64 a0 1 = 0)
    (K1 : Hid (∀ v, Calls Try.prog 29 #[.int .i64 4, .int .u64 a] v (RetU A v))) (K2 : Hid (∀ v, Calls Try.prog 29 #[.int .i64 4, .int .u64 b] v (RetU B v)))
    (N1 : Hid (∀ v, Calls Try.prog 27 #[.int .i64 4, .int .u64 A] v (RetB false v))) (N2 : Hid (∀ v, Calls Try.prog 27 #[.int .i64 4, .int .u64 B] v (RetB true v)))
    (w : World) : Calls Try.prog 10 #[.int .i64 a0, .int .i64 a1, .int .u64 a, .int .u64 b] w (RetB true w) := by
  go_enter Try.func10, Try.ntmps10
  go_wp2_with fail
  refine (awake_c _).mono ?_; rintro e w1 ⟨rfl, hb1⟩
  go_wp2_with fail
  refine (size_4 a0 hs _).mono ?_; rintro e w2 ⟨rfl, hb2⟩
  go_wp2_with fail
  refine (mode_v a1 _).mono ?_; rintro e w3 ⟨rfl, hb3⟩
  go_wp2_with fail
  refine (K1.out _).mono ?_; rintro e w4 ⟨rfl, hb4⟩
  go_wp2_with fail
  refine (K2.out _).mono ?_; rintro e w5 ⟨rfl, hb5⟩
  go_wp2_with fail
  refine (N1.out _).mono ?_; rintro e w6 ⟨rfl, hb6⟩
  go_wp2_with fail
  refine (N2.out _).mono ?_; rintro e w7 ⟨rfl, hb7⟩
  go_wp2_with fail
  go_ret
  exact retB_mk rfl (by repeat (first | (with_reducible first | exact Below.refl _ _ | assumption | exact Nat.le_refl _ | refine Below.drew ?_ | refine Below.alloc ?_ ?_ _ | refine Below.setCell ?_ ?_ _ | refine le_alloc ?_ | refine le_set ?_ | refine le_drew ?_ | refine below_step (by assumption) ?_ ?_ | refine le_below (by assumption) ?_) | (dsimp only; omega)))
set_option maxRecDepth 100000 in
theorem end2_4 (a0 a1 : Int) (a b A B : Nat) (hs : bits .and .i64 a0 1 = 0)
    (K1 : Hid (∀ v, Calls Try.prog 29 #[.int .i64 4, .int .u64 a] v (RetU A v))) (K2 : Hid (∀ v, Calls Try.prog 29 #[.int .i64 4, .int .u64 b] v (RetU B v)))
    (N1 : Hid (∀ v, Calls Try.prog 27 #[.int .i64 4, .int .u64 A] v (RetB false v))) (N2 : Hid (∀ v, Calls Try.prog 27 #[.int .i64 4, .int .u64 B] v (RetB false v))) (N3 : Hid (∀ v, Calls Try.prog 30 #[.int .i64 4, .int .u64 A] v (RetB true v)))
    (w : World) : Calls Try.prog 10 #[.int .i64 a0, .int .i64 a1, .int .u64 a, .int .u64 b] w (RetB true w) := by
  go_enter Try.func10, Try.ntmps10
  go_wp2_with fail
  refine (awake_c _).mono ?_; rintro e w1 ⟨rfl, hb1⟩
  go_wp2_with fail
  refine (size_4 a0 hs _).mono ?_; rintro e w2 ⟨rfl, hb2⟩
  go_wp2_with fail
  refine (mode_v a1 _).mono ?_; rintro e w3 ⟨rfl, hb3⟩
  go_wp2_with fail
  refine (K1.out _).mono ?_; rintro e w4 ⟨rfl, hb4⟩
  go_wp2_with fail
  refine (K2.out _).mono ?_; rintro e w5 ⟨rfl, hb5⟩
  go_wp2_with fail
  refine (N1.out _).mono ?_; rintro e w6 ⟨rfl, hb6⟩
  go_wp2_with fail
  refine (N2.out _).mono ?_; rintro e w7 ⟨rfl, hb7⟩
  go_wp2_with fail
  refine (N3.out _).mono ?_; rintro e w8 ⟨rfl, hb8⟩
  go_wp2_with fail
  go_ret
  exact retB_mk rfl (by repeat (first | (with_reducible first | exact Below.refl _ _ | assumption | exact Nat.le_refl _ | refine Below.drew ?_ | refine Below.alloc ?_ ?_ _ | refine Below.setCell ?_ ?_ _ | refine le_alloc ?_ | refine le_set ?_ | refine le_drew ?_ | refine below_step (by assumption) ?_ ?_ | refine le_below (by assumption) ?_) | (dsimp only; omega)))
set_option maxRecDepth 100000 in
theorem end3_4 (a0 a1 : Int) (a b A B : Nat) (hs : bits .and .i64 a0 1 = 0)
    (K1 : Hid (∀ v, Calls Try.prog 29 #[.int .i64 4, .int .u64 a] v (RetU A v))) (K2 : Hid (∀ v, Calls Try.prog 29 #[.int .i64 4, .int .u64 b] v (RetU B v)))
    (N1 : Hid (∀ v, Calls Try.prog 27 #[.int .i64 4, .int .u64 A] v (RetB false v))) (N2 : Hid (∀ v, Calls Try.prog 27 #[.int .i64 4, .int .u64 B] v (RetB false v))) (N3 : Hid (∀ v, Calls Try.prog 30 #[.int .i64 4, .int .u64 A] v (RetB false v))) (N4 : Hid (∀ v, Calls Try.prog 30 #[.int .i64 4, .int .u64 B] v (RetB true v)))
    (w : World) : Calls Try.prog 10 #[.int .i64 a0, .int .i64 a1, .int .u64 a, .int .u64 b] w (RetB true w) := by
  go_enter Try.func10, Try.ntmps10
  go_wp2_with fail
  refine (awake_c _).mono ?_; rintro e w1 ⟨rfl, hb1⟩
  go_wp2_with fail
  refine (size_4 a0 hs _).mono ?_; rintro e w2 ⟨rfl, hb2⟩
  go_wp2_with fail
  refine (mode_v a1 _).mono ?_; rintro e w3 ⟨rfl, hb3⟩
  go_wp2_with fail
  refine (K1.out _).mono ?_; rintro e w4 ⟨rfl, hb4⟩
  go_wp2_with fail
  refine (K2.out _).mono ?_; rintro e w5 ⟨rfl, hb5⟩
  go_wp2_with fail
  refine (N1.out _).mono ?_; rintro e w6 ⟨rfl, hb6⟩
  go_wp2_with fail
  refine (N2.out _).mono ?_; rintro e w7 ⟨rfl, hb7⟩
  go_wp2_with fail
  refine (N3.out _).mono ?_; rintro e w8 ⟨rfl, hb8⟩
  go_wp2_with fail
  refine (N4.out _).mono ?_; rintro e w9 ⟨rfl, hb9⟩
  go_wp2_with fail
  go_ret
  exact retB_mk rfl (by repeat (first | (with_reducible first | exact Below.refl _ _ | assumption | exact Nat.le_refl _ | refine Below.drew ?_ | refine Below.alloc ?_ ?_ _ | refine Below.setCell ?_ ?_ _ | refine le_alloc ?_ | refine le_set ?_ | refine le_drew ?_ | refine below_step (by assumption) ?_ ?_ | refine le_below (by assumption) ?_) | (dsimp only; omega)))
set_option maxRecDepth 100000 in
set_option maxHeartbeats 16000000 in
theorem core_4 (a0 a1 : Int) (a b A B : Nat) (hs : bits .and .i64 a0 1 = 0)
    (K1 : Hid (∀ v, Calls Try.prog 29 #[.int .i64 4, .int .u64 a] v (RetU A v))) (K2 : Hid (∀ v, Calls Try.prog 29 #[.int .i64 4, .int .u64 b] v (RetU B v)))
    (x q dd e F : Nat) (f h j : Int) (bf bh bj be za : Bool)
    (N1 : Hid (∀ v, Calls Try.prog 27 #[.int .i64 4, .int .u64 A] v (RetB false v))) (N2 : Hid (∀ v, Calls Try.prog 27 #[.int .i64 4, .int .u64 B] v (RetB false v))) (N3 : Hid (∀ v, Calls Try.prog 30 #[.int .i64 4, .int .u64 A] v (RetB false v))) (N4 : Hid (∀ v, Calls Try.prog 30 #[.int .i64 4, .int .u64 B] v (RetB false v)))
    (Z : Hid (∀ v, Calls Try.prog 31 #[.int .i64 4, .int .u64 A] v (RetB za v)))
    (DA : Hid (∀ v, Calls Try.prog 13 #[.int .i64 4, .int .i64 (modeV a1), .int .u64 A, .int .u64 B] v (RetK x f v)))
    (DM : Hid (∀ v, Calls Try.prog 17 #[.int .i64 4, .int .i64 (modeV a1), .int .u64 A, .int .u64 A] v (RetK q h v)))
    (DD : Hid (∀ v, Calls Try.prog 19 #[.int .i64 4, .int .i64 (modeV a1), .int .u64 A, .int .u64 B] v (RetK dd j v)))
    (ef : (f == 0) = bf) (eh : (h == 0) = bh) (ej : (j == 0) = bj) (ee : ((e : Int) == (A : Int)) = be)
    (S : bf = true → za = false → Hid (∀ v, Calls Try.prog 15 #[.int .i64 4, .int .i64 (modeV a1), .int .u64 x, .int .u64 B] v (RetK A 0 v)))
    (R : bh = true → Hid (∀ v, Calls Try.prog 21 #[.int .i64 4, .int .i64 (modeV a1), .int .u64 q] v (RetK F 0 v)))
    (P : bj = true → Hid (∀ v, Calls Try.prog 17 #[.int .i64 4, .int .i64 (modeV a1), .int .u64 dd, .int .u64 B] v (RetK e 0 v)))
    (an : bits .andNot .u64 (A : Int) 2147483648 = (F : Int)) (zF : za = true → ((F : Int) != 0) = false)
    (ze : bj = true → be = false → za = true ∧ Hid (∀ v, Calls Try.prog 31 #[.int .i64 4, .int .u64 e] v (RetB true v)))
    (w : World) : Calls Try.prog 10 #[.int .i64 a0, .int .i64 a1, .int .u64 a, .int .u64 b] w (RetB true w) := by
  cases bf <;> cases za <;> cases bh <;> cases bj
  · as_aux_lemma =>
    clear S R P ze zF
    clear ee
    go_enter Try.func10, Try.ntmps10
    go_wp2_with fail
    refine (awake_c _).mono ?_; rintro e w1 ⟨rfl, hb1⟩
    go_wp2_with fail
    refine (size_4 a0 hs _).mono ?_; rintro e w2 ⟨rfl, hb2⟩
    go_wp2_with fail
    refine (mode_v a1 _).mono ?_; rintro e w3 ⟨rfl, hb3⟩
    go_wp2_with fail
    refine (K1.out _).mono ?_; rintro e w4 ⟨rfl, hb4⟩
    go_wp2_with fail
    refine (K2.out _).mono ?_; rintro e w5 ⟨rfl, hb5⟩
    go_wp2_with fail
    refine (N1.out _).mono ?_; rintro e w6 ⟨rfl, hb6⟩
    go_wp2_with fail
    refine (N2.out _).mono ?_; rintro e w7 ⟨rfl, hb7⟩
    go_wp2_with fail
    refine (N3.out _).mono ?_; rintro e w8 ⟨rfl, hb8⟩
    go_wp2_with fail
    refine (N4.out _).mono ?_; rintro e w9 ⟨rfl, hb9⟩
    go_wp2_with fail
    refine (DA.out _).mono ?_; rintro e w10 ⟨rfl, hb10⟩
    go_wp2_with fail
    refine (DM.out _).mono ?_; rintro e w13 ⟨rfl, hb13⟩
    go_wp2_with fail
    refine (DD.out _).mono ?_; rintro e w16 ⟨rfl, hb16⟩
    go_wp2_with fail
    go_ret
    exact retB_mk (by first | rfl | simp) (by repeat (first | (with_reducible first | exact Below.refl _ _ | assumption | exact Nat.le_refl _ | refine Below.drew ?_ | refine Below.alloc ?_ ?_ _ | refine Below.setCell ?_ ?_ _ | refine le_alloc ?_ | refine le_set ?_ | refine le_drew ?_ | refine below_step (by assumption) ?_ ?_ | refine le_below (by assumption) ?_) | (dsimp only; omega)))
  · as_aux_lemma =>
    have P' := P rfl
    have ze' := ze rfl
    clear S R P ze zF
    cases be
    · exact absurd (ze' rfl).1 (by decide)
    · clear ze'
      go_enter Try.func10, Try.ntmps10
      go_wp2_with fail
      refine (awake_c _).mono ?_; rintro e w1 ⟨rfl, hb1⟩
      go_wp2_with fail
      refine (size_4 a0 hs _).mono ?_; rintro e w2 ⟨rfl, hb2⟩
      go_wp2_with fail
      refine (mode_v a1 _).mono ?_; rintro e w3 ⟨rfl, hb3⟩
      go_wp2_with fail
      refine (K1.out _).mono ?_; rintro e w4 ⟨rfl, hb4⟩
      go_wp2_with fail
      refine (K2.out _).mono ?_; rintro e w5 ⟨rfl, hb5⟩
      go_wp2_with fail
      refine (N1.out _).mono ?_; rintro e w6 ⟨rfl, hb6⟩
      go_wp2_with fail
      refine (N2.out _).mono ?_; rintro e w7 ⟨rfl, hb7⟩
      go_wp2_with fail
      refine (N3.out _).mono ?_; rintro e w8 ⟨rfl, hb8⟩
      go_wp2_with fail
      refine (N4.out _).mono ?_; rintro e w9 ⟨rfl, hb9⟩
      go_wp2_with fail
      refine (DA.out _).mono ?_; rintro e w10 ⟨rfl, hb10⟩
      go_wp2_with fail
      refine (DM.out _).mono ?_; rintro e w13 ⟨rfl, hb13⟩
      go_wp2_with fail
      refine (DD.out _).mono ?_; rintro e w16 ⟨rfl, hb16⟩
      go_wp2_with fail
      refine (P'.out _).mono ?_; rintro e w17 ⟨rfl, hb17⟩
      go_wp2_with fail
      go_ret
      exact retB_mk (by first | rfl | simp) (by repeat (first | (with_reducible first | exact Below.refl _ _ | assumption | exact Nat.le_refl _ | refine Below.drew ?_ | refine Below.alloc ?_ ?_ _ | refine Below.setCell ?_ ?_ _ | refine le_alloc ?_ | refine le_set ?_ | refine le_drew ?_ | refine below_step (by assumption) ?_ ?_ | refine le_below (by assumption) ?_) | (dsimp only; omega)))
  · as_aux_lemma =>
    have R' := R rfl
    clear S R P ze zF
    clear ee
    go_enter Try.func10, Try.ntmps10
    go_wp2_with fail
    refine (awake_c _).mono ?_; rintro e w1 ⟨rfl, hb1⟩
    go_wp2_with fail
    refine (size_4 a0 hs _).mono ?_; rintro e w2 ⟨rfl, hb2⟩
    go_wp2_with fail
    refine (mode_v a1 _).mono ?_; rintro e w3 ⟨rfl, hb3⟩
    go_wp2_with fail
    refine (K1.out _).mono ?_; rintro e w4 ⟨rfl, hb4⟩
    go_wp2_with fail
    refine (K2.out _).mono ?_; rintro e w5 ⟨rfl, hb5⟩
    go_wp2_with fail
    refine (N1.out _).mono ?_; rintro e w6 ⟨rfl, hb6⟩
    go_wp2_with fail
    refine (N2.out _).mono ?_; rintro e w7 ⟨rfl, hb7⟩
    go_wp2_with fail
    refine (N3.out _).mono ?_; rintro e w8 ⟨rfl, hb8⟩
    go_wp2_with fail
    refine (N4.out _).mono ?_; rintro e w9 ⟨rfl, hb9⟩
    go_wp2_with fail
    refine (DA.out _).mono ?_; rintro e w10 ⟨rfl, hb10⟩
    go_wp2_with fail
    refine (DM.out _).mono ?_; rintro e w13 ⟨rfl, hb13⟩
    go_wp2_with fail
    refine (R'.out _).mono ?_; rintro e w14 ⟨rfl, hb14⟩
    go_wp2_with fail
    refine (Z.out _).mono ?_; rintro e w15 ⟨rfl, hb15⟩
    go_wp2_with fail
    refine (DD.out _).mono ?_; rintro e w16 ⟨rfl, hb16⟩
    go_wp2_with fail
    go_ret
    exact retB_mk (by first | rfl | simp) (by repeat (first | (with_reducible first | exact Below.refl _ _ | assumption | exact Nat.le_refl _ | refine Below.drew ?_ | refine Below.alloc ?_ ?_ _ | refine Below.setCell ?_ ?_ _ | refine le_alloc ?_ | refine le_set ?_ | refine le_drew ?_ | refine below_step (by assumption) ?_ ?_ | refine le_below (by assumption) ?_) | (dsimp only; omega)))
  · as_aux_lemma =>
    have R' := R rfl
    have P' := P rfl
    have ze' := ze rfl
    clear S R P ze zF
    cases be
    · exact absurd (ze' rfl).1 (by decide)
    · clear ze'
      go_enter Try.func10, Try.ntmps10
      go_wp2_with fail
      refine (awake_c _).mono ?_; rintro e w1 ⟨rfl, hb1⟩
      go_wp2_with fail
      refine (size_4 a0 hs _).mono ?_; rintro e w2 ⟨rfl, hb2⟩
      go_wp2_with fail
      refine (mode_v a1 _).mono ?_; rintro e w3 ⟨rfl, hb3⟩
      go_wp2_with fail
      refine (K1.out _).mono ?_; rintro e w4 ⟨rfl, hb4⟩
      go_wp2_with fail
      refine (K2.out _).mono ?_; rintro e w5 ⟨rfl, hb5⟩
      go_wp2_with fail
      refine (N1.out _).mono ?_; rintro e w6 ⟨rfl, hb6⟩
      go_wp2_with fail
      refine (N2.out _).mono ?_; rintro e w7 ⟨rfl, hb7⟩
      go_wp2_with fail
      refine (N3.out _).mono ?_; rintro e w8 ⟨rfl, hb8⟩
      go_wp2_with fail
      refine (N4.out _).mono ?_; rintro e w9 ⟨rfl, hb9⟩
      go_wp2_with fail
      refine (DA.out _).mono ?_; rintro e w10 ⟨rfl, hb10⟩
      go_wp2_with fail
      refine (DM.out _).mono ?_; rintro e w13 ⟨rfl, hb13⟩
      go_wp2_with fail
      refine (R'.out _).mono ?_; rintro e w14 ⟨rfl, hb14⟩
      go_wp2_with fail
      refine (Z.out _).mono ?_; rintro e w15 ⟨rfl, hb15⟩
      go_wp2_with fail
      refine (DD.out _).mono ?_; rintro e w16 ⟨rfl, hb16⟩
      go_wp2_with fail
      refine (P'.out _).mono ?_; rintro e w17 ⟨rfl, hb17⟩
      go_wp2_with fail
      go_ret
      exact retB_mk (by first | rfl | simp) (by repeat (first | (with_reducible first | exact Below.refl _ _ | assumption | exact Nat.le_refl _ | refine Below.drew ?_ | refine Below.alloc ?_ ?_ _ | refine Below.setCell ?_ ?_ _ | refine le_alloc ?_ | refine le_set ?_ | refine le_drew ?_ | refine below_step (by assumption) ?_ ?_ | refine le_below (by assumption) ?_) | (dsimp only; omega)))
  · as_aux_lemma =>
    have zf := zF rfl
    clear S R P ze zF
    clear ee
    go_enter Try.func10, Try.ntmps10
    go_wp2_with fail
    refine (awake_c _).mono ?_; rintro e w1 ⟨rfl, hb1⟩
    go_wp2_with fail
    refine (size_4 a0 hs _).mono ?_; rintro e w2 ⟨rfl, hb2⟩
    go_wp2_with fail
    refine (mode_v a1 _).mono ?_; rintro e w3 ⟨rfl, hb3⟩
    go_wp2_with fail
    refine (K1.out _).mono ?_; rintro e w4 ⟨rfl, hb4⟩
    go_wp2_with fail
    refine (K2.out _).mono ?_; rintro e w5 ⟨rfl, hb5⟩
    go_wp2_with fail
    refine (N1.out _).mono ?_; rintro e w6 ⟨rfl, hb6⟩
    go_wp2_with fail
    refine (N2.out _).mono ?_; rintro e w7 ⟨rfl, hb7⟩
    go_wp2_with fail
    refine (N3.out _).mono ?_; rintro e w8 ⟨rfl, hb8⟩
    go_wp2_with fail
    refine (N4.out _).mono ?_; rintro e w9 ⟨rfl, hb9⟩
    go_wp2_with fail
    refine (DA.out _).mono ?_; rintro e w10 ⟨rfl, hb10⟩
    go_wp2_with fail
    refine (DM.out _).mono ?_; rintro e w13 ⟨rfl, hb13⟩
    go_wp2_with fail
    refine (DD.out _).mono ?_; rintro e w16 ⟨rfl, hb16⟩
    go_wp2_with fail
    go_ret
    exact retB_mk (by first | rfl | simp) (by repeat (first | (with_reducible first | exact Below.refl _ _ | assumption | exact Nat.le_refl _ | refine Below.drew ?_ | refine Below.alloc ?_ ?_ _ | refine Below.setCell ?_ ?_ _ | refine le_alloc ?_ | refine le_set ?_ | refine le_drew ?_ | refine below_step (by assumption) ?_ ?_ | refine le_below (by assumption) ?_) | (dsimp only; omega)))
  · as_aux_lemma =>
    have zf := zF rfl
    have P' := P rfl
    have ze' := ze rfl
    clear S R P ze zF
    cases be
    · have hze := ze' rfl
      clear ze'
      go_enter Try.func10, Try.ntmps10
      go_wp2_with fail
      refine (awake_c _).mono ?_; rintro e w1 ⟨rfl, hb1⟩
      go_wp2_with fail
      refine (size_4 a0 hs _).mono ?_; rintro e w2 ⟨rfl, hb2⟩
      go_wp2_with fail
      refine (mode_v a1 _).mono ?_; rintro e w3 ⟨rfl, hb3⟩
      go_wp2_with fail
      refine (K1.out _).mono ?_; rintro e w4 ⟨rfl, hb4⟩
      go_wp2_with fail
      refine (K2.out _).mono ?_; rintro e w5 ⟨rfl, hb5⟩
      go_wp2_with fail
      refine (N1.out _).mono ?_; rintro e w6 ⟨rfl, hb6⟩
      go_wp2_with fail
      refine (N2.out _).mono ?_; rintro e w7 ⟨rfl, hb7⟩
      go_wp2_with fail
      refine (N3.out _).mono ?_; rintro e w8 ⟨rfl, hb8⟩
      go_wp2_with fail
      refine (N4.out _).mono ?_; rintro e w9 ⟨rfl, hb9⟩
      go_wp2_with fail
      refine (DA.out _).mono ?_; rintro e w10 ⟨rfl, hb10⟩
      go_wp2_with fail
      refine (DM.out _).mono ?_; rintro e w13 ⟨rfl, hb13⟩
      go_wp2_with fail
      refine (DD.out _).mono ?_; rintro e w16 ⟨rfl, hb16⟩
      go_wp2_with fail
      refine (P'.out _).mono ?_; rintro e w17 ⟨rfl, hb17⟩
      go_wp2_with fail
      refine (Z.out _).mono ?_; rintro e w18 ⟨rfl, hb18⟩
      go_wp2_with fail
      refine (hze.2.out _).mono ?_; rintro e w19 ⟨rfl, hb19⟩
      go_wp2_with fail
      go_ret
      exact retB_mk (by first | rfl | simp) (by repeat (first | (with_reducible first | exact Below.refl _ _ | assumption | exact Nat.le_refl _ | refine Below.drew ?_ | refine Below.alloc ?_ ?_ _ | refine Below.setCell ?_ ?_ _ | refine le_alloc ?_ | refine le_set ?_ | refine le_drew ?_ | refine below_step (by assumption) ?_ ?_ | refine le_below (by assumption) ?_) | (dsimp only; omega)))
    · clear ze'
      go_enter Try.func10, Try.ntmps10
      go_wp2_with fail
      refine (awake_c _).mono ?_; rintro e w1 ⟨rfl, hb1⟩
      go_wp2_with fail
      refine (size_4 a0 hs _).mono ?_; rintro e w2 ⟨rfl, hb2⟩
      go_wp2_with fail
      refine (mode_v a1 _).mono ?_; rintro e w3 ⟨rfl, hb3⟩
      go_wp2_with fail
      refine (K1.out _).mono ?_; rintro e w4 ⟨rfl, hb4⟩
      go_wp2_with fail
      refine (K2.out _).mono ?_; rintro e w5 ⟨rfl, hb5⟩
      go_wp2_with fail
      refine (N1.out _).mono ?_; rintro e w6 ⟨rfl, hb6⟩
      go_wp2_with fail
      refine (N2.out _).mono ?_; rintro e w7 ⟨rfl, hb7⟩
      go_wp2_with fail
      refine (N3.out _).mono ?_; rintro e w8 ⟨rfl, hb8⟩
      go_wp2_with fail
      refine (N4.out _).mono ?_; rintro e w9 ⟨rfl, hb9⟩
      go_wp2_with fail
      refine (DA.out _).mono ?_; rintro e w10 ⟨rfl, hb10⟩
      go_wp2_with fail
      refine (DM.out _).mono ?_; rintro e w13 ⟨rfl, hb13⟩
      go_wp2_with fail
      refine (DD.out _).mono ?_; rintro e w16 ⟨rfl, hb16⟩
      go_wp2_with fail
      refine (P'.out _).mono ?_; rintro e w17 ⟨rfl, hb17⟩
      go_wp2_with fail
      go_ret
      exact retB_mk (by first | rfl | simp) (by repeat (first | (with_reducible first | exact Below.refl _ _ | assumption | exact Nat.le_refl _ | refine Below.drew ?_ | refine Below.alloc ?_ ?_ _ | refine Below.setCell ?_ ?_ _ | refine le_alloc ?_ | refine le_set ?_ | refine le_drew ?_ | refine below_step (by assumption) ?_ ?_ | refine le_below (by assumption) ?_) | (dsimp only; omega)))
  · as_aux_lemma =>
    have zf := zF rfl
    have R' := R rfl
    clear S R P ze zF
    clear ee
    go_enter Try.func10, Try.ntmps10
    go_wp2_with fail
    refine (awake_c _).mono ?_; rintro e w1 ⟨rfl, hb1⟩
    go_wp2_with fail
    refine (size_4 a0 hs _).mono ?_; rintro e w2 ⟨rfl, hb2⟩
    go_wp2_with fail
    refine (mode_v a1 _).mono ?_; rintro e w3 ⟨rfl, hb3⟩
    go_wp2_with fail
    refine (K1.out _).mono ?_; rintro e w4 ⟨rfl, hb4⟩
    go_wp2_with fail
    refine (K2.out _).mono ?_; rintro e w5 ⟨rfl, hb5⟩
    go_wp2_with fail
    refine (N1.out _).mono ?_; rintro e w6 ⟨rfl, hb6⟩
    go_wp2_with fail
    refine (N2.out _).mono ?_; rintro e w7 ⟨rfl, hb7⟩
    go_wp2_with fail
    refine (N3.out _).mono ?_; rintro e w8 ⟨rfl, hb8⟩
    go_wp2_with fail
    refine (N4.out _).mono ?_; rintro e w9 ⟨rfl, hb9⟩
    go_wp2_with fail
    refine (DA.out _).mono ?_; rintro e w10 ⟨rfl, hb10⟩
    go_wp2_with fail
    refine (DM.out _).mono ?_; rintro e w13 ⟨rfl, hb13⟩
    go_wp2_with fail
    refine (R'.out _).mono ?_; rintro e w14 ⟨rfl, hb14⟩
    go_wp2_with fail
    refine (Z.out _).mono ?_; rintro e w15 ⟨rfl, hb15⟩
    go_wp2_with fail
    refine (DD.out _).mono ?_; rintro e w16 ⟨rfl, hb16⟩
    go_wp2_with fail
    go_ret
    exact retB_mk (by first | rfl | simp) (by repeat (first | (with_reducible first | exact Below.refl _ _ | assumption | exact Nat.le_refl _ | refine Below.drew ?_ | refine Below.alloc ?_ ?_ _ | refine Below.setCell ?_ ?_ _ | refine le_alloc ?_ | refine le_set ?_ | refine le_drew ?_ | refine below_step (by assumption) ?_ ?_ | refine le_below (by assumption) ?_) | (dsimp only; omega)))
  · as_aux_lemma =>
    have zf := zF rfl
    have R' := R rfl
    have P' := P rfl
    have ze' := ze rfl
    clear S R P ze zF
    cases be
    · have hze := ze' rfl
      clear ze'
      go_enter Try.func10, Try.ntmps10
      go_wp2_with fail
      refine (awake_c _).mono ?_; rintro e w1 ⟨rfl, hb1⟩
      go_wp2_with fail
      refine (size_4 a0 hs _).mono ?_; rintro e w2 ⟨rfl, hb2⟩
      go_wp2_with fail
      refine (mode_v a1 _).mono ?_; rintro e w3 ⟨rfl, hb3⟩
      go_wp2_with fail
      refine (K1.out _).mono ?_; rintro e w4 ⟨rfl, hb4⟩
      go_wp2_with fail
      refine (K2.out _).mono ?_; rintro e w5 ⟨rfl, hb5⟩
      go_wp2_with fail
      refine (N1.out _).mono ?_; rintro e w6 ⟨rfl, hb6⟩
      go_wp2_with fail
      refine (N2.out _).mono ?_; rintro e w7 ⟨rfl, hb7⟩
      go_wp2_with fail
      refine (N3.out _).mono ?_; rintro e w8 ⟨rfl, hb8⟩
      go_wp2_with fail
      refine (N4.out _).mono ?_; rintro e w9 ⟨rfl, hb9⟩
      go_wp2_with fail
      refine (DA.out _).mono ?_; rintro e w10 ⟨rfl, hb10⟩
      go_wp2_with fail
      refine (DM.out _).mono ?_; rintro e w13 ⟨rfl, hb13⟩
      go_wp2_with fail
      refine (R'.out _).mono ?_; rintro e w14 ⟨rfl, hb14⟩
      go_wp2_with fail
      refine (Z.out _).mono ?_; rintro e w15 ⟨rfl, hb15⟩
      go_wp2_with fail
      refine (DD.out _).mono ?_; rintro e w16 ⟨rfl, hb16⟩
      go_wp2_with fail
      refine (P'.out _).mono ?_; rintro e w17 ⟨rfl, hb17⟩
      go_wp2_with fail
      refine (Z.out _).mono ?_; rintro e w18 ⟨rfl, hb18⟩
      go_wp2_with fail
      refine (hze.2.out _).mono ?_; rintro e w19 ⟨rfl, hb19⟩
      go_wp2_with fail
      go_ret
      exact retB_mk (by first | rfl | simp) (by repeat (first | (with_reducible first | exact Below.refl _ _ | assumption | exact Nat.le_refl _ | refine Below.drew ?_ | refine Below.alloc ?_ ?_ _ | refine Below.setCell ?_ ?_ _ | refine le_alloc ?_ | refine le_set ?_ | refine le_drew ?_ | refine below_step (by assumption) ?_ ?_ | refine le_below (by assumption) ?_) | (dsimp only; omega)))
    · clear ze'
      go_enter Try.func10, Try.ntmps10
      go_wp2_with fail
      refine (awake_c _).mono ?_; rintro e w1 ⟨rfl, hb1⟩
      go_wp2_with fail
      refine (size_4 a0 hs _).mono ?_; rintro e w2 ⟨rfl, hb2⟩
      go_wp2_with fail
      refine (mode_v a1 _).mono ?_; rintro e w3 ⟨rfl, hb3⟩
      go_wp2_with fail
      refine (K1.out _).mono ?_; rintro e w4 ⟨rfl, hb4⟩
      go_wp2_with fail
      refine (K2.out _).mono ?_; rintro e w5 ⟨rfl, hb5⟩
      go_wp2_with fail
      refine (N1.out _).mono ?_; rintro e w6 ⟨rfl, hb6⟩
      go_wp2_with fail
      refine (N2.out _).mono ?_; rintro e w7 ⟨rfl, hb7⟩
      go_wp2_with fail
      refine (N3.out _).mono ?_; rintro e w8 ⟨rfl, hb8⟩
      go_wp2_with fail
      refine (N4.out _).mono ?_; rintro e w9 ⟨rfl, hb9⟩
      go_wp2_with fail
      refine (DA.out _).mono ?_; rintro e w10 ⟨rfl, hb10⟩
      go_wp2_with fail
      refine (DM.out _).mono ?_; rintro e w13 ⟨rfl, hb13⟩
      go_wp2_with fail
      refine (R'.out _).mono ?_; rintro e w14 ⟨rfl, hb14⟩
      go_wp2_with fail
      refine (Z.out _).mono ?_; rintro e w15 ⟨rfl, hb15⟩
      go_wp2_with fail
      refine (DD.out _).mono ?_; rintro e w16 ⟨rfl, hb16⟩
      go_wp2_with fail
      refine (P'.out _).mono ?_; rintro e w17 ⟨rfl, hb17⟩
      go_wp2_with fail
      go_ret
      exact retB_mk (by first | rfl | simp) (by repeat (first | (with_reducible first | exact Below.refl _ _ | assumption | exact Nat.le_refl _ | refine Below.drew ?_ | refine Below.alloc ?_ ?_ _ | refine Below.setCell ?_ ?_ _ | refine le_alloc ?_ | refine le_set ?_ | refine le_drew ?_ | refine below_step (by assumption) ?_ ?_ | refine le_below (by assumption) ?_) | (dsimp only; omega)))
  · as_aux_lemma =>
    have S' := S rfl rfl
    clear S R P ze zF
    clear ee
    go_enter Try.func10, Try.ntmps10
    go_wp2_with fail
    refine (awake_c _).mono ?_; rintro e w1 ⟨rfl, hb1⟩
    go_wp2_with fail
    refine (size_4 a0 hs _).mono ?_; rintro e w2 ⟨rfl, hb2⟩
    go_wp2_with fail
    refine (mode_v a1 _).mono ?_; rintro e w3 ⟨rfl, hb3⟩
    go_wp2_with fail
    refine (K1.out _).mono ?_; rintro e w4 ⟨rfl, hb4⟩
    go_wp2_with fail
    refine (K2.out _).mono ?_; rintro e w5 ⟨rfl, hb5⟩
    go_wp2_with fail
    refine (N1.out _).mono ?_; rintro e w6 ⟨rfl, hb6⟩
    go_wp2_with fail
    refine (N2.out _).mono ?_; rintro e w7 ⟨rfl, hb7⟩
    go_wp2_with fail
    refine (N3.out _).mono ?_; rintro e w8 ⟨rfl, hb8⟩
    go_wp2_with fail
    refine (N4.out _).mono ?_; rintro e w9 ⟨rfl, hb9⟩
    go_wp2_with fail
    refine (DA.out _).mono ?_; rintro e w10 ⟨rfl, hb10⟩
    go_wp2_with fail
    refine (Z.out _).mono ?_; rintro e w11 ⟨rfl, hb11⟩
    go_wp2_with fail
    refine (S'.out _).mono ?_; rintro e w12 ⟨rfl, hb12⟩
    go_wp2_with fail
    refine (DM.out _).mono ?_; rintro e w13 ⟨rfl, hb13⟩
    go_wp2_with fail
    refine (DD.out _).mono ?_; rintro e w16 ⟨rfl, hb16⟩
    go_wp2_with fail
    go_ret
    exact retB_mk (by first | rfl | simp) (by repeat (first | (with_reducible first | exact Below.refl _ _ | assumption | exact Nat.le_refl _ | refine Below.drew ?_ | refine Below.alloc ?_ ?_ _ | refine Below.setCell ?_ ?_ _ | refine le_alloc ?_ | refine le_set ?_ | refine le_drew ?_ | refine below_step (by assumption) ?_ ?_ | refine le_below (by assumption) ?_) | (dsimp only; omega)))
  · as_aux_lemma =>
    have S' := S rfl rfl
    have P' := P rfl
    have ze' := ze rfl
    clear S R P ze zF
    cases be
    · exact absurd (ze' rfl).1 (by decide)
    · clear ze'
      go_enter Try.func10, Try.ntmps10
      go_wp2_with fail
      refine (awake_c _).mono ?_; rintro e w1 ⟨rfl, hb1⟩
      go_wp2_with fail
      refine (size_4 a0 hs _).mono ?_; rintro e w2 ⟨rfl, hb2⟩
      go_wp2_with fail
      refine (mode_v a1 _).mono ?_; rintro e w3 ⟨rfl, hb3⟩
      go_wp2_with fail
      refine (K1.out _).mono ?_; rintro e w4 ⟨rfl, hb4⟩
      go_wp2_with fail
      refine (K2.out _).mono ?_; rintro e w5 ⟨rfl, hb5⟩
      go_wp2_with fail
      refine (N1.out _).mono ?_; rintro e w6 ⟨rfl, hb6⟩
      go_wp2_with fail
      refine (N2.out _).mono ?_; rintro e w7 ⟨rfl, hb7⟩
      go_wp2_with fail
      refine (N3.out _).mono ?_; rintro e w8 ⟨rfl, hb8⟩
      go_wp2_with fail
      refine (N4.out _).mono ?_; rintro e w9 ⟨rfl, hb9⟩
      go_wp2_with fail
      refine (DA.out _).mono ?_; rintro e w10 ⟨rfl, hb10⟩
      go_wp2_with fail
      refine (Z.out _).mono ?_; rintro e w11 ⟨rfl, hb11⟩
      go_wp2_with fail
      refine (S'.out _).mono ?_; rintro e w12 ⟨rfl, hb12⟩
      go_wp2_with fail
      refine (DM.out _).mono ?_; rintro e w13 ⟨rfl, hb13⟩
      go_wp2_with fail
      refine (DD.out _).mono ?_; rintro e w16 ⟨rfl, hb16⟩
      go_wp2_with fail
      refine (P'.out _).mono ?_; rintro e w17 ⟨rfl, hb17⟩
      go_wp2_with fail
      go_ret
      exact retB_mk (by first | rfl | simp) (by repeat (first | (with_reducible first | exact Below.refl _ _ | assumption | exact Nat.le_refl _ | refine Below.drew ?_ | refine Below.alloc ?_ ?_ _ | refine Below.setCell ?_ ?_ _ | refine le_alloc ?_ | refine le_set ?_ | refine le_drew ?_ | refine below_step (by assumption) ?_ ?_ | refine le_below (by assumption) ?_) | (dsimp only; omega)))
  · as_aux_lemma =>
    have S' := S rfl rfl
    have R' := R rfl
    clear S R P ze zF
    clear ee
    go_enter Try.func10, Try.ntmps10
    go_wp2_with fail
    refine (awake_c _).mono ?_; rintro e w1 ⟨rfl, hb1⟩
    go_wp2_with fail
    refine (size_4 a0 hs _).mono ?_; rintro e w2 ⟨rfl, hb2⟩
    go_wp2_with fail
    refine (mode_v a1 _).mono ?_; rintro e w3 ⟨rfl, hb3⟩
    go_wp2_with fail
    refine (K1.out _).mono ?_; rintro e w4 ⟨rfl, hb4⟩
    go_wp2_with fail
    refine (K2.out _).mono ?_; rintro e w5 ⟨rfl, hb5⟩
    go_wp2_with fail
    refine (N1.out _).mono ?_; rintro e w6 ⟨rfl, hb6⟩
    go_wp2_with fail
    refine (N2.out _).mono ?_; rintro e w7 ⟨rfl, hb7⟩
    go_wp2_with fail
    refine (N3.out _).mono ?_; rintro e w8 ⟨rfl, hb8⟩
    go_wp2_with fail
    refine (N4.out _).mono ?_; rintro e w9 ⟨rfl, hb9⟩
    go_wp2_with fail
    refine (DA.out _).mono ?_; rintro e w10 ⟨rfl, hb10⟩
    go_wp2_with fail
    refine (Z.out _).mono ?_; rintro e w11 ⟨rfl, hb11⟩
    go_wp2_with fail
    refine (S'.out _).mono ?_; rintro e w12 ⟨rfl, hb12⟩
    go_wp2_with fail
    refine (DM.out _).mono ?_; rintro e w13 ⟨rfl, hb13⟩
    go_wp2_with fail
    refine (R'.out _).mono ?_; rintro e w14 ⟨rfl, hb14⟩
    go_wp2_with fail
    refine (Z.out _).mono ?_; rintro e w15 ⟨rfl, hb15⟩
    go_wp2_with fail
    refine (DD.out _).mono ?_; rintro e w16 ⟨rfl, hb16⟩
    go_wp2_with fail
    go_ret
    exact retB_mk (by first | rfl | simp) (by repeat (first | (with_reducible first | exact Below.refl _ _ | assumption | exact Nat.le_refl _ | refine Below.drew ?_ | refine Below.alloc ?_ ?_ _ | refine Below.setCell ?_ ?_ _ | refine le_alloc ?_ | refine le_set ?_ | refine le_drew ?_ | refine below_step (by assumption) ?_ ?_ | refine le_below (by assumption) ?_) | (dsimp only; omega)))
  · as_aux_lemma =>
    have S' := S rfl rfl
    have R' := R rfl
    have P' := P rfl
    have ze' := ze rfl
    clear S R P ze zF
    cases be
    · exact absurd (ze' rfl).1 (by decide)
    · clear ze'
      go_enter Try.func10, Try.ntmps10
      go_wp2_with fail
      refine (awake_c _).mono ?_; rintro e w1 ⟨rfl, hb1⟩
      go_wp2_with fail
      refine (size_4 a0 hs _).mono ?_; rintro e w2 ⟨rfl, hb2⟩
      go_wp2_with fail
      refine (mode_v a1 _).mono ?_; rintro e w3 ⟨rfl, hb3⟩
      go_wp2_with fail
      refine (K1.out _).mono ?_; rintro e w4 ⟨rfl, hb4⟩
      go_wp2_with fail
      refine (K2.out _).mono ?_; rintro e w5 ⟨rfl, hb5⟩
      go_wp2_with fail
      refine (N1.out _).mono ?_; rintro e w6 ⟨rfl, hb6⟩
      go_wp2_with fail
      refine (N2.out _).mono ?_; rintro e w7 ⟨rfl, hb7⟩
      go_wp2_with fail
      refine (N3.out _).mono ?_; rintro e w8 ⟨rfl, hb8⟩
      go_wp2_with fail
      refine (N4.out _).mono ?_; rintro e w9 ⟨rfl, hb9⟩
      go_wp2_with fail
      refine (DA.out _).mono ?_; rintro e w10 ⟨rfl, hb10⟩
      go_wp2_with fail
      refine (Z.out _).mono ?_; rintro e w11 ⟨rfl, hb11⟩
      go_wp2_with fail
      refine (S'.out _).mono ?_; rintro e w12 ⟨rfl, hb12⟩
      go_wp2_with fail
      refine (DM.out _).mono ?_; rintro e w13 ⟨rfl, hb13⟩
      go_wp2_with fail
      refine (R'.out _).mono ?_; rintro e w14 ⟨rfl, hb14⟩
      go_wp2_with fail
      refine (Z.out _).mono ?_; rintro e w15 ⟨rfl, hb15⟩
      go_wp2_with fail
      refine (DD.out _).mono ?_; rintro e w16 ⟨rfl, hb16⟩
      go_wp2_with fail
      refine (P'.out _).mono ?_; rintro e w17 ⟨rfl, hb17⟩
      go_wp2_with fail
      go_ret
      exact retB_mk (by first | rfl | simp) (by repeat (first | (with_reducible first | exact Below.refl _ _ | assumption | exact Nat.le_refl _ | refine Below.drew ?_ | refine Below.alloc ?_ ?_ _ | refine Below.setCell ?_ ?_ _ | refine le_alloc ?_ | refine le_set ?_ | refine le_drew ?_ | refine below_step (by assumption) ?_ ?_ | refine le_below (by assumption) ?_) | (dsimp only; omega)))
  · as_aux_lemma =>
    have zf := zF rfl
    clear S R P ze zF
    clear ee
    go_enter Try.func10, Try.ntmps10
    go_wp2_with fail
    refine (awake_c _).mono ?_; rintro e w1 ⟨rfl, hb1⟩
    go_wp2_with fail
    refine (size_4 a0 hs _).mono ?_; rintro e w2 ⟨rfl, hb2⟩
    go_wp2_with fail
    refine (mode_v a1 _).mono ?_; rintro e w3 ⟨rfl, hb3⟩
    go_wp2_with fail
    refine (K1.out _).mono ?_; rintro e w4 ⟨rfl, hb4⟩
    go_wp2_with fail
    refine (K2.out _).mono ?_; rintro e w5 ⟨rfl, hb5⟩
    go_wp2_with fail
    refine (N1.out _).mono ?_; rintro e w6 ⟨rfl, hb6⟩
    go_wp2_with fail
    refine (N2.out _).mono ?_; rintro e w7 ⟨rfl, hb7⟩
    go_wp2_with fail
    refine (N3.out _).mono ?_; rintro e w8 ⟨rfl, hb8⟩
    go_wp2_with fail
    refine (N4.out _).mono ?_; rintro e w9 ⟨rfl, hb9⟩
    go_wp2_with fail
    refine (DA.out _).mono ?_; rintro e w10 ⟨rfl, hb10⟩
    go_wp2_with fail
    refine (Z.out _).mono ?_; rintro e w11 ⟨rfl, hb11⟩
    go_wp2_with fail
    refine (DM.out _).mono ?_; rintro e w13 ⟨rfl, hb13⟩
    go_wp2_with fail
    refine (DD.out _).mono ?_; rintro e w16 ⟨rfl, hb16⟩
    go_wp2_with fail
    go_ret
    exact retB_mk (by first | rfl | simp) (by repeat (first | (with_reducible first | exact Below.refl _ _ | assumption | exact Nat.le_refl _ | refine Below.drew ?_ | refine Below.alloc ?_ ?_ _ | refine Below.setCell ?_ ?_ _ | refine le_alloc ?_ | refine le_set ?_ | refine le_drew ?_ | refine below_step (by assumption) ?_ ?_ | refine le_below (by assumption) ?_) | (dsimp only; omega)))
  · as_aux_lemma =>
    have zf := zF rfl
    have P' := P rfl
    have ze' := ze rfl
    clear S R P ze zF
    cases be
    · have hze := ze' rfl
      clear ze'
      go_enter Try.func10, Try.ntmps10
      go_wp2_with fail
      refine (awake_c _).mono ?_; rintro e w1 ⟨rfl, hb1⟩
      go_wp2_with fail
      refine (size_4 a0 hs _).mono ?_; rintro e w2 ⟨rfl, hb2⟩
      go_wp2_with fail
      refine (mode_v a1 _).mono ?_; rintro e w3 ⟨rfl, hb3⟩
      go_wp2_with fail
      refine (K1.out _).mono ?_; rintro e w4 ⟨rfl, hb4⟩
      go_wp2_with fail
      refine (K2.out _).mono ?_; rintro e w5 ⟨rfl, hb5⟩
      go_wp2_with fail
      refine (N1.out _).mono ?_; rintro e w6 ⟨rfl, hb6⟩
      go_wp2_with fail
      refine (N2.out _).mono ?_; rintro e w7 ⟨rfl, hb7⟩
      go_wp2_with fail
      refine (N3.out _).mono ?_; rintro e w8 ⟨rfl, hb8⟩
      go_wp2_with fail
      refine (N4.out _).mono ?_; rintro e w9 ⟨rfl, hb9⟩
      go_wp2_with fail
      refine (DA.out _).mono ?_; rintro e w10 ⟨rfl, hb10⟩
      go_wp2_with fail
      refine (Z.out _).mono ?_; rintro e w11 ⟨rfl, hb11⟩
      go_wp2_with fail
      refine (DM.out _).mono ?_; rintro e w13 ⟨rfl, hb13⟩
      go_wp2_with fail
      refine (DD.out _).mono ?_; rintro e w16 ⟨rfl, hb16⟩
      go_wp2_with fail
      refine (P'.out _).mono ?_; rintro e w17 ⟨rfl, hb17⟩
      go_wp2_with fail
      refine (Z.out _).mono ?_; rintro e w18 ⟨rfl, hb18⟩
      go_wp2_with fail
      refine (hze.2.out _).mono ?_; rintro e w19 ⟨rfl, hb19⟩
      go_wp2_with fail
      go_ret
      exact retB_mk (by first | rfl | simp) (by repeat (first | (with_reducible first | exact Below.refl _ _ | assumption | exact Nat.le_refl _ | refine Below.drew ?_ | refine Below.alloc ?_ ?_ _ | refine Below.setCell ?_ ?_ _ | refine le_alloc ?_ | refine le_set ?_ | refine le_drew ?_ | refine below_step (by assumption) ?_ ?_ | refine le_below (by assumption) ?_) | (dsimp only; omega)))
    · clear ze'
      go_enter Try.func10, Try.ntmps10
      go_wp2_with fail
      refine (awake_c _).mono ?_; rintro e w1 ⟨rfl, hb1⟩
      go_wp2_with fail
      refine (size_4 a0 hs _).mono ?_; rintro e w2 ⟨rfl, hb2⟩
      go_wp2_with fail
      refine (mode_v a1 _).mono ?_; rintro e w3 ⟨rfl, hb3⟩
      go_wp2_with fail
      refine (K1.out _).mono ?_; rintro e w4 ⟨rfl, hb4⟩
      go_wp2_with fail
      refine (K2.out _).mono ?_; rintro e w5 ⟨rfl, hb5⟩
      go_wp2_with fail
      refine (N1.out _).mono ?_; rintro e w6 ⟨rfl, hb6⟩
      go_wp2_with fail
      refine (N2.out _).mono ?_; rintro e w7 ⟨rfl, hb7⟩
      go_wp2_with fail
      refine (N3.out _).mono ?_; rintro e w8 ⟨rfl, hb8⟩
      go_wp2_with fail
      refine (N4.out _).mono ?_; rintro e w9 ⟨rfl, hb9⟩
      go_wp2_with fail
      refine (DA.out _).mono ?_; rintro e w10 ⟨rfl, hb10⟩
      go_wp2_with fail
      refine (Z.out _).mono ?_; rintro e w11 ⟨rfl, hb11⟩
      go_wp2_with fail
      refine (DM.out _).mono ?_; rintro e w13 ⟨rfl, hb13⟩
      go_wp2_with fail
      refine (DD.out _).mono ?_; rintro e w16 ⟨rfl, hb16⟩
      go_wp2_with fail
      refine (P'.out _).mono ?_; rintro e w17 ⟨rfl, hb17⟩
      go_wp2_with fail
      go_ret
      exact retB_mk (by first | rfl | simp) (by repeat (first | (with_reducible first | exact Below.refl _ _ | assumption | exact Nat.le_refl _ | refine Below.drew ?_ | refine Below.alloc ?_ ?_ _ | refine Below.setCell ?_ ?_ _ | refine le_alloc ?_ | refine le_set ?_ | refine le_drew ?_ | refine below_step (by assumption) ?_ ?_ | refine le_below (by assumption) ?_) | (dsimp only; omega)))
  · as_aux_lemma =>
    have zf := zF rfl
    have R' := R rfl
    clear S R P ze zF
    clear ee
    go_enter Try.func10, Try.ntmps10
    go_wp2_with fail
    refine (awake_c _).mono ?_; rintro e w1 ⟨rfl, hb1⟩
    go_wp2_with fail
    refine (size_4 a0 hs _).mono ?_; rintro e w2 ⟨rfl, hb2⟩
    go_wp2_with fail
    refine (mode_v a1 _).mono ?_; rintro e w3 ⟨rfl, hb3⟩
    go_wp2_with fail
    refine (K1.out _).mono ?_; rintro e w4 ⟨rfl, hb4⟩
    go_wp2_with fail
    refine (K2.out _).mono ?_; rintro e w5 ⟨rfl, hb5⟩
    go_wp2_with fail
    refine (N1.out _).mono ?_; rintro e w6 ⟨rfl, hb6⟩
    go_wp2_with fail
    refine (N2.out _).mono ?_; rintro e w7 ⟨rfl, hb7⟩
    go_wp2_with fail
    refine (N3.out _).mono ?_; rintro e w8 ⟨rfl, hb8⟩
    go_wp2_with fail
    refine (N4.out _).mono ?_; rintro e w9 ⟨rfl, hb9⟩
    go_wp2_with fail
    refine (DA.out _).mono ?_; rintro e w10 ⟨rfl, hb10⟩
    go_wp2_with fail
    refine (Z.out _).mono ?_; rintro e w11 ⟨rfl, hb11⟩
    go_wp2_with fail
    refine (DM.out _).mono ?_; rintro e w13 ⟨rfl, hb13⟩
    go_wp2_with fail
    refine (R'.out _).mono ?_; rintro e w14 ⟨rfl, hb14⟩
    go_wp2_with fail
    refine (Z.out _).mono ?_; rintro e w15 ⟨rfl, hb15⟩
    go_wp2_with fail
    refine (DD.out _).mono ?_; rintro e w16 ⟨rfl, hb16⟩
    go_wp2_with fail
    go_ret
    exact retB_mk (by first | rfl | simp) (by repeat (first | (with_reducible first | exact Below.refl _ _ | assumption | exact Nat.le_refl _ | refine Below.drew ?_ | refine Below.alloc ?_ ?_ _ | refine Below.setCell ?_ ?_ _ | refine le_alloc ?_ | refine le_set ?_ | refine le_drew ?_ | refine below_step (by assumption) ?_ ?_ | refine le_below (by assumption) ?_) | (dsimp only; omega)))
  · as_aux_lemma =>
    have zf := zF rfl
    have R' := R rfl
    have P' := P rfl
    have ze' := ze rfl
    clear S R P ze zF
    cases be
    · have hze := ze' rfl
      clear ze'
      go_enter Try.func10, Try.ntmps10
      go_wp2_with fail
      refine (awake_c _).mono ?_; rintro e w1 ⟨rfl, hb1⟩
      go_wp2_with fail
      refine (size_4 a0 hs _).mono ?_; rintro e w2 ⟨rfl, hb2⟩
      go_wp2_with fail
      refine (mode_v a1 _).mono ?_; rintro e w3 ⟨rfl, hb3⟩
      go_wp2_with fail
      refine (K1.out _).mono ?_; rintro e w4 ⟨rfl, hb4⟩
      go_wp2_with fail
      refine (K2.out _).mono ?_; rintro e w5 ⟨rfl, hb5⟩
      go_wp2_with fail
      refine (N1.out _).mono ?_; rintro e w6 ⟨rfl, hb6⟩
      go_wp2_with fail
      refine (N2.out _).mono ?_; rintro e w7 ⟨rfl, hb7⟩
      go_wp2_with fail
      refine (N3.out _).mono ?_; rintro e w8 ⟨rfl, hb8⟩
      go_wp2_with fail
      refine (N4.out _).mono ?_; rintro e w9 ⟨rfl, hb9⟩
      go_wp2_with fail
      refine (DA.out _).mono ?_; rintro e w10 ⟨rfl, hb10⟩
      go_wp2_with fail
      refine (Z.out _).mono ?_; rintro e w11 ⟨rfl, hb11⟩
      go_wp2_with fail
      refine (DM.out _).mono ?_; rintro e w13 ⟨rfl, hb13⟩
      go_wp2_with fail
      refine (R'.out _).mono ?_; rintro e w14 ⟨rfl, hb14⟩
      go_wp2_with fail
      refine (Z.out _).mono ?_; rintro e w15 ⟨rfl, hb15⟩
      go_wp2_with fail
      refine (DD.out _).mono ?_; rintro e w16 ⟨rfl, hb16⟩
      go_wp2_with fail
      refine (P'.out _).mono ?_; rintro e w17 ⟨rfl, hb17⟩
      go_wp2_with fail
      refine (Z.out _).mono ?_; rintro e w18 ⟨rfl, hb18⟩
      go_wp2_with fail
      refine (hze.2.out _).mono ?_; rintro e w19 ⟨rfl, hb19⟩
      go_wp2_with fail
      go_ret
      exact retB_mk (by first | rfl | simp) (by repeat (first | (with_reducible first | exact Below.refl _ _ | assumption | exact Nat.le_refl _ | refine Below.drew ?_ | refine Below.alloc ?_ ?_ _ | refine Below.setCell ?_ ?_ _ | refine le_alloc ?_ | refine le_set ?_ | refine le_drew ?_ | refine below_step (by assumption) ?_ ?_ | refine le_below (by assumption) ?_) | (dsimp only; omega)))
    · clear ze'
      go_enter Try.func10, Try.ntmps10
      go_wp2_with fail
      refine (awake_c _).mono ?_; rintro e w1 ⟨rfl, hb1⟩
      go_wp2_with fail
      refine (size_4 a0 hs _).mono ?_; rintro e w2 ⟨rfl, hb2⟩
      go_wp2_with fail
      refine (mode_v a1 _).mono ?_; rintro e w3 ⟨rfl, hb3⟩
      go_wp2_with fail
      refine (K1.out _).mono ?_; rintro e w4 ⟨rfl, hb4⟩
      go_wp2_with fail
      refine (K2.out _).mono ?_; rintro e w5 ⟨rfl, hb5⟩
      go_wp2_with fail
      refine (N1.out _).mono ?_; rintro e w6 ⟨rfl, hb6⟩
      go_wp2_with fail
      refine (N2.out _).mono ?_; rintro e w7 ⟨rfl, hb7⟩
      go_wp2_with fail
      refine (N3.out _).mono ?_; rintro e w8 ⟨rfl, hb8⟩
      go_wp2_with fail
      refine (N4.out _).mono ?_; rintro e w9 ⟨rfl, hb9⟩
      go_wp2_with fail
      refine (DA.out _).mono ?_; rintro e w10 ⟨rfl, hb10⟩
      go_wp2_with fail
      refine (Z.out _).mono ?_; rintro e w11 ⟨rfl, hb11⟩
      go_wp2_with fail
      refine (DM.out _).mono ?_; rintro e w13 ⟨rfl, hb13⟩
      go_wp2_with fail
      refine (R'.out _).mono ?_; rintro e w14 ⟨rfl, hb14⟩
      go_wp2_with fail
      refine (Z.out _).mono ?_; rintro e w15 ⟨rfl, hb15⟩
      go_wp2_with fail
      refine (DD.out _).mono ?_; rintro e w16 ⟨rfl, hb16⟩
      go_wp2_with fail
      refine (P'.out _).mono ?_; rintro e w17 ⟨rfl, hb17⟩
      go_wp2_with fail
      go_ret
      exact retB_mk (by first | rfl | simp) (by repeat (first | (with_reducible first | exact Below.refl _ _ | assumption | exact Nat.le_refl _ | refine Below.drew ?_ | refine Below.alloc ?_ ?_ _ | refine Below.setCell ?_ ?_ _ | refine le_alloc ?_ | refine le_set ?_ | refine le_drew ?_ | refine below_step (by assumption) ?_ ?_ | refine le_below (by assumption) ?_) | (dsimp only; omega)))
end Go.Proofs.Ytnmkahdgfakpiaa
