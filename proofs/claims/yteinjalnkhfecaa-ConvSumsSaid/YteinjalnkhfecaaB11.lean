/- The contracts of the reference's order, Pick and Compare. -/
import Derived.Test.YteinjalnkhfecaaB8
import Derived.Test.YteinjalnkhfecaaB9
namespace Go.Proofs.Yteinjalnkhfecaa
open Go.ChangeShapes Go.WideShapes Go.ChangeAt Go.RowKit
set_option linter.unusedVariables false
set_option linter.unusedSimpArgs false
theorem none_nan (d : Bool) (a : Nat) : noneV d a = nanX d a := by
  have h1 : infB d < quietB d := by cases d <;> decide
  unfold noneV nanX clsV clsX
  rw [Bool.eq_iff_iff]; simp only [decide_eq_true_eq]
  generalize farN d a = x
  (repeat' split) <;> omega
theorem sig_cls (d : Bool) (a : Nat) : clsV d a = 8 ↔ sigX d a = true := by
  have h1 : infB d < quietB d := by cases d <;> decide
  unfold sigX clsV clsX
  simp only [decide_eq_true_eq]
  generalize farN d a = x
  (repeat' split) <;> omega
theorem flagS_sig (d : Bool) (a b : Nat) : flagS (clsV d a) (clsV d b) = if sigX d a = true ∨ sigX d b = true then 16 else 0 := by
  unfold flagS; simp only [sig_cls]
theorem mask_rank (d : Bool) (a b : Nat) : (maskN d a = maskN d b) ↔ (rankV d a = rankV d b) := by
  have hS : 0 < signB d := by cases d <;> decide
  have fa : farN d a < signB d := Nat.mod_lt _ hS
  have fb : farN d b < signB d := Nat.mod_lt _ hS
  have ea : maskN d a = farN d a + a / signB d % 2 * signB d := rfl
  have eb : maskN d b = farN d b + b / signB d % 2 * signB d := rfl
  have ma : minusN d a = decide (a / signB d % 2 = 1) := rfl
  have mb : minusN d b = decide (b / signB d % 2 = 1) := rfl
  unfold rankV
  rw [ea, eb, ma, mb]
  have h2 : ∀ x : Nat, x / signB d % 2 = 0 ∨ x / signB d % 2 = 1 := fun x => by omega
  generalize farN d a = x at *
  generalize farN d b = y at *
  rcases h2 a with p | p <;> rcases h2 b with q | q <;> rw [p, q] <;> simp <;> omega
theorem order_4 (a : Nat) (ha : Hid (a < 18446744073709551616)) (w : World) : Calls Try.prog 71 #[.int .i64 4, .int .u64 a] w (RetI (rankV false a) w) := by
  have HR : Hid (rankV false a = if minusN false a then -1 - (farN false a : Int) else farN false a) := rfl
  have HX : Hid (farN false a < 2147483648) := Nat.mod_lt _ (by decide)
  have HFC := Lib.hid (far_clear false a)
  have HNT : Hid (noughtV false true = signB false) := rfl
  go_enter Try.func71, Try.ntmps71
  go_wp2_with fail
  refine (rmask_c 4 false rfl a ha _).mono ?_; rintro e w1 ⟨rfl, hb1⟩
  go_wp2_with fail
  refine (nought_4 true _).mono ?_; rintro e w2 ⟨rfl, hb2⟩
  rw [HNT.out]
  go_wp2_with fail
  rw [HFC.out]
  generalize farN false a = x at *
  have e1 : wrap64 (x : Int) = x := IntWalk.wrap64_in _ ⟨by omega, by have := HX.out; omega⟩
  have e2 : wrap64 (-(x : Int)) = -(x : Int) := IntWalk.wrap64_in _ ⟨by have := HX.out; omega, by omega⟩
  have e3 : wrap64 (-(x : Int) - 1) = -(x : Int) - 1 := IntWalk.wrap64_in _ ⟨by have := HX.out; omega, by omega⟩
  rw [e1]
  refine (minused_4 a ha _).mono ?_; rintro e w3 ⟨rfl, hb3⟩
  generalize minusN false a = m at *
  cases m
  all_goals go_wp2_with fail
  all_goals go_ret
  all_goals exact retI_mk (by rw [HR.out]; simp [e1, e2, e3] <;> omega) (by repeat (first | (with_reducible first | exact Below.refl _ _ | assumption | exact Nat.le_refl _ | refine Below.drew ?_ | refine Below.alloc ?_ ?_ _ | refine Below.setCell ?_ ?_ _ | refine le_alloc ?_ | refine le_set ?_ | refine le_drew ?_ | refine below_step (by assumption) ?_ ?_ | refine le_below (by assumption) ?_) | (dsimp only; omega)))
theorem order_8 (a : Nat) (ha : Hid (a < 18446744073709551616)) (w : World) : Calls Try.prog 71 #[.int .i64 8, .int .u64 a] w (RetI (rankV true a) w) := by
  have HR : Hid (rankV true a = if minusN true a then -1 - (farN true a : Int) else farN true a) := rfl
  have HX : Hid (farN true a < 9223372036854775808) := Nat.mod_lt _ (by decide)
  have HFC := Lib.hid (far_clear true a)
  have HNT : Hid (noughtV true true = signB true) := rfl
  go_enter Try.func71, Try.ntmps71
  go_wp2_with fail
  refine (rmask_c 8 true rfl a ha _).mono ?_; rintro e w1 ⟨rfl, hb1⟩
  go_wp2_with fail
  refine (nought_8 true _).mono ?_; rintro e w2 ⟨rfl, hb2⟩
  rw [HNT.out]
  go_wp2_with fail
  rw [HFC.out]
  generalize farN true a = x at *
  have e1 : wrap64 (x : Int) = x := IntWalk.wrap64_in _ ⟨by omega, by have := HX.out; omega⟩
  have e2 : wrap64 (-(x : Int)) = -(x : Int) := IntWalk.wrap64_in _ ⟨by have := HX.out; omega, by omega⟩
  have e3 : wrap64 (-(x : Int) - 1) = -(x : Int) - 1 := IntWalk.wrap64_in _ ⟨by have := HX.out; omega, by omega⟩
  rw [e1]
  refine (minused_8 a ha _).mono ?_; rintro e w3 ⟨rfl, hb3⟩
  generalize minusN true a = m at *
  cases m
  all_goals go_wp2_with fail
  all_goals go_ret
  all_goals exact retI_mk (by rw [HR.out]; simp [e1, e2, e3] <;> omega) (by repeat (first | (with_reducible first | exact Below.refl _ _ | assumption | exact Nat.le_refl _ | refine Below.drew ?_ | refine Below.alloc ?_ ?_ _ | refine Below.setCell ?_ ?_ _ | refine le_alloc ?_ | refine le_set ?_ | refine le_drew ?_ | refine below_step (by assumption) ?_ ?_ | refine le_below (by assumption) ?_) | (dsimp only; omega)))
theorem order_c (sz : Int) (d : Bool) (hsz : Hid (SzOk sz d)) (a : Nat) (ha : Hid (a < 18446744073709551616)) (w : World) : Calls Try.prog 71 #[.int .i64 sz, .int .u64 a] w (RetI (rankV d a) w) := by
  have hs : sz = if d then 8 else 4 := hsz.out
  subst hs
  cases d
  · exact order_4 a ha w
  · exact order_8 a ha w
set_option maxRecDepth 100000 in
set_option maxHeartbeats 4000000 in
theorem RPick_67 (sz : Int) (d : Bool) (hsz : Hid (SzOk sz d)) (a b : Nat) (ha : Hid (a < 18446744073709551616)) (hb : Hid (b < 18446744073709551616)) (w : World) :
    Calls Try.prog 27 #[.int .i64 67, .int .i64 sz, .int .u64 a, .int .u64 b] w (RetL (pickV 67 d a b) (flagS (clsV d a) (clsV d b)) w) := by
  have HF := Lib.hid (flagS_sig d a b)
  go_enter Try.func27, Try.ntmps27
  go_wp2_with fail
  refine (rright_c sz d hsz _).mono ?_; rintro e w1 ⟨rfl, hb1⟩
  go_wp2_with fail
  refine (rsig_c sz d hsz a ha _).mono ?_; rintro e w2 ⟨rfl, hb2⟩
  cases hsa : sigX d a
  · go_wp2_with fail
    refine (rsig_c sz d hsz b hb _).mono ?_; rintro e w3 ⟨rfl, hb3⟩
    cases hsb : sigX d b
    · have HG : Hid (flagS (clsV d a) (clsV d b) = 0) := by show _ = _; rw [HF.out, hsa, hsb]; simp
      clear hsa hsb
      go_wp2_with fail
      refine (rnan_c sz d hsz a ha _).mono ?_; rintro e w5 ⟨rfl, hb5⟩
      rw [← none_nan]
      go_wp2_with fail
      refine (rnan_c sz d hsz b hb _).mono ?_; rintro e w6 ⟨rfl, hb6⟩
      rw [← none_nan]
      cases hna : noneV d a <;> cases hnb : noneV d b
      · have HP : Hid (pickV 67 d a b = if (67 = (67 : Int) ↔ rankV d a < rankV d b) then maskN d a else maskN d b) := by
          show pickV _ d a b = _; unfold pickV; rw [hna, hnb, if_neg (by simp), if_neg (by simp), if_neg (by simp)]
        clear hna hnb
        go_wp2_with fail
        refine (order_c sz d hsz a ha _).mono ?_; rintro e w7 ⟨rfl, hb7⟩
        go_wp2_with fail
        refine (order_c sz d hsz b hb _).mono ?_; rintro e w8 ⟨rfl, hb8⟩
        by_cases hr : rankV d a < rankV d b
        · have HQ : Hid (pickV 67 d a b = maskN d a) := by show _ = _; rw [HP.out, if_pos (by simp [hr])]
          have hr1 := decide_eq_true hr
          clear hr
          generalize rankV d a = ra at hr1 ⊢
          generalize rankV d b = rb at hr1 ⊢
          go_wp2_with fail
          refine (rmask_c sz d hsz a ha _).mono ?_; rintro e w9 ⟨rfl, hb9⟩
          go_wp2_with fail
          go_ret2
          exact retL_mk (by rw [HQ.out]) HG.out.symm (by repeat (first | (with_reducible first | exact Below.refl _ _ | assumption | exact Nat.le_refl _ | refine Below.drew ?_ | refine Below.alloc ?_ ?_ _ | refine Below.setCell ?_ ?_ _ | refine le_alloc ?_ | refine le_set ?_ | refine le_drew ?_ | refine below_step (by assumption) ?_ ?_ | refine le_below (by assumption) ?_) | (dsimp only; omega)))
        · have HQ : Hid (pickV 67 d a b = maskN d b) := by show _ = _; rw [HP.out, if_neg (by simp [hr])]
          have hr1 := decide_eq_false hr
          clear hr
          generalize rankV d a = ra at hr1 ⊢
          generalize rankV d b = rb at hr1 ⊢
          go_wp2_with fail
          refine (rmask_c sz d hsz b hb _).mono ?_; rintro e w9 ⟨rfl, hb9⟩
          go_wp2_with fail
          go_ret2
          exact retL_mk (by rw [HQ.out]) HG.out.symm (by repeat (first | (with_reducible first | exact Below.refl _ _ | assumption | exact Nat.le_refl _ | refine Below.drew ?_ | refine Below.alloc ?_ ?_ _ | refine Below.setCell ?_ ?_ _ | refine le_alloc ?_ | refine le_set ?_ | refine le_drew ?_ | refine below_step (by assumption) ?_ ?_ | refine le_below (by assumption) ?_) | (dsimp only; omega)))
      · have HQ : Hid (pickV 67 d a b = maskN d a) := by show pickV _ d a b = _; unfold pickV; rw [hna, hnb, if_neg (by simp), if_neg (by simp), if_pos rfl]
        clear hna hnb
        go_wp2_with fail
        refine (rmask_c sz d hsz a ha _).mono ?_; rintro e w9 ⟨rfl, hb9⟩
        go_wp2_with fail
        go_ret2
        exact retL_mk (by rw [HQ.out]) HG.out.symm (by repeat (first | (with_reducible first | exact Below.refl _ _ | assumption | exact Nat.le_refl _ | refine Below.drew ?_ | refine Below.alloc ?_ ?_ _ | refine Below.setCell ?_ ?_ _ | refine le_alloc ?_ | refine le_set ?_ | refine le_drew ?_ | refine below_step (by assumption) ?_ ?_ | refine le_below (by assumption) ?_) | (dsimp only; omega)))
      · have HQ : Hid (pickV 67 d a b = maskN d b) := by show pickV _ d a b = _; unfold pickV; rw [hna, hnb, if_neg (by simp), if_pos rfl]
        clear hna hnb
        go_wp2_with fail
        refine (rmask_c sz d hsz b hb _).mono ?_; rintro e w9 ⟨rfl, hb9⟩
        go_wp2_with fail
        go_ret2
        exact retL_mk (by rw [HQ.out]) HG.out.symm (by repeat (first | (with_reducible first | exact Below.refl _ _ | assumption | exact Nat.le_refl _ | refine Below.drew ?_ | refine Below.alloc ?_ ?_ _ | refine Below.setCell ?_ ?_ _ | refine le_alloc ?_ | refine le_set ?_ | refine le_drew ?_ | refine below_step (by assumption) ?_ ?_ | refine le_below (by assumption) ?_) | (dsimp only; omega)))
      · have HQ : Hid (pickV 67 d a b = quietB d) := by show pickV _ d a b = _; unfold pickV; rw [hna, hnb, if_pos ⟨rfl, rfl⟩]
        clear hna hnb
        go_wp2_with fail
        refine (rquiet_c sz d hsz _).mono ?_; rintro e w9 ⟨rfl, hb9⟩
        go_wp2_with fail
        go_ret2
        exact retL_mk (by rw [HQ.out]) HG.out.symm (by repeat (first | (with_reducible first | exact Below.refl _ _ | assumption | exact Nat.le_refl _ | refine Below.drew ?_ | refine Below.alloc ?_ ?_ _ | refine Below.setCell ?_ ?_ _ | refine le_alloc ?_ | refine le_set ?_ | refine le_drew ?_ | refine below_step (by assumption) ?_ ?_ | refine le_below (by assumption) ?_) | (dsimp only; omega)))
    · have HG : Hid (flagS (clsV d a) (clsV d b) = 16) := by show _ = _; rw [HF.out, hsa, hsb]; simp
      clear hsa hsb
      go_wp2_with fail
      refine (rnan_c sz d hsz a ha _).mono ?_; rintro e w5 ⟨rfl, hb5⟩
      rw [← none_nan]
      go_wp2_with fail
      refine (rnan_c sz d hsz b hb _).mono ?_; rintro e w6 ⟨rfl, hb6⟩
      rw [← none_nan]
      cases hna : noneV d a <;> cases hnb : noneV d b
      · have HP : Hid (pickV 67 d a b = if (67 = (67 : Int) ↔ rankV d a < rankV d b) then maskN d a else maskN d b) := by
          show pickV _ d a b = _; unfold pickV; rw [hna, hnb, if_neg (by simp), if_neg (by simp), if_neg (by simp)]
        clear hna hnb
        go_wp2_with fail
        refine (order_c sz d hsz a ha _).mono ?_; rintro e w7 ⟨rfl, hb7⟩
        go_wp2_with fail
        refine (order_c sz d hsz b hb _).mono ?_; rintro e w8 ⟨rfl, hb8⟩
        by_cases hr : rankV d a < rankV d b
        · have HQ : Hid (pickV 67 d a b = maskN d a) := by show _ = _; rw [HP.out, if_pos (by simp [hr])]
          have hr1 := decide_eq_true hr
          clear hr
          generalize rankV d a = ra at hr1 ⊢
          generalize rankV d b = rb at hr1 ⊢
          go_wp2_with fail
          refine (rmask_c sz d hsz a ha _).mono ?_; rintro e w9 ⟨rfl, hb9⟩
          go_wp2_with fail
          go_ret2
          exact retL_mk (by rw [HQ.out]) HG.out.symm (by repeat (first | (with_reducible first | exact Below.refl _ _ | assumption | exact Nat.le_refl _ | refine Below.drew ?_ | refine Below.alloc ?_ ?_ _ | refine Below.setCell ?_ ?_ _ | refine le_alloc ?_ | refine le_set ?_ | refine le_drew ?_ | refine below_step (by assumption) ?_ ?_ | refine le_below (by assumption) ?_) | (dsimp only; omega)))
        · have HQ : Hid (pickV 67 d a b = maskN d b) := by show _ = _; rw [HP.out, if_neg (by simp [hr])]
          have hr1 := decide_eq_false hr
          clear hr
          generalize rankV d a = ra at hr1 ⊢
          generalize rankV d b = rb at hr1 ⊢
          go_wp2_with fail
          refine (rmask_c sz d hsz b hb _).mono ?_; rintro e w9 ⟨rfl, hb9⟩
          go_wp2_with fail
          go_ret2
          exact retL_mk (by rw [HQ.out]) HG.out.symm (by repeat (first | (with_reducible first | exact Below.refl _ _ | assumption | exact Nat.le_refl _ | refine Below.drew ?_ | refine Below.alloc ?_ ?_ _ | refine Below.setCell ?_ ?_ _ | refine le_alloc ?_ | refine le_set ?_ | refine le_drew ?_ | refine below_step (by assumption) ?_ ?_ | refine le_below (by assumption) ?_) | (dsimp only; omega)))
      · have HQ : Hid (pickV 67 d a b = maskN d a) := by show pickV _ d a b = _; unfold pickV; rw [hna, hnb, if_neg (by simp), if_neg (by simp), if_pos rfl]
        clear hna hnb
        go_wp2_with fail
        refine (rmask_c sz d hsz a ha _).mono ?_; rintro e w9 ⟨rfl, hb9⟩
        go_wp2_with fail
        go_ret2
        exact retL_mk (by rw [HQ.out]) HG.out.symm (by repeat (first | (with_reducible first | exact Below.refl _ _ | assumption | exact Nat.le_refl _ | refine Below.drew ?_ | refine Below.alloc ?_ ?_ _ | refine Below.setCell ?_ ?_ _ | refine le_alloc ?_ | refine le_set ?_ | refine le_drew ?_ | refine below_step (by assumption) ?_ ?_ | refine le_below (by assumption) ?_) | (dsimp only; omega)))
      · have HQ : Hid (pickV 67 d a b = maskN d b) := by show pickV _ d a b = _; unfold pickV; rw [hna, hnb, if_neg (by simp), if_pos rfl]
        clear hna hnb
        go_wp2_with fail
        refine (rmask_c sz d hsz b hb _).mono ?_; rintro e w9 ⟨rfl, hb9⟩
        go_wp2_with fail
        go_ret2
        exact retL_mk (by rw [HQ.out]) HG.out.symm (by repeat (first | (with_reducible first | exact Below.refl _ _ | assumption | exact Nat.le_refl _ | refine Below.drew ?_ | refine Below.alloc ?_ ?_ _ | refine Below.setCell ?_ ?_ _ | refine le_alloc ?_ | refine le_set ?_ | refine le_drew ?_ | refine below_step (by assumption) ?_ ?_ | refine le_below (by assumption) ?_) | (dsimp only; omega)))
      · have HQ : Hid (pickV 67 d a b = quietB d) := by show pickV _ d a b = _; unfold pickV; rw [hna, hnb, if_pos ⟨rfl, rfl⟩]
        clear hna hnb
        go_wp2_with fail
        refine (rquiet_c sz d hsz _).mono ?_; rintro e w9 ⟨rfl, hb9⟩
        go_wp2_with fail
        go_ret2
        exact retL_mk (by rw [HQ.out]) HG.out.symm (by repeat (first | (with_reducible first | exact Below.refl _ _ | assumption | exact Nat.le_refl _ | refine Below.drew ?_ | refine Below.alloc ?_ ?_ _ | refine Below.setCell ?_ ?_ _ | refine le_alloc ?_ | refine le_set ?_ | refine le_drew ?_ | refine below_step (by assumption) ?_ ?_ | refine le_below (by assumption) ?_) | (dsimp only; omega)))
  · have HG : Hid (flagS (clsV d a) (clsV d b) = 16) := by show _ = _; rw [HF.out, hsa]; simp
    clear hsa
    go_wp2_with fail
    refine (rnan_c sz d hsz a ha _).mono ?_; rintro e w5 ⟨rfl, hb5⟩
    rw [← none_nan]
    go_wp2_with fail
    refine (rnan_c sz d hsz b hb _).mono ?_; rintro e w6 ⟨rfl, hb6⟩
    rw [← none_nan]
    cases hna : noneV d a <;> cases hnb : noneV d b
    · have HP : Hid (pickV 67 d a b = if (67 = (67 : Int) ↔ rankV d a < rankV d b) then maskN d a else maskN d b) := by
        show pickV _ d a b = _; unfold pickV; rw [hna, hnb, if_neg (by simp), if_neg (by simp), if_neg (by simp)]
      clear hna hnb
      go_wp2_with fail
      refine (order_c sz d hsz a ha _).mono ?_; rintro e w7 ⟨rfl, hb7⟩
      go_wp2_with fail
      refine (order_c sz d hsz b hb _).mono ?_; rintro e w8 ⟨rfl, hb8⟩
      by_cases hr : rankV d a < rankV d b
      · have HQ : Hid (pickV 67 d a b = maskN d a) := by show _ = _; rw [HP.out, if_pos (by simp [hr])]
        have hr1 := decide_eq_true hr
        clear hr
        generalize rankV d a = ra at hr1 ⊢
        generalize rankV d b = rb at hr1 ⊢
        go_wp2_with fail
        refine (rmask_c sz d hsz a ha _).mono ?_; rintro e w9 ⟨rfl, hb9⟩
        go_wp2_with fail
        go_ret2
        exact retL_mk (by rw [HQ.out]) HG.out.symm (by repeat (first | (with_reducible first | exact Below.refl _ _ | assumption | exact Nat.le_refl _ | refine Below.drew ?_ | refine Below.alloc ?_ ?_ _ | refine Below.setCell ?_ ?_ _ | refine le_alloc ?_ | refine le_set ?_ | refine le_drew ?_ | refine below_step (by assumption) ?_ ?_ | refine le_below (by assumption) ?_) | (dsimp only; omega)))
      · have HQ : Hid (pickV 67 d a b = maskN d b) := by show _ = _; rw [HP.out, if_neg (by simp [hr])]
        have hr1 := decide_eq_false hr
        clear hr
        generalize rankV d a = ra at hr1 ⊢
        generalize rankV d b = rb at hr1 ⊢
        go_wp2_with fail
        refine (rmask_c sz d hsz b hb _).mono ?_; rintro e w9 ⟨rfl, hb9⟩
        go_wp2_with fail
        go_ret2
        exact retL_mk (by rw [HQ.out]) HG.out.symm (by repeat (first | (with_reducible first | exact Below.refl _ _ | assumption | exact Nat.le_refl _ | refine Below.drew ?_ | refine Below.alloc ?_ ?_ _ | refine Below.setCell ?_ ?_ _ | refine le_alloc ?_ | refine le_set ?_ | refine le_drew ?_ | refine below_step (by assumption) ?_ ?_ | refine le_below (by assumption) ?_) | (dsimp only; omega)))
    · have HQ : Hid (pickV 67 d a b = maskN d a) := by show pickV _ d a b = _; unfold pickV; rw [hna, hnb, if_neg (by simp), if_neg (by simp), if_pos rfl]
      clear hna hnb
      go_wp2_with fail
      refine (rmask_c sz d hsz a ha _).mono ?_; rintro e w9 ⟨rfl, hb9⟩
      go_wp2_with fail
      go_ret2
      exact retL_mk (by rw [HQ.out]) HG.out.symm (by repeat (first | (with_reducible first | exact Below.refl _ _ | assumption | exact Nat.le_refl _ | refine Below.drew ?_ | refine Below.alloc ?_ ?_ _ | refine Below.setCell ?_ ?_ _ | refine le_alloc ?_ | refine le_set ?_ | refine le_drew ?_ | refine below_step (by assumption) ?_ ?_ | refine le_below (by assumption) ?_) | (dsimp only; omega)))
    · have HQ : Hid (pickV 67 d a b = maskN d b) := by show pickV _ d a b = _; unfold pickV; rw [hna, hnb, if_neg (by simp), if_pos rfl]
      clear hna hnb
      go_wp2_with fail
      refine (rmask_c sz d hsz b hb _).mono ?_; rintro e w9 ⟨rfl, hb9⟩
      go_wp2_with fail
      go_ret2
      exact retL_mk (by rw [HQ.out]) HG.out.symm (by repeat (first | (with_reducible first | exact Below.refl _ _ | assumption | exact Nat.le_refl _ | refine Below.drew ?_ | refine Below.alloc ?_ ?_ _ | refine Below.setCell ?_ ?_ _ | refine le_alloc ?_ | refine le_set ?_ | refine le_drew ?_ | refine below_step (by assumption) ?_ ?_ | refine le_below (by assumption) ?_) | (dsimp only; omega)))
    · have HQ : Hid (pickV 67 d a b = quietB d) := by show pickV _ d a b = _; unfold pickV; rw [hna, hnb, if_pos ⟨rfl, rfl⟩]
      clear hna hnb
      go_wp2_with fail
      refine (rquiet_c sz d hsz _).mono ?_; rintro e w9 ⟨rfl, hb9⟩
      go_wp2_with fail
      go_ret2
      exact retL_mk (by rw [HQ.out]) HG.out.symm (by repeat (first | (with_reducible first | exact Below.refl _ _ | assumption | exact Nat.le_refl _ | refine Below.drew ?_ | refine Below.alloc ?_ ?_ _ | refine Below.setCell ?_ ?_ _ | refine le_alloc ?_ | refine le_set ?_ | refine le_drew ?_ | refine below_step (by assumption) ?_ ?_ | refine le_below (by assumption) ?_) | (dsimp only; omega)))
set_option maxRecDepth 100000 in
set_option maxHeartbeats 4000000 in
theorem RPick_68 (sz : Int) (d : Bool) (hsz : Hid (SzOk sz d)) (a b : Nat) (ha : Hid (a < 18446744073709551616)) (hb : Hid (b < 18446744073709551616)) (w : World) :
    Calls Try.prog 27 #[.int .i64 68, .int .i64 sz, .int .u64 a, .int .u64 b] w (RetL (pickV 68 d a b) (flagS (clsV d a) (clsV d b)) w) := by
  have HF := Lib.hid (flagS_sig d a b)
  go_enter Try.func27, Try.ntmps27
  go_wp2_with fail
  refine (rright_c sz d hsz _).mono ?_; rintro e w1 ⟨rfl, hb1⟩
  go_wp2_with fail
  refine (rsig_c sz d hsz a ha _).mono ?_; rintro e w2 ⟨rfl, hb2⟩
  cases hsa : sigX d a
  · go_wp2_with fail
    refine (rsig_c sz d hsz b hb _).mono ?_; rintro e w3 ⟨rfl, hb3⟩
    cases hsb : sigX d b
    · have HG : Hid (flagS (clsV d a) (clsV d b) = 0) := by show _ = _; rw [HF.out, hsa, hsb]; simp
      clear hsa hsb
      go_wp2_with fail
      refine (rnan_c sz d hsz a ha _).mono ?_; rintro e w5 ⟨rfl, hb5⟩
      rw [← none_nan]
      go_wp2_with fail
      refine (rnan_c sz d hsz b hb _).mono ?_; rintro e w6 ⟨rfl, hb6⟩
      rw [← none_nan]
      cases hna : noneV d a <;> cases hnb : noneV d b
      · have HP : Hid (pickV 68 d a b = if (68 = (67 : Int) ↔ rankV d a < rankV d b) then maskN d a else maskN d b) := by
          show pickV _ d a b = _; unfold pickV; rw [hna, hnb, if_neg (by simp), if_neg (by simp), if_neg (by simp)]
        clear hna hnb
        go_wp2_with fail
        refine (order_c sz d hsz a ha _).mono ?_; rintro e w7 ⟨rfl, hb7⟩
        go_wp2_with fail
        refine (order_c sz d hsz b hb _).mono ?_; rintro e w8 ⟨rfl, hb8⟩
        by_cases hr : rankV d a < rankV d b
        · have HQ : Hid (pickV 68 d a b = maskN d b) := by show _ = _; rw [HP.out, if_neg (by simp [hr])]
          have hr1 := decide_eq_true hr
          clear hr
          generalize rankV d a = ra at hr1 ⊢
          generalize rankV d b = rb at hr1 ⊢
          go_wp2_with fail
          refine (rmask_c sz d hsz b hb _).mono ?_; rintro e w9 ⟨rfl, hb9⟩
          go_wp2_with fail
          go_ret2
          exact retL_mk (by rw [HQ.out]) HG.out.symm (by repeat (first | (with_reducible first | exact Below.refl _ _ | assumption | exact Nat.le_refl _ | refine Below.drew ?_ | refine Below.alloc ?_ ?_ _ | refine Below.setCell ?_ ?_ _ | refine le_alloc ?_ | refine le_set ?_ | refine le_drew ?_ | refine below_step (by assumption) ?_ ?_ | refine le_below (by assumption) ?_) | (dsimp only; omega)))
        · have HQ : Hid (pickV 68 d a b = maskN d a) := by show _ = _; rw [HP.out, if_pos (by simp [hr])]
          have hr1 := decide_eq_false hr
          clear hr
          generalize rankV d a = ra at hr1 ⊢
          generalize rankV d b = rb at hr1 ⊢
          go_wp2_with fail
          refine (rmask_c sz d hsz a ha _).mono ?_; rintro e w9 ⟨rfl, hb9⟩
          go_wp2_with fail
          go_ret2
          exact retL_mk (by rw [HQ.out]) HG.out.symm (by repeat (first | (with_reducible first | exact Below.refl _ _ | assumption | exact Nat.le_refl _ | refine Below.drew ?_ | refine Below.alloc ?_ ?_ _ | refine Below.setCell ?_ ?_ _ | refine le_alloc ?_ | refine le_set ?_ | refine le_drew ?_ | refine below_step (by assumption) ?_ ?_ | refine le_below (by assumption) ?_) | (dsimp only; omega)))
      · have HQ : Hid (pickV 68 d a b = maskN d a) := by show pickV _ d a b = _; unfold pickV; rw [hna, hnb, if_neg (by simp), if_neg (by simp), if_pos rfl]
        clear hna hnb
        go_wp2_with fail
        refine (rmask_c sz d hsz a ha _).mono ?_; rintro e w9 ⟨rfl, hb9⟩
        go_wp2_with fail
        go_ret2
        exact retL_mk (by rw [HQ.out]) HG.out.symm (by repeat (first | (with_reducible first | exact Below.refl _ _ | assumption | exact Nat.le_refl _ | refine Below.drew ?_ | refine Below.alloc ?_ ?_ _ | refine Below.setCell ?_ ?_ _ | refine le_alloc ?_ | refine le_set ?_ | refine le_drew ?_ | refine below_step (by assumption) ?_ ?_ | refine le_below (by assumption) ?_) | (dsimp only; omega)))
      · have HQ : Hid (pickV 68 d a b = maskN d b) := by show pickV _ d a b = _; unfold pickV; rw [hna, hnb, if_neg (by simp), if_pos rfl]
        clear hna hnb
        go_wp2_with fail
        refine (rmask_c sz d hsz b hb _).mono ?_; rintro e w9 ⟨rfl, hb9⟩
        go_wp2_with fail
        go_ret2
        exact retL_mk (by rw [HQ.out]) HG.out.symm (by repeat (first | (with_reducible first | exact Below.refl _ _ | assumption | exact Nat.le_refl _ | refine Below.drew ?_ | refine Below.alloc ?_ ?_ _ | refine Below.setCell ?_ ?_ _ | refine le_alloc ?_ | refine le_set ?_ | refine le_drew ?_ | refine below_step (by assumption) ?_ ?_ | refine le_below (by assumption) ?_) | (dsimp only; omega)))
      · have HQ : Hid (pickV 68 d a b = quietB d) := by show pickV _ d a b = _; unfold pickV; rw [hna, hnb, if_pos ⟨rfl, rfl⟩]
        clear hna hnb
        go_wp2_with fail
        refine (rquiet_c sz d hsz _).mono ?_; rintro e w9 ⟨rfl, hb9⟩
        go_wp2_with fail
        go_ret2
        exact retL_mk (by rw [HQ.out]) HG.out.symm (by repeat (first | (with_reducible first | exact Below.refl _ _ | assumption | exact Nat.le_refl _ | refine Below.drew ?_ | refine Below.alloc ?_ ?_ _ | refine Below.setCell ?_ ?_ _ | refine le_alloc ?_ | refine le_set ?_ | refine le_drew ?_ | refine below_step (by assumption) ?_ ?_ | refine le_below (by assumption) ?_) | (dsimp only; omega)))
    · have HG : Hid (flagS (clsV d a) (clsV d b) = 16) := by show _ = _; rw [HF.out, hsa, hsb]; simp
      clear hsa hsb
      go_wp2_with fail
      refine (rnan_c sz d hsz a ha _).mono ?_; rintro e w5 ⟨rfl, hb5⟩
      rw [← none_nan]
      go_wp2_with fail
      refine (rnan_c sz d hsz b hb _).mono ?_; rintro e w6 ⟨rfl, hb6⟩
      rw [← none_nan]
      cases hna : noneV d a <;> cases hnb : noneV d b
      · have HP : Hid (pickV 68 d a b = if (68 = (67 : Int) ↔ rankV d a < rankV d b) then maskN d a else maskN d b) := by
          show pickV _ d a b = _; unfold pickV; rw [hna, hnb, if_neg (by simp), if_neg (by simp), if_neg (by simp)]
        clear hna hnb
        go_wp2_with fail
        refine (order_c sz d hsz a ha _).mono ?_; rintro e w7 ⟨rfl, hb7⟩
        go_wp2_with fail
        refine (order_c sz d hsz b hb _).mono ?_; rintro e w8 ⟨rfl, hb8⟩
        by_cases hr : rankV d a < rankV d b
        · have HQ : Hid (pickV 68 d a b = maskN d b) := by show _ = _; rw [HP.out, if_neg (by simp [hr])]
          have hr1 := decide_eq_true hr
          clear hr
          generalize rankV d a = ra at hr1 ⊢
          generalize rankV d b = rb at hr1 ⊢
          go_wp2_with fail
          refine (rmask_c sz d hsz b hb _).mono ?_; rintro e w9 ⟨rfl, hb9⟩
          go_wp2_with fail
          go_ret2
          exact retL_mk (by rw [HQ.out]) HG.out.symm (by repeat (first | (with_reducible first | exact Below.refl _ _ | assumption | exact Nat.le_refl _ | refine Below.drew ?_ | refine Below.alloc ?_ ?_ _ | refine Below.setCell ?_ ?_ _ | refine le_alloc ?_ | refine le_set ?_ | refine le_drew ?_ | refine below_step (by assumption) ?_ ?_ | refine le_below (by assumption) ?_) | (dsimp only; omega)))
        · have HQ : Hid (pickV 68 d a b = maskN d a) := by show _ = _; rw [HP.out, if_pos (by simp [hr])]
          have hr1 := decide_eq_false hr
          clear hr
          generalize rankV d a = ra at hr1 ⊢
          generalize rankV d b = rb at hr1 ⊢
          go_wp2_with fail
          refine (rmask_c sz d hsz a ha _).mono ?_; rintro e w9 ⟨rfl, hb9⟩
          go_wp2_with fail
          go_ret2
          exact retL_mk (by rw [HQ.out]) HG.out.symm (by repeat (first | (with_reducible first | exact Below.refl _ _ | assumption | exact Nat.le_refl _ | refine Below.drew ?_ | refine Below.alloc ?_ ?_ _ | refine Below.setCell ?_ ?_ _ | refine le_alloc ?_ | refine le_set ?_ | refine le_drew ?_ | refine below_step (by assumption) ?_ ?_ | refine le_below (by assumption) ?_) | (dsimp only; omega)))
      · have HQ : Hid (pickV 68 d a b = maskN d a) := by show pickV _ d a b = _; unfold pickV; rw [hna, hnb, if_neg (by simp), if_neg (by simp), if_pos rfl]
        clear hna hnb
        go_wp2_with fail
        refine (rmask_c sz d hsz a ha _).mono ?_; rintro e w9 ⟨rfl, hb9⟩
        go_wp2_with fail
        go_ret2
        exact retL_mk (by rw [HQ.out]) HG.out.symm (by repeat (first | (with_reducible first | exact Below.refl _ _ | assumption | exact Nat.le_refl _ | refine Below.drew ?_ | refine Below.alloc ?_ ?_ _ | refine Below.setCell ?_ ?_ _ | refine le_alloc ?_ | refine le_set ?_ | refine le_drew ?_ | refine below_step (by assumption) ?_ ?_ | refine le_below (by assumption) ?_) | (dsimp only; omega)))
      · have HQ : Hid (pickV 68 d a b = maskN d b) := by show pickV _ d a b = _; unfold pickV; rw [hna, hnb, if_neg (by simp), if_pos rfl]
        clear hna hnb
        go_wp2_with fail
        refine (rmask_c sz d hsz b hb _).mono ?_; rintro e w9 ⟨rfl, hb9⟩
        go_wp2_with fail
        go_ret2
        exact retL_mk (by rw [HQ.out]) HG.out.symm (by repeat (first | (with_reducible first | exact Below.refl _ _ | assumption | exact Nat.le_refl _ | refine Below.drew ?_ | refine Below.alloc ?_ ?_ _ | refine Below.setCell ?_ ?_ _ | refine le_alloc ?_ | refine le_set ?_ | refine le_drew ?_ | refine below_step (by assumption) ?_ ?_ | refine le_below (by assumption) ?_) | (dsimp only; omega)))
      · have HQ : Hid (pickV 68 d a b = quietB d) := by show pickV _ d a b = _; unfold pickV; rw [hna, hnb, if_pos ⟨rfl, rfl⟩]
        clear hna hnb
        go_wp2_with fail
        refine (rquiet_c sz d hsz _).mono ?_; rintro e w9 ⟨rfl, hb9⟩
        go_wp2_with fail
        go_ret2
        exact retL_mk (by rw [HQ.out]) HG.out.symm (by repeat (first | (with_reducible first | exact Below.refl _ _ | assumption | exact Nat.le_refl _ | refine Below.drew ?_ | refine Below.alloc ?_ ?_ _ | refine Below.setCell ?_ ?_ _ | refine le_alloc ?_ | refine le_set ?_ | refine le_drew ?_ | refine below_step (by assumption) ?_ ?_ | refine le_below (by assumption) ?_) | (dsimp only; omega)))
  · have HG : Hid (flagS (clsV d a) (clsV d b) = 16) := by show _ = _; rw [HF.out, hsa]; simp
    clear hsa
    go_wp2_with fail
    refine (rnan_c sz d hsz a ha _).mono ?_; rintro e w5 ⟨rfl, hb5⟩
    rw [← none_nan]
    go_wp2_with fail
    refine (rnan_c sz d hsz b hb _).mono ?_; rintro e w6 ⟨rfl, hb6⟩
    rw [← none_nan]
    cases hna : noneV d a <;> cases hnb : noneV d b
    · have HP : Hid (pickV 68 d a b = if (68 = (67 : Int) ↔ rankV d a < rankV d b) then maskN d a else maskN d b) := by
        show pickV _ d a b = _; unfold pickV; rw [hna, hnb, if_neg (by simp), if_neg (by simp), if_neg (by simp)]
      clear hna hnb
      go_wp2_with fail
      refine (order_c sz d hsz a ha _).mono ?_; rintro e w7 ⟨rfl, hb7⟩
      go_wp2_with fail
      refine (order_c sz d hsz b hb _).mono ?_; rintro e w8 ⟨rfl, hb8⟩
      by_cases hr : rankV d a < rankV d b
      · have HQ : Hid (pickV 68 d a b = maskN d b) := by show _ = _; rw [HP.out, if_neg (by simp [hr])]
        have hr1 := decide_eq_true hr
        clear hr
        generalize rankV d a = ra at hr1 ⊢
        generalize rankV d b = rb at hr1 ⊢
        go_wp2_with fail
        refine (rmask_c sz d hsz b hb _).mono ?_; rintro e w9 ⟨rfl, hb9⟩
        go_wp2_with fail
        go_ret2
        exact retL_mk (by rw [HQ.out]) HG.out.symm (by repeat (first | (with_reducible first | exact Below.refl _ _ | assumption | exact Nat.le_refl _ | refine Below.drew ?_ | refine Below.alloc ?_ ?_ _ | refine Below.setCell ?_ ?_ _ | refine le_alloc ?_ | refine le_set ?_ | refine le_drew ?_ | refine below_step (by assumption) ?_ ?_ | refine le_below (by assumption) ?_) | (dsimp only; omega)))
      · have HQ : Hid (pickV 68 d a b = maskN d a) := by show _ = _; rw [HP.out, if_pos (by simp [hr])]
        have hr1 := decide_eq_false hr
        clear hr
        generalize rankV d a = ra at hr1 ⊢
        generalize rankV d b = rb at hr1 ⊢
        go_wp2_with fail
        refine (rmask_c sz d hsz a ha _).mono ?_; rintro e w9 ⟨rfl, hb9⟩
        go_wp2_with fail
        go_ret2
        exact retL_mk (by rw [HQ.out]) HG.out.symm (by repeat (first | (with_reducible first | exact Below.refl _ _ | assumption | exact Nat.le_refl _ | refine Below.drew ?_ | refine Below.alloc ?_ ?_ _ | refine Below.setCell ?_ ?_ _ | refine le_alloc ?_ | refine le_set ?_ | refine le_drew ?_ | refine below_step (by assumption) ?_ ?_ | refine le_below (by assumption) ?_) | (dsimp only; omega)))
    · have HQ : Hid (pickV 68 d a b = maskN d a) := by show pickV _ d a b = _; unfold pickV; rw [hna, hnb, if_neg (by simp), if_neg (by simp), if_pos rfl]
      clear hna hnb
      go_wp2_with fail
      refine (rmask_c sz d hsz a ha _).mono ?_; rintro e w9 ⟨rfl, hb9⟩
      go_wp2_with fail
      go_ret2
      exact retL_mk (by rw [HQ.out]) HG.out.symm (by repeat (first | (with_reducible first | exact Below.refl _ _ | assumption | exact Nat.le_refl _ | refine Below.drew ?_ | refine Below.alloc ?_ ?_ _ | refine Below.setCell ?_ ?_ _ | refine le_alloc ?_ | refine le_set ?_ | refine le_drew ?_ | refine below_step (by assumption) ?_ ?_ | refine le_below (by assumption) ?_) | (dsimp only; omega)))
    · have HQ : Hid (pickV 68 d a b = maskN d b) := by show pickV _ d a b = _; unfold pickV; rw [hna, hnb, if_neg (by simp), if_pos rfl]
      clear hna hnb
      go_wp2_with fail
      refine (rmask_c sz d hsz b hb _).mono ?_; rintro e w9 ⟨rfl, hb9⟩
      go_wp2_with fail
      go_ret2
      exact retL_mk (by rw [HQ.out]) HG.out.symm (by repeat (first | (with_reducible first | exact Below.refl _ _ | assumption | exact Nat.le_refl _ | refine Below.drew ?_ | refine Below.alloc ?_ ?_ _ | refine Below.setCell ?_ ?_ _ | refine le_alloc ?_ | refine le_set ?_ | refine le_drew ?_ | refine below_step (by assumption) ?_ ?_ | refine le_below (by assumption) ?_) | (dsimp only; omega)))
    · have HQ : Hid (pickV 68 d a b = quietB d) := by show pickV _ d a b = _; unfold pickV; rw [hna, hnb, if_pos ⟨rfl, rfl⟩]
      clear hna hnb
      go_wp2_with fail
      refine (rquiet_c sz d hsz _).mono ?_; rintro e w9 ⟨rfl, hb9⟩
      go_wp2_with fail
      go_ret2
      exact retL_mk (by rw [HQ.out]) HG.out.symm (by repeat (first | (with_reducible first | exact Below.refl _ _ | assumption | exact Nat.le_refl _ | refine Below.drew ?_ | refine Below.alloc ?_ ?_ _ | refine Below.setCell ?_ ?_ _ | refine le_alloc ?_ | refine le_set ?_ | refine le_drew ?_ | refine below_step (by assumption) ?_ ?_ | refine le_below (by assumption) ?_) | (dsimp only; omega)))
end Go.Proofs.Yteinjalnkhfecaa
