/- The contract of the reference's Compare. -/
import Derived.Test.YtbcfndgceapbjaaB11
namespace Go.Proofs.Ytbcfndgceapbjaa
open Go.ChangeShapes Go.WideShapes Go.ChangeAt Go.RowKit
set_option linter.unusedVariables false
set_option linter.unusedSimpArgs false
set_option maxRecDepth 100000 in
set_option maxHeartbeats 4000000 in
theorem RCompare_69 (sz : Int) (d : Bool) (hsz : Hid (SzOk sz d)) (a b : Nat) (ha : Hid (a < 18446744073709551616)) (hb : Hid (b < 18446744073709551616)) (w : World) :
    Calls Try.prog 29 #[.int .i64 69, .int .i64 sz, .int .u64 a, .int .u64 b] w (RetL (cmpV 69 d a b) (cmpF 69 d a b) w) := by
  have HF := Lib.hid (flagS_sig d a b)
  go_enter Try.func29, Try.ntmps29
  go_wp2_with fail
  refine (rright_c sz d hsz _).mono ?_; rintro e w1 ⟨rfl, hb1⟩
  go_wp2_with fail
  refine (rnan_c sz d hsz a ha _).mono ?_; rintro e w2 ⟨rfl, hb2⟩
  rw [← none_nan]
  cases hna : noneV d a
  · have HA := Lib.hid hna; clear hna
    go_wp2_with fail
    refine (rnan_c sz d hsz b hb _).mono ?_; rintro e w3 ⟨rfl, hb3⟩
    rw [← none_nan]
    cases hna : noneV d b
    · have HV : Hid (cmpV 69 d a b = (if (69 ≠ (70 : Int) ∧ sameV d a b = true) ∨ (69 ≠ (69 : Int) ∧ belowV d a b = true) then 1 else 0) ∧ cmpF 69 d a b = 0) := by
        have hn : ¬ ((false : Bool) = true ∨ (false : Bool) = true) := by simp
        show _ ∧ _; unfold cmpV cmpF; rw [HA.out, hna, if_neg hn, if_neg hn]; exact ⟨rfl, rfl⟩
      clear hna
      go_wp2_with fail
      refine (rmask_c sz d hsz a ha _).mono ?_; rintro e w4 ⟨rfl, hb4⟩
      go_wp2_with fail
      refine (rmask_c sz d hsz b hb _).mono ?_; rintro e w5 ⟨rfl, hb5⟩
      by_cases hr : rankV d a = rankV d b
      · have hs : sameV d a b = true := decide_eq_true (.inl hr)
        have HQ : Hid (cmpV 69 d a b = 1 ∧ cmpF 69 d a b = 0) := by
          refine ⟨HV.out.1.trans ?_, HV.out.2⟩; unfold belowV; rw [hs]; rfl
        have hmm : maskN d b = maskN d a := ((mask_rank d a b).2 hr).symm
        rw [hmm]
        clear hr hs hmm
        go_wp2_with fail
        go_ret2
        exact retL_mk (by rw [HQ.out.1]) (by rw [HQ.out.2]) (by repeat (first | (with_reducible first | exact Below.refl _ _ | assumption | exact Nat.le_refl _ | refine Below.drew ?_ | refine Below.alloc ?_ ?_ _ | refine Below.setCell ?_ ?_ _ | refine le_alloc ?_ | refine le_set ?_ | refine le_drew ?_ | refine below_step (by assumption) ?_ ?_ | refine le_below (by assumption) ?_) | (dsimp only; omega)))
      · have hr1 : (((maskN d a : Nat) : Int) == ((maskN d b : Nat) : Int)) = false := by rw [beq_eq_false_iff_ne]; intro e; exact hr ((mask_rank d a b).1 (by omega))
        have HR := Lib.hid hr; clear hr
        generalize maskN d a = ma at *
        generalize maskN d b = mb at *
        go_wp2_with fail
        refine (rzero_c sz d hsz a ha _).mono ?_; rintro e w6 ⟨rfl, hb6⟩
        by_cases za : farN d a = 0
        · rw [show zeroX d a = true from decide_eq_true za]
          go_wp2_with fail
          refine (rzero_c sz d hsz b hb _).mono ?_; rintro e w7 ⟨rfl, hb7⟩
          by_cases zb : farN d b = 0
          · rw [show zeroX d b = true from decide_eq_true zb]
            have hs : sameV d a b = true := decide_eq_true (.inr ⟨za, zb⟩)
            have HQ : Hid (cmpV 69 d a b = 1 ∧ cmpF 69 d a b = 0) := by
              refine ⟨HV.out.1.trans ?_, HV.out.2⟩; unfold belowV; rw [hs]; rfl
            clear hs za zb
            go_wp2_with fail
            go_ret2
            exact retL_mk (by rw [HQ.out.1]) (by rw [HQ.out.2]) (by repeat (first | (with_reducible first | exact Below.refl _ _ | assumption | exact Nat.le_refl _ | refine Below.drew ?_ | refine Below.alloc ?_ ?_ _ | refine Below.setCell ?_ ?_ _ | refine le_alloc ?_ | refine le_set ?_ | refine le_drew ?_ | refine below_step (by assumption) ?_ ?_ | refine le_below (by assumption) ?_) | (dsimp only; omega)))
          · rw [show zeroX d b = false from decide_eq_false zb]
            have hs : sameV d a b = false := decide_eq_false (fun h => h.elim HR.out (fun z => zb z.2))
            clear za zb
            go_wp2_with fail
            refine (order_c sz d hsz a ha _).mono ?_; rintro e w8 ⟨rfl, hb8⟩
            go_wp2_with fail
            refine (order_c sz d hsz b hb _).mono ?_; rintro e w9 ⟨rfl, hb9⟩
            by_cases hl : rankV d a < rankV d b
            · have HQ : Hid (cmpV 69 d a b = 0 ∧ cmpF 69 d a b = 0) := by
                refine ⟨HV.out.1.trans ?_, HV.out.2⟩; unfold belowV; rw [hs, decide_eq_true hl]; rfl
              have hl1 := decide_eq_true hl
              clear hl hs
              generalize rankV d a = ra at hl1 ⊢
              generalize rankV d b = rb at hl1 ⊢
              go_wp2_with fail
              go_ret2
              exact retL_mk (by rw [HQ.out.1]) (by rw [HQ.out.2]) (by repeat (first | (with_reducible first | exact Below.refl _ _ | assumption | exact Nat.le_refl _ | refine Below.drew ?_ | refine Below.alloc ?_ ?_ _ | refine Below.setCell ?_ ?_ _ | refine le_alloc ?_ | refine le_set ?_ | refine le_drew ?_ | refine below_step (by assumption) ?_ ?_ | refine le_below (by assumption) ?_) | (dsimp only; omega)))
            · have HQ : Hid (cmpV 69 d a b = 0 ∧ cmpF 69 d a b = 0) := by
                refine ⟨HV.out.1.trans ?_, HV.out.2⟩; unfold belowV; rw [hs, decide_eq_false hl]; rfl
              have hl1 := decide_eq_false hl
              clear hl hs
              generalize rankV d a = ra at hl1 ⊢
              generalize rankV d b = rb at hl1 ⊢
              go_wp2_with fail
              go_ret2
              exact retL_mk (by rw [HQ.out.1]) (by rw [HQ.out.2]) (by repeat (first | (with_reducible first | exact Below.refl _ _ | assumption | exact Nat.le_refl _ | refine Below.drew ?_ | refine Below.alloc ?_ ?_ _ | refine Below.setCell ?_ ?_ _ | refine le_alloc ?_ | refine le_set ?_ | refine le_drew ?_ | refine below_step (by assumption) ?_ ?_ | refine le_below (by assumption) ?_) | (dsimp only; omega)))
        · rw [show zeroX d a = false from decide_eq_false za]
          have hs : sameV d a b = false := decide_eq_false (fun h => h.elim HR.out (fun z => za z.1))
          clear za
          go_wp2_with fail
          refine (order_c sz d hsz a ha _).mono ?_; rintro e w8 ⟨rfl, hb8⟩
          go_wp2_with fail
          refine (order_c sz d hsz b hb _).mono ?_; rintro e w9 ⟨rfl, hb9⟩
          by_cases hl : rankV d a < rankV d b
          · have HQ : Hid (cmpV 69 d a b = 0 ∧ cmpF 69 d a b = 0) := by
              refine ⟨HV.out.1.trans ?_, HV.out.2⟩; unfold belowV; rw [hs, decide_eq_true hl]; rfl
            have hl1 := decide_eq_true hl
            clear hl hs
            generalize rankV d a = ra at hl1 ⊢
            generalize rankV d b = rb at hl1 ⊢
            go_wp2_with fail
            go_ret2
            exact retL_mk (by rw [HQ.out.1]) (by rw [HQ.out.2]) (by repeat (first | (with_reducible first | exact Below.refl _ _ | assumption | exact Nat.le_refl _ | refine Below.drew ?_ | refine Below.alloc ?_ ?_ _ | refine Below.setCell ?_ ?_ _ | refine le_alloc ?_ | refine le_set ?_ | refine le_drew ?_ | refine below_step (by assumption) ?_ ?_ | refine le_below (by assumption) ?_) | (dsimp only; omega)))
          · have HQ : Hid (cmpV 69 d a b = 0 ∧ cmpF 69 d a b = 0) := by
              refine ⟨HV.out.1.trans ?_, HV.out.2⟩; unfold belowV; rw [hs, decide_eq_false hl]; rfl
            have hl1 := decide_eq_false hl
            clear hl hs
            generalize rankV d a = ra at hl1 ⊢
            generalize rankV d b = rb at hl1 ⊢
            go_wp2_with fail
            go_ret2
            exact retL_mk (by rw [HQ.out.1]) (by rw [HQ.out.2]) (by repeat (first | (with_reducible first | exact Below.refl _ _ | assumption | exact Nat.le_refl _ | refine Below.drew ?_ | refine Below.alloc ?_ ?_ _ | refine Below.setCell ?_ ?_ _ | refine le_alloc ?_ | refine le_set ?_ | refine le_drew ?_ | refine below_step (by assumption) ?_ ?_ | refine le_below (by assumption) ?_) | (dsimp only; omega)))
    · skip
      have HQ0 : Hid (cmpV 69 d a b = 0 ∧ cmpF 69 d a b = flagS (clsV d a) (clsV d b)) := by show _ ∧ _; unfold cmpV cmpF; rw [if_pos (Or.inr hna), if_pos (Or.inr hna)]; exact ⟨rfl, rfl⟩
      clear hna
      go_wp2_with fail
      refine (rsig_c sz d hsz a ha _).mono ?_; rintro e w5 ⟨rfl, hb5⟩
      cases hsa : sigX d a
      · go_wp2_with fail
        refine (rsig_c sz d hsz b hb _).mono ?_; rintro e w6 ⟨rfl, hb6⟩
        cases hsb : sigX d b
        · have HG : Hid (flagS (clsV d a) (clsV d b) = 0) := by show _ = _; rw [HF.out, hsa, hsb]; simp
          clear hsa hsb
          go_wp2_with fail
          go_ret2
          exact retL_mk (by rw [HQ0.out.1]) (by rw [HQ0.out.2, HG.out]) (by repeat (first | (with_reducible first | exact Below.refl _ _ | assumption | exact Nat.le_refl _ | refine Below.drew ?_ | refine Below.alloc ?_ ?_ _ | refine Below.setCell ?_ ?_ _ | refine le_alloc ?_ | refine le_set ?_ | refine le_drew ?_ | refine below_step (by assumption) ?_ ?_ | refine le_below (by assumption) ?_) | (dsimp only; omega)))
        · have HG : Hid (flagS (clsV d a) (clsV d b) = 16) := by show _ = _; rw [HF.out, hsa, hsb]; simp
          clear hsa hsb
          go_wp2_with fail
          go_ret2
          exact retL_mk (by rw [HQ0.out.1]) (by rw [HQ0.out.2, HG.out]) (by repeat (first | (with_reducible first | exact Below.refl _ _ | assumption | exact Nat.le_refl _ | refine Below.drew ?_ | refine Below.alloc ?_ ?_ _ | refine Below.setCell ?_ ?_ _ | refine le_alloc ?_ | refine le_set ?_ | refine le_drew ?_ | refine below_step (by assumption) ?_ ?_ | refine le_below (by assumption) ?_) | (dsimp only; omega)))
      · have HG : Hid (flagS (clsV d a) (clsV d b) = 16) := by show _ = _; rw [HF.out, hsa]; simp
        clear hsa
        go_wp2_with fail
        go_ret2
        exact retL_mk (by rw [HQ0.out.1]) (by rw [HQ0.out.2, HG.out]) (by repeat (first | (with_reducible first | exact Below.refl _ _ | assumption | exact Nat.le_refl _ | refine Below.drew ?_ | refine Below.alloc ?_ ?_ _ | refine Below.setCell ?_ ?_ _ | refine le_alloc ?_ | refine le_set ?_ | refine le_drew ?_ | refine below_step (by assumption) ?_ ?_ | refine le_below (by assumption) ?_) | (dsimp only; omega)))
  · skip
    have HQ0 : Hid (cmpV 69 d a b = 0 ∧ cmpF 69 d a b = flagS (clsV d a) (clsV d b)) := by show _ ∧ _; unfold cmpV cmpF; rw [if_pos (Or.inl hna), if_pos (Or.inl hna)]; exact ⟨rfl, rfl⟩
    clear hna
    go_wp2_with fail
    refine (rsig_c sz d hsz a ha _).mono ?_; rintro e w5 ⟨rfl, hb5⟩
    cases hsa : sigX d a
    · go_wp2_with fail
      refine (rsig_c sz d hsz b hb _).mono ?_; rintro e w6 ⟨rfl, hb6⟩
      cases hsb : sigX d b
      · have HG : Hid (flagS (clsV d a) (clsV d b) = 0) := by show _ = _; rw [HF.out, hsa, hsb]; simp
        clear hsa hsb
        go_wp2_with fail
        go_ret2
        exact retL_mk (by rw [HQ0.out.1]) (by rw [HQ0.out.2, HG.out]) (by repeat (first | (with_reducible first | exact Below.refl _ _ | assumption | exact Nat.le_refl _ | refine Below.drew ?_ | refine Below.alloc ?_ ?_ _ | refine Below.setCell ?_ ?_ _ | refine le_alloc ?_ | refine le_set ?_ | refine le_drew ?_ | refine below_step (by assumption) ?_ ?_ | refine le_below (by assumption) ?_) | (dsimp only; omega)))
      · have HG : Hid (flagS (clsV d a) (clsV d b) = 16) := by show _ = _; rw [HF.out, hsa, hsb]; simp
        clear hsa hsb
        go_wp2_with fail
        go_ret2
        exact retL_mk (by rw [HQ0.out.1]) (by rw [HQ0.out.2, HG.out]) (by repeat (first | (with_reducible first | exact Below.refl _ _ | assumption | exact Nat.le_refl _ | refine Below.drew ?_ | refine Below.alloc ?_ ?_ _ | refine Below.setCell ?_ ?_ _ | refine le_alloc ?_ | refine le_set ?_ | refine le_drew ?_ | refine below_step (by assumption) ?_ ?_ | refine le_below (by assumption) ?_) | (dsimp only; omega)))
    · have HG : Hid (flagS (clsV d a) (clsV d b) = 16) := by show _ = _; rw [HF.out, hsa]; simp
      clear hsa
      go_wp2_with fail
      go_ret2
      exact retL_mk (by rw [HQ0.out.1]) (by rw [HQ0.out.2, HG.out]) (by repeat (first | (with_reducible first | exact Below.refl _ _ | assumption | exact Nat.le_refl _ | refine Below.drew ?_ | refine Below.alloc ?_ ?_ _ | refine Below.setCell ?_ ?_ _ | refine le_alloc ?_ | refine le_set ?_ | refine le_drew ?_ | refine below_step (by assumption) ?_ ?_ | refine le_below (by assumption) ?_) | (dsimp only; omega)))
set_option maxRecDepth 100000 in
set_option maxHeartbeats 4000000 in
theorem RCompare_70 (sz : Int) (d : Bool) (hsz : Hid (SzOk sz d)) (a b : Nat) (ha : Hid (a < 18446744073709551616)) (hb : Hid (b < 18446744073709551616)) (w : World) :
    Calls Try.prog 29 #[.int .i64 70, .int .i64 sz, .int .u64 a, .int .u64 b] w (RetL (cmpV 70 d a b) (cmpF 70 d a b) w) := by
  have HF := Lib.hid (flagS_sig d a b)
  go_enter Try.func29, Try.ntmps29
  go_wp2_with fail
  refine (rright_c sz d hsz _).mono ?_; rintro e w1 ⟨rfl, hb1⟩
  go_wp2_with fail
  refine (rnan_c sz d hsz a ha _).mono ?_; rintro e w2 ⟨rfl, hb2⟩
  rw [← none_nan]
  cases hna : noneV d a
  · have HA := Lib.hid hna; clear hna
    go_wp2_with fail
    refine (rnan_c sz d hsz b hb _).mono ?_; rintro e w3 ⟨rfl, hb3⟩
    rw [← none_nan]
    cases hna : noneV d b
    · have HV : Hid (cmpV 70 d a b = (if (70 ≠ (70 : Int) ∧ sameV d a b = true) ∨ (70 ≠ (69 : Int) ∧ belowV d a b = true) then 1 else 0) ∧ cmpF 70 d a b = 0) := by
        have hn : ¬ ((false : Bool) = true ∨ (false : Bool) = true) := by simp
        show _ ∧ _; unfold cmpV cmpF; rw [HA.out, hna, if_neg hn, if_neg hn]; exact ⟨rfl, rfl⟩
      clear hna
      go_wp2_with fail
      refine (rmask_c sz d hsz a ha _).mono ?_; rintro e w4 ⟨rfl, hb4⟩
      go_wp2_with fail
      refine (rmask_c sz d hsz b hb _).mono ?_; rintro e w5 ⟨rfl, hb5⟩
      by_cases hr : rankV d a = rankV d b
      · have hs : sameV d a b = true := decide_eq_true (.inl hr)
        have HQ : Hid (cmpV 70 d a b = 0 ∧ cmpF 70 d a b = 0) := by
          refine ⟨HV.out.1.trans ?_, HV.out.2⟩; unfold belowV; rw [hs]; rfl
        have hmm : maskN d b = maskN d a := ((mask_rank d a b).2 hr).symm
        rw [hmm]
        clear hr hs hmm
        go_wp2_with fail
        go_ret2
        exact retL_mk (by rw [HQ.out.1]) (by rw [HQ.out.2]) (by repeat (first | (with_reducible first | exact Below.refl _ _ | assumption | exact Nat.le_refl _ | refine Below.drew ?_ | refine Below.alloc ?_ ?_ _ | refine Below.setCell ?_ ?_ _ | refine le_alloc ?_ | refine le_set ?_ | refine le_drew ?_ | refine below_step (by assumption) ?_ ?_ | refine le_below (by assumption) ?_) | (dsimp only; omega)))
      · have hr1 : (((maskN d a : Nat) : Int) == ((maskN d b : Nat) : Int)) = false := by rw [beq_eq_false_iff_ne]; intro e; exact hr ((mask_rank d a b).1 (by omega))
        have HR := Lib.hid hr; clear hr
        generalize maskN d a = ma at *
        generalize maskN d b = mb at *
        go_wp2_with fail
        refine (rzero_c sz d hsz a ha _).mono ?_; rintro e w6 ⟨rfl, hb6⟩
        by_cases za : farN d a = 0
        · rw [show zeroX d a = true from decide_eq_true za]
          go_wp2_with fail
          refine (rzero_c sz d hsz b hb _).mono ?_; rintro e w7 ⟨rfl, hb7⟩
          by_cases zb : farN d b = 0
          · rw [show zeroX d b = true from decide_eq_true zb]
            have hs : sameV d a b = true := decide_eq_true (.inr ⟨za, zb⟩)
            have HQ : Hid (cmpV 70 d a b = 0 ∧ cmpF 70 d a b = 0) := by
              refine ⟨HV.out.1.trans ?_, HV.out.2⟩; unfold belowV; rw [hs]; rfl
            clear hs za zb
            go_wp2_with fail
            go_ret2
            exact retL_mk (by rw [HQ.out.1]) (by rw [HQ.out.2]) (by repeat (first | (with_reducible first | exact Below.refl _ _ | assumption | exact Nat.le_refl _ | refine Below.drew ?_ | refine Below.alloc ?_ ?_ _ | refine Below.setCell ?_ ?_ _ | refine le_alloc ?_ | refine le_set ?_ | refine le_drew ?_ | refine below_step (by assumption) ?_ ?_ | refine le_below (by assumption) ?_) | (dsimp only; omega)))
          · rw [show zeroX d b = false from decide_eq_false zb]
            have hs : sameV d a b = false := decide_eq_false (fun h => h.elim HR.out (fun z => zb z.2))
            clear za zb
            go_wp2_with fail
            refine (order_c sz d hsz a ha _).mono ?_; rintro e w8 ⟨rfl, hb8⟩
            go_wp2_with fail
            refine (order_c sz d hsz b hb _).mono ?_; rintro e w9 ⟨rfl, hb9⟩
            by_cases hl : rankV d a < rankV d b
            · have HQ : Hid (cmpV 70 d a b = 1 ∧ cmpF 70 d a b = 0) := by
                refine ⟨HV.out.1.trans ?_, HV.out.2⟩; unfold belowV; rw [hs, decide_eq_true hl]; rfl
              have hl1 := decide_eq_true hl
              clear hl hs
              generalize rankV d a = ra at hl1 ⊢
              generalize rankV d b = rb at hl1 ⊢
              go_wp2_with fail
              go_ret2
              exact retL_mk (by rw [HQ.out.1]) (by rw [HQ.out.2]) (by repeat (first | (with_reducible first | exact Below.refl _ _ | assumption | exact Nat.le_refl _ | refine Below.drew ?_ | refine Below.alloc ?_ ?_ _ | refine Below.setCell ?_ ?_ _ | refine le_alloc ?_ | refine le_set ?_ | refine le_drew ?_ | refine below_step (by assumption) ?_ ?_ | refine le_below (by assumption) ?_) | (dsimp only; omega)))
            · have HQ : Hid (cmpV 70 d a b = 0 ∧ cmpF 70 d a b = 0) := by
                refine ⟨HV.out.1.trans ?_, HV.out.2⟩; unfold belowV; rw [hs, decide_eq_false hl]; rfl
              have hl1 := decide_eq_false hl
              clear hl hs
              generalize rankV d a = ra at hl1 ⊢
              generalize rankV d b = rb at hl1 ⊢
              go_wp2_with fail
              go_ret2
              exact retL_mk (by rw [HQ.out.1]) (by rw [HQ.out.2]) (by repeat (first | (with_reducible first | exact Below.refl _ _ | assumption | exact Nat.le_refl _ | refine Below.drew ?_ | refine Below.alloc ?_ ?_ _ | refine Below.setCell ?_ ?_ _ | refine le_alloc ?_ | refine le_set ?_ | refine le_drew ?_ | refine below_step (by assumption) ?_ ?_ | refine le_below (by assumption) ?_) | (dsimp only; omega)))
        · rw [show zeroX d a = false from decide_eq_false za]
          have hs : sameV d a b = false := decide_eq_false (fun h => h.elim HR.out (fun z => za z.1))
          clear za
          go_wp2_with fail
          refine (order_c sz d hsz a ha _).mono ?_; rintro e w8 ⟨rfl, hb8⟩
          go_wp2_with fail
          refine (order_c sz d hsz b hb _).mono ?_; rintro e w9 ⟨rfl, hb9⟩
          by_cases hl : rankV d a < rankV d b
          · have HQ : Hid (cmpV 70 d a b = 1 ∧ cmpF 70 d a b = 0) := by
              refine ⟨HV.out.1.trans ?_, HV.out.2⟩; unfold belowV; rw [hs, decide_eq_true hl]; rfl
            have hl1 := decide_eq_true hl
            clear hl hs
            generalize rankV d a = ra at hl1 ⊢
            generalize rankV d b = rb at hl1 ⊢
            go_wp2_with fail
            go_ret2
            exact retL_mk (by rw [HQ.out.1]) (by rw [HQ.out.2]) (by repeat (first | (with_reducible first | exact Below.refl _ _ | assumption | exact Nat.le_refl _ | refine Below.drew ?_ | refine Below.alloc ?_ ?_ _ | refine Below.setCell ?_ ?_ _ | refine le_alloc ?_ | refine le_set ?_ | refine le_drew ?_ | refine below_step (by assumption) ?_ ?_ | refine le_below (by assumption) ?_) | (dsimp only; omega)))
          · have HQ : Hid (cmpV 70 d a b = 0 ∧ cmpF 70 d a b = 0) := by
              refine ⟨HV.out.1.trans ?_, HV.out.2⟩; unfold belowV; rw [hs, decide_eq_false hl]; rfl
            have hl1 := decide_eq_false hl
            clear hl hs
            generalize rankV d a = ra at hl1 ⊢
            generalize rankV d b = rb at hl1 ⊢
            go_wp2_with fail
            go_ret2
            exact retL_mk (by rw [HQ.out.1]) (by rw [HQ.out.2]) (by repeat (first | (with_reducible first | exact Below.refl _ _ | assumption | exact Nat.le_refl _ | refine Below.drew ?_ | refine Below.alloc ?_ ?_ _ | refine Below.setCell ?_ ?_ _ | refine le_alloc ?_ | refine le_set ?_ | refine le_drew ?_ | refine below_step (by assumption) ?_ ?_ | refine le_below (by assumption) ?_) | (dsimp only; omega)))
    · skip
      have HQ : Hid (cmpV 70 d a b = 0 ∧ cmpF 70 d a b = 16) := by show _ ∧ _; unfold cmpV cmpF; rw [if_pos (Or.inr hna), if_pos (Or.inr hna)]; exact ⟨rfl, rfl⟩
      clear hna
      go_wp2_with fail
      go_ret2
      exact retL_mk (by rw [HQ.out.1]) (by rw [HQ.out.2]) (by repeat (first | (with_reducible first | exact Below.refl _ _ | assumption | exact Nat.le_refl _ | refine Below.drew ?_ | refine Below.alloc ?_ ?_ _ | refine Below.setCell ?_ ?_ _ | refine le_alloc ?_ | refine le_set ?_ | refine le_drew ?_ | refine below_step (by assumption) ?_ ?_ | refine le_below (by assumption) ?_) | (dsimp only; omega)))
  · skip
    have HQ : Hid (cmpV 70 d a b = 0 ∧ cmpF 70 d a b = 16) := by show _ ∧ _; unfold cmpV cmpF; rw [if_pos (Or.inl hna), if_pos (Or.inl hna)]; exact ⟨rfl, rfl⟩
    clear hna
    go_wp2_with fail
    go_ret2
    exact retL_mk (by rw [HQ.out.1]) (by rw [HQ.out.2]) (by repeat (first | (with_reducible first | exact Below.refl _ _ | assumption | exact Nat.le_refl _ | refine Below.drew ?_ | refine Below.alloc ?_ ?_ _ | refine Below.setCell ?_ ?_ _ | refine le_alloc ?_ | refine le_set ?_ | refine le_drew ?_ | refine below_step (by assumption) ?_ ?_ | refine le_below (by assumption) ?_) | (dsimp only; omega)))
set_option maxRecDepth 100000 in
set_option maxHeartbeats 4000000 in
theorem RCompare_71 (sz : Int) (d : Bool) (hsz : Hid (SzOk sz d)) (a b : Nat) (ha : Hid (a < 18446744073709551616)) (hb : Hid (b < 18446744073709551616)) (w : World) :
    Calls Try.prog 29 #[.int .i64 71, .int .i64 sz, .int .u64 a, .int .u64 b] w (RetL (cmpV 71 d a b) (cmpF 71 d a b) w) := by
  have HF := Lib.hid (flagS_sig d a b)
  go_enter Try.func29, Try.ntmps29
  go_wp2_with fail
  refine (rright_c sz d hsz _).mono ?_; rintro e w1 ⟨rfl, hb1⟩
  go_wp2_with fail
  refine (rnan_c sz d hsz a ha _).mono ?_; rintro e w2 ⟨rfl, hb2⟩
  rw [← none_nan]
  cases hna : noneV d a
  · have HA := Lib.hid hna; clear hna
    go_wp2_with fail
    refine (rnan_c sz d hsz b hb _).mono ?_; rintro e w3 ⟨rfl, hb3⟩
    rw [← none_nan]
    cases hna : noneV d b
    · have HV : Hid (cmpV 71 d a b = (if (71 ≠ (70 : Int) ∧ sameV d a b = true) ∨ (71 ≠ (69 : Int) ∧ belowV d a b = true) then 1 else 0) ∧ cmpF 71 d a b = 0) := by
        have hn : ¬ ((false : Bool) = true ∨ (false : Bool) = true) := by simp
        show _ ∧ _; unfold cmpV cmpF; rw [HA.out, hna, if_neg hn, if_neg hn]; exact ⟨rfl, rfl⟩
      clear hna
      go_wp2_with fail
      refine (rmask_c sz d hsz a ha _).mono ?_; rintro e w4 ⟨rfl, hb4⟩
      go_wp2_with fail
      refine (rmask_c sz d hsz b hb _).mono ?_; rintro e w5 ⟨rfl, hb5⟩
      by_cases hr : rankV d a = rankV d b
      · have hs : sameV d a b = true := decide_eq_true (.inl hr)
        have HQ : Hid (cmpV 71 d a b = 1 ∧ cmpF 71 d a b = 0) := by
          refine ⟨HV.out.1.trans ?_, HV.out.2⟩; unfold belowV; rw [hs]; rfl
        have hmm : maskN d b = maskN d a := ((mask_rank d a b).2 hr).symm
        rw [hmm]
        clear hr hs hmm
        go_wp2_with fail
        go_ret2
        exact retL_mk (by rw [HQ.out.1]) (by rw [HQ.out.2]) (by repeat (first | (with_reducible first | exact Below.refl _ _ | assumption | exact Nat.le_refl _ | refine Below.drew ?_ | refine Below.alloc ?_ ?_ _ | refine Below.setCell ?_ ?_ _ | refine le_alloc ?_ | refine le_set ?_ | refine le_drew ?_ | refine below_step (by assumption) ?_ ?_ | refine le_below (by assumption) ?_) | (dsimp only; omega)))
      · have hr1 : (((maskN d a : Nat) : Int) == ((maskN d b : Nat) : Int)) = false := by rw [beq_eq_false_iff_ne]; intro e; exact hr ((mask_rank d a b).1 (by omega))
        have HR := Lib.hid hr; clear hr
        generalize maskN d a = ma at *
        generalize maskN d b = mb at *
        go_wp2_with fail
        refine (rzero_c sz d hsz a ha _).mono ?_; rintro e w6 ⟨rfl, hb6⟩
        by_cases za : farN d a = 0
        · rw [show zeroX d a = true from decide_eq_true za]
          go_wp2_with fail
          refine (rzero_c sz d hsz b hb _).mono ?_; rintro e w7 ⟨rfl, hb7⟩
          by_cases zb : farN d b = 0
          · rw [show zeroX d b = true from decide_eq_true zb]
            have hs : sameV d a b = true := decide_eq_true (.inr ⟨za, zb⟩)
            have HQ : Hid (cmpV 71 d a b = 1 ∧ cmpF 71 d a b = 0) := by
              refine ⟨HV.out.1.trans ?_, HV.out.2⟩; unfold belowV; rw [hs]; rfl
            clear hs za zb
            go_wp2_with fail
            go_ret2
            exact retL_mk (by rw [HQ.out.1]) (by rw [HQ.out.2]) (by repeat (first | (with_reducible first | exact Below.refl _ _ | assumption | exact Nat.le_refl _ | refine Below.drew ?_ | refine Below.alloc ?_ ?_ _ | refine Below.setCell ?_ ?_ _ | refine le_alloc ?_ | refine le_set ?_ | refine le_drew ?_ | refine below_step (by assumption) ?_ ?_ | refine le_below (by assumption) ?_) | (dsimp only; omega)))
          · rw [show zeroX d b = false from decide_eq_false zb]
            have hs : sameV d a b = false := decide_eq_false (fun h => h.elim HR.out (fun z => zb z.2))
            clear za zb
            go_wp2_with fail
            refine (order_c sz d hsz a ha _).mono ?_; rintro e w8 ⟨rfl, hb8⟩
            go_wp2_with fail
            refine (order_c sz d hsz b hb _).mono ?_; rintro e w9 ⟨rfl, hb9⟩
            by_cases hl : rankV d a < rankV d b
            · have HQ : Hid (cmpV 71 d a b = 1 ∧ cmpF 71 d a b = 0) := by
                refine ⟨HV.out.1.trans ?_, HV.out.2⟩; unfold belowV; rw [hs, decide_eq_true hl]; rfl
              have hl1 := decide_eq_true hl
              clear hl hs
              generalize rankV d a = ra at hl1 ⊢
              generalize rankV d b = rb at hl1 ⊢
              go_wp2_with fail
              go_ret2
              exact retL_mk (by rw [HQ.out.1]) (by rw [HQ.out.2]) (by repeat (first | (with_reducible first | exact Below.refl _ _ | assumption | exact Nat.le_refl _ | refine Below.drew ?_ | refine Below.alloc ?_ ?_ _ | refine Below.setCell ?_ ?_ _ | refine le_alloc ?_ | refine le_set ?_ | refine le_drew ?_ | refine below_step (by assumption) ?_ ?_ | refine le_below (by assumption) ?_) | (dsimp only; omega)))
            · have HQ : Hid (cmpV 71 d a b = 0 ∧ cmpF 71 d a b = 0) := by
                refine ⟨HV.out.1.trans ?_, HV.out.2⟩; unfold belowV; rw [hs, decide_eq_false hl]; rfl
              have hl1 := decide_eq_false hl
              clear hl hs
              generalize rankV d a = ra at hl1 ⊢
              generalize rankV d b = rb at hl1 ⊢
              go_wp2_with fail
              go_ret2
              exact retL_mk (by rw [HQ.out.1]) (by rw [HQ.out.2]) (by repeat (first | (with_reducible first | exact Below.refl _ _ | assumption | exact Nat.le_refl _ | refine Below.drew ?_ | refine Below.alloc ?_ ?_ _ | refine Below.setCell ?_ ?_ _ | refine le_alloc ?_ | refine le_set ?_ | refine le_drew ?_ | refine below_step (by assumption) ?_ ?_ | refine le_below (by assumption) ?_) | (dsimp only; omega)))
        · rw [show zeroX d a = false from decide_eq_false za]
          have hs : sameV d a b = false := decide_eq_false (fun h => h.elim HR.out (fun z => za z.1))
          clear za
          go_wp2_with fail
          refine (order_c sz d hsz a ha _).mono ?_; rintro e w8 ⟨rfl, hb8⟩
          go_wp2_with fail
          refine (order_c sz d hsz b hb _).mono ?_; rintro e w9 ⟨rfl, hb9⟩
          by_cases hl : rankV d a < rankV d b
          · have HQ : Hid (cmpV 71 d a b = 1 ∧ cmpF 71 d a b = 0) := by
              refine ⟨HV.out.1.trans ?_, HV.out.2⟩; unfold belowV; rw [hs, decide_eq_true hl]; rfl
            have hl1 := decide_eq_true hl
            clear hl hs
            generalize rankV d a = ra at hl1 ⊢
            generalize rankV d b = rb at hl1 ⊢
            go_wp2_with fail
            go_ret2
            exact retL_mk (by rw [HQ.out.1]) (by rw [HQ.out.2]) (by repeat (first | (with_reducible first | exact Below.refl _ _ | assumption | exact Nat.le_refl _ | refine Below.drew ?_ | refine Below.alloc ?_ ?_ _ | refine Below.setCell ?_ ?_ _ | refine le_alloc ?_ | refine le_set ?_ | refine le_drew ?_ | refine below_step (by assumption) ?_ ?_ | refine le_below (by assumption) ?_) | (dsimp only; omega)))
          · have HQ : Hid (cmpV 71 d a b = 0 ∧ cmpF 71 d a b = 0) := by
              refine ⟨HV.out.1.trans ?_, HV.out.2⟩; unfold belowV; rw [hs, decide_eq_false hl]; rfl
            have hl1 := decide_eq_false hl
            clear hl hs
            generalize rankV d a = ra at hl1 ⊢
            generalize rankV d b = rb at hl1 ⊢
            go_wp2_with fail
            go_ret2
            exact retL_mk (by rw [HQ.out.1]) (by rw [HQ.out.2]) (by repeat (first | (with_reducible first | exact Below.refl _ _ | assumption | exact Nat.le_refl _ | refine Below.drew ?_ | refine Below.alloc ?_ ?_ _ | refine Below.setCell ?_ ?_ _ | refine le_alloc ?_ | refine le_set ?_ | refine le_drew ?_ | refine below_step (by assumption) ?_ ?_ | refine le_below (by assumption) ?_) | (dsimp only; omega)))
    · skip
      have HQ : Hid (cmpV 71 d a b = 0 ∧ cmpF 71 d a b = 16) := by show _ ∧ _; unfold cmpV cmpF; rw [if_pos (Or.inr hna), if_pos (Or.inr hna)]; exact ⟨rfl, rfl⟩
      clear hna
      go_wp2_with fail
      go_ret2
      exact retL_mk (by rw [HQ.out.1]) (by rw [HQ.out.2]) (by repeat (first | (with_reducible first | exact Below.refl _ _ | assumption | exact Nat.le_refl _ | refine Below.drew ?_ | refine Below.alloc ?_ ?_ _ | refine Below.setCell ?_ ?_ _ | refine le_alloc ?_ | refine le_set ?_ | refine le_drew ?_ | refine below_step (by assumption) ?_ ?_ | refine le_below (by assumption) ?_) | (dsimp only; omega)))
  · skip
    have HQ : Hid (cmpV 71 d a b = 0 ∧ cmpF 71 d a b = 16) := by show _ ∧ _; unfold cmpV cmpF; rw [if_pos (Or.inl hna), if_pos (Or.inl hna)]; exact ⟨rfl, rfl⟩
    clear hna
    go_wp2_with fail
    go_ret2
    exact retL_mk (by rw [HQ.out.1]) (by rw [HQ.out.2]) (by repeat (first | (with_reducible first | exact Below.refl _ _ | assumption | exact Nat.le_refl _ | refine Below.drew ?_ | refine Below.alloc ?_ ?_ _ | refine Below.setCell ?_ ?_ _ | refine le_alloc ?_ | refine le_set ?_ | refine le_drew ?_ | refine below_step (by assumption) ?_ ?_ | refine le_below (by assumption) ?_) | (dsimp only; omega)))
end Go.Proofs.Ytbcfndgceapbjaa
