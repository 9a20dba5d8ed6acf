/- Convert: the code's answer is the document's. -/
import Derived.Test.YteinjalnkhfecaaZ4
namespace Go.Proofs.Yteinjalnkhfecaa
open Go.ChangeShapes Go.WideShapes Go.ChangeAt Go.RowKit
set_option linter.unusedVariables false
set_option linter.unusedSimpArgs false
theorem field_eq (d : Bool) (a : Nat) : farN d a / fracT d = a / fracT d % expT d := by
  obtain ⟨h, h1, h2⟩ := far_parts d a
  have hT : 0 < fracT d := by cases d <;> decide
  rw [h, Nat.add_comm, Nat.add_mul_div_right _ _ hT, Nat.div_eq_of_lt h1, Nat.zero_add]
theorem readG_Q (d : Bool) (a : Nat) : readG d a = Q.ofM d a := by
  unfold readG Q.ofM
  rw [field_eq]
  rfl
theorem readE_Q (d : Bool) (a : Nat) : readE d a = Q.ofE d a := by
  unfold readE Q.ofE
  rw [field_eq]
  show (if a / fracT d % expT d = 0 then 1 - bias d - fb d else ((a / fracT d % expT d : Nat) : Int) - bias d - fb d) = (if a / fracT d % expT d = 0 then 1 else ((a / fracT d % expT d : Nat) : Int)) - bias d - fb d
  split <;> rfl
theorem zero_G (d : Bool) (a : Nat) (h : zeroX d a = true) : readG d a = 0 := by
  have h0 : farN d a = 0 := of_decide_eq_true h
  obtain ⟨h1, -, -⟩ := far_parts d a
  have hT : 0 < fracT d := by cases d <;> decide
  unfold readG
  rw [h0, Nat.zero_div, if_pos rfl]
  omega
theorem cls_parts (d : Bool) (a : Nat) : (sigX d a = (clsV d a == 8)) ∧ (nanX d a = (clsV d a == 8 || clsV d a == 9)) ∧ (infX d a = (clsV d a == 7 || clsV d a == 0)) := by
  have hq : infB d < quietB d := by cases d <;> decide
  have hf : fracT d ≤ infB d := by cases d <;> decide
  have hf0 : 0 < fracT d := by cases d <;> decide
  unfold sigX nanX infX clsV clsX
  generalize infB d = i at *
  generalize quietB d = q at *
  generalize fracT d = f at *
  generalize farN d a = x at *
  by_cases c1 : q ≤ x
  · rw [if_pos c1]
    refine ⟨by simp; omega, by simp; omega, by simp; omega⟩
  · rw [if_neg c1]
    by_cases c2 : i < x
    · rw [if_pos c2]
      refine ⟨by simp; omega, by simp; omega, by simp; omega⟩
    · rw [if_neg c2]
      by_cases c3 : x = i
      · cases minusN d a <;> simp [c3]
      · refine ⟨?_, ?_, ?_⟩ <;> rw [Bool.eq_iff_iff] <;> simp only [decide_eq_true_eq, Bool.or_eq_true, beq_iff_eq, if_neg c3] <;> cases minusN d a <;> simp only [Bool.false_eq_true, if_false, if_true] <;> split <;> (try split) <;> omega
theorem cvt_eq (d : Bool) (rm : Int) (hr : 0 ≤ rm ∧ rm ≤ 4) (a : Nat) : cvtV d rm a = cvtR d rm a := by
  obtain ⟨h1, h2, h3⟩ := cls_parts (!d) a
  unfold cvtV cvtR
  rw [h1, h2, h3]
  by_cases c8 : clsV (!d) a = 8
  · simp [c8, flag1]
  · by_cases c9 : clsV (!d) a = 9
    · simp [c9, flag1]
    · by_cases c7 : clsV (!d) a = 7
      · simp [c7]
      · by_cases c0 : clsV (!d) a = 0
        · simp [c0]
        · simp only [c8, c9, c7, c0, or_self, if_false, beq_iff_eq, Bool.or_false, Bool.false_eq_true, beq_eq_false_iff_ne.2 c8, beq_eq_false_iff_ne.2 c9, beq_eq_false_iff_ne.2 c7, beq_eq_false_iff_ne.2 c0]
          cases hz : zeroX (!d) a
          · have h0 := ofM_ne (!d) a hz
            simp only [Bool.false_eq_true, if_false]
            rw [roundV_R d rm _ _ _ (by rw [readG_Q]; exact h0) (readG_b (!d) a) hr, readG_Q, readE_Q]
          · simp only [if_true]
            unfold roundV
            rw [zero_G (!d) a hz, if_pos rfl]
end Go.Proofs.Yteinjalnkhfecaa
