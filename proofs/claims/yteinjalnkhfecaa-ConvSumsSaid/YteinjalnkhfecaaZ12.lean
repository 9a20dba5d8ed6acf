/- Small whole numbers, read back from floats. -/
import Derived.Test.YteinjalnkhfecaaZS
namespace Go.Proofs.Yteinjalnkhfecaa
open Go.ChangeShapes Go.WideShapes Go.ChangeAt Go.RowKit
set_option linter.unusedVariables false
set_option linter.unusedSimpArgs false
theorem ends_pos (wd u m : Bool) : ¬ farV wd u m < 0 := Nat.not_lt_zero _
theorem to_nought (d : Bool) (rm : Int) (hr : 0 ≤ rm ∧ rm ≤ 4) (wd : Bool) (m : Bool) : toIntV d rm wd false (Q.noughtV d m) = (0, 0) := by
  rw [toInt_eq d rm hr]
  have f1 : nanX d (Q.noughtV d m) = false := by cases d <;> cases m <;> decide
  have f2 : infX d (Q.noughtV d m) = false := by cases d <;> cases m <;> decide
  have f4 : Q.ofM d (Q.noughtV d m) = 0 := by cases d <;> cases m <;> decide
  have f5 : -5000 ≤ Q.ofE d (Q.noughtV d m) := (ofE_bd d _).1
  unfold toIntR
  rw [f1, f2, f4, whole_val rm hr _ _ 0 0 f5 (by rw [Nat.zero_mul, Nat.zero_mul])]
  simp only [Bool.false_eq_true, if_false, if_true]
  rw [if_neg (Nat.not_lt_zero _)]
  generalize minusN d (Q.noughtV d m) = mm
  cases wd <;> cases mm <;> rfl
theorem to_of_from_d (d : Bool) (rm : Int) (hr : 0 ≤ rm ∧ rm ≤ 4) (wd u : Bool) (x : Nat) (hx : x < 18446744073709551616) (h0 : heldF wd u x ≠ 0) (hf : (roundV d rm (heldM wd u x) 0 (heldF wd u x)).2 = 0) :
    toIntV d rm wd u (roundV d rm (heldM wd u x) 0 (heldF wd u x)).1 = (if wd then wideV x else x, 0) := by
  rw [toInt_eq d rm hr]
  obtain ⟨k1, k2⟩ := held_back wd u x hx
  have hl := heldF_lt wd u x hx
  have hF := roundV_F d rm (heldM wd u x) 0 (heldF wd u x) h0 hl hr
  rw [hF] at hf ⊢
  obtain ⟨C, c1, c2, c3, c4⟩ := Q.round_exact d rm ⟨1, heldM wd u x, 0, heldF wd u x⟩ h0 (Nat.lt_trans hl (by decide)) (by show -10000 ≤ (0 : Int); decide) hf
  obtain ⟨-, f1, f2, -, f3, f4, f5, f6⟩ := flt_facts c1
  have c3' : C.minus = heldM wd u x := c3
  have hE := (ofE_bd d (Q.roundF d rm ⟨1, heldM wd u x, 0, heldF wd u x⟩).1).1
  unfold toIntR
  rw [f5] at hE
  rw [f1, f2, f3, f4, f5, c3', whole_val rm hr _ C.exp C.mag (heldF wd u x) hE c4]
  simp only [Bool.false_eq_true, if_false, if_true]
  rw [if_neg k1, k2]
/-- A small whole number's own word. -/
theorem held_small (wd : Bool) (s : Int) (hs : s.natAbs ≤ 4194304) (n : Nat) (hn : (n : Int) = s % 18446744073709551616) : heldM wd false n = decide (s < 0) ∧ heldF wd false n = s.natAbs ∧ (if wd then wideV n else n) = n := by
  have hw : wideV n = n := by
    unfold wideV
    split <;> omega
  have hv : heldV wd false n = n := by
    cases wd
    · rfl
    · exact hw
  have hM : heldM wd false n = decide (s < 0) := by
    by_cases c : s < 0
    · rw [decide_eq_true c]
      exact (heldM_t (by rw [hv]; omega)).symm
    · rw [decide_eq_false c]
      exact (heldM_f (by rw [hv]; omega)).symm
  refine ⟨hM, ?_, by cases wd; rfl; exact hw⟩
  unfold heldF
  rw [hM, hv]
  by_cases c : s < 0
  · rw [decide_eq_true c, if_pos rfl]; omega
  · rw [decide_eq_false c, if_neg (by decide)]; omega
theorem to_small (d : Bool) (rm : Int) (hr : 0 ≤ rm ∧ rm ≤ 4) (wd : Bool) (s : Int) (hs : s.natAbs ≤ 4194304) (h0 : s ≠ 0) (n : Nat) (hn : (n : Int) = s % 18446744073709551616) (hf : (roundV d rm (decide (s < 0)) 0 s.natAbs).2 = 0) :
    toIntV d rm wd false (roundV d rm (decide (s < 0)) 0 s.natAbs).1 = (n, 0) := by
  obtain ⟨a, b, c⟩ := held_small wd s hs n hn
  have := to_of_from_d d rm hr wd false n (by omega) (by rw [b]; omega) (by rw [a, b]; exact hf)
  rw [a, b, c] at this
  exact this
end Go.Proofs.Yteinjalnkhfecaa
