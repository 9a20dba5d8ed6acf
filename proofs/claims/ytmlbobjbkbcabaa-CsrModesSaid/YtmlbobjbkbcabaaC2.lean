/- CsrModes: its mathematics, its walk. -/
import Derived.Test.YtmlbobjbkbcabaaF2
import Derived.LoopTactic
namespace Go.Proofs.Ytmlbobjbkbcabaa
open Go.ChangeShapes Go.WideShapes Go.ChangeAt Go.RowKit Go.Sort P
set_option linter.unusedVariables false
set_option linter.unusedSimpArgs false
theorem low_there {n : Int} (h : thereB n = true) : 0 ≤ lowI n ∧ lowI n ≤ 3 := by
  rw [there_eq, Bool.or_eq_true] at h
  rcases h with h | h
  · rcases reg_cases h with rfl | rfl | rfl | rfl | rfl | rfl | rfl | rfl | rfl | rfl | rfl | rfl | rfl | rfl | rfl | rfl | rfl | rfl | rfl | rfl | rfl | rfl | rfl | rfl | rfl | rfl | rfl | rfl | rfl | rfl | rfl | rfl | rfl | rfl | rfl | rfl | rfl <;> decide
  · unfold lowI
    rcases ran_of h with h | h | h | h
    · rw [show n / 256 = 3 by omega]; decide
    · rw [show n / 256 = 3 by omega]; decide
    · rw [show n / 256 = 11 by omega]; decide
    · rw [show n / 256 = 12 by omega]; decide
theorem may_iff {S : Nat → Nat} {m n : Int} {b : Bool} (h : mayF S m n b = true) : thereB n = true ∧ ¬ takenN m < lowI n ∧ (b = true → fixB n = false) ∧ moreB S (takenN m) n = true := by
  unfold mayF at h
  cases hn : noB (takenN m) n b with
  | true => rw [hn, if_pos rfl] at h; cases h
  | false =>
    rw [hn, if_neg (by decide)] at h
    unfold noB at hn
    simp only [Bool.or_eq_false_iff, Bool.and_eq_false_iff, Bool.not_eq_false', decide_eq_false_iff_not] at hn
    refine ⟨hn.1, hn.2.1, fun hb => ?_, h⟩
    rcases hn.2.2 with q | q
    · rw [q] at hb; cases hb
    · exact q
theorem may_mk {S : Nat → Nat} {m n : Int} {b : Bool} (h1 : thereB n = true) (h2 : ¬ takenN m < lowI n) (h3 : b = true → fixB n = false) (h4 : moreB S (takenN m) n = true) : mayF S m n b = true := by
  unfold mayF
  have hn : noB (takenN m) n b = false := by
    unfold noB
    rw [h1, show decide (takenN m < lowI n) = false from decide_eq_false h2]
    cases b
    · rfl
    · rw [h3 rfl]; rfl
  rw [hn, if_neg (by decide)]; exact h4
theorem more_01 {S : Nat → Nat} {n : Int} (h : moreB S 0 n = true) : moreB S 1 n = true := by
  unfold moreB at h ⊢
  by_cases h1 : inB n 1 3 = true
  · rw [if_pos h1] at h ⊢; exact h
  · rw [if_neg h1] at h ⊢
    by_cases h2 : n = 384
    · rw [if_pos h2] at h ⊢; exact h
    · rw [if_neg h2] at h ⊢
      by_cases h3 : inB n 3072 3103 = true
      · rw [if_pos h3] at h ⊢
        unfold ctrB at h ⊢
        have e := and_bit (S 19) (S 10) (n - 3072).toNat
        rw [show ctrN S 0 = S 19 &&& S 10 from rfl, e, Bool.and_eq_true] at h
        exact h.2
      · rw [if_neg h3]
theorem more_3 {S : Nat → Nat} {n : Int} (h : inB n 1 3 = false) : moreB S 3 n = true := by
  unfold moreB
  rw [if_neg (by rw [h]; decide)]
  by_cases h2 : n = 384
  · rw [if_pos h2]; rfl
  · rw [if_neg h2]
    by_cases h3 : inB n 3072 3103 = true
    · rw [if_pos h3]
      unfold ctrB
      have j32 := (and31 n h3).2
      have h : ∀ j : Fin 32, (18446744073709551615 / 2 ^ j.val % 2 == 1) = true := by decide +kernel
      exact h ⟨_, j32⟩
    · rw [if_neg h3]
theorem more_13 {S : Nat → Nat} {n : Int} (h : moreB S 1 n = true) : moreB S 3 n = true := by
  cases h1 : inB n 1 3 with
  | false => exact more_3 h1
  | true => unfold moreB at h ⊢; rw [if_pos h1] at h ⊢; exact h
theorem modes_a {S : Nat → Nat} {n : Int} {b : Bool} (h : mayF S 0 n b = true) : mayF S 1 n b = true ∧ lowI n = 0 := by
  obtain ⟨h1, h2, h3, h4⟩ := may_iff h
  have l := low_there h1
  have h2' : ¬ (0 : Int) < lowI n := h2
  exact ⟨may_mk h1 (by show ¬ (1 : Int) < lowI n; omega) h3 (more_01 h4), by omega⟩
theorem modes_b {S : Nat → Nat} {n : Int} {b : Bool} (h : mayF S 1 n b = true) : mayF S 3 n b = true ∧ ¬ lowI n > 1 := by
  obtain ⟨h1, h2, h3, h4⟩ := may_iff h
  have h2' : ¬ (1 : Int) < lowI n := h2
  exact ⟨may_mk h1 (by show ¬ (3 : Int) < lowI n; omega) h3 (more_13 h4), h2'⟩
theorem modes_c {S : Nat → Nat} {m n : Int} (h : mayF S m n true = true) : mayF S m n false = true ∧ fixB n = false := by
  obtain ⟨h1, h2, h3, h4⟩ := may_iff h
  exact ⟨may_mk h1 h2 (fun q => by cases q) h4, h3 rfl⟩
theorem modes_d {S : Nat → Nat} {n : Int} (h : mayF S 3 n false = false) (lines now : Nat) : rdF S n lines now = 0 ∨ (1 ≤ n ∧ n ≤ 3) := by
  cases ht : thereB n with
  | false =>
    left
    unfold thereB at ht
    simp only [Bool.or_eq_false_iff, Bool.not_eq_false', beq_iff_eq] at ht
    unfold rdF
    rw [if_neg (by rw [ht.1.1]; decide), if_pos ht.1.2]
  | true =>
    right
    cases h1 : inB n 1 3 with
    | true => exact (in_iff n 1 3).1 h1
    | false =>
      have := may_mk (S := S) (m := 3) (b := false) ht (by show ¬ (3 : Int) < lowI n; have := low_there ht; omega) (fun q => by cases q) (more_3 h1)
      rw [h] at this; cases this
/-- What is known of a kind of access (b: a write). -/
def MayK (U Sv M : Bool) (lo : Int) (fx : Bool) (b : Bool) : Prop := (U = true → Sv = true ∧ lo = 0) ∧ (Sv = true → M = true ∧ ¬ lo > 1) ∧ (b = true → M = true → fx = false)
theorem mayK_c (S : Nat → Nat) (n : Int) (b : Bool) : MayK (mayF S 0 n b) (mayF S 1 n b) (mayF S 3 n b) (lowI n) (fixB n) b :=
  ⟨modes_a, modes_b, fun hb h => by subst hb; exact (modes_c h).2⟩
end Go.Proofs.Ytmlbobjbkbcabaa
