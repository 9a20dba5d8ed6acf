/- What a write turns, what is read: their cells. -/
import Derived.Test.YtmlbobjbkbcabaaE0
namespace Go.Proofs.Ytmlbobjbkbcabaa
open Go.ChangeShapes Go.WideShapes Go.ChangeAt Go.RowKit P
set_option linter.unusedVariables false
set_option linter.unusedSimpArgs false
/-- The cells that a write of a register may turn. -/
def chg (n : Int) (k : Nat) : Bool :=
  if fixB n = true then false
  else if n = 1 ∨ n = 2 ∨ n = 3 then k == 21 || k == 0
  else if n = 256 ∨ n = 768 then k == 0
  else if n = 260 ∨ n = 772 then k == 4
  else if n = 324 ∨ n = 836 then k == 5
  else if n = 928 then decide (22 ≤ k) && decide (k < 30)
  else if 944 ≤ n ∧ n ≤ 951 then decide (30 ≤ k)
  else k == plK n && !(plK n == 38)
/-- The cells that a read of a register looks at. -/
def rds (n : Int) (k : Nat) : Bool :=
  if n = 1 ∨ n = 2 ∨ n = 3 then k == 21
  else if n = 256 ∨ n = 768 then k == 0
  else if n = 260 then k == 4 || k == 3
  else if n = 772 then k == 4
  else if n = 324 then k == 5 || k == 3
  else if n = 836 then k == 5
  else if n = 769 ∨ n = 3073 then false
  else if n = 928 then decide (22 ≤ k) && decide (k < 30)
  else k == plK n && !(plK n == 38)
def shI (n : Int) : Int := if n = 256 then 768 else if n = 260 then 772 else if n = 324 then 836 else if n = 2 ∨ n = 3 then 1 else if n = 3072 then 2816 else if n = 3074 then 2818 else n
/-- Those that share bits. -/
def exC (n o : Int) : Bool := shI n == shI o || (decide (928 ≤ n) && decide (n < 960) && decide (928 ≤ o) && decide (o < 960)) || (decide (1 ≤ n) && decide (n ≤ 3) && shI o == 768) || (n == 771 && (shI o == 772 || shI o == 836))
theorem wr_chg (S : Nat → Nat) (n : Int) (v k : Nat) (h : chg n k = false) : wrF S n v k = S k := by
  unfold chg at h
  unfold wrF
  by_cases c0 : fixB n = true
  · rw [if_pos c0]
  rw [if_neg c0] at h ⊢
  by_cases c1 : n = 1
  · rw [if_pos (.inl c1)] at h
    rw [if_pos c1]
    simp only [Bool.or_eq_false_iff, beq_eq_false_iff_ne] at h
    rw [setN_ne h.2, setN_ne h.1]
  rw [if_neg c1]
  by_cases c2 : n = 2
  · rw [if_pos (.inr (.inl c2))] at h
    rw [if_pos c2]
    simp only [Bool.or_eq_false_iff, beq_eq_false_iff_ne] at h
    rw [setN_ne h.2, setN_ne h.1]
  rw [if_neg c2]
  by_cases c3 : n = 3
  · rw [if_pos (.inr (.inr c3))] at h
    rw [if_pos c3]
    simp only [Bool.or_eq_false_iff, beq_eq_false_iff_ne] at h
    rw [setN_ne h.2, setN_ne h.1]
  rw [if_neg (by rintro (q | q | q) <;> contradiction)] at h
  rw [if_neg c3]
  by_cases c4 : n = 256
  · rw [if_pos (.inl c4), beq_eq_false_iff_ne] at h
    rw [if_pos c4, setN_ne h]
  rw [if_neg c4]
  by_cases c5 : n = 768
  · rw [if_pos (.inr c5), beq_eq_false_iff_ne] at h
    rw [if_pos c5, setN_ne h]
  rw [if_neg (by rintro (q | q) <;> contradiction)] at h
  rw [if_neg c5]
  by_cases c6 : n = 260
  · rw [if_pos (.inl c6), beq_eq_false_iff_ne] at h
    rw [if_pos c6, setN_ne h]
  rw [if_neg c6]
  by_cases c7 : n = 772
  · rw [if_pos (.inr c7), beq_eq_false_iff_ne] at h
    rw [if_pos c7, setN_ne h]
  rw [if_neg (by rintro (q | q) <;> contradiction)] at h
  rw [if_neg c7]
  by_cases c8 : n = 324
  · rw [if_pos (.inl c8), beq_eq_false_iff_ne] at h
    rw [if_pos c8, setN_ne h]
  rw [if_neg c8]
  by_cases c9 : n = 836
  · rw [if_pos (.inr c9), beq_eq_false_iff_ne] at h
    rw [if_pos c9, setN_ne h]
  rw [if_neg (by rintro (q | q) <;> contradiction)] at h
  rw [if_neg c9]
  by_cases c10 : n = 928
  · rw [if_pos c10] at h
    rw [if_pos c10]
    simp only [Bool.and_eq_false_iff, decide_eq_false_iff_not] at h
    exact setC_lo (by omega)
  rw [if_neg c10] at h ⊢
  by_cases c11 : 944 ≤ n ∧ n ≤ 951
  · rw [if_pos c11, decide_eq_false_iff_not] at h
    rw [if_pos c11]
    exact setA_lo (by omega)
  rw [if_neg c11] at h ⊢
  by_cases c12 : plK n = 38
  · rw [if_pos c12]
  rw [if_neg c12]
  simp only [Bool.and_eq_false_iff, Bool.not_eq_false', beq_eq_false_iff_ne, beq_iff_eq] at h
  rcases h with h | h
  · by_cases c13 : fitB n v = true
    · rw [if_pos c13, setN_ne h]
    · rw [if_neg c13]
  · exact absurd h c12
theorem rd_congr {S T : Nat → Nat} (n : Int) (l t : Nat) (h : ∀ k, k < 38 → rds n k = true → T k = S k) : rdF T n l t = rdF S n l t := by
  unfold rds at h
  unfold rdF
  by_cases c : specB n = true
  · rw [if_pos c, if_pos c]
    unfold specN
    by_cases d1 : n = 1
    · subst d1; rw [if_pos rfl, if_pos rfl, h 21 (by decide) (by decide)]
    rw [if_neg d1, if_neg d1]
    by_cases d2 : n = 2
    · subst d2; rw [if_pos rfl, if_pos rfl, h 21 (by decide) (by decide)]
    rw [if_neg d2, if_neg d2]
    by_cases d3 : n = 3
    · subst d3; rw [if_pos rfl, if_pos rfl, h 21 (by decide) (by decide)]
    rw [if_neg d3, if_neg d3]
    by_cases d4 : n = 256
    · subst d4; rw [if_pos rfl, if_pos rfl, h 0 (by decide) (by decide)]
    rw [if_neg d4, if_neg d4]
    by_cases d5 : n = 768
    · subst d5; rw [if_pos rfl, if_pos rfl, h 0 (by decide) (by decide)]
    rw [if_neg d5, if_neg d5]
    by_cases d6 : n = 260
    · subst d6; rw [if_pos rfl, if_pos rfl, h 4 (by decide) (by decide), h 3 (by decide) (by decide)]
    rw [if_neg d6, if_neg d6]
    by_cases d7 : n = 772
    · subst d7; rw [if_pos rfl, if_pos rfl, h 4 (by decide) (by decide)]
    rw [if_neg d7, if_neg d7]
    by_cases d8 : n = 324
    · subst d8; rw [if_pos rfl, if_pos rfl]; unfold mipN; rw [h 5 (by decide) (by decide), h 3 (by decide) (by decide)]
    rw [if_neg d8, if_neg d8]
    by_cases d9 : n = 836
    · subst d9; rw [if_pos rfl, if_pos rfl]; unfold mipN; rw [h 5 (by decide) (by decide)]
    rw [if_neg d9, if_neg d9]
    by_cases d10 : n = 769
    · rw [if_pos d10, if_pos d10]
    rw [if_neg d10, if_neg d10]
    by_cases d11 : n = 928
    · subst d11
      rw [if_pos rfl, if_pos rfl]
      have e : ∀ j, cfO T j = cfO S j := fun j => by
        unfold cfO
        exact h _ (by omega) (by
          rw [if_neg (by decide), if_neg (by decide), if_neg (by decide), if_neg (by decide), if_neg (by decide), if_neg (by decide), if_neg (by decide), if_pos rfl]
          rw [Bool.and_eq_true, decide_eq_true_eq, decide_eq_true_eq]; omega)
      rw [show cfO T = cfO S from funext e]
    rw [if_neg d11, if_neg d11]
  · rw [if_neg c, if_neg c]
    by_cases e : plK n = 38
    · rw [if_pos e, if_pos e]
    · rw [if_neg e, if_neg e]
      rcases pl_cases e with rfl | rfl | rfl | rfl | rfl | rfl | rfl | rfl | rfl | rfl | rfl | rfl | rfl | rfl | rfl | rfl | rfl | rfl | rfl | rfl | rfl | rfl | rfl | rfl | rfl | rfl | rfl | rfl <;> exact h _ (by decide) (by decide)
def NL : List Int := [1, 2, 3, 256, 768, 260, 772, 324, 836, 928, 769, 3073] ++ [261, 262, 320, 321, 322, 323, 384, 770, 771, 773, 774, 800, 832, 833, 834, 835, 944, 945, 946, 947, 948, 949, 950, 951, 2816, 3072, 2818, 3074]
theorem tab : NL.all (fun n => NL.all (fun o => exC n o || (List.range 38).all (fun k => !(chg n k && rds o k)))) = true := by decide +kernel
theorem nl_chg {n : Int} {k : Nat} (h : chg n k = true) : n ∈ NL := by
  unfold chg at h
  by_cases c0 : fixB n = true
  · rw [if_pos c0] at h; cases h
  rw [if_neg c0] at h
  by_cases c1 : n = 1 ∨ n = 2 ∨ n = 3
  · rcases c1 with rfl | rfl | rfl <;> decide
  rw [if_neg c1] at h
  by_cases c2 : n = 256 ∨ n = 768
  · rcases c2 with rfl | rfl <;> decide
  rw [if_neg c2] at h
  by_cases c3 : n = 260 ∨ n = 772
  · rcases c3 with rfl | rfl <;> decide
  rw [if_neg c3] at h
  by_cases c4 : n = 324 ∨ n = 836
  · rcases c4 with rfl | rfl <;> decide
  rw [if_neg c4] at h
  by_cases c5 : n = 928
  · subst c5; decide
  rw [if_neg c5] at h
  by_cases c6 : 944 ≤ n ∧ n ≤ 951
  · rcases (by omega : n = 944 ∨ n = 945 ∨ n = 946 ∨ n = 947 ∨ n = 948 ∨ n = 949 ∨ n = 950 ∨ n = 951) with rfl | rfl | rfl | rfl | rfl | rfl | rfl | rfl <;> decide
  rw [if_neg c6] at h
  by_cases e : plK n = 38
  · rw [e] at h; simp at h
  · rcases pl_cases e with rfl | rfl | rfl | rfl | rfl | rfl | rfl | rfl | rfl | rfl | rfl | rfl | rfl | rfl | rfl | rfl | rfl | rfl | rfl | rfl | rfl | rfl | rfl | rfl | rfl | rfl | rfl | rfl <;> decide
theorem nl_rds {n : Int} {k : Nat} (h : rds n k = true) : n ∈ NL := by
  unfold rds at h
  by_cases c1 : n = 1 ∨ n = 2 ∨ n = 3
  · rcases c1 with rfl | rfl | rfl <;> decide
  rw [if_neg c1] at h
  by_cases c2 : n = 256 ∨ n = 768
  · rcases c2 with rfl | rfl <;> decide
  rw [if_neg c2] at h
  by_cases c3 : n = 260
  · subst c3; decide
  rw [if_neg c3] at h
  by_cases c4 : n = 772
  · subst c4; decide
  rw [if_neg c4] at h
  by_cases c5 : n = 324
  · subst c5; decide
  rw [if_neg c5] at h
  by_cases c6 : n = 836
  · subst c6; decide
  rw [if_neg c6] at h
  by_cases c7 : n = 769 ∨ n = 3073
  · rw [if_pos c7] at h; cases h
  rw [if_neg c7] at h
  by_cases c8 : n = 928
  · subst c8; decide
  rw [if_neg c8] at h
  by_cases e : plK n = 38
  · rw [e] at h; simp at h
  · rcases pl_cases e with rfl | rfl | rfl | rfl | rfl | rfl | rfl | rfl | rfl | rfl | rfl | rfl | rfl | rfl | rfl | rfl | rfl | rfl | rfl | rfl | rfl | rfl | rfl | rfl | rfl | rfl | rfl | rfl <;> decide
theorem one_c (S : Nat → Nat) (n o : Int) (v l t : Nat) (h : exC n o = false) : rdF (wrF S n v) o l t = rdF S o l t := by
  refine rd_congr o l t fun k hk hr => wr_chg S n v k ?_
  cases hc : chg n k with
  | false => rfl
  | true =>
    have t1 := List.all_eq_true.1 tab n (nl_chg hc)
    have t2 := List.all_eq_true.1 t1 o (nl_rds hr)
    rw [h, Bool.false_or] at t2
    have t3 := List.all_eq_true.1 t2 k (List.mem_range.2 hk)
    rw [hc, hr] at t3
    cases t3
end Go.Proofs.Ytmlbobjbkbcabaa
