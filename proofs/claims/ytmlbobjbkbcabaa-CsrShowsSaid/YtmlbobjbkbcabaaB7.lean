/- The reference's There and May. -/
import Derived.Test.YtmlbobjbkbcabaaB6
namespace Go.Proofs.Ytmlbobjbkbcabaa
open Go.ChangeShapes Go.WideShapes Go.ChangeAt Go.RowKit P
set_option linter.unusedVariables false
set_option linter.unusedSimpArgs false
def regL : List Int := [1, 2, 3, 256, 260, 261, 262, 266, 320, 321, 322, 323, 324, 384, 768, 769, 770, 771, 772, 773, 774, 778, 800, 832, 833, 834, 835, 836, 928, 930, 2816, 2818, 3857, 3858, 3859, 3860, 3861]
def regB (n : Int) : Bool := n == 1 || n == 2 || n == 3 || n == 256 || n == 260 || n == 261 || n == 262 || n == 266 || n == 320 || n == 321 || n == 322 || n == 323 || n == 324 || n == 384 || n == 768 || n == 769 || n == 770 || n == 771 || n == 772 || n == 773 || n == 774 || n == 778 || n == 800 || n == 832 || n == 833 || n == 834 || n == 835 || n == 836 || n == 928 || n == 930 || n == 2816 || n == 2818 || n == 3857 || n == 3858 || n == 3859 || n == 3860 || n == 3861
def ranB (n : Int) : Bool := inB n 803 831 || inB n 944 959 || inB n 2819 2847 || inB n 3072 3103
theorem in_iff (n a b : Int) : inB n a b = true ↔ a ≤ n ∧ n ≤ b := by unfold inB; simp only [Bool.and_eq_true, decide_eq_true_eq]
theorem reg_cases {n : Int} (h : regB n = true) : n = 1 ∨ n = 2 ∨ n = 3 ∨ n = 256 ∨ n = 260 ∨ n = 261 ∨ n = 262 ∨ n = 266 ∨ n = 320 ∨ n = 321 ∨ n = 322 ∨ n = 323 ∨ n = 324 ∨ n = 384 ∨ n = 768 ∨ n = 769 ∨ n = 770 ∨ n = 771 ∨ n = 772 ∨ n = 773 ∨ n = 774 ∨ n = 778 ∨ n = 800 ∨ n = 832 ∨ n = 833 ∨ n = 834 ∨ n = 835 ∨ n = 836 ∨ n = 928 ∨ n = 930 ∨ n = 2816 ∨ n = 2818 ∨ n = 3857 ∨ n = 3858 ∨ n = 3859 ∨ n = 3860 ∨ n = 3861 := by
  unfold regB at h
  simp only [Bool.or_eq_true, beq_iff_eq, or_assoc] at h
  exact h
theorem reg_none {n : Int} (h : regB n = false) : ¬ n = 1 ∧ ¬ n = 2 ∧ ¬ n = 3 ∧ ¬ n = 256 ∧ ¬ n = 260 ∧ ¬ n = 261 ∧ ¬ n = 262 ∧ ¬ n = 266 ∧ ¬ n = 320 ∧ ¬ n = 321 ∧ ¬ n = 322 ∧ ¬ n = 323 ∧ ¬ n = 324 ∧ ¬ n = 384 ∧ ¬ n = 768 ∧ ¬ n = 769 ∧ ¬ n = 770 ∧ ¬ n = 771 ∧ ¬ n = 772 ∧ ¬ n = 773 ∧ ¬ n = 774 ∧ ¬ n = 778 ∧ ¬ n = 800 ∧ ¬ n = 832 ∧ ¬ n = 833 ∧ ¬ n = 834 ∧ ¬ n = 835 ∧ ¬ n = 836 ∧ ¬ n = 928 ∧ ¬ n = 930 ∧ ¬ n = 2816 ∧ ¬ n = 2818 ∧ ¬ n = 3857 ∧ ¬ n = 3858 ∧ ¬ n = 3859 ∧ ¬ n = 3860 ∧ ¬ n = 3861 := by
  unfold regB at h
  simp only [Bool.or_eq_false_iff, beq_eq_false_iff_ne, ne_eq, and_assoc] at h
  exact h
theorem pl_cases {n : Int} (h : plK n ≠ 38) : n = 261 ∨ n = 262 ∨ n = 320 ∨ n = 321 ∨ n = 322 ∨ n = 323 ∨ n = 384 ∨ n = 770 ∨ n = 771 ∨ n = 773 ∨ n = 774 ∨ n = 800 ∨ n = 832 ∨ n = 833 ∨ n = 834 ∨ n = 835 ∨ n = 944 ∨ n = 945 ∨ n = 946 ∨ n = 947 ∨ n = 948 ∨ n = 949 ∨ n = 950 ∨ n = 951 ∨ n = 2816 ∨ n = 3072 ∨ n = 2818 ∨ n = 3074 := by
  by_cases h0 : n = 261
  · subst h0; simp
  by_cases h1 : n = 262
  · subst h1; simp
  by_cases h2 : n = 320
  · subst h2; simp
  by_cases h3 : n = 321
  · subst h3; simp
  by_cases h4 : n = 322
  · subst h4; simp
  by_cases h5 : n = 323
  · subst h5; simp
  by_cases h6 : n = 384
  · subst h6; simp
  by_cases h7 : n = 770
  · subst h7; simp
  by_cases h8 : n = 771
  · subst h8; simp
  by_cases h9 : n = 773
  · subst h9; simp
  by_cases h10 : n = 774
  · subst h10; simp
  by_cases h11 : n = 800
  · subst h11; simp
  by_cases h12 : n = 832
  · subst h12; simp
  by_cases h13 : n = 833
  · subst h13; simp
  by_cases h14 : n = 834
  · subst h14; simp
  by_cases h15 : n = 835
  · subst h15; simp
  by_cases h16 : n = 944
  · subst h16; simp
  by_cases h17 : n = 945
  · subst h17; simp
  by_cases h18 : n = 946
  · subst h18; simp
  by_cases h19 : n = 947
  · subst h19; simp
  by_cases h20 : n = 948
  · subst h20; simp
  by_cases h21 : n = 949
  · subst h21; simp
  by_cases h22 : n = 950
  · subst h22; simp
  by_cases h23 : n = 951
  · subst h23; simp
  by_cases h24 : n = 2816
  · subst h24; simp
  by_cases h25 : n = 3072
  · subst h25; simp
  by_cases h26 : n = 2818
  · subst h26; simp
  by_cases h27 : n = 3074
  · subst h27; simp
  exact absurd (by unfold plK; rw [if_neg h0, if_neg h1, if_neg h2, if_neg h3, if_neg h4, if_neg h5, if_neg h6, if_neg h7, if_neg h8, if_neg h9, if_neg h10, if_neg h11, if_neg h12, if_neg h13, if_neg h14, if_neg h15, if_neg h16, if_neg h17, if_neg h18, if_neg h19, if_neg h20, if_neg h21, if_neg h22, if_neg h23, if_neg h24, if_neg h25, if_neg h26, if_neg h27]) h
theorem ran_of {n : Int} (h : ranB n = true) : (803 ≤ n ∧ n ≤ 831) ∨ (944 ≤ n ∧ n ≤ 959) ∨ (2819 ≤ n ∧ n ≤ 2847) ∨ (3072 ≤ n ∧ n ≤ 3103) := by
  unfold ranB at h
  simp only [Bool.or_eq_true, in_iff, or_assoc] at h
  exact h
theorem nought_of {n : Int} (h : noughtB n = true) : n = 266 ∨ n = 778 ∨ n = 930 ∨ (803 ≤ n ∧ n ≤ 831) ∨ (952 ≤ n ∧ n ≤ 959) ∨ (2819 ≤ n ∧ n ≤ 2847) ∨ (3075 ≤ n ∧ n ≤ 3103) ∨ (3857 ≤ n ∧ n ≤ 3861) := by
  unfold noughtB at h
  simp only [Bool.or_eq_true, in_iff, beq_iff_eq, or_assoc] at h
  exact h
theorem ran_mk {n : Int} (h : (803 ≤ n ∧ n ≤ 831) ∨ (944 ≤ n ∧ n ≤ 959) ∨ (2819 ≤ n ∧ n ≤ 2847) ∨ (3072 ≤ n ∧ n ≤ 3103)) : ranB n = true := by
  unfold ranB
  simp only [Bool.or_eq_true, in_iff, or_assoc]
  exact h
theorem nought_mk {n : Int} (h : n = 266 ∨ n = 778 ∨ n = 930 ∨ (803 ≤ n ∧ n ≤ 831) ∨ (952 ≤ n ∧ n ≤ 959) ∨ (2819 ≤ n ∧ n ≤ 2847) ∨ (3075 ≤ n ∧ n ≤ 3103) ∨ (3857 ≤ n ∧ n ≤ 3861)) : noughtB n = true := by
  unfold noughtB
  simp only [Bool.or_eq_true, in_iff, beq_iff_eq, or_assoc]
  exact h
theorem there_nought {n : Int} (h : noughtB n = true) : thereB n = true := by unfold thereB; rw [h]; simp
theorem there_eq (n : Int) : thereB n = (regB n || ranB n) := by
  have ra : ranB n = true → (regB n || ranB n) = true := fun h => by rw [h]; simp
  have d1 : thereB n = true → (regB n || ranB n) = true := fun h => by
    unfold thereB at h
    simp only [Bool.or_eq_true] at h
    rcases h with (h | h) | h
    · rcases spec_some h with rfl | rfl | rfl | rfl | rfl | rfl | rfl | rfl | rfl | rfl | rfl | rfl <;> decide
    · have h2 : plK n ≠ 38 := by intro e; rw [e] at h; exact absurd h (by decide)
      rcases pl_cases h2 with rfl | rfl | rfl | rfl | rfl | rfl | rfl | rfl | rfl | rfl | rfl | rfl | rfl | rfl | rfl | rfl | rfl | rfl | rfl | rfl | rfl | rfl | rfl | rfl | rfl | rfl | rfl | rfl <;> decide
    · rcases nought_of h with rfl | rfl | rfl | h | h | h | h | h
      · decide
      · decide
      · decide
      · exact ra (ran_mk (.inl h))
      · exact ra (ran_mk (.inr (.inl ⟨by omega, by omega⟩)))
      · exact ra (ran_mk (.inr (.inr (.inl h))))
      · exact ra (ran_mk (.inr (.inr (.inr ⟨by omega, by omega⟩))))
      · have : n = 3857 ∨ n = 3858 ∨ n = 3859 ∨ n = 3860 ∨ n = 3861 := by omega
        rcases this with rfl | rfl | rfl | rfl | rfl <;> decide
  have d2 : (regB n || ranB n) = true → thereB n = true := fun h => by
    rw [Bool.or_eq_true] at h
    rcases h with h | h
    · rcases reg_cases h with rfl | rfl | rfl | rfl | rfl | rfl | rfl | rfl | rfl | rfl | rfl | rfl | rfl | rfl | rfl | rfl | rfl | rfl | rfl | rfl | rfl | rfl | rfl | rfl | rfl | rfl | rfl | rfl | rfl | rfl | rfl | rfl | rfl | rfl | rfl | rfl | rfl <;> decide
    · rcases ran_of h with h | h | h | h
      · exact there_nought (nought_mk (.inr (.inr (.inr (.inl h)))))
      · by_cases h2 : n ≤ 951
        · have : n = 944 ∨ n = 945 ∨ n = 946 ∨ n = 947 ∨ n = 948 ∨ n = 949 ∨ n = 950 ∨ n = 951 := by omega
          rcases this with rfl | rfl | rfl | rfl | rfl | rfl | rfl | rfl <;> decide
        · exact there_nought (nought_mk (.inr (.inr (.inr (.inr (.inl ⟨by omega, by omega⟩))))))
      · exact there_nought (nought_mk (.inr (.inr (.inr (.inr (.inr (.inl h)))))))
      · by_cases h2 : n ≤ 3074
        · have : n = 3072 ∨ n = 3073 ∨ n = 3074 := by omega
          rcases this with rfl | rfl | rfl <;> decide
        · exact there_nought (nought_mk (.inr (.inr (.inr (.inr (.inr (.inr (.inl ⟨by omega, by omega⟩))))))))
  cases h1 : thereB n
  · cases h2 : (regB n || ranB n)
    · rfl
    · rw [d2 h2] at h1; cases h1
  · exact (d1 h1).symm
theorem there_ge {n : Int} (h : thereB n = true) : 1 ≤ n := by
  rw [there_eq, Bool.or_eq_true] at h
  rcases h with h | h
  · rcases reg_cases h with rfl | rfl | rfl | rfl | rfl | rfl | rfl | rfl | rfl | rfl | rfl | rfl | rfl | rfl | rfl | rfl | rfl | rfl | rfl | rfl | rfl | rfl | rfl | rfl | rfl | rfl | rfl | rfl | rfl | rfl | rfl | rfl | rfl | rfl | rfl | rfl | rfl <;> decide
  · rcases ran_of h with h | h | h | h <;> omega
theorem regL_len : regL.length = 37 := rfl
def regA : Array Value := #[.int .i64 1, .int .i64 2, .int .i64 3, .int .i64 256, .int .i64 260, .int .i64 261, .int .i64 262, .int .i64 266, .int .i64 320, .int .i64 321, .int .i64 322, .int .i64 323, .int .i64 324, .int .i64 384, .int .i64 768, .int .i64 769, .int .i64 770, .int .i64 771, .int .i64 772, .int .i64 773, .int .i64 774, .int .i64 778, .int .i64 800, .int .i64 832, .int .i64 833, .int .i64 834, .int .i64 835, .int .i64 836, .int .i64 928, .int .i64 930, .int .i64 2816, .int .i64 2818, .int .i64 3857, .int .i64 3858, .int .i64 3859, .int .i64 3860, .int .i64 3861]
theorem regA_at (k : Nat) (hk : k < 37) : regA[k]? = some (.int .i64 (regL.getD k 0)) := by
  have h : ∀ k : Fin 37, regA[k.val]? = some (.int .i64 (regL.getD k.val 0)) := fun k => by
    obtain ⟨k, hk⟩ := k
    have : k = 0 ∨ k = 1 ∨ k = 2 ∨ k = 3 ∨ k = 4 ∨ k = 5 ∨ k = 6 ∨ k = 7 ∨ k = 8 ∨ k = 9 ∨ k = 10 ∨ k = 11 ∨ k = 12 ∨ k = 13 ∨ k = 14 ∨ k = 15 ∨ k = 16 ∨ k = 17 ∨ k = 18 ∨ k = 19 ∨ k = 20 ∨ k = 21 ∨ k = 22 ∨ k = 23 ∨ k = 24 ∨ k = 25 ∨ k = 26 ∨ k = 27 ∨ k = 28 ∨ k = 29 ∨ k = 30 ∨ k = 31 ∨ k = 32 ∨ k = 33 ∨ k = 34 ∨ k = 35 ∨ k = 36 := by omega
    rcases this with rfl | rfl | rfl | rfl | rfl | rfl | rfl | rfl | rfl | rfl | rfl | rfl | rfl | rfl | rfl | rfl | rfl | rfl | rfl | rfl | rfl | rfl | rfl | rfl | rfl | rfl | rfl | rfl | rfl | rfl | rfl | rfl | rfl | rfl | rfl | rfl | rfl <;> rfl
  exact h ⟨k, hk⟩
theorem regL_mem {n : Int} {k : Nat} (hk : k < 37) (h : regL.getD k 0 = n) : regB n = true := by
  subst h
  have h : ∀ k : Fin 37, regB (regL.getD k.val 0) = true := by decide +kernel
  exact h ⟨k, hk⟩
theorem regL_all {n : Int} (h : ∀ k, k < 37 → regL.getD k 0 ≠ n) : regB n = false := by
  cases hb : regB n
  · rfl
  · exfalso
    rcases reg_cases hb with rfl | rfl | rfl | rfl | rfl | rfl | rfl | rfl | rfl | rfl | rfl | rfl | rfl | rfl | rfl | rfl | rfl | rfl | rfl | rfl | rfl | rfl | rfl | rfl | rfl | rfl | rfl | rfl | rfl | rfl | rfl | rfl | rfl | rfl | rfl | rfl | rfl
    · exact h 0 (by decide) rfl
    · exact h 1 (by decide) rfl
    · exact h 2 (by decide) rfl
    · exact h 3 (by decide) rfl
    · exact h 4 (by decide) rfl
    · exact h 5 (by decide) rfl
    · exact h 6 (by decide) rfl
    · exact h 7 (by decide) rfl
    · exact h 8 (by decide) rfl
    · exact h 9 (by decide) rfl
    · exact h 10 (by decide) rfl
    · exact h 11 (by decide) rfl
    · exact h 12 (by decide) rfl
    · exact h 13 (by decide) rfl
    · exact h 14 (by decide) rfl
    · exact h 15 (by decide) rfl
    · exact h 16 (by decide) rfl
    · exact h 17 (by decide) rfl
    · exact h 18 (by decide) rfl
    · exact h 19 (by decide) rfl
    · exact h 20 (by decide) rfl
    · exact h 21 (by decide) rfl
    · exact h 22 (by decide) rfl
    · exact h 23 (by decide) rfl
    · exact h 24 (by decide) rfl
    · exact h 25 (by decide) rfl
    · exact h 26 (by decide) rfl
    · exact h 27 (by decide) rfl
    · exact h 28 (by decide) rfl
    · exact h 29 (by decide) rfl
    · exact h 30 (by decide) rfl
    · exact h 31 (by decide) rfl
    · exact h 32 (by decide) rfl
    · exact h 33 (by decide) rfl
    · exact h 34 (by decide) rfl
    · exact h 35 (by decide) rfl
    · exact h 36 (by decide) rfl
set_option maxRecDepth 100000 in
theorem there_r (n : Int) (w : World) : Calls Try.prog 29 #[.int .i64 n] w (RetB (thereB n) w) := by
  have HR : Hid (Row (w.alloc (Obj.cells regA 3)) w.heap.size 3 regA) := row_new _ _ _
  go_enter Try.func29, Try.ntmps29
  go_wp2_with fail
  go_loopw [4] (fun i wr => ∃ k : Nat, k ≤ 37 ∧ i = .int .i64 k ∧ wr = w.alloc (Obj.cells regA 3) ∧ Hid (∀ j, j < k → regL.getD j 0 ≠ n)) (fun i _ => 37 - (intOf i).toNat)
  case atStart => exact ⟨0, by omega, rfl, rfl, fun j hj => absurd hj (Nat.not_lt_zero _)⟩
  case round =>
    obtain ⟨k, hk, rfl, hw, HN⟩ := hrel
    rw [← hw] at HR
    have HB : Hid (Below w.heap.size w wr) := by show Below _ _ _; rw [hw]; exact (by repeat (first | (with_reducible first | exact Below.refl _ _ | assumption | exact Nat.le_refl _ | refine Below.drew ?_ | refine Below.alloc ?_ ?_ _ | refine Below.setCell ?_ ?_ _ | refine le_alloc ?_ | refine le_set ?_ | refine le_drew ?_ | refine below_step (by assumption) ?_ ?_ | refine le_below (by assumption) ?_) | (dsimp only; omega)))
    have HW := Lib.hid hw
    clear hw
    by_cases hlt : k < 37
    · have hlt' : (k : Int) < 37 := by omega
      have hk0 : ((k : Nat) : Int).toNat = k := by omega
      have cc := HR.out.cell k
      rw [regA_at k hlt] at cc
      have HM := Lib.hid (fun h => regL_mem (n := n) hlt h)
      have HX : Hid (regL.getD k 0 ≠ n → ∀ j, j < k + 1 → regL.getD j 0 ≠ n) := fun h j hj => by
        by_cases e : j = k
        · subst e; exact h
        · exact HN.out j (by omega)
      obtain ⟨x, hx⟩ : ∃ x, regL.getD k 0 = x := ⟨_, rfl⟩
      rw [hx] at cc HM HX
      clear hx HN
      by_cases e : x = n
      · subst e
        have HE : Hid (thereB x = true) := by show _ = _; rw [there_eq, HM.out rfl]; rfl
        clear HM HX
        go_wp2_with fail
        go_ret
        exact retB_mk (by rw [HE.out]) HB.out
      · have e1 : (x == n) = false := by rw [beq_eq_false_iff_ne]; exact e
        have HX2 := Lib.hid (HX.out e)
        clear HM HX e
        go_wp2_with fail
        exact ⟨⟨k + 1, by omega, by go_num, HW.out, HX2⟩, by simp [intOf]; omega⟩
    · obtain rfl : k = 37 := by omega
      have HF : Hid (thereB n = ranB n) := by show _ = _; rw [there_eq, regL_all HN.out]; rfl
      clear HN
      by_cases h0 : n < 803
      · have t0 : ¬ (803 ≤ n) := by omega
        have d0 : decide (803 ≤ n) = false := by simp; omega
        have t1 : n ≤ 831 := by omega
        have d1 : decide (n ≤ 831) = true := by simp; omega
        have t2 : ¬ (944 ≤ n) := by omega
        have d2 : decide (944 ≤ n) = false := by simp; omega
        have t3 : n ≤ 959 := by omega
        have d3 : decide (n ≤ 959) = true := by simp; omega
        have t4 : ¬ (2819 ≤ n) := by omega
        have d4 : decide (2819 ≤ n) = false := by simp; omega
        have t5 : n ≤ 2847 := by omega
        have d5 : decide (n ≤ 2847) = true := by simp; omega
        have t6 : ¬ (3072 ≤ n) := by omega
        have d6 : decide (3072 ≤ n) = false := by simp; omega
        have t7 : n ≤ 3103 := by omega
        have d7 : decide (n ≤ 3103) = true := by simp; omega
        have HE : Hid (thereB n = false) := by show _ = _; rw [HF.out]; unfold ranB inB; simp only [d0, d1, d2, d3, d4, d5, d6, d7]; rfl
        clear HF d0 d1 d2 d3 d4 d5 d6 d7
        go_wp2_with fail
        go_ret
        exact retB_mk (by rw [HE.out]) HB.out
      · by_cases h1 : n < 832
        · have t0 : 803 ≤ n := by omega
          have d0 : decide (803 ≤ n) = true := by simp; omega
          have t1 : n ≤ 831 := by omega
          have d1 : decide (n ≤ 831) = true := by simp; omega
          have t2 : ¬ (944 ≤ n) := by omega
          have d2 : decide (944 ≤ n) = false := by simp; omega
          have t3 : n ≤ 959 := by omega
          have d3 : decide (n ≤ 959) = true := by simp; omega
          have t4 : ¬ (2819 ≤ n) := by omega
          have d4 : decide (2819 ≤ n) = false := by simp; omega
          have t5 : n ≤ 2847 := by omega
          have d5 : decide (n ≤ 2847) = true := by simp; omega
          have t6 : ¬ (3072 ≤ n) := by omega
          have d6 : decide (3072 ≤ n) = false := by simp; omega
          have t7 : n ≤ 3103 := by omega
          have d7 : decide (n ≤ 3103) = true := by simp; omega
          have HE : Hid (thereB n = true) := by show _ = _; rw [HF.out]; unfold ranB inB; simp only [d0, d1, d2, d3, d4, d5, d6, d7]; rfl
          clear HF d0 d1 d2 d3 d4 d5 d6 d7
          go_wp2_with fail
          go_ret
          exact retB_mk (by rw [HE.out]) HB.out
        · by_cases h2 : n < 944
          · have t0 : 803 ≤ n := by omega
            have d0 : decide (803 ≤ n) = true := by simp; omega
            have t1 : ¬ (n ≤ 831) := by omega
            have d1 : decide (n ≤ 831) = false := by simp; omega
            have t2 : ¬ (944 ≤ n) := by omega
            have d2 : decide (944 ≤ n) = false := by simp; omega
            have t3 : n ≤ 959 := by omega
            have d3 : decide (n ≤ 959) = true := by simp; omega
            have t4 : ¬ (2819 ≤ n) := by omega
            have d4 : decide (2819 ≤ n) = false := by simp; omega
            have t5 : n ≤ 2847 := by omega
            have d5 : decide (n ≤ 2847) = true := by simp; omega
            have t6 : ¬ (3072 ≤ n) := by omega
            have d6 : decide (3072 ≤ n) = false := by simp; omega
            have t7 : n ≤ 3103 := by omega
            have d7 : decide (n ≤ 3103) = true := by simp; omega
            have HE : Hid (thereB n = false) := by show _ = _; rw [HF.out]; unfold ranB inB; simp only [d0, d1, d2, d3, d4, d5, d6, d7]; rfl
            clear HF d0 d1 d2 d3 d4 d5 d6 d7
            go_wp2_with fail
            go_ret
            exact retB_mk (by rw [HE.out]) HB.out
          · by_cases h3 : n < 960
            · have t0 : 803 ≤ n := by omega
              have d0 : decide (803 ≤ n) = true := by simp; omega
              have t1 : ¬ (n ≤ 831) := by omega
              have d1 : decide (n ≤ 831) = false := by simp; omega
              have t2 : 944 ≤ n := by omega
              have d2 : decide (944 ≤ n) = true := by simp; omega
              have t3 : n ≤ 959 := by omega
              have d3 : decide (n ≤ 959) = true := by simp; omega
              have t4 : ¬ (2819 ≤ n) := by omega
              have d4 : decide (2819 ≤ n) = false := by simp; omega
              have t5 : n ≤ 2847 := by omega
              have d5 : decide (n ≤ 2847) = true := by simp; omega
              have t6 : ¬ (3072 ≤ n) := by omega
              have d6 : decide (3072 ≤ n) = false := by simp; omega
              have t7 : n ≤ 3103 := by omega
              have d7 : decide (n ≤ 3103) = true := by simp; omega
              have HE : Hid (thereB n = true) := by show _ = _; rw [HF.out]; unfold ranB inB; simp only [d0, d1, d2, d3, d4, d5, d6, d7]; rfl
              clear HF d0 d1 d2 d3 d4 d5 d6 d7
              go_wp2_with fail
              go_ret
              exact retB_mk (by rw [HE.out]) HB.out
            · by_cases h4 : n < 2819
              · have t0 : 803 ≤ n := by omega
                have d0 : decide (803 ≤ n) = true := by simp; omega
                have t1 : ¬ (n ≤ 831) := by omega
                have d1 : decide (n ≤ 831) = false := by simp; omega
                have t2 : 944 ≤ n := by omega
                have d2 : decide (944 ≤ n) = true := by simp; omega
                have t3 : ¬ (n ≤ 959) := by omega
                have d3 : decide (n ≤ 959) = false := by simp; omega
                have t4 : ¬ (2819 ≤ n) := by omega
                have d4 : decide (2819 ≤ n) = false := by simp; omega
                have t5 : n ≤ 2847 := by omega
                have d5 : decide (n ≤ 2847) = true := by simp; omega
                have t6 : ¬ (3072 ≤ n) := by omega
                have d6 : decide (3072 ≤ n) = false := by simp; omega
                have t7 : n ≤ 3103 := by omega
                have d7 : decide (n ≤ 3103) = true := by simp; omega
                have HE : Hid (thereB n = false) := by show _ = _; rw [HF.out]; unfold ranB inB; simp only [d0, d1, d2, d3, d4, d5, d6, d7]; rfl
                clear HF d0 d1 d2 d3 d4 d5 d6 d7
                go_wp2_with fail
                go_ret
                exact retB_mk (by rw [HE.out]) HB.out
              · by_cases h5 : n < 2848
                · have t0 : 803 ≤ n := by omega
                  have d0 : decide (803 ≤ n) = true := by simp; omega
                  have t1 : ¬ (n ≤ 831) := by omega
                  have d1 : decide (n ≤ 831) = false := by simp; omega
                  have t2 : 944 ≤ n := by omega
                  have d2 : decide (944 ≤ n) = true := by simp; omega
                  have t3 : ¬ (n ≤ 959) := by omega
                  have d3 : decide (n ≤ 959) = false := by simp; omega
                  have t4 : 2819 ≤ n := by omega
                  have d4 : decide (2819 ≤ n) = true := by simp; omega
                  have t5 : n ≤ 2847 := by omega
                  have d5 : decide (n ≤ 2847) = true := by simp; omega
                  have t6 : ¬ (3072 ≤ n) := by omega
                  have d6 : decide (3072 ≤ n) = false := by simp; omega
                  have t7 : n ≤ 3103 := by omega
                  have d7 : decide (n ≤ 3103) = true := by simp; omega
                  have HE : Hid (thereB n = true) := by show _ = _; rw [HF.out]; unfold ranB inB; simp only [d0, d1, d2, d3, d4, d5, d6, d7]; rfl
                  clear HF d0 d1 d2 d3 d4 d5 d6 d7
                  go_wp2_with fail
                  go_ret
                  exact retB_mk (by rw [HE.out]) HB.out
                · by_cases h6 : n < 3072
                  · have t0 : 803 ≤ n := by omega
                    have d0 : decide (803 ≤ n) = true := by simp; omega
                    have t1 : ¬ (n ≤ 831) := by omega
                    have d1 : decide (n ≤ 831) = false := by simp; omega
                    have t2 : 944 ≤ n := by omega
                    have d2 : decide (944 ≤ n) = true := by simp; omega
                    have t3 : ¬ (n ≤ 959) := by omega
                    have d3 : decide (n ≤ 959) = false := by simp; omega
                    have t4 : 2819 ≤ n := by omega
                    have d4 : decide (2819 ≤ n) = true := by simp; omega
                    have t5 : ¬ (n ≤ 2847) := by omega
                    have d5 : decide (n ≤ 2847) = false := by simp; omega
                    have t6 : ¬ (3072 ≤ n) := by omega
                    have d6 : decide (3072 ≤ n) = false := by simp; omega
                    have t7 : n ≤ 3103 := by omega
                    have d7 : decide (n ≤ 3103) = true := by simp; omega
                    have HE : Hid (thereB n = false) := by show _ = _; rw [HF.out]; unfold ranB inB; simp only [d0, d1, d2, d3, d4, d5, d6, d7]; rfl
                    clear HF d0 d1 d2 d3 d4 d5 d6 d7
                    go_wp2_with fail
                    go_ret
                    exact retB_mk (by rw [HE.out]) HB.out
                  · by_cases h7 : n < 3104
                    · have t0 : 803 ≤ n := by omega
                      have d0 : decide (803 ≤ n) = true := by simp; omega
                      have t1 : ¬ (n ≤ 831) := by omega
                      have d1 : decide (n ≤ 831) = false := by simp; omega
                      have t2 : 944 ≤ n := by omega
                      have d2 : decide (944 ≤ n) = true := by simp; omega
                      have t3 : ¬ (n ≤ 959) := by omega
                      have d3 : decide (n ≤ 959) = false := by simp; omega
                      have t4 : 2819 ≤ n := by omega
                      have d4 : decide (2819 ≤ n) = true := by simp; omega
                      have t5 : ¬ (n ≤ 2847) := by omega
                      have d5 : decide (n ≤ 2847) = false := by simp; omega
                      have t6 : 3072 ≤ n := by omega
                      have d6 : decide (3072 ≤ n) = true := by simp; omega
                      have t7 : n ≤ 3103 := by omega
                      have d7 : decide (n ≤ 3103) = true := by simp; omega
                      have HE : Hid (thereB n = true) := by show _ = _; rw [HF.out]; unfold ranB inB; simp only [d0, d1, d2, d3, d4, d5, d6, d7]; rfl
                      clear HF d0 d1 d2 d3 d4 d5 d6 d7
                      go_wp2_with fail
                      go_ret
                      exact retB_mk (by rw [HE.out]) HB.out
                    · have t0 : 803 ≤ n := by omega
                      have d0 : decide (803 ≤ n) = true := by simp; omega
                      have t1 : ¬ (n ≤ 831) := by omega
                      have d1 : decide (n ≤ 831) = false := by simp; omega
                      have t2 : 944 ≤ n := by omega
                      have d2 : decide (944 ≤ n) = true := by simp; omega
                      have t3 : ¬ (n ≤ 959) := by omega
                      have d3 : decide (n ≤ 959) = false := by simp; omega
                      have t4 : 2819 ≤ n := by omega
                      have d4 : decide (2819 ≤ n) = true := by simp; omega
                      have t5 : ¬ (n ≤ 2847) := by omega
                      have d5 : decide (n ≤ 2847) = false := by simp; omega
                      have t6 : 3072 ≤ n := by omega
                      have d6 : decide (3072 ≤ n) = true := by simp; omega
                      have t7 : ¬ (n ≤ 3103) := by omega
                      have d7 : decide (n ≤ 3103) = false := by simp; omega
                      have HE : Hid (thereB n = false) := by show _ = _; rw [HF.out]; unfold ranB inB; simp only [d0, d1, d2, d3, d4, d5, d6, d7]; rfl
                      clear HF d0 d1 d2 d3 d4 d5 d6 d7
                      go_wp2_with fail
                      go_ret
                      exact retB_mk (by rw [HE.out]) HB.out
end Go.Proofs.Ytmlbobjbkbcabaa
