/- The plain mathematics of SoftModes: of what a number is rounded to by each mode. -/
import Derived.Test.YthjdeopfbjmmeaaG2
namespace Go.Proofs.Ythjdeopfbjmmeaa
set_option linter.unusedVariables false
set_option linter.unusedSimpArgs false
theorem away_exact (rm : Int) (m : Bool) (k : Nat) : awayV rm m k 0 = false := by
  unfold awayV
  (repeat' split) <;> simp
theorem away_one (m : Bool) (k : Nat) (r : Int) : awayV 1 m k r = false := by unfold awayV; simp
theorem away_two (m : Bool) (k : Nat) (r : Int) (h : r ≠ 0) : awayV 2 m k r = m := by unfold awayV; simp [h]
theorem away_three (m : Bool) (k : Nat) (r : Int) (h : r ≠ 0) : awayV 3 m k r = !m := by unfold awayV; simp [h]
theorem away_far (rm : Int) (m : Bool) (k : Nat) (r : Int) (h : awayV rm m k r = true) : awayV rm m 0 3 = true := by
  unfold awayV at h ⊢
  by_cases h0 : rm = 0
  · subst h0; simp
  · by_cases h2 : rm = 2
    · subst h2; simp at h ⊢; exact h.2
    · by_cases h3 : rm = 3
      · subst h3; simp at h ⊢; exact h.2
      · by_cases h4 : rm = 4
        · subst h4; simp
        · simp [h0, h2, h3, h4] at h
/-- What a mode makes of a place between two neighbours: u is 1 for the one farther from 0. -/
def UpOk (ex m : Bool) (rm : Int) (u : Nat) : Prop :=
  u ≤ 1 ∧ (ex = true → u = 0) ∧ (ex = false → (rm = 1 → u = 0) ∧ (rm = 2 → u = if m then 1 else 0) ∧ (rm = 3 → u = if m then 0 else 1))
theorem up_away (rm : Int) (m : Bool) (k : Nat) (r : Int) (ex : Bool) (hr : ex = true → r = 0) (hr' : ex = false → r ≠ 0) : UpOk ex m rm (if awayV rm m k r then 1 else 0) := by
  refine ⟨by split <;> omega, fun h => ?_, fun h => ⟨fun h1 => ?_, fun h1 => ?_, fun h1 => ?_⟩⟩
  · rw [hr h, away_exact]; rfl
  · rw [h1, away_one]; rfl
  · rw [h1, away_two _ _ _ (hr' h)]
  · rw [h1, away_three _ _ _ (hr' h)]; cases m <;> rfl
/-- What is rounded lies between two neighbours, or is one: the neighbour j and the truth ex don't hang on the mode. -/
def ModesR (d m : Bool) (F : Int → Nat × Int) : Prop := ∃ (j : Nat) (ex : Bool), j < infB d ∧ ∀ rm : Int, ∃ u : Nat, UpOk ex m rm u ∧ (F rm).1 = noughtV d m + (j + u) ∧ ((F rm).2 = 0 ∧ ex = true ∨ ((F rm).2 = 1 ∨ (F rm).2 = 3 ∨ (F rm).2 = 5) ∧ ex = false)
theorem modes_round (d : Bool) (N : Num) (h0 : N.mag ≠ 0) (hb : N.mag < 2 ^ 128) : ModesR d N.minus (fun rm => roundF d rm N) := by
  obtain ⟨-, r1, r2⟩ := raised_mag h0 (by decide : 127 ≤ 127) (blen_le _ _ hb)
  have hp := infB_pos d
  unfold roundF roundX
  generalize (raisedN N 127).mag = g at *
  generalize (raisedN N 127).exp = x
  generalize hm : (raisedN N 127).minus = m
  have hm' : N.minus = m := hm
  rw [hm']
  have hbias : 127 ≤ bias d := by cases d <;> decide
  have hfT : 0 < fracT d := by cases d <;> decide
  have e2 : 2 ^ (fracB d + 1) = 2 * fracT d := by cases d <;> decide
  have n1 : 128 - (127 - fracB d) = fracB d + 1 := by cases d <;> decide
  have hK : fracT d ≤ g / 2 ^ (127 - fracB d) ∧ g / 2 ^ (127 - fracB d) < 2 * fracT d := by
    refine ⟨?_, ?_⟩
    · rw [Nat.le_div_iff_mul_le (Nat.two_pow_pos _)]; exact Nat.le_trans (by cases d <;> decide) r1
    · rw [Nat.div_lt_iff_lt_mul (Nat.two_pow_pos _)]; exact Nat.lt_of_lt_of_le r2 (by cases d <;> decide)
  have hcut : ∀ rm n, cutK rm m g n = g / 2 ^ n + (if awayV rm m (g / 2 ^ n) (restV g n) then 1 else 0) := fun rm n => rfl
  have hcy : ∀ rm, cutK rm m g (127 - fracB d) / 2 ^ (fracB d + 1) = if cutK rm m g (127 - fracB d) = 2 * fracT d then 1 else 0 := by
    intro rm
    have := (cutK_le1 rm m g (127 - fracB d)).2
    rw [e2]
    split
    · next h => rw [h, Nat.div_self (by omega)]
    · next h => exact Nat.div_eq_of_lt (by omega)
  -- overflow, whatever the mode
  by_cases ho : bias d < x + 127
  · refine ⟨infB d - 1, false, by omega, fun rm => ⟨if awayV rm m 0 3 then 1 else 0, up_away rm m 0 3 false (fun h => absurd h (by decide)) (fun _ => by decide), ?_⟩⟩
    unfold roundY
    simp only
    generalize cutK rm m g (127 - fracB d) / 2 ^ (fracB d + 1) = cy
    rw [if_pos (by omega)]
    unfold beyondV infV
    cases awayV rm m 0 3
    · exact ⟨by simp only [Bool.false_eq_true, if_false]; omega, .inr ⟨by simp, trivial⟩⟩
    · exact ⟨by simp only [if_true]; omega, .inr ⟨by simp, trivial⟩⟩
  · by_cases hs : x + 127 < 1 - bias d
    · generalize hn : 127 - fracB d + (1 - bias d - (x + 127)).toNat = n2
      have hj : 128 - fracB d ≤ n2 := by have : fracB d ≤ 52 := by cases d <;> decide
                                         omega
      have h3 : g / 2 ^ n2 < infB d := by
        refine Nat.lt_of_le_of_lt (Nat.div_le_div_left (Nat.pow_le_pow_right (by decide) hj) (Nat.two_pow_pos _)) ?_
        rw [Nat.div_lt_iff_lt_mul (Nat.two_pow_pos _)]
        exact Nat.lt_of_lt_of_le r2 (by cases d <;> decide)
      refine ⟨g / 2 ^ n2, decide (restV g n2 = 0), h3, fun rm => ⟨if awayV rm m (g / 2 ^ n2) (restV g n2) then 1 else 0, up_away rm m _ _ _ of_decide_eq_true of_decide_eq_false, ?_⟩⟩
      unfold roundY
      simp only
      rw [hcy, hn]
      have hc1 : ((if cutK rm m g (127 - fracB d) = 2 * fracT d then 1 else 0 : Nat) : Int) ≤ 1 := by split <;> decide
      generalize (if cutK rm m g (127 - fracB d) = 2 * fracT d then 1 else 0 : Nat) = cy at hc1 ⊢
      rw [if_neg (by omega), if_pos hs]
      refine ⟨by rw [hcut], ?_⟩
      by_cases hr : restV g n2 = 0
      · rw [if_pos hr]; exact .inl ⟨rfl, decide_eq_true hr⟩
      · rw [if_neg hr]; refine .inr ⟨?_, decide_eq_false hr⟩
        split <;> simp
    · obtain ⟨T, hT⟩ : ∃ T : Nat, x + 127 + (bias d - 1) = T := ⟨(x + 127 + (bias d - 1)).toNat, by omega⟩
      have hI : (infB d : Int) = (2 * bias d + 1) * fracT d := by cases d <;> decide
      have hTb : (T : Int) + 2 ≤ 2 * bias d + 1 := by omega
      have hIN : (T + 2) * fracT d ≤ infB d := by
        have h := Int.mul_le_mul_of_nonneg_right hTb (Int.natCast_nonneg (fracT d))
        rw [← hI] at h
        have e : (((T + 2) * fracT d : Nat) : Int) = ((T : Int) + 2) * (fracT d : Int) := by simp
        omega
      have hmul : (T + 2) * fracT d = T * fracT d + 2 * fracT d := by rw [Nat.add_mul]
      refine ⟨T * fracT d + g / 2 ^ (127 - fracB d), decide (restV g (127 - fracB d) = 0), by omega, fun rm => ⟨if awayV rm m (g / 2 ^ (127 - fracB d)) (restV g (127 - fracB d)) then 1 else 0, up_away rm m _ _ _ of_decide_eq_true of_decide_eq_false, ?_⟩⟩
      unfold roundY
      simp only
      rw [hcy, show (x + 127 + (bias d - 1)).toNat = T by omega]
      have hcc := hcut rm (127 - fracB d)
      have hex := away_exact rm m (g / 2 ^ (127 - fracB d))
      have hfar := away_far rm m (g / 2 ^ (127 - fracB d)) (restV g (127 - fracB d))
      have hdf : diffV g (127 - fracB d) = !decide (restV g (127 - fracB d) = 0) := by unfold diffV; simp
      rw [hdf]
      generalize hK' : g / 2 ^ (127 - fracB d) = K at *
      generalize restV g (127 - fracB d) = r at *
      generalize cutK rm m g (127 - fracB d) = k at *
      by_cases hk : k = 2 * fracT d
      · rw [if_pos hk]
        have ha : awayV rm m K r = true := by
          cases h : awayV rm m K r
          · rw [h] at hcc; simp at hcc; omega
          · rfl
        have hr : r ≠ 0 := fun h => by rw [h, hex] at ha; exact absurd ha (by decide)
        by_cases hov : bias d < x + 127 + ((1 : Nat) : Int)
        · rw [if_pos hov]
          have hTe : (T : Int) + 2 = 2 * bias d + 1 := by omega
          have hIe : (T + 2) * fracT d = infB d := by
            have h : ((T : Int) + 2) * (fracT d : Int) = (2 * bias d + 1) * fracT d := by rw [hTe]
            rw [← hI] at h
            have e : (((T + 2) * fracT d : Nat) : Int) = ((T : Int) + 2) * (fracT d : Int) := by simp
            omega
          unfold beyondV infV
          rw [hfar ha, ha]
          simp only [if_true] at hcc ⊢
          rw [ha] at hcc
          simp only [if_true] at hcc
          exact ⟨by omega, .inr ⟨by simp, decide_eq_false hr⟩⟩
        · rw [if_neg hov, if_neg hs]
          refine ⟨by simp only; omega, .inr ⟨?_, decide_eq_false hr⟩⟩
          simp [hr]
      · rw [if_neg hk]
        rw [if_neg (by omega), if_neg hs]
        refine ⟨by simp only; omega, ?_⟩
        by_cases hr : r = 0
        · exact .inl ⟨by simp [hr], decide_eq_true hr⟩
        · exact .inr ⟨by simp [hr], decide_eq_false hr⟩
end Go.Proofs.Ythjdeopfbjmmeaa
