/- Exact rounding: by its value. -/
import Derived.Test.YthjdeopfbjmmeaaG5
namespace Go.Proofs.Ythjdeopfbjmmeaa
set_option linter.unusedVariables false
set_option linter.unusedSimpArgs false
theorem roundF_eq (d : Bool) (rm : Int) (N : Num) : roundF d rm N = roundX d rm N.minus (raisedN N 127).exp (raisedN N 127).mag := rfl
theorem round_val (d : Bool) (rm : Int) (N C : Num) (c : Nat) (h0 : N.mag ≠ 0) (hb : N.mag < 2 ^ 128) (he : -10000 ≤ N.exp) (hc : Flt d c C) (hC : C.mag ≠ 0 ∧ C.mag < 2 ^ 128 ∧ -10000 ≤ C.exp) (hv : val N = val C) (hm : N.minus = C.minus) : roundF d rm N = (c, 0) := by
  have b1 := blen_le _ _ hb
  have b2 := blen_le _ _ hC.2.1
  obtain ⟨-, r1, r2⟩ := raised_mag h0 (by decide : 127 ≤ 127) b1
  obtain ⟨-, s1, s2⟩ := raised_mag hC.1 (by decide : 127 ≤ 127) b2
  have v1 := val_raise h0 (by decide : 127 ≤ 127) b1 (by omega)
  have v2 := val_raise hC.1 (by decide : 127 ≤ 127) b2 (by omega)
  have n1 : (raisedN N 127).exp = N.exp - (((127 : Nat) : Int) + 1 - (blen N.mag : Int)) := rfl
  have n2 : (raisedN C 127).exp = C.exp - (((127 : Nat) : Int) + 1 - (blen C.mag : Int)) := rfl
  have e := val_inj r1 r2 s1 s2 (by omega) (by omega) (show val (raisedN N 127) = val (raisedN C 127) by rw [v1, v2, hv])
  have hi := round_id d rm C c hc
  rw [roundF_eq] at hi ⊢
  rw [e.1, e.2, hm]; exact hi
theorem pow_join (g k : Nat) (x y : Int) (h : y = x + k) (hx : -20000 ≤ x) : g * 2 ^ k * 2 ^ (x + 20000).toNat = g * 2 ^ (y + 20000).toNat := by
  rw [Nat.mul_assoc, ← Nat.pow_add]; congr 2; omega
theorem round_exact (d : Bool) (rm : Int) (N : Num) (h0 : N.mag ≠ 0) (hb : N.mag < 2 ^ 128) (he : -10000 ≤ N.exp) (hf : (roundF d rm N).2 = 0) :
    ∃ C, Flt d (roundF d rm N).1 C ∧ C.cls = 1 ∧ C.minus = N.minus ∧ val C = val N := by
  have b1 := blen_le _ _ hb
  obtain ⟨-, r1, r2⟩ := raised_mag h0 (by decide : 127 ≤ 127) b1
  have v1 := val_raise h0 (by decide : 127 ≤ 127) b1 (by omega)
  have n1 : (raisedN N 127).exp = N.exp - (((127 : Nat) : Int) + 1 - (blen N.mag : Int)) := rfl
  have hxl : -20000 ≤ (raisedN N 127).exp := by omega
  have hval : val N = (raisedN N 127).mag * 2 ^ ((raisedN N 127).exp + 20000).toNat := v1.symm
  obtain ⟨lf, lT, l2, l3, l4, l5, l6, l7⟩ := lay_facts d
  have hT : 0 < fracT d := by cases d <;> decide
  rw [roundF_eq] at hf ⊢
  rw [hval]
  clear hval v1 n1 b1
  generalize (raisedN N 127).mag = g at *
  generalize (raisedN N 127).exp = x at *
  generalize N.minus = m at *
  have hK : fracT d ≤ g / 2 ^ (127 - fracB d) ∧ g / 2 ^ (127 - fracB d) < 2 * fracT d := by
    refine ⟨?_, ?_⟩
    · rw [Nat.le_div_iff_mul_le (Nat.two_pow_pos _)]; exact Nat.le_trans (by cases d <;> decide) r1
    · rw [Nat.div_lt_iff_lt_mul (Nat.two_pow_pos _)]; exact Nat.lt_of_lt_of_le r2 (by cases d <;> decide)
  unfold roundX roundY at hf ⊢
  simp only at hf ⊢
  by_cases ho : bias d < x + 127 + ((cutK rm m g (127 - fracB d) / 2 ^ (fracB d + 1) : Nat) : Int)
  · rw [if_pos ho] at hf; exact absurd hf (show ¬ (5 : Int) = 0 by decide)
  rw [if_neg ho] at hf ⊢
  by_cases hs : x + 127 < 1 - bias d
  · rw [if_pos hs] at hf ⊢
    obtain ⟨n2, hn2⟩ : ∃ n2, n2 = 127 - fracB d + (1 - bias d - (x + 127)).toNat := ⟨_, rfl⟩
    rw [← hn2] at hf ⊢
    have hr : restV g n2 = 0 := by
      by_cases h : restV g n2 = 0
      · exact h
      · simp only [h, if_false] at hf; split at hf <;> simp at hf
    have hg := rest_ne hr
    have hdm := Nat.div_add_mod g (2 ^ n2)
    rw [hg, Nat.add_zero, Nat.mul_comm] at hdm
    obtain ⟨F, hF⟩ : ∃ F, F = g / 2 ^ n2 := ⟨_, rfl⟩
    rw [← hF] at hdm
    have hcut : cutK rm m g n2 = F := by rw [← hdm]; exact (cut_exact rm m F n2).1
    have hF0 : 0 < F := Nat.pos_of_ne_zero (fun h => by rw [h, Nat.zero_mul] at hdm; have := Nat.two_pow_pos 127; omega)
    have hFT : F < fracT d := by
      rw [hF, Nat.div_lt_iff_lt_mul (Nat.two_pow_pos _), lT, ← Nat.pow_add]
      exact Nat.lt_of_lt_of_le r2 (Nat.pow_le_pow_right (by decide) (by omega))
    have hFI : F < infB d := Nat.lt_trans hFT (by cases d <;> decide)
    have hrd := read_shape d m F hFI
    rw [if_neg (by rw [Nat.div_eq_of_lt hFT]; simp), if_pos (by omega)] at hrd
    rw [hcut]
    refine ⟨⟨1, m, 1 - bias d - fb d, F⟩, ⟨F, rfl, hF0, hFI, hrd⟩, rfl, rfl, ?_⟩
    show F * 2 ^ (1 - bias d - fb d + 20000).toNat = _
    rw [← hdm]
    exact (pow_join F n2 x (1 - bias d - fb d) (by omega) hxl).symm
  · rw [if_neg hs] at hf ⊢
    have hdf : diffV g (127 - fracB d) = false := by
      cases h : diffV g (127 - fracB d)
      · rfl
      · rw [h] at hf; simp at hf
    have hr : restV g (127 - fracB d) = 0 := by
      unfold diffV at hdf
      have := of_decide_eq_false hdf
      omega
    have hg := rest_ne hr
    have hdm := Nat.div_add_mod g (2 ^ (127 - fracB d))
    rw [hg, Nat.add_zero, Nat.mul_comm] at hdm
    obtain ⟨K, hKe⟩ : ∃ K, K = g / 2 ^ (127 - fracB d) := ⟨_, rfl⟩
    rw [← hKe] at hdm hK
    have hcut : cutK rm m g (127 - fracB d) = K := by rw [← hdm]; exact (cut_exact rm m K (127 - fracB d)).1
    rw [hcut, l2, Nat.div_eq_of_lt hK.2] at ho
    rw [hcut]
    obtain ⟨T, hTe⟩ : ∃ T, T = (x + 127 + (bias d - 1)).toNat := ⟨_, rfl⟩
    rw [← hTe]
    have hTb : (T : Int) = x + 127 + (bias d - 1) := by omega
    have hsp : T * fracT d + K = (K - fracT d) + fracT d * (T + 1) := by rw [Nat.mul_add, Nat.mul_comm (fracT d) T]; omega
    have hdiv : (T * fracT d + K) / fracT d = T + 1 := by rw [hsp, Nat.add_mul_div_left _ _ hT, Nat.div_eq_of_lt (by omega), Nat.zero_add]
    have hmod : (T * fracT d + K) % fracT d = K - fracT d := by rw [hsp, Nat.add_mul_mod_self_left]; exact Nat.mod_eq_of_lt (by omega)
    have hFI : T * fracT d + K < infB d := by
      have h1 : ((T * fracT d + K : Nat) : Int) < (infB d : Int) := by
        rw [l7]
        have h2 : ((T : Int) + 2) * (fracT d : Int) ≤ (2 * bias d + 1) * fracT d := Int.mul_le_mul_of_nonneg_right (by omega) (by omega)
        have h3 : ((T : Int) + 2) * (fracT d : Int) = ((T * fracT d : Nat) : Int) + 2 * fracT d := by rw [Int.add_mul, Int.natCast_mul]
        omega
      omega
    have hrd := read_shape d m _ hFI
    rw [hdiv, hmod, if_pos (by omega), show K - fracT d + fracT d = K by omega] at hrd
    refine ⟨_, ⟨T * fracT d + K, rfl, by omega, hFI, hrd⟩, rfl, rfl, ?_⟩
    show K * 2 ^ (((T + 1 : Nat) : Int) - bias d - fb d + 20000).toNat = _
    rw [← hdm]
    exact (pow_join K (127 - fracB d) x _ (by omega) hxl).symm
end Go.Proofs.Ythjdeopfbjmmeaa
