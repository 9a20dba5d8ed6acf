/- Exact rounding: what a number of a float's value rounds to, and what a rounding without flags has kept. -/
import Derived.Test.YthjdeopfbjmmeaaG4
namespace Go.Proofs.Ythjdeopfbjmmeaa
set_option linter.unusedVariables false
set_option linter.unusedSimpArgs false
theorem lt_of_div {F T : Nat} (hT : 0 < T) (h : F / T = 0) : F < T := by
  have h1 := Nat.div_add_mod F T
  rw [h, Nat.mul_zero] at h1
  have h2 := Nat.mod_lt F hT
  omega
theorem read_shape (d m : Bool) (F : Nat) (h : F < infB d) : readN d (noughtV d m + F) =
    if F / fracT d ≠ 0 then ⟨1, m, ((F / fracT d : Nat) : Int) - bias d - fb d, F % fracT d + fracT d⟩ else if F ≠ 0 then ⟨1, m, 1 - bias d - fb d, F⟩ else ⟨0, m, 0, 0⟩ := by
  have e1 : (noughtV d m + F) / fracT d % expT d = F / fracT d ∧ F / fracT d < expT d - 1 := by
    cases d <;> cases m <;> simp [noughtV, signB, fracT, expT, infB] at * <;> omega
  have e2 : (noughtV d m + F) % fracT d = F % fracT d := by
    cases d <;> cases m <;> simp [noughtV, signB, fracT, expT, infB] at * <;> omega
  have e3 : decide ((noughtV d m + F) / signB d % 2 = 1) = m := by
    cases d <;> cases m <;> simp [noughtV, signB, fracT, expT, infB] at * <;> omega
  have hT : 0 < fracT d := by cases d <;> decide
  unfold readN
  simp only [e1.1, e2, e3]
  rw [if_neg (by omega)]
  by_cases h1 : F / fracT d ≠ 0
  · rw [if_pos h1, if_pos h1]
  · rw [if_neg h1, if_neg h1]
    have h2 : F % fracT d = F := Nat.mod_eq_of_lt (lt_of_div hT (by omega))
    rw [h2]
/-- A finite float that is no nought, and what is read of it. -/
def Flt (d : Bool) (v : Nat) (C : Num) : Prop := ∃ F, v = noughtV d C.minus + F ∧ 0 < F ∧ F < infB d ∧ readN d v = C
def val (M : Num) : Nat := M.mag * 2 ^ (M.exp + 20000).toNat
theorem val_raise {M : Num} {p : Nat} (h0 : M.mag ≠ 0) (hp : p ≤ 127) (hb : blen M.mag ≤ p + 1) (he : -19000 ≤ M.exp) : val (raisedN M p) = val M := by
  have h1 := (raised_mag h0 hp hb).1
  unfold val
  rw [h1]
  have h2 : (raisedN M p).exp = M.exp - ((p : Int) + 1 - (blen M.mag : Int)) := rfl
  rw [h2, Nat.mul_assoc, ← Nat.pow_add]
  congr 2; omega
theorem val_inj {g h : Nat} {x y : Int} (g1 : 2 ^ 127 ≤ g) (g2 : g < 2 ^ 128) (h1 : 2 ^ 127 ≤ h) (h2 : h < 2 ^ 128) (hx : -20000 ≤ x) (hy : -20000 ≤ y)
    (e : g * 2 ^ (x + 20000).toNat = h * 2 ^ (y + 20000).toNat) : g = h ∧ x = y := by
  have key : ∀ (a b p q : Nat), 2 ^ 127 ≤ a → b < 2 ^ 128 → a * 2 ^ q = b * 2 ^ p → ¬ p < q := by
    intro a b p q ha hb hab hpq
    obtain ⟨k, rfl⟩ : ∃ k, q = p + (k + 1) := ⟨q - p - 1, by omega⟩
    have hp := Nat.two_pow_pos p
    have : b = a * 2 ^ (k + 1) := by
      apply Nat.eq_of_mul_eq_mul_right hp
      rw [← hab, Nat.pow_add, Nat.mul_assoc]; congr 1; exact Nat.mul_comm _ _
    have h3 : 2 ≤ 2 ^ (k + 1) := by rw [Nat.pow_succ]; have := Nat.two_pow_pos k; omega
    have h4 : a * 2 ≤ a * 2 ^ (k + 1) := Nat.mul_le_mul_left a h3
    have h5 : (2 : Nat) ^ 128 = 2 ^ 127 * 2 := by decide
    omega
  have n1 := key g h (y + 20000).toNat (x + 20000).toNat g1 h2 e
  have n2 := key h g (x + 20000).toNat (y + 20000).toNat h1 g2 e.symm
  have hxy : x = y := by omega
  subst hxy
  exact ⟨Nat.eq_of_mul_eq_mul_right (Nat.two_pow_pos _) e, rfl⟩
theorem rest_zero {x n : Nat} (h : x % 2 ^ n = 0) : restV x n = 0 := if_pos h
theorem rest_ne {x n : Nat} (h : restV x n = 0) : x % 2 ^ n = 0 := by
  by_cases h1 : x % 2 ^ n = 0
  · exact h1
  · exfalso; unfold restV at h; rw [if_neg h1] at h; (repeat' split at h) <;> omega
theorem cut_exact (rm : Int) (m : Bool) (k n : Nat) : cutK rm m (k * 2 ^ n) n = k ∧ restV (k * 2 ^ n) n = 0 := by
  have h0 : restV (k * 2 ^ n) n = 0 := rest_zero (Nat.mul_mod_left _ _)
  unfold cutK
  rw [h0, away_exact, Nat.mul_div_cancel _ (Nat.two_pow_pos n)]
  exact ⟨rfl, rfl⟩
theorem lay_facts (d : Bool) : fracB d = fb d ∧ fracT d = 2 ^ fb d ∧ 2 ^ (fracB d + 1) = 2 * fracT d ∧ fb d ≤ 52 ∧ 1 ≤ fb d ∧ 127 ≤ bias d ∧ bias d ≤ 1023 ∧ (infB d : Int) = (2 * bias d + 1) * fracT d := by cases d <;> decide
theorem round_id (d : Bool) (rm : Int) (C : Num) (c : Nat) (h : Flt d c C) : roundF d rm C = (c, 0) := by
  obtain ⟨F, hc, hF0, hFI, hr⟩ := h
  obtain ⟨lf, lT, l2, l3, l4, l5, l6, l7⟩ := lay_facts d
  have hT : 0 < fracT d := by cases d <;> decide
  rw [hc] at hr
  rw [read_shape d C.minus F hFI] at hr
  by_cases h1 : F / fracT d ≠ 0
  · rw [if_pos h1] at hr
    have hdm := Nat.div_add_mod F (fracT d)
    have hml := Nat.mod_lt F hT
    obtain ⟨f, hf⟩ : ∃ f, f = F / fracT d := ⟨_, rfl⟩
    obtain ⟨r, hrr⟩ : ∃ r, r = F % fracT d := ⟨_, rfl⟩
    rw [← hf, ← hrr] at hr hdm
    rw [← hrr] at hml
    rw [← hf] at h1
    have hfb : (f : Int) ≤ 2 * bias d := by
      apply Decidable.byContradiction; intro hlt
      have h2 : (2 * bias d + 1) * (fracT d : Int) ≤ (f : Int) * fracT d := Int.mul_le_mul_of_nonneg_right (by omega) (by omega)
      have h3 : (fracT d * f : Nat) ≤ F := by omega
      have h4 : ((fracT d * f : Nat) : Int) = (f : Int) * fracT d := by rw [Int.natCast_mul, Int.mul_comm]
      omega
    have hbl : blen (r + fracT d) = fb d + 1 := blen_of _ (fb d) (by omega) (by rw [← lT]; omega) (by rw [Nat.pow_succ, ← lT]; omega)
    have hR : (raisedN C 127).mag = (r + fracT d) * 2 ^ (127 - fracB d) := by
      have h2 := (raised_mag (N := C) (p := 127) (by rw [← hr]; show r + fracT d ≠ 0; omega) (by decide) (by rw [← hr]; show blen (r + fracT d) ≤ _; omega)).1
      rw [h2, ← hr]
      show (r + fracT d) * 2 ^ (127 + 1 - blen (r + fracT d)) = _
      rw [hbl]; congr 2; omega
    have hX : (raisedN C 127).exp = (f : Int) - bias d - 127 := by
      show C.exp - (((127 : Nat) : Int) + 1 - (blen C.mag : Int)) = _
      rw [← hr]; show ((f : Int) - bias d - fb d) - (((127 : Nat) : Int) + 1 - (blen (r + fracT d) : Int)) = _
      rw [hbl]; omega
    obtain ⟨c1, c2⟩ := cut_exact rm C.minus (r + fracT d) (127 - fracB d)
    unfold roundF roundX
    rw [hR, hX, show (raisedN C 127).minus = C.minus from rfl, c1, show diffV ((r + fracT d) * 2 ^ (127 - fracB d)) (127 - fracB d) = false by unfold diffV; rw [c2]; rfl]
    unfold roundY
    simp only
    rw [l2, Nat.div_eq_of_lt (show r + fracT d < 2 * fracT d by omega), if_neg (by omega), if_neg (by omega), hc]
    congr 2
    have e : ((f : Int) - bias d - 127 + 127 + (bias d - 1)).toNat = f - 1 := by omega
    rw [e]
    obtain ⟨j, rfl⟩ : ∃ j, f = j + 1 := ⟨f - 1, by omega⟩
    rw [Nat.add_sub_cancel]
    rw [Nat.mul_add, Nat.mul_comm (fracT d) j] at hdm
    omega
  · rw [if_neg h1, if_pos (by omega)] at hr
    have hlt : F < fracT d := lt_of_div hT (by omega)
    have hL : blen F ≤ fb d := blen_le F (fb d) (by rw [← lT]; exact hlt)
    have hL1 := (blen_bounds F (by omega)).1
    obtain ⟨L, hLe⟩ : ∃ L, L = blen F := ⟨_, rfl⟩
    have hR : (raisedN C 127).mag = F * 2 ^ (128 - L) := by
      have h2 := (raised_mag (N := C) (p := 127) (by rw [← hr]; show F ≠ 0; omega) (by decide) (by rw [← hr]; show blen F ≤ _; omega)).1
      rw [h2, ← hr, hLe]
    have hX : (raisedN C 127).exp = 1 - bias d - fb d - (128 - (L : Int)) := by
      show C.exp - (((127 : Nat) : Int) + 1 - (blen C.mag : Int)) = _
      rw [← hr]; show (1 - bias d - fb d) - (((127 : Nat) : Int) + 1 - (blen F : Int)) = _
      rw [← hLe]; omega
    rw [← hLe] at hL hL1
    have e1 : F * 2 ^ (128 - L) = F * 2 ^ (fb d + 1 - L) * 2 ^ (127 - fracB d) := by
      rw [Nat.mul_assoc, ← Nat.pow_add]; congr 2; omega
    have hk : F * 2 ^ (fb d + 1 - L) < 2 * fracT d := by
      have hb := (blen_bounds F (by omega)).2.2
      rw [← hLe] at hb
      have h2 : F * 2 ^ (fb d + 1 - L) < 2 ^ L * 2 ^ (fb d + 1 - L) := Nat.mul_lt_mul_of_pos_right hb (Nat.two_pow_pos _)
      rw [← Nat.pow_add, show L + (fb d + 1 - L) = fracB d + 1 by omega, l2] at h2; exact h2
    obtain ⟨c1, c2⟩ := cut_exact rm C.minus (F * 2 ^ (fb d + 1 - L)) (127 - fracB d)
    obtain ⟨c3, c4⟩ := cut_exact rm C.minus F (128 - L)
    rw [← e1] at c1 c2
    unfold roundF roundX
    rw [hR, hX, show (raisedN C 127).minus = C.minus from rfl, c1]
    unfold roundY
    simp only
    have hn2 : 127 - fracB d + (1 - bias d - (1 - bias d - fb d - (128 - (L : Int)) + 127)).toNat = 128 - L := by omega
    rw [l2, Nat.div_eq_of_lt hk, if_neg (by omega), if_pos (by omega), hn2, c3, c4, if_pos rfl, hc]
end Go.Proofs.Ythjdeopfbjmmeaa
