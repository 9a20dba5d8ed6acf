/- The code's quotients and roots, and the exact ones: one float. -/
import Derived.Test.YthjdeopfbjmmeaaL3
import Derived.Test.YthjdeopfbjmmeaaE5
namespace Go.Proofs.Ythjdeopfbjmmeaa
set_option linter.unusedVariables false
set_option linter.unusedSimpArgs false
theorem stk_near (t k z : Nat) (h0 : 0 < z) (h1 : z < 2 ^ (k + 1)) : stk (2 * t * 2 ^ k + z) k = 2 * t + 1 := by
  have hp := Nat.two_pow_pos k
  rw [Nat.pow_succ] at h1
  unfold stk
  rw [Nat.mul_add_mod', Nat.add_comm (2 * t * 2 ^ k), Nat.add_mul_div_right _ _ hp]
  generalize 2 ^ k = s at *
  by_cases hz : z < s
  · rw [Nat.mod_eq_of_lt hz, if_neg (by omega), Nat.div_eq_of_lt hz]; omega
  · have e1 : z / s = 1 := by
      have h2 : z / s < 2 := by rw [Nat.div_lt_iff_lt_mul hp]; omega
      have h3 : 1 ≤ z / s := by rw [Nat.le_div_iff_mul_le hp]; omega
      omega
    rw [e1]
    split <;> omega
theorem stk_mul (t k : Nat) : stk (t * 2 ^ k) k = t := by
  unfold stk; rw [Nat.mul_mod_left, if_pos rfl, Nat.mul_div_cancel _ (Nat.two_pow_pos k)]
/-- A quotient, twice, and whether there is a rest. -/
def sq (A B : Nat) : Nat := 2 * (A / B) + (if A % B = 0 then 0 else 1)
theorem sq_scale (A B c : Nat) (hc : 0 < c) : sq (A * c) (B * c) = sq A B := by
  unfold sq
  rw [Nat.mul_div_mul_right _ _ hc, Nat.mul_mod_mul_right]
  have : (A % B * c = 0) ↔ (A % B = 0) := by rw [Nat.mul_eq_zero]; omega
  simp only [this]
theorem sq_stk (A B k : Nat) (hB : 0 < B) : stk (sq (A * 2 ^ k) B) k = sq A B := by
  have hd := Nat.div_add_mod A B
  have hr := Nat.mod_lt A hB
  have hp := Nat.two_pow_pos k
  by_cases h0 : A % B = 0
  · have e1 : A * 2 ^ k = B * (A / B * 2 ^ k) := by rw [h0, Nat.add_zero] at hd; rw [← Nat.mul_assoc, hd]
    unfold sq
    rw [if_pos h0, Nat.add_zero, e1, Nat.mul_div_cancel_left _ hB, Nat.mul_mod_right, if_pos rfl, Nat.add_zero, ← Nat.mul_assoc]
    exact stk_mul _ k
  · generalize A / B = t at *
    generalize hrr : A % B = r at *
    have e1 : A * 2 ^ k = B * (t * 2 ^ k) + r * 2 ^ k := by rw [← hd, Nat.add_mul]; congr 1; ac_rfl
    have hs := Nat.div_add_mod (r * 2 ^ k) B
    have hsr := Nat.mod_lt (r * 2 ^ k) hB
    have hsl : r * 2 ^ k / B < 2 ^ k := by rw [Nat.div_lt_iff_lt_mul hB, Nat.mul_comm (2 ^ k)]; exact Nat.mul_lt_mul_of_pos_right hr hp
    have hpos : 0 < r * 2 ^ k := Nat.mul_pos (by omega) hp
    have e2 : sq A B = 2 * t + 1 := by
      unfold sq
      rw [hrr, if_neg h0]
      congr 2
      rw [← hd, Nat.mul_add_div hB, Nat.div_eq_of_lt hr, Nat.add_zero]
    rw [e2]
    unfold sq
    rw [e1, Nat.mul_add_div hB, Nat.mul_add_mod, Nat.mul_add, ← Nat.mul_assoc, Nat.add_assoc]
    refine stk_near t k _ ?_ ?_
    · by_cases hz : r * 2 ^ k % B = 0
      · rw [hz, Nat.add_zero] at hs
        have : r * 2 ^ k / B ≠ 0 := by intro e; rw [e, Nat.mul_zero] at hs; omega
        omega
      · rw [if_neg hz]; omega
    · rw [Nat.pow_succ]; split <;> omega
/-- With its rest: as the document rounds it. -/
theorem roundR_more (d : Bool) (rm : Int) (m : Bool) (q : Nat) (E : Int) (more : Bool) (h0 : q ≠ 0) (hb : fb d + 2 ≤ blen q) (hr : 0 ≤ rm ∧ rm ≤ 4) :
    roundR d rm m q E more = rnd d rm m (2 * q + (if more then 1 else 0)) (E - 1) := by
  cases more
  · rw [roundR_rnd d rm m q E false q E (.inl ⟨rfl, rfl, rfl⟩) h0 (fun h => by cases h) hr]
    have := rnd_scale d rm m q 1 (E - 1) h0
    rw [show E - 1 + ((1 : Nat) : Int) = E by omega, Nat.pow_one, Nat.mul_comm] at this
    simp only [Bool.false_eq_true, if_false, Nat.add_zero]; exact this.symm
  · rw [roundR_rnd d rm m q E true (q * 2 + 1) (E - 1) (.inr ⟨rfl, rfl, rfl⟩) h0 (fun _ => hb) hr, Nat.mul_comm]; rfl
theorem blen_of_le (X n : Nat) (h : 2 ^ n ≤ X) : n + 1 ≤ blen X := by
  have h0 : X ≠ 0 := by have := Nat.two_pow_pos n; omega
  obtain ⟨a, b, c⟩ := blen_bounds X h0
  apply Classical.byContradiction
  intro hc
  have := Nat.pow_le_pow_right (show 0 < 2 by decide) (show blen X ≤ n by omega)
  omega
theorem stickyN_eq (q : Nat) (b : Bool) : stickyN (2 * q) b = 2 * q + (if b then 1 else 0) := by
  unfold stickyN; cases b
  · simp
  · simp; omega
theorem div_rnd (d : Bool) (rm : Int) (M N : Num) (hM : FinR M) (hN : FinR N) (hr : 0 ≤ rm ∧ rm ≤ 4) :
    roundF d rm (quotN M N) = roundR d rm (M.minus != N.minus) (M.mag * 2 ^ 130 / N.mag) (M.exp - N.exp - 130) (decide (M.mag * 2 ^ 130 % N.mag ≠ 0)) ∧ M.mag * 2 ^ 130 / N.mag ≠ 0 ∧ fb d + 2 ≤ blen (M.mag * 2 ^ 130 / N.mag) := by
  obtain ⟨a1, a2, a3, a4⟩ := hM
  obtain ⟨b1, b2, b3, b4⟩ := hN
  have la := blen_le M.mag 64 (by rw [← pow64]; exact a2)
  have lb := blen_le N.mag 64 (by rw [← pow64]; exact b2)
  have ba := (blen_bounds M.mag a1).1
  have bb := (blen_bounds N.mag b1).1
  obtain ⟨r0, r1, r2⟩ := raised_mag a1 (by decide : 126 ≤ 127) (by omega)
  obtain ⟨s0, s1, s2⟩ := raised_mag b1 (by decide : 63 ≤ 127) (by omega)
  have ea : (raisedN M 126).exp = M.exp - (127 - (blen M.mag : Int)) := by show M.exp - (((126 : Nat) : Int) + 1 - _) = _; omega
  have eb : (raisedN N 63).exp = N.exp - (64 - (blen N.mag : Int)) := by show N.exp - (((63 : Nat) : Int) + 1 - _) = _; omega
  have hBp : 0 < (raisedN N 63).mag := by omega
  have hq1 : (raisedN M 126).mag / (raisedN N 63).mag < 2 ^ 64 := by
    rw [Nat.div_lt_iff_lt_mul hBp]
    have := Nat.mul_le_mul_left (2 ^ 64) s1
    omega
  have hq2 : 2 ^ 62 ≤ (raisedN M 126).mag / (raisedN N 63).mag := by
    rw [Nat.le_div_iff_mul_le hBp]
    have := Nat.mul_le_mul_left (2 ^ 62) (show (raisedN N 63).mag ≤ 2 ^ 64 by omega)
    omega
  have hmag : (quotN M N).mag = sq (raisedN M 126).mag (raisedN N 63).mag := by
    show stickyN (shl _ 1) _ = _
    unfold shl
    rw [Nat.mod_eq_of_lt (by omega), Nat.pow_one, Nat.mul_comm, stickyN_eq]
    unfold sq
    congr 1
    by_cases h : (raisedN M 126).mag % (raisedN N 63).mag = 0 <;> simp [h]
  have hsq : sq (raisedN M 126).mag (raisedN N 63).mag ≤ 2 * ((raisedN M 126).mag / (raisedN N 63).mag) + 1 ∧ 2 * ((raisedN M 126).mag / (raisedN N 63).mag) ≤ sq (raisedN M 126).mag (raisedN N 63).mag := by unfold sq; split <;> omega
  obtain ⟨k, hk⟩ : ∃ k : Nat, k = 67 + blen M.mag - blen N.mag := ⟨_, rfl⟩
  have hX : sq (M.mag * 2 ^ 130) N.mag = sq ((raisedN M 126).mag * 2 ^ k) (raisedN N 63).mag := by
    rw [← sq_scale (M.mag * 2 ^ 130) N.mag (2 ^ (64 - blen N.mag)) (Nat.two_pow_pos _), r0, s0]
    congr 1
    rw [Nat.mul_assoc, Nat.mul_assoc, ← Nat.pow_add, ← Nat.pow_add]; congr 2; omega
  have hX2 := sq_stk (raisedN M 126).mag (raisedN N 63).mag k hBp
  rw [← hX] at hX2
  have hqq : 2 ^ (62 + k) ≤ (raisedN M 126).mag * 2 ^ k / (raisedN N 63).mag := by
    rw [Nat.le_div_iff_mul_le hBp, Nat.pow_add]
    have h1 : 2 ^ 62 * (raisedN N 63).mag ≤ (raisedN M 126).mag := by rw [Nat.le_div_iff_mul_le hBp] at hq2; exact hq2
    have := Nat.mul_le_mul_right (2 ^ k) h1
    rw [show 2 ^ 62 * 2 ^ k * (raisedN N 63).mag = 2 ^ 62 * (raisedN N 63).mag * 2 ^ k by ac_rfl]; exact this
  have hqe : (raisedN M 126).mag * 2 ^ k / (raisedN N 63).mag = M.mag * 2 ^ 130 / N.mag := by
    rw [r0, s0, Nat.mul_assoc, ← Nat.pow_add, show 126 + 1 - blen M.mag + k = 130 + (63 + 1 - blen N.mag) by omega, Nat.pow_add, ← Nat.mul_assoc, Nat.mul_div_mul_right _ _ (Nat.two_pow_pos _)]
  rw [hqe] at hqq
  have hqb := blen_of_le _ _ hqq
  have hfb : fb d ≤ 52 := by cases d <;> decide
  have hq0 : M.mag * 2 ^ 130 / N.mag ≠ 0 := by have := Nat.two_pow_pos (62 + k); omega
  refine ⟨?_, hq0, by omega⟩
  rw [roundF_rnd d rm _ (by rw [hmag]; omega) (by rw [hmag]; omega), hmag, roundR_more d rm _ _ _ _ hq0 (by omega) hr]
  have hXe : 2 * (M.mag * 2 ^ 130 / N.mag) + (if decide (M.mag * 2 ^ 130 % N.mag ≠ 0) = true then 1 else 0) = sq (M.mag * 2 ^ 130) N.mag := by
    unfold sq; congr 1; by_cases h : M.mag * 2 ^ 130 % N.mag = 0 <;> simp [h]
  rw [hXe, ← hX2]
  have hXl : 2 ^ (63 + k) ≤ sq (M.mag * 2 ^ 130) N.mag := by
    rw [← hXe, show 63 + k = 62 + k + 1 by omega, Nat.pow_succ]; omega
  have hbx := blen_of_le _ _ hXl
  have := rnd_any d rm (M.minus != N.minus) (sq (M.mag * 2 ^ 130) N.mag) k (M.exp - N.exp - 130 - 1) (by have := Nat.two_pow_pos (63 + k); omega) (fun _ => by omega)
  rw [← this]
  congr 1
  show (raisedN M 126).exp - (raisedN N 63).exp - 1 = _
  rw [ea, eb]; omega
theorem root_stk (A r R k : Nat) (h1 : r * r ≤ A ∧ A < (r + 1) * (r + 1)) (h2 : R * R ≤ A * (2 ^ k * 2 ^ k) ∧ A * (2 ^ k * 2 ^ k) < (R + 1) * (R + 1)) :
    stk (2 * R + (if R * R < A * (2 ^ k * 2 ^ k) then 1 else 0)) k = 2 * r + (if r * r < A then 1 else 0) ∧ r * 2 ^ k ≤ R := by
  have hp := Nat.two_pow_pos k
  generalize hs : 2 ^ k = s at *
  have hle : r * s ≤ R := by
    apply Classical.byContradiction
    intro hc
    have h3 := Nat.mul_le_mul (show R + 1 ≤ r * s by omega) (show R + 1 ≤ r * s by omega)
    have h4 := Nat.mul_le_mul_right (s * s) h1.1
    rw [show r * s * (r * s) = r * r * (s * s) by ac_rfl] at h3
    omega
  have hlt : R < (r + 1) * s := by
    apply Classical.byContradiction
    intro hc
    have h3 := Nat.mul_le_mul (show (r + 1) * s ≤ R by omega) (show (r + 1) * s ≤ R by omega)
    have h4 := Nat.mul_lt_mul_of_pos_right h1.2 (show 0 < s * s from Nat.mul_pos hp hp)
    rw [show (r + 1) * s * ((r + 1) * s) = (r + 1) * (r + 1) * (s * s) by ac_rfl] at h3
    omega
  refine ⟨?_, hle⟩
  by_cases hx : r * r < A
  · rw [if_pos hx]
    have e : 2 * R + (if R * R < A * (s * s) then 1 else 0) = 2 * r * 2 ^ k + (2 * (R - r * s) + (if R * R < A * (s * s) then 1 else 0)) := by
      rw [hs, Nat.mul_assoc 2 r s]; omega
    rw [e]
    refine stk_near r k _ ?_ ?_
    · by_cases hR : R = r * s
      · have : R * R < A * (s * s) := by
          rw [hR, show r * s * (r * s) = r * r * (s * s) by ac_rfl]
          exact Nat.mul_lt_mul_of_pos_right hx (Nat.mul_pos hp hp)
        rw [if_pos this]; omega
      · omega
    · rw [Nat.pow_succ, hs, Nat.add_mul, Nat.one_mul] at *
      split <;> omega
  · rw [if_neg hx]
    have hA : A = r * r := by omega
    have hR : R = r * s := by
      apply Classical.byContradiction
      intro hc
      have h3 := Nat.mul_le_mul (show r * s + 1 ≤ R by omega) (show r * s + 1 ≤ R by omega)
      have h4 := h2.1
      rw [hA, show r * r * (s * s) = r * s * (r * s) by ac_rfl] at h4
      generalize r * s = z at *
      have : (z + 1) * (z + 1) = z * z + 2 * z + 1 := by rw [Nat.add_mul, Nat.mul_add]; omega
      omega
    have hne : ¬ R * R < A * (s * s) := by rw [hR, hA, show r * s * (r * s) = r * r * (s * s) by ac_rfl]; omega
    rw [if_neg hne, Nat.add_zero, Nat.add_zero, hR, ← hs, ← Nat.mul_assoc]
    exact stk_mul _ k
/-- The place by which the document raises a number whose root it takes. -/
def rootP (x : Int) : Nat := if x % 2 = 0 then 160 else 161
theorem root_rnd (d : Bool) (rm : Int) (M : Num) (hM : FinR M) (hr : 0 ≤ rm ∧ rm ≤ 4) (R : Nat)
    (hR : R * R ≤ M.mag * 2 ^ rootP M.exp ∧ M.mag * 2 ^ rootP M.exp < (R + 1) * (R + 1)) :
    roundF d rm (rootN M) = roundR d rm false R ((M.exp - rootP M.exp) / 2) (decide (R * R < M.mag * 2 ^ rootP M.exp)) ∧ R ≠ 0 ∧ fb d + 2 ≤ blen R := by
  obtain ⟨a1, a2, a3, a4⟩ := hM
  have la := blen_le M.mag 64 (by rw [← pow64]; exact a2)
  have ba := (blen_bounds M.mag a1).1
  obtain ⟨r0, r1, r2⟩ := raised_mag a1 (by decide : 127 ≤ 127) (by omega)
  have ea : (raisedN M 127).exp = M.exp - (128 - (blen M.mag : Int)) := by show M.exp - (((127 : Nat) : Int) + 1 - _) = _; omega
  have hp : (rootP M.exp = 160 ∨ rootP M.exp = 161) ∧ (M.exp - rootP M.exp) % 2 = 0 := by unfold rootP; split <;> omega
  generalize rootP M.exp = n at *
  obtain ⟨c, hc1, hc2, hc3, hc4⟩ : ∃ c : Nat, rootX M = M.mag * 2 ^ c ∧ rootE M = M.exp - c ∧ c ≤ 128 ∧ rootE M % 2 = 0 := by
    unfold rootX rootE
    by_cases he : (raisedN M 127).exp % 2 = 0
    · rw [if_pos he, if_pos he]
      exact ⟨128 - blen M.mag, r0, by omega, by omega, he⟩
    · rw [if_neg he, if_neg he]
      refine ⟨127 - blen M.mag, ?_, by omega, by omega, by omega⟩
      rw [r0, show 127 + 1 - blen M.mag = 127 - blen M.mag + 1 by omega, Nat.pow_succ, ← Nat.mul_assoc]; omega
  have hXb : 2 ^ 126 ≤ rootX M ∧ rootX M < 2 ^ 128 := by unfold rootX; split <;> omega
  obtain ⟨k, hk⟩ : ∃ k : Nat, n = c + (k + k) := ⟨(n - c) / 2, by omega⟩
  have hA : M.mag * 2 ^ n = rootX M * (2 ^ k * 2 ^ k) := by rw [hc1, hk, Nat.mul_assoc, ← Nat.pow_add, ← Nat.pow_add]
  rw [hA] at hR ⊢
  have hsp := isq_spec (rootX M) hXb.2
  have key := root_stk (rootX M) (isq (rootX M)) R k hsp hR
  have hi : 2 ^ 63 ≤ isq (rootX M) := by
    apply Classical.byContradiction
    intro hcc
    have := Nat.mul_le_mul (show isq (rootX M) + 1 ≤ 2 ^ 63 by omega) (show isq (rootX M) + 1 ≤ 2 ^ 63 by omega)
    omega
  have hi2 := isq_lt (rootX M) hXb.2
  have hRl : 2 ^ (63 + k) ≤ R := by rw [Nat.pow_add]; exact Nat.le_trans (Nat.mul_le_mul_right _ hi) key.2
  have hRb := blen_of_le _ _ hRl
  have hfb : fb d ≤ 52 := by cases d <;> decide
  have hR0 : R ≠ 0 := by have := Nat.two_pow_pos (63 + k); omega
  refine ⟨?_, hR0, by omega⟩
  have hmag : (rootN M).mag = 2 * isq (rootX M) + (if isq (rootX M) * isq (rootX M) < rootX M then 1 else 0) := by
    show stickyN (shl _ 1) _ = _
    unfold shl
    rw [Nat.mod_eq_of_lt (by omega), Nat.pow_one, Nat.mul_comm (isq (rootX M)) 2, stickyN_eq]
    congr 1
    by_cases h : isq (rootX M) * isq (rootX M) = rootX M
    · simp [h]
    · have : isq (rootX M) * isq (rootX M) < rootX M := by omega
      simp [h, this]
  rw [roundF_rnd d rm _ (by rw [hmag]; omega) (by rw [hmag]; split <;> omega), hmag, roundR_more d rm _ _ _ _ hR0 (by omega) hr, ← key.1]
  have hXl : 2 ^ (64 + k) ≤ 2 * R + (if R * R < rootX M * (2 ^ k * 2 ^ k) then 1 else 0) := by
    rw [show 64 + k = 63 + k + 1 by omega, Nat.pow_succ]; omega
  have hbx := blen_of_le _ _ hXl
  have := rnd_any d rm false (2 * R + (if R * R < rootX M * (2 ^ k * 2 ^ k) then 1 else 0)) k ((M.exp - n) / 2 - 1) (by omega) (fun _ => by omega)
  show rnd d rm false _ (rootE M / 2 - 1) = _
  rw [show rootE M / 2 - 1 = (M.exp - n) / 2 - 1 + (k : Int) by rw [hc2] at hc4 ⊢; omega, this]
  simp only [decide_eq_true_eq]
end Go.Proofs.Ythjdeopfbjmmeaa
