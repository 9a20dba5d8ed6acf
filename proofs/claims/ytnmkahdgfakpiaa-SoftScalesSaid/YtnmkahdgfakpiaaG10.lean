/- What is exact can be taken back: quotients. -/
import Derived.Test.YtnmkahdgfakpiaaG9
namespace Go.Proofs.Ytnmkahdgfakpiaa
set_option linter.unusedVariables false
set_option linter.unusedSimpArgs false
theorem divF_fin (d : Bool) (rm : Int) (M N : Num) (hM : FinF M) (hN : FinF N) : divF d rm M N = roundF d rm (quotN M N) := by
  have h1 := hM.1; have h2 := hN.1
  unfold divF
  rw [if_neg (by rw [someV_dec]; omega), if_neg (by omega), if_neg (by omega), if_neg (by omega), if_neg (by omega)]
/-- A quotient that is exact, times its divisor, is what was divided. -/
theorem quo_back (d : Bool) (rm : Int) (A B : Num) (a : Nat) (ha : Flt d a A) (hA : FinF A) (hB : FinF B) (h : (divF d rm A B).2 = 0) :
    mulF d rm (readN d (divF d rm A B).1) B = (a, 0) := by
  rw [divF_fin d rm A B hA hB] at h ⊢
  have l1 := blen_le _ _ hA.2.2.1
  have l2 := blen_le _ _ hB.2.2.1
  have l1' := (blen_bounds _ hA.2.1).1
  have l2' := (blen_bounds _ hB.2.1).1
  obtain ⟨-, x1, x2⟩ := raised_mag hA.2.1 (by decide : 126 ≤ 127) (by omega)
  obtain ⟨-, y1, y2⟩ := raised_mag hB.2.1 (by decide : 63 ≤ 127) (by omega)
  have vA := val_raise hA.2.1 (by decide : 126 ≤ 127) (by omega) (by have := hA.2.2.2.1; omega)
  have vB := val_raise hB.2.1 (by decide : 63 ≤ 127) (by omega) (by have := hB.2.2.2.1; omega)
  have nx : (raisedN A 126).exp = A.exp - (((126 : Nat) : Int) + 1 - (blen A.mag : Int)) := rfl
  have ny : (raisedN B 63).exp = B.exp - (((63 : Nat) : Int) + 1 - (blen B.mag : Int)) := rfl
  have hq : quotN A B = ⟨1, A.minus != B.minus, (raisedN A 126).exp - (raisedN B 63).exp - 1, stickyN (shl ((raisedN A 126).mag / (raisedN B 63).mag) 1) ((raisedN A 126).mag % (raisedN B 63).mag != 0)⟩ := rfl
  rw [hq] at h ⊢
  have bA := hA.2.2.2; have bB := hB.2.2.2
  obtain ⟨X, hX⟩ : ∃ X, X = (raisedN A 126).mag := ⟨_, rfl⟩
  obtain ⟨Y, hY⟩ : ∃ Y, Y = (raisedN B 63).mag := ⟨_, rfl⟩
  obtain ⟨ex, hex⟩ : ∃ e, e = (raisedN A 126).exp := ⟨_, rfl⟩
  obtain ⟨ey, hey⟩ : ∃ e, e = (raisedN B 63).exp := ⟨_, rfl⟩
  have vA' : val A = X * 2 ^ (ex + 20000).toNat := by rw [hX, hex]; exact vA.symm
  have vB' : val B = Y * 2 ^ (ey + 20000).toNat := by rw [hY, hey]; exact vB.symm
  rw [← hX] at x1 x2
  rw [← hY] at y1 y2
  rw [← hX, ← hY, ← hex, ← hey] at h ⊢
  have hexb : -2000 ≤ ex ∧ ex ≤ 2000 := by omega
  have heyb : -2000 ≤ ey ∧ ey ≤ 2000 := by omega
  clear hX hY hex hey nx ny vA vB hq
  have hq1 : X / Y < 2 ^ 64 := by
    rw [Nat.div_lt_iff_lt_mul (by have := Nat.two_pow_pos 63; omega)]
    have h2 : 2 ^ 64 * 2 ^ 63 ≤ 2 ^ 64 * Y := Nat.mul_le_mul_left _ y1
    have h3 : (2 : Nat) ^ 64 * 2 ^ 63 = 2 ^ (126 + 1) := by decide
    omega
  have hq2 : 2 ^ 62 ≤ X / Y := by
    rw [Nat.le_div_iff_mul_le (by have := Nat.two_pow_pos 63; omega)]
    have h2 : 2 ^ 62 * Y ≤ 2 ^ 62 * 2 ^ 64 := Nat.mul_le_mul_left _ (Nat.le_of_lt y2)
    have h3 : (2 : Nat) ^ 62 * 2 ^ 64 = 2 ^ 126 := by decide
    omega
  have hsh : shl (X / Y) 1 = X / Y * 2 := by
    unfold shl; rw [Nat.pow_one]
    have : (2 : Nat) ^ 64 * 2 ≤ 2 ^ 128 := by decide
    exact Nat.mod_eq_of_lt (by omega)
  rw [hsh] at h ⊢
  have h65 : (2 : Nat) ^ 64 * 2 + 1 < 2 ^ 128 := by decide
  have h62 : (2 : Nat) ^ 53 ≤ 2 ^ 62 * 2 := by decide
  have hex0 : X % Y = 0 := by
    apply Decidable.byContradiction; intro hne
    have e : stickyN (X / Y * 2) (X % Y != 0) = X / Y * 2 + 1 := by
      unfold stickyN
      rw [if_pos (by rw [bne_iff_ne]; exact hne)]; omega
    rw [e] at h
    refine odd_flag d rm _ ?_ ?_ ?_ ?_ h
    · show X / Y * 2 + 1 < 2 ^ 128; omega
    · show -10000 ≤ ex - ey - 1; omega
    · show (X / Y * 2 + 1) % 2 = 1; omega
    · show 2 ^ 53 ≤ X / Y * 2 + 1; omega
  have e : stickyN (X / Y * 2) (X % Y != 0) = X / Y * 2 := by
    unfold stickyN
    rw [if_neg (by rw [hex0]; decide)]
  rw [e] at h ⊢
  have hXY : X / Y * Y = X := by
    have := Nat.div_add_mod X Y
    rw [hex0, Nat.add_zero, Nat.mul_comm] at this; exact this
  generalize X / Y = q at *
  obtain ⟨D, hD, hD1, hDm, hDv⟩ := round_exact d rm _ (show q * 2 ≠ 0 by have := Nat.two_pow_pos 62; omega) (show q * 2 < 2 ^ 128 by omega) (show -10000 ≤ ex - ey - 1 by omega) h
  have hDf := flt_fin hD hD1
  have hrd : readN d (roundF d rm ⟨1, A.minus != B.minus, ex - ey - 1, q * 2⟩).1 = D := by obtain ⟨_, _, _, _, hr⟩ := hD; exact hr
  rw [hrd]
  obtain ⟨e1, p0, p1, p2⟩ := mulF_fin d rm D B hDf hB
  rw [e1]
  have hv : val (prodN D B) = val A := by
    obtain ⟨Z, hZ, hm⟩ := val_mul
    apply Nat.eq_of_mul_eq_mul_right hZ
    have bD := hDf.2.2.2
    have m1 := hm D.mag B.mag D.exp B.exp (by omega) (by omega) (by omega)
    have m2 := hm (q * 2) Y (ex - ey - 1) ey (by omega) (by omega) (by omega)
    have t1 : val (prodN D B) * Z = val D * val B := m1
    have t2 : val D = q * 2 * 2 ^ (ex - ey - 1 + 20000).toNat := hDv
    rw [t1, t2, vB', ← m2]
    have t3 : q * 2 * Y = X * 2 := by rw [Nat.mul_assoc, Nat.mul_comm 2 Y, ← Nat.mul_assoc, hXY]
    rw [t3, vA']
    have t4 := pow_join X 1 (ex - ey - 1 + ey) ex (by omega) (by omega)
    rw [Nat.pow_one] at t4
    rw [t4]
  refine round_val d rm (prodN D B) A a p0 p1 p2 ha (finF_ok hA) hv ?_
  show (D.minus != B.minus) = A.minus
  rw [hDm]
  show ((A.minus != B.minus) != B.minus) = A.minus
  cases A.minus <;> cases B.minus <;> rfl
theorem back_quo (d : Bool) (rm : Int) (m m' : Bool) (F G : Nat) (hF : F < infB d) (hG : G < infB d) (h : (divF d rm (readN d (noughtV d m + F)) (readN d (noughtV d m' + G))).2 = 0) :
    (0 < F ∧ mulF d rm (readN d (divF d rm (readN d (noughtV d m + F)) (readN d (noughtV d m' + G))).1) (readN d (noughtV d m' + G)) = (noughtV d m + F, 0)) ∨
    (F = 0 ∧ ∃ s, mulF d rm (readN d (divF d rm (readN d (noughtV d m + F)) (readN d (noughtV d m' + G))).1) (readN d (noughtV d m' + G)) = (noughtV d s, 0)) := by
  rcases read_fin d m F hF with ⟨h0, h1⟩ | ⟨h0, hflt, hmin, hfin⟩
  · right
    refine ⟨h0, ?_⟩
    rw [h1] at h ⊢
    rcases read_fin d m' G hG with ⟨g0, g1⟩ | ⟨g0, -, -, gfin⟩
    · exfalso; rw [g1] at h
      have e : divF d rm ⟨0, m, 0, 0⟩ ⟨0, m', 0, 0⟩ = (quietB d, 16) := by cases d <;> cases m <;> cases m' <;> rfl
      rw [e] at h
      exact absurd h (show ¬ (16 : Int) = 0 by decide)
    · have c := gfin.1
      have e : divF d rm ⟨0, m, 0, 0⟩ (readN d (noughtV d m' + G)) = (noughtV d (m != (readN d (noughtV d m' + G)).minus), 0) := by
        unfold divF
        rw [if_neg (by rw [someV_dec]; dsimp only; omega)]
        rw [if_neg (by show ¬ (0 = (readN d (noughtV d m' + G)).cls ∧ _); omega), if_neg (by show ¬ (0 : Nat) = 2; decide), if_pos (.inl rfl)]
      rw [e]
      show ∃ s, mulF d rm (readN d (noughtV d (m != (readN d (noughtV d m' + G)).minus))) _ = _
      rw [readN_zeroB]
      generalize (m != (readN d (noughtV d m' + G)).minus) = t
      generalize readN d (noughtV d m' + G) = N at *
      refine ⟨t != N.minus, ?_⟩
      have hp : productN ⟨0, t, 0, 0⟩ N = ⟨0, t != N.minus, 0, 0⟩ := by
        unfold productN
        rw [if_neg (by show ¬ (2 ≤ 0 ∨ 2 ≤ N.cls); omega), if_neg (by show ¬ (0 = 1 ∧ N.cls = 1); omega)]
      unfold mulF
      rw [if_neg (by show ¬ (0 = 0 ∧ N.cls = 2 ∨ 0 = 2 ∧ N.cls = 0); omega), hp, if_neg (by show ¬ (someV 0 0 = true); decide)]
      rfl
  · left
    refine ⟨h0, ?_⟩
    rcases read_fin d m' G hG with ⟨g0, g1⟩ | ⟨g0, -, -, gfin⟩
    · exfalso
      rw [g1] at h
      have e : divF d rm (readN d (noughtV d m + F)) ⟨0, m', 0, 0⟩ = (infV d ((readN d (noughtV d m + F)).minus != m'), 8) := by
        have c := hfin.1
        generalize readN d (noughtV d m + F) = M at *
        unfold divF
        rw [if_neg (by rw [someV_dec]; dsimp only; omega)]
        rw [if_neg (by show ¬ (M.cls = 0 ∧ _); omega), if_neg (by omega), if_neg (by show ¬ (M.cls = 0 ∨ (0 : Nat) = 2); omega), if_pos rfl]
      rw [e] at h
      exact absurd h (show ¬ (8 : Int) = 0 by decide)
    · exact quo_back d rm _ _ _ hflt hfin gfin h
end Go.Proofs.Ytnmkahdgfakpiaa
