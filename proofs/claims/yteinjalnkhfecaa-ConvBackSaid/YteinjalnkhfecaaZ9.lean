/- There and back: what was rounded without flags has kept its value. -/
import Derived.Test.YteinjalnkhfecaaZ8
import Derived.Test.YteinjalnkhfecaaQX
namespace Go.Proofs.Yteinjalnkhfecaa
open Go.ChangeShapes Go.WideShapes Go.ChangeAt Go.RowKit
set_option linter.unusedVariables false
set_option linter.unusedSimpArgs false
/-- What a finite float that is not 0 reads as. -/
theorem flt_facts {d : Bool} {n : Nat} {C : Q.Num} (h : Q.Flt d n C) : sigX d n = false ∧ nanX d n = false ∧ infX d n = false ∧ zeroX d n = false ∧ minusN d n = C.minus ∧ Q.ofM d n = C.mag ∧ Q.ofE d n = C.exp ∧ C.mag ≠ 0 := by
  have hc := Q.flt_cls h
  obtain ⟨F, hn, h0, hI, hr⟩ := h
  have hfar : farN d n = F := by
    rw [hn]
    unfold farN
    cases d <;> cases C.minus <;> simp [Q.noughtV, Q.signB, Q.infB, signB] at * <;> omega
  have hm : minusN d n = C.minus := by
    rw [hn]
    unfold minusN
    cases d <;> cases C.minus <;> simp [Q.noughtV, Q.signB, Q.infB, signB] at * <;> omega
  have hIe : Q.infB d = infB d := rfl
  have hf := field_eq d n
  rw [hfar] at hf
  obtain ⟨p1, p2, p3⟩ := far_parts d n
  rw [hfar] at p1
  have hlt : n / fracT d % expT d ≠ expT d - 1 := by
    intro e
    rw [e] at p1
    have : infB d = (expT d - 1) * fracT d := by cases d <;> decide
    omega
  unfold Q.readN at hr
  have e1 : Q.expT d = expT d := rfl
  have e2 : Q.fracT d = fracT d := rfl
  simp only [e1, e2] at hr
  rw [if_neg hlt] at hr
  refine ⟨by unfold sigX; rw [hfar]; exact decide_eq_false (by omega), by unfold nanX; rw [hfar]; exact decide_eq_false (by omega), by unfold infX; rw [hfar]; exact decide_eq_false (by omega), by unfold zeroX; rw [hfar]; exact decide_eq_false (by omega), hm, ?_, ?_, ?_⟩
  · unfold Q.ofM
    by_cases hz : n / fracT d % expT d ≠ 0
    · rw [if_pos hz] at hr; rw [← hr]; exact if_neg hz
    · rw [if_neg hz] at hr
      have hz' : n / fracT d % expT d = 0 := by omega
      by_cases hq : n % fracT d ≠ 0
      · rw [if_pos hq] at hr; rw [← hr]; exact if_pos hz'
      · rw [if_neg hq] at hr; rw [← hr] at hc; cases hc
  · unfold Q.ofE
    by_cases hz : n / fracT d % expT d ≠ 0
    · rw [if_pos hz] at hr; rw [← hr]; exact congrArg (fun q : Int => q - Q.bias d - Q.fb d) (if_neg hz)
    · rw [if_neg hz] at hr
      have hz' : n / fracT d % expT d = 0 := by omega
      by_cases hq : n % fracT d ≠ 0
      · rw [if_pos hq] at hr; rw [← hr]; exact congrArg (fun q : Int => q - Q.bias d - Q.fb d) (if_pos hz')
      · rw [if_neg hq] at hr; rw [← hr] at hc; cases hc
  · by_cases hz : n / fracT d % expT d ≠ 0
    · rw [if_pos hz] at hr; rw [← hr]; have : 0 < fracT d := by cases d <;> decide
      show _ + _ ≠ 0; omega
    · rw [if_neg hz] at hr
      by_cases hq : n % fracT d ≠ 0
      · rw [if_pos hq] at hr; rw [← hr]; exact hq
      · rw [if_neg hq] at hr; rw [← hr] at hc; cases hc
/-- The code's rounding of 64 bits, as that of 128. -/
theorem roundV_F (d : Bool) (rm : Int) (m : Bool) (x : Int) (g : Nat) (h0 : g ≠ 0) (hg : g < 18446744073709551616) (hr : 0 ≤ rm ∧ rm ≤ 4) : roundV d rm m x g = Q.roundF d rm ⟨1, m, x, g⟩ := by
  rw [roundV_R d rm m x g h0 hg hr, Q.roundF_rnd d rm ⟨1, m, x, g⟩ h0 (Nat.lt_trans hg (by decide))]
  exact Q.roundR_rnd d rm m g x false g x (Or.inl ⟨rfl, rfl, rfl⟩) h0 (fun h => nomatch h) hr
/-- A number of few bits, of no far exponent, is rounded without flags. -/
theorem small_exact (d : Bool) (rm : Int) (m : Bool) (x : Int) (g : Nat) (h0 : g ≠ 0) (hg : g < 18446744073709551616) (hr : 0 ≤ rm ∧ rm ≤ 4) (hb : blen g ≤ fb d + 1) (t1 : 1 - bias d ≤ (blen g : Int) + x - 1) (t2 : (blen g : Int) + x - 1 ≤ bias d) : (roundV d rm m x g).2 = 0 := by
  rw [roundV_R d rm m x g h0 hg hr, Q.roundR_rnd d rm m g x false g x (Or.inl ⟨rfl, rfl, rfl⟩) h0 (fun h => nomatch h) hr]
  have ht : Q.topB g x = (blen g : Int) + x - 1 := rfl
  have e1 : Q.bias d = bias d := rfl
  have e2 : Q.fb d = fb d := rfl
  have hR : Q.qrR g x (Q.topB g x - Q.fb d) = 0 := by
    unfold Q.qrR
    rw [ht, e2]
    by_cases hp : x ≤ (blen g : Int) + x - 1 - (fb d : Int)
    · rw [if_pos hp, show ((blen g : Int) + x - 1 - (fb d : Int) - x).toNat = 0 by omega]
      unfold Q.restV
      rw [Nat.pow_zero, Nat.mod_one, if_pos rfl]
    · rw [if_neg hp]
  have hA : ∀ k, Q.awayV rm m k 0 = false := by
    intro k
    unfold Q.awayV
    have c : rm = 0 ∨ rm = 1 ∨ rm = 2 ∨ rm = 3 ∨ rm = 4 := by omega
    rcases c with rfl | rfl | rfl | rfl | rfl <;> simp
  have hC : Q.cutQ rm m g x (Q.topB g x - Q.fb d) = Q.qrQ g x (Q.topB g x - Q.fb d) := by unfold Q.cutQ; rw [hR, hA]; rfl
  have hq := (Q.qrQ_bounds g x (Q.topB g x - Q.fb d) h0 (by omega)).2
  rw [show (Q.topB g x - (Q.topB g x - (Q.fb d : Int))).toNat = Q.fb d by omega] at hq
  have hcar : Q.cutQ rm m g x (Q.topB g x - Q.fb d) / 2 ^ (Q.fb d + 1) = 0 := by rw [hC]; exact Nat.div_eq_of_lt hq
  unfold Q.rnd
  simp only
  rw [hcar, if_neg (by rw [ht, e1]; omega), if_neg (by rw [ht, e1]; omega), hR, if_pos rfl]
end Go.Proofs.Yteinjalnkhfecaa
