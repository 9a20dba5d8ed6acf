/- What is exact can be taken back: the mathematics of SoftBack. -/
import Derived.Test.YthjdeopfbjmmeaaG8
namespace Go.Proofs.Ythjdeopfbjmmeaa
set_option linter.unusedVariables false
set_option linter.unusedSimpArgs false
theorem signB_pow (d : Bool) : ∃ k, signB d = 2 ^ k ∧ infB d < signB d ∧ 0 < signB d := by
  cases d
  · exact ⟨31, by decide, by decide, by decide⟩
  · exact ⟨63, by decide, by decide, by decide⟩
/-- A float of its size: its sign and what is behind. -/
theorem split_float (d : Bool) (a : Nat) (ha : a < 2 * signB d) : a = noughtV d (decide (signB d ≤ a)) + a % signB d := by
  obtain ⟨k, -, -, h0⟩ := signB_pow d
  by_cases h : signB d ≤ a
  · rw [decide_eq_true h]
    show a = signB d + a % signB d
    rw [Nat.mod_eq_sub_mod h, Nat.mod_eq_of_lt (by omega)]; omega
  · rw [decide_eq_false h]
    show a = 0 + a % signB d
    rw [Nat.mod_eq_of_lt (by omega)]; omega
def isInf (d : Bool) (a : Nat) : Bool := decide (a / fracT d % expT d = expT d - 1 ∧ a % fracT d = 0)
def isZero (d : Bool) (a : Nat) : Bool := decide (a / fracT d % expT d = 0 ∧ a % fracT d = 0)
theorem fin_lt (d : Bool) (a : Nat) (ha : a < 2 * signB d) (h1 : nanB d a = false) (h2 : isInf d a = false) : a % signB d < infB d := by
  have h1' := of_decide_eq_false h1
  have h2' := of_decide_eq_false h2
  cases d
  · simp only [signB, fracT, expT, infB, if_neg (show ¬ (false = true) by decide)] at *
    omega
  · simp only [signB, fracT, expT, infB, if_true] at *
    omega
theorem zero_iff (d : Bool) (a : Nat) (ha : a < 2 * signB d) : isZero d a = decide (a % signB d = 0) := by
  unfold isZero
  rw [Bool.eq_iff_iff]
  simp only [decide_eq_true_eq]
  cases d
  · simp only [signB, fracT, expT, if_neg (show ¬ (false = true) by decide)] at *
    omega
  · simp only [signB, fracT, expT, if_true] at *
    omega
/-- What is read of a finite float. -/
theorem read_fin (d : Bool) (m : Bool) (F : Nat) (h : F < infB d) :
    (F = 0 ∧ readN d (noughtV d m + F) = ⟨0, m, 0, 0⟩) ∨ (0 < F ∧ Flt d (noughtV d m + F) (readN d (noughtV d m + F)) ∧ (readN d (noughtV d m + F)).minus = m ∧ FinF (readN d (noughtV d m + F))) := by
  by_cases h0 : F = 0
  · left; refine ⟨h0, ?_⟩; rw [h0]; exact readN_zeroB d m
  · right
    have hr := read_shape d m F h
    have hm : (readN d (noughtV d m + F)).minus = m := by
      rw [hr]; split
      · rfl
      · first | rfl | (rw [if_pos h0])
    have hf : Flt d (noughtV d m + F) (readN d (noughtV d m + F)) := ⟨F, by rw [hm], by omega, h, rfl⟩
    exact ⟨by omega, hf, hm, flt_fin hf (flt_cls hf)⟩
theorem read_fin2 (d m : Bool) (F : Nat) (h : F < infB d) : Fin2 (readN d (noughtV d m + F)) := by
  rcases read_fin d m F h with ⟨-, h1⟩ | ⟨-, -, -, h1⟩
  · rw [h1]; exact .inr ⟨rfl, rfl⟩
  · exact .inl h1
theorem read_sign (d m : Bool) (F : Nat) (h : F < infB d) : readN d (noughtV d m + F) = { readN d (noughtV d false + F) with minus := m } := by
  rw [read_shape d m F h, read_shape d false F h]
  split
  · rfl
  · split <;> rfl
theorem sval_neg (d m : Bool) (F : Nat) (h : F < infB d) : sval (readN d (noughtV d (!m) + F)) = - sval (readN d (noughtV d m + F)) := by
  rw [read_sign d (!m) F h, read_sign d m F h]
  have e : ∀ (M : Num) (b : Bool), val { M with minus := b } = val M := fun M b => rfl
  unfold sval
  simp only [e]
  cases m <;> simp
theorem xor_top (d : Bool) (m : Bool) (F : Nat) (h : F < signB d) : xorB d (noughtV d m + F) = noughtV d (!m) + F := by
  obtain ⟨k, hk, -, h0⟩ := signB_pow d
  unfold xorB
  rw [hk] at h
  have key : ∀ x, x < 2 ^ k → (2 ^ k + x) ^^^ 2 ^ k = x := by
    intro x hx
    have e : 2 ^ k + x = x ^^^ 2 ^ k := by
      have e1 : (x ^^^ 2 ^ k) / 2 ^ k = 1 := by rw [Nat.xor_div_two_pow, Nat.div_eq_of_lt hx, Nat.div_self (Nat.two_pow_pos k)]; rfl
      have e2 : (x ^^^ 2 ^ k) % 2 ^ k = x := by rw [Nat.xor_mod_two_pow, Nat.mod_eq_of_lt hx, Nat.mod_self]; simp
      have := Nat.div_add_mod (x ^^^ 2 ^ k) (2 ^ k)
      rw [e1, e2] at this; omega
    rw [e, Nat.xor_assoc, Nat.xor_self, Nat.xor_zero]
  cases m
  · show (0 + F) ^^^ signB d = signB d + F
    rw [hk, Nat.zero_add]
    have := key F h
    rw [← this, Nat.xor_assoc, Nat.xor_self, Nat.xor_zero]; omega
  · show (signB d + F) ^^^ signB d = 0 + F
    rw [hk, key F h, Nat.zero_add]
/-- A sum that is exact can be taken back. -/
theorem back_sum (d : Bool) (rm : Int) (m m' : Bool) (F G : Nat) (hF : F < infB d) (hG : G < infB d) (h0 : 0 < F)
    (h : (sumF d rm (readN d (noughtV d m + F)) (readN d (noughtV d m' + G))).2 = 0) :
    sumF d rm (readN d (sumF d rm (readN d (noughtV d m + F)) (readN d (noughtV d m' + G))).1) (readN d (xorB d (noughtV d m' + G))) = (noughtV d m + F, 0) := by
  obtain ⟨k, -, hi, -⟩ := signB_pow d
  obtain ⟨C, hC, hv⟩ := sum_exact d rm _ _ (read_fin2 d m F hF) (read_fin2 d m' G hG) h
  generalize (sumF d rm (readN d (noughtV d m + F)) (readN d (noughtV d m' + G))).1 = x at *
  have hx : readN d x = C ∧ Fin2 C := by
    rcases hC with hC | ⟨s, h1, h2⟩
    · have := flt_fin hC (flt_cls hC)
      obtain ⟨_, _, _, _, hr⟩ := hC
      exact ⟨hr, .inl this⟩
    · rw [h1, h2]; exact ⟨readN_zeroB d s, .inr ⟨rfl, rfl⟩⟩
  rw [hx.1, xor_top d m' G (by omega)]
  rcases read_fin d m F hF with ⟨h1, -⟩ | ⟨-, h2, h3, h4⟩
  · omega
  · refine sum_back d rm C _ _ _ hx.2 (read_fin2 d (!m') G hG) h2 ?_
    rw [sval_neg d m' G hG]; omega
theorem val_mul : ∃ Z : Nat, 0 < Z ∧ ∀ (g h : Nat) (x y : Int), -20000 ≤ x → -20000 ≤ y → -20000 ≤ x + y →
    g * h * 2 ^ (x + y + 20000).toNat * Z = (g * 2 ^ (x + 20000).toNat) * (h * 2 ^ (y + 20000).toNat) := by
  refine ⟨2 ^ (20000 : Int).toNat, Nat.two_pow_pos _, ?_⟩
  intro g h x y hx hy hxy
  have e : 2 ^ (x + y + 20000).toNat * 2 ^ (20000 : Int).toNat = 2 ^ (x + 20000).toNat * 2 ^ (y + 20000).toNat := by
    rw [← Nat.pow_add, ← Nat.pow_add]; congr 1; omega
  rw [Nat.mul_assoc, e]
  generalize 2 ^ (x + 20000).toNat = p
  generalize 2 ^ (y + 20000).toNat = q
  simp only [Nat.mul_assoc, Nat.mul_left_comm]
theorem val_far2 {c W p q : Nat} (hc : c < W) (h : c * 2 ^ p = W * 2 ^ q) : ∃ k, p = q + (k + 1) ∧ W = c * 2 ^ (k + 1) := by
  by_cases hpq : p ≤ q
  · exfalso
    have h1 : W * 2 ^ p ≤ W * 2 ^ q := Nat.mul_le_mul_left _ (Nat.pow_le_pow_right (by decide) hpq)
    have h2 : c * 2 ^ p < W * 2 ^ p := Nat.mul_lt_mul_of_pos_right hc (Nat.two_pow_pos p)
    omega
  · obtain ⟨k, rfl⟩ : ∃ k, p = q + (k + 1) := ⟨p - q - 1, by omega⟩
    refine ⟨k, rfl, ?_⟩
    apply Nat.eq_of_mul_eq_mul_right (Nat.two_pow_pos q)
    rw [← h, Nat.pow_add, Nat.mul_assoc]; congr 1; exact Nat.mul_comm _ _
/-- The product of two numbers, before it is rounded. -/
def prodN (M N : Num) : Num := ⟨1, M.minus != N.minus, M.exp + N.exp, M.mag * N.mag⟩
theorem mulF_fin (d : Bool) (rm : Int) (M N : Num) (hM : FinF M) (hN : FinF N) : mulF d rm M N = roundF d rm (prodN M N) ∧ (prodN M N).mag ≠ 0 ∧ (prodN M N).mag < 2 ^ 128 ∧ -10000 ≤ (prodN M N).exp := by
  have h1 := hM.1; have h2 := hN.1
  have hp : productN M N = prodN M N := by
    unfold productN; rw [if_neg (by omega), if_pos ⟨h1, h2⟩]; rfl
  have hlt : M.mag * N.mag < 2 ^ 53 * 2 ^ 53 := Nat.mul_lt_mul'' hM.2.2.1 hN.2.2.1
  have h106 : (2 : Nat) ^ 53 * 2 ^ 53 < 2 ^ 128 := by decide
  refine ⟨?_, Nat.mul_ne_zero hM.2.1 hN.2.1, Nat.lt_trans hlt h106, ?_⟩
  · unfold mulF
    rw [if_neg (by omega), hp, if_neg (by rw [someV_dec]; show ¬ ((1 : Int) = 4 ∨ (1 : Int) = 3 ∨ (0 : Int) = 4 ∨ (0 : Int) = 3); decide)]
    exact writeF_one d rm _ rfl
  · show -10000 ≤ M.exp + N.exp
    have := hM.2.2.2.1; have := hN.2.2.2.1; omega
theorem isq_sq (R : Nat) (h : R * R < 2 ^ 128) : isq (R * R) = R := by
  obtain ⟨h1, h2⟩ := isq_spec (R * R) h
  generalize isq (R * R) = r at *
  have a : r ≤ R := Nat.mul_self_le_mul_self_iff.1 h1
  have b : R < r + 1 := Nat.mul_self_lt_mul_self_iff.1 h2
  omega
theorem sqrtF_one (d : Bool) (rm : Int) (Q : Num) (h : Q.cls = 1) (hm : Q.minus = false) : sqrtF d rm Q = roundF d rm (rootN Q) := by
  unfold sqrtF
  rw [if_neg (by rw [someV_dec, h]; decide), if_neg (by rw [h]; decide), if_neg (by rw [hm]; decide), if_neg (by rw [h]; decide)]
/-- The root of an exact square is its side. -/
theorem back_root (d : Bool) (rm : Int) (m : Bool) (F : Nat) (hF : F < infB d)
    (h : (mulF d rm (readN d (noughtV d m + F)) (readN d (noughtV d m + F))).2 = 0) :
    sqrtF d rm (readN d (mulF d rm (readN d (noughtV d m + F)) (readN d (noughtV d m + F))).1) = (F, 0) := by
  rcases read_fin d m F hF with ⟨h0, h1⟩ | ⟨h0, hflt, hmin, hfin⟩
  · rw [h1]
    have e : mulF d rm ⟨0, m, 0, 0⟩ ⟨0, m, 0, 0⟩ = (noughtV d false, 0) := by
      cases m <;> cases d <;> rfl
    rw [e, readN_zeroB, h0]
    cases d <;> rfl
  · obtain ⟨e1, p0, p1, p2⟩ := mulF_fin d rm _ _ hfin hfin
    rw [e1] at h ⊢
    obtain ⟨Q, hQ, hQ1, hQm, hQv⟩ := round_exact d rm _ p0 p1 p2 h
    have hQf := flt_fin hQ hQ1
    have hrd : readN d (roundF d rm (prodN (readN d (noughtV d m + F)) (readN d (noughtV d m + F)))).1 = Q := by obtain ⟨_, _, _, _, hr⟩ := hQ; exact hr
    rw [hrd]
    have hsgn := read_sign d m F hF
    have hfl0 : Flt d (noughtV d false + F) (readN d (noughtV d false + F)) := by
      rcases read_fin d false F hF with ⟨h2, -⟩ | ⟨-, h2, -, -⟩
      · omega
      · exact h2
    have hA0 : (readN d (noughtV d m + F)).mag = (readN d (noughtV d false + F)).mag ∧ (readN d (noughtV d m + F)).exp = (readN d (noughtV d false + F)).exp := by rw [hsgn]; exact ⟨rfl, rfl⟩
    have hm0 : (readN d (noughtV d false + F)).minus = false := by
      rcases read_fin d false F hF with ⟨h2, -⟩ | ⟨-, -, h2, -⟩
      · omega
      · exact h2
    have hval : val Q = (readN d (noughtV d m + F)).mag * (readN d (noughtV d m + F)).mag * 2 ^ ((readN d (noughtV d m + F)).exp + (readN d (noughtV d m + F)).exp + 20000).toNat := hQv
    have hqm : Q.minus = false := by rw [hQm]; show ((readN d (noughtV d m + F)).minus != (readN d (noughtV d m + F)).minus) = false; simp
    obtain ⟨-, f1, f2, f3, f4⟩ := hfin
    rw [hA0.1, hA0.2] at hval
    rw [hA0.1] at f1 f2
    rw [hA0.2] at f3 f4
    clear hA0 hsgn hQv hQm hrd e1 p0 p1 p2 h hflt hmin
    generalize readN d (noughtV d false + F) = A at *
    rw [sqrtF_one d rm Q hQ1 hqm]
    obtain ⟨-, q1, q2, q3, q4⟩ := hQf
    have bq := blen_le _ _ q2
    have bq1 := (blen_bounds _ q1).1
    obtain ⟨r0, r1, r2⟩ := raised_mag q1 (by decide : 127 ≤ 127) (by omega)
    have v1 := val_raise q1 (by decide : 127 ≤ 127) (by omega) (by omega)
    have ne : (raisedN Q 127).exp = Q.exp - (((127 : Nat) : Int) + 1 - (blen Q.mag : Int)) := rfl
    have hev : (raisedN Q 127).mag % 2 = 0 := by
      rw [r0, show 127 + 1 - blen Q.mag = (127 - blen Q.mag) + 1 by omega, Nat.pow_succ, ← Nat.mul_assoc]; exact Nat.mul_mod_left _ _
    have hXE : rootX Q * 2 ^ (rootE Q + 20000).toNat = val Q ∧ 2 ^ 126 ≤ rootX Q ∧ rootX Q < 2 ^ 128 ∧ rootE Q % 2 = 0 ∧ -3000 ≤ rootE Q ∧ rootE Q ≤ 3000 := by
      have h128 : (2 : Nat) ^ 127 = 2 ^ 126 * 2 := by decide
      unfold rootX rootE
      by_cases hp : (raisedN Q 127).exp % 2 = 0
      · rw [if_pos hp, if_pos hp]; exact ⟨v1, by omega, r2, hp, by omega, by omega⟩
      · rw [if_neg hp, if_neg hp]
        refine ⟨?_, by omega, by omega, by omega, by omega, by omega⟩
        rw [← v1]
        show _ = (raisedN Q 127).mag * 2 ^ ((raisedN Q 127).exp + 20000).toNat
        have e := pow_join ((raisedN Q 127).mag / 2) 1 (raisedN Q 127).exp ((raisedN Q 127).exp + 1) (by omega) (by omega)
        rw [← e, Nat.pow_one]; congr 1; omega
    obtain ⟨x1, x2, x3, x4, x5, x6⟩ := hXE
    have hrN : rootN Q = ⟨1, false, rootE Q / 2 - 1, stickyN (shl (isq (rootX Q)) 1) (!decide (isq (rootX Q) * isq (rootX Q) = rootX Q))⟩ := rfl
    rw [hrN]
    generalize rootX Q = X at *
    generalize rootE Q = E at *
    have hc : A.mag * A.mag < X := by
      have h1 : A.mag * A.mag < 2 ^ 53 * 2 ^ 53 := Nat.mul_lt_mul'' f2 f2
      have h2 : (2 : Nat) ^ 53 * 2 ^ 53 < 2 ^ 126 := by decide
      omega
    obtain ⟨k, k1, k2⟩ := val_far2 hc (show A.mag * A.mag * 2 ^ (A.exp + A.exp + 20000).toNat = X * 2 ^ (E + 20000).toNat by rw [x1, hval])
    obtain ⟨j, hj⟩ : ∃ j, k + 1 = j + j := ⟨(k + 1) / 2, by omega⟩
    obtain ⟨R, hR⟩ : ∃ R, R = A.mag * 2 ^ j := ⟨_, rfl⟩
    have hRX : X = R * R := by
      rw [k2, hj, hR, Nat.pow_add]
      generalize 2 ^ j = t
      simp only [Nat.mul_assoc, Nat.mul_left_comm]
    have hRl : R < 2 ^ 64 := by
      apply Nat.lt_of_not_le; intro hle
      have := Nat.mul_le_mul hle hle
      have h2 : (2 : Nat) ^ 64 * 2 ^ 64 = 2 ^ 128 := by decide
      omega
    rw [hRX, isq_sq R (by rw [← hRX]; exact x3), decide_eq_true rfl]
    have hsh : stickyN (shl R 1) (!true) = R * 2 := by
      show shl R 1 = R * 2
      unfold shl; rw [Nat.pow_one]
      have : (2 : Nat) ^ 64 * 2 ≤ 2 ^ 128 := by decide
      exact Nat.mod_eq_of_lt (by omega)
    rw [hsh]
    have h65 : (2 : Nat) ^ 64 * 2 < 2 ^ 128 := by decide
    have hR0 : R ≠ 0 := by rw [hR]; exact Nat.mul_ne_zero f1 (Nat.ne_of_gt (Nat.two_pow_pos j))
    have hfin := round_val d rm ⟨1, false, E / 2 - 1, R * 2⟩ A (noughtV d false + F) (by show R * 2 ≠ 0; omega) (by show R * 2 < 2 ^ 128; omega) (by show -10000 ≤ E / 2 - 1; omega) hfl0
      ⟨f1, Nat.lt_trans f2 (by decide), by omega⟩ (by
        show R * 2 * 2 ^ (E / 2 - 1 + 20000).toNat = A.mag * 2 ^ (A.exp + 20000).toNat
        rw [hR, Nat.mul_assoc A.mag, ← Nat.pow_succ]
        exact pow_join A.mag (j + 1) (E / 2 - 1) A.exp (by omega) (by omega)) hm0.symm
    rw [hfin]
    show (0 + F, (0 : Int)) = _
    rw [Nat.zero_add]
end Go.Proofs.Ythjdeopfbjmmeaa
