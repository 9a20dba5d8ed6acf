/- The plain mathematics of SoftFits: a number times 1, a nought behind a product. No Go text is named here but by what the contracts say. -/
import Derived.Test.YthjdeopfbjmmeaaE5
namespace Go.Proofs.Ythjdeopfbjmmeaa
open Go.ChangeShapes Go.WideShapes Go.ChangeAt Go.RowKit
set_option linter.unusedVariables false
set_option linter.unusedSimpArgs false
def oneB (d : Bool) : Nat := if d then 4607182418800017408 else 1065353216
theorem readN_oneB (d : Bool) : readN d (oneB d) = ⟨1, false, -(fb d : Int), fracT d⟩ := by cases d <;> rfl
theorem readN_zeroB (d m : Bool) : readN d (noughtV d m) = ⟨0, m, 0, 0⟩ := by cases d <;> cases m <;> rfl
theorem fracT_pow (d : Bool) : fracT d = 2 ^ fb d := by cases d <;> decide
theorem blen_mul_pow (n k : Nat) (h : n ≠ 0) : blen (n * 2 ^ k) = blen n + k := by
  obtain ⟨a, b, c⟩ := blen_bounds n h
  obtain ⟨j, hj⟩ : ∃ j, blen n = j + 1 := ⟨blen n - 1, by omega⟩
  rw [hj] at b c ⊢
  rw [Nat.add_sub_cancel] at b
  have hp : 0 < 2 ^ k := Nat.two_pow_pos k
  rw [blen_of (n * 2 ^ k) (j + k) (Nat.mul_ne_zero h (by omega)) (by rw [Nat.pow_add]; exact Nat.mul_le_mul_right _ b)
    (by rw [show j + k + 1 = (j + 1) + k by omega, Nat.pow_add]; exact Nat.mul_lt_mul_of_pos_right c hp)]
  omega
/-- A number that is written with more noughts below is brought to the same. -/
theorem raised_shift (c : Nat) (m : Bool) (x : Int) (g k p : Nat) (h0 : g ≠ 0) (hb : blen g + k ≤ p + 1) : raisedN ⟨c, m, x - k, g * 2 ^ k⟩ p = raisedN ⟨c, m, x, g⟩ p := by
  have e := blen_mul_pow g k h0
  unfold raisedN
  simp only [e]
  congr 1
  · omega
  · unfold shl
    rw [Nat.mul_assoc, ← Nat.pow_add]
    congr 3; omega
theorem roundF_raised {d : Bool} {rm : Int} {M N : Num} (h : raisedN M 127 = raisedN N 127) : roundF d rm M = roundF d rm N := by unfold roundF; rw [h]
theorem someV_dec (c1 c2 : Int) : someV c1 c2 = true ↔ (c1 = 4 ∨ c1 = 3 ∨ c2 = 4 ∨ c2 = 3) := by unfold someV; rw [decide_eq_true_eq]
theorem readN_zero_eq (d : Bool) (a : Nat) (h : (readN d a).cls = 0) : readN d a = ⟨0, (readN d a).minus, 0, 0⟩ := by
  have hc : ∀ fr, fr = 0 ∨ fr ≠ 0 := fun fr => by omega
  unfold readN at h ⊢
  simp only at h ⊢
  split at h
  · exfalso
    have := classV_nonneg d (a % fracT d)
    have : classV d (a % fracT d) = 0 := by simp only at h; omega
    unfold classV at this
    (repeat' split at this) <;> omega
  · split at h
    · simp at h
    · split at h
      · simp at h
      · simp_all
theorem fma_one (d : Bool) (rm : Int) (a b : Nat) : fmaF d rm (readN d a) (readN d (oneB d)) (readN d b) = sumF d rm (readN d a) (readN d b) := by
  have hA := readN_cls d a
  have hF := readN_finB d a
  have hZ := readN_zero_eq d a
  have hall := readN_all d a
  have hfin := readN_fin d a
  rw [readN_oneB]
  generalize readN d a = A at *
  generalize readN d b = B at *
  unfold fmaF
  rw [if_neg (by simp)]
  have hcl : (productN A ⟨1, false, -(fb d : Int), fracT d⟩).cls = A.cls ∧ (productN A ⟨1, false, -(fb d : Int), fracT d⟩).minus = A.minus := by
    have hm : (A.minus != false) = A.minus := by simp
    unfold productN
    by_cases g1 : 2 ≤ A.cls
    · rw [if_pos (Or.inl g1)]; exact ⟨by show max A.cls 1 = A.cls; omega, hm⟩
    · rw [if_neg (by simp only; omega)]
      by_cases g2 : A.cls = 1
      · rw [if_pos ⟨g2, rfl⟩]; exact ⟨g2.symm, hm⟩
      · rw [if_neg (fun h => g2 h.1)]; exact ⟨by show 0 = A.cls; omega, hm⟩
  by_cases h1 : A.cls = 1
  · have hp : productN A ⟨1, false, -(fb d : Int), fracT d⟩ = ⟨1, A.minus, A.exp - (fb d : Int), A.mag * 2 ^ fb d⟩ := by
      unfold productN
      rw [if_neg (by simp only; omega), if_pos ⟨h1, rfl⟩, fracT_pow]
      simp only [Bool.bne_false]
      rfl
    obtain ⟨z1, z2, z3, z4⟩ := hfin h1
    have hbl : blen A.mag + fb d ≤ 126 + 1 := by
      have : blen A.mag ≤ fb d + 1 := blen_le _ _ (by rw [Nat.pow_succ, ← fracT_pow]; omega)
      have h52 : fb d ≤ 52 := by cases d <;> decide
      omega
    have hA' : A = ⟨1, A.minus, A.exp, A.mag⟩ := by cases A; simp_all
    have r1 : raisedN (productN A ⟨1, false, -(fb d : Int), fracT d⟩) 126 = raisedN A 126 := by
      rw [hp, raised_shift _ _ _ _ _ _ z1 hbl, ← hA']
    have r2 : raisedN (productN A ⟨1, false, -(fb d : Int), fracT d⟩) 127 = raisedN A 127 := by
      rw [hp, raised_shift _ _ _ _ _ _ z1 (by omega), ← hA']
    generalize productN A ⟨1, false, -(fb d : Int), fracT d⟩ = P at *
    obtain ⟨c1, c2⟩ := hcl
    unfold sumF
    rw [c1, c2]
    by_cases hB : B.cls = 0
    · have t1 : totalN P B = P := by unfold totalN; rw [if_neg (by omega), if_pos hB]
      have t2 : totalN A B = A := by unfold totalN; rw [if_neg (by omega), if_pos hB]
      rw [t1, t2, c1]
      unfold writeF
      rw [c1, roundF_raised r2, c2]
    · have t : totalN P B = totalN A B := by
        rw [totalN_one (by omega) hB, totalN_one (by omega) hB, r1]
      rw [t]
  · have t : ∀ X : Num, X.cls = A.cls → X.minus = A.minus → (A.cls = 0 → X = A) → sumF d rm X B = sumF d rm A B := by
      intro X h2 h3 h4
      by_cases h0 : A.cls = 0
      · rw [h4 h0]
      · unfold sumF
        rw [h2, h3]
        by_cases hs : someV A.cls B.cls = true
        · rw [if_pos hs, if_pos hs]
        · have hs2 : A.cls = 2 := by
            have := mt (someV_dec A.cls B.cls).2 hs; omega
          rw [if_neg hs, if_neg hs]
          split <;> rfl
    refine t _ hcl.1 hcl.2 fun h0 => ?_
    have e := hZ h0
    unfold productN
    rw [if_neg (by simp only; omega), if_neg (by simp only; omega)]
    simp only [Bool.bne_false]
    exact e.symm
def nanB (d : Bool) (a : Nat) : Bool := decide (a / fracT d % expT d = expT d - 1 ∧ a % fracT d ≠ 0)
theorem nan_nought (d m : Bool) : nanB d (noughtV d m) = false := by cases d <;> cases m <;> decide
theorem nought_bit (d m : Bool) : noughtV d m / signB d % 2 * signB d = noughtV d m := by cases d <;> cases m <;> decide
theorem fma_back (d : Bool) (rm : Int) (a b z : Nat) (hz : (∃ m, z = noughtV d m) ∧ (nanB d (mulF d rm (readN d a) (readN d b)).1 = false → z = (mulF d rm (readN d a) (readN d b)).1 / signB d % 2 * signB d)) :
    fmaF d rm (readN d a) (readN d b) (readN d z) = mulF d rm (readN d a) (readN d b) := by
  have hP := productN_cls (readN_cls d a) (readN_cls d b)
  generalize readN d a = A at *
  generalize readN d b = B at *
  obtain ⟨⟨m, rfl⟩, hz⟩ := hz
  rw [readN_zeroB]
  unfold fmaF
  unfold mulF at hz ⊢
  by_cases h0 : A.cls = 0 ∧ B.cls = 2 ∨ A.cls = 2 ∧ B.cls = 0
  · rw [if_pos h0, if_pos h0]
  · rw [if_neg h0] at hz
    rw [if_neg h0, if_neg h0]
    generalize productN A B = P at *
    unfold sumF
    simp only at hz ⊢
    by_cases hs : someV P.cls 0 = true
    · have hs' : someV P.cls ((0 : Nat) : Int) = true := hs
      rw [if_pos hs, if_pos hs']; rfl
    · have hs' : ¬ someV P.cls ((0 : Nat) : Int) = true := hs
      rw [if_neg hs] at hz
      rw [if_neg hs, if_neg hs']
      have hc : P.cls = 0 ∨ P.cls = 1 ∨ P.cls = 2 := by
        have := mt (someV_dec P.cls 0).2 hs; omega
      rcases hc with h | h | h
      · have w : writeF d rm P = (noughtV d P.minus, 0) := by unfold writeF; rw [if_pos h]
        rw [w] at hz ⊢
        have hm := hz (nan_nought _ _)
        rw [nought_bit] at hm
        have em : m = P.minus := by
          revert hm; cases d <;> cases m <;> cases P.minus <;> decide
        rw [if_neg (by omega), if_neg (by omega), if_neg (by omega), if_pos ⟨h, trivial, em.symm⟩]
      · have t : totalN P ⟨0, m, 0, 0⟩ = P := by unfold totalN; rw [if_neg (by omega), if_pos rfl]
        rw [t, if_neg (by omega), if_neg (by omega), if_neg (by omega), if_neg (by omega), if_neg (by omega)]
      · have w : writeF d rm P = (infV d P.minus, 0) := by unfold writeF; rw [if_neg (by omega), if_pos h]
        rw [w, if_neg (by omega), if_pos h]
end Go.Proofs.Ythjdeopfbjmmeaa
