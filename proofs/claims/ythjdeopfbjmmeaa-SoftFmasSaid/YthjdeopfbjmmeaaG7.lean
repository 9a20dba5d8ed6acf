/- Exact sums: what a sum without flags has kept, and that a sum whose value is a float is that float. -/
import Derived.Test.YthjdeopfbjmmeaaG6
namespace Go.Proofs.Ythjdeopfbjmmeaa
set_option linter.unusedVariables false
set_option linter.unusedSimpArgs false
def sval (M : Num) : Int := if M.minus then -(val M : Int) else (val M : Int)
theorem sval_raise {M : Num} (h0 : M.mag ≠ 0) (hb : M.mag < 2 ^ 64) (he : -19000 ≤ M.exp) : sval (raisedN M 126) = sval M := by
  have hl := blen_le _ _ hb
  unfold sval; rw [val_raise h0 (by decide) (by omega) he]; rfl
theorem rsticky_cases (x n : Nat) (h : x < 2 ^ 128) : (x % 2 ^ n = 0 ∧ rsticky x n * 2 ^ n = x) ∨ (x % 2 ^ n ≠ 0 ∧ rsticky x n % 2 = 1 ∧ rsticky x n ≤ x / 2 ^ n + 1) := by
  have hd := Nat.div_add_mod x (2 ^ n)
  have hs : shl (x / 2 ^ n) n = x / 2 ^ n * 2 ^ n := by
    unfold shl; exact Nat.mod_eq_of_lt (Nat.lt_of_le_of_lt (Nat.div_mul_le_self _ _) h)
  unfold rsticky
  rw [hs]
  rw [Nat.mul_comm] at hd
  by_cases h0 : x % 2 ^ n = 0
  · left
    have e : x / 2 ^ n * 2 ^ n = x := by omega
    rw [if_pos e]; exact ⟨h0, e⟩
  · right
    rw [if_neg (by omega)]
    exact ⟨h0, by omega, by omega⟩
/-- A number with its highest bit at 126 that has 74 noughts below. -/
def Rp (a : Num) : Prop := 2 ^ 126 ≤ a.mag ∧ a.mag < 2 ^ 127 ∧ a.mag % 2 ^ 74 = 0 ∧ -10000 ≤ a.exp ∧ a.exp ≤ 10000
def FinF (M : Num) : Prop := M.cls = 1 ∧ M.mag ≠ 0 ∧ M.mag < 2 ^ 53 ∧ -1074 ≤ M.exp ∧ M.exp ≤ 971
theorem rp_of {M : Num} (h : FinF M) : Rp (raisedN M 126) := by
  obtain ⟨h1, h2, h3, h4, h5⟩ := h
  have hl := blen_le _ _ h3
  have hl1 := (blen_bounds _ h2).1
  obtain ⟨r0, r1, r2⟩ := raised_mag h2 (by decide : 126 ≤ 127) (by omega)
  have he : (raisedN M 126).exp = M.exp - (((126 : Nat) : Int) + 1 - (blen M.mag : Int)) := rfl
  refine ⟨r1, r2, ?_, by omega, by omega⟩
  rw [r0, show 126 + 1 - blen M.mag = (53 - blen M.mag) + 74 by omega, Nat.pow_add, ← Nat.mul_assoc]; exact Nat.mul_mod_left _ _
theorem val_far {c W p q : Nat} (hc : c < 2 ^ 53) (hW : 2 ^ 53 ≤ W) (h : c * 2 ^ p = W * 2 ^ q) : ∃ k, p = q + (k + 1) ∧ W = c * 2 ^ (k + 1) := by
  by_cases hpq : p ≤ q
  · exfalso
    have h1 : W * 2 ^ p ≤ W * 2 ^ q := Nat.mul_le_mul_left _ (Nat.pow_le_pow_right (by decide) hpq)
    have h2 : c * 2 ^ p < W * 2 ^ p := Nat.mul_lt_mul_of_pos_right (by omega) (Nat.two_pow_pos p)
    omega
  · obtain ⟨k, rfl⟩ : ∃ k, p = q + (k + 1) := ⟨p - q - 1, by omega⟩
    refine ⟨k, rfl, ?_⟩
    apply Nat.eq_of_mul_eq_mul_right (Nat.two_pow_pos q)
    rw [← h, Nat.pow_add, Nat.mul_assoc]; congr 1; exact Nat.mul_comm _ _
theorem add_exact (a b : Num) (ha : Rp a) (hb : Rp b) (hc : a.cls = 1) (ho : b.exp ≤ a.exp) (hm : a.exp = b.exp → b.mag ≤ a.mag) (he : b.mag % 2 ^ (a.exp - b.exp).toNat = 0) :
    ((addN a b).cls = 0 ∧ sval a + sval b = 0) ∨ ((addN a b).cls = 1 ∧ (addN a b).mag ≠ 0 ∧ (addN a b).mag < 2 ^ 128 ∧ -10000 ≤ (addN a b).exp ∧ sval (addN a b) = sval a + sval b) := by
  obtain ⟨a1, a2, a3, a4, a5⟩ := ha
  obtain ⟨b1, b2, b3, b4, b5⟩ := hb
  have h127 : (2 : Nat) ^ 127 + 2 ^ 127 = 2 ^ 128 := by decide
  have h126 : (0 : Nat) < 2 ^ 126 := by decide
  obtain ⟨n, hn⟩ : ∃ n, n = (a.exp - b.exp).toNat := ⟨_, rfl⟩
  rw [← hn] at he
  have hs : rsticky b.mag n * 2 ^ n = b.mag := by
    rcases rsticky_cases b.mag n (by omega) with h | h
    · exact h.2
    · exact absurd he h.1
  obtain ⟨s, hse⟩ : ∃ s, s = rsticky b.mag n := ⟨_, rfl⟩
  rw [← hse] at hs
  have hsl : s ≤ a.mag := by
    by_cases h0 : n = 0
    · rw [h0, Nat.pow_zero, Nat.mul_one] at hs
      have := hm (by omega); omega
    · have h2 : 2 ≤ 2 ^ n := by
        obtain ⟨k, rfl⟩ : ∃ k, n = k + 1 := ⟨n - 1, by omega⟩
        rw [Nat.pow_succ]; have := Nat.two_pow_pos k; omega
      have h3 : s * 2 ≤ s * 2 ^ n := Nat.mul_le_mul_left s h2
      have h4 : (2 : Nat) ^ 127 = 2 ^ 126 * 2 := by decide
      omega
  obtain ⟨U, hU⟩ : ∃ U : Nat, U = 2 ^ (a.exp + 20000).toNat := ⟨_, rfl⟩
  have va : val a = a.mag * U := by rw [hU]; rfl
  have vb : val b = s * U := by
    unfold val; rw [← hs, hU]; exact pow_join s n b.exp a.exp (by omega) (by omega)
  have ea : addN a b = if a.minus = b.minus then ⟨a.cls, a.minus, a.exp, a.mag + s⟩ else if a.mag = s then ⟨0, false, 0, 0⟩ else ⟨a.cls, a.minus, a.exp, a.mag - s⟩ := by
    unfold addN; simp only; rw [← hn, ← hse]
  rw [ea]
  by_cases hsg : a.minus = b.minus
  · rw [if_pos hsg]
    right
    refine ⟨hc, by show a.mag + s ≠ 0; omega, by show a.mag + s < 2 ^ 128; omega, a4, ?_⟩
    have vt : val ⟨a.cls, a.minus, a.exp, a.mag + s⟩ = a.mag * U + s * U := by
      show (a.mag + s) * 2 ^ (a.exp + 20000).toNat = _; rw [← hU, Nat.add_mul]
    unfold sval
    rw [vt, va, vb, ← hsg]
    show (if a.minus = true then _ else _) = _
    generalize a.mag * U = p; generalize s * U = q
    cases a.minus
    · simp
    · simp; omega
  · rw [if_neg hsg]
    by_cases hz : a.mag = s
    · rw [if_pos hz]
      left
      refine ⟨rfl, ?_⟩
      unfold sval
      rw [va, vb, hz]
      generalize s * U = q
      revert hsg
      cases a.minus <;> cases b.minus <;> simp <;> omega
    · rw [if_neg hz]
      right
      refine ⟨hc, by show a.mag - s ≠ 0; omega, by show a.mag - s < 2 ^ 128; omega, a4, ?_⟩
      have vt : val ⟨a.cls, a.minus, a.exp, a.mag - s⟩ = a.mag * U - s * U := by
        show (a.mag - s) * 2 ^ (a.exp + 20000).toNat = _; rw [← hU, Nat.sub_mul]
      have hle : s * U ≤ a.mag * U := Nat.mul_le_mul_right U hsl
      unfold sval
      rw [vt, va, vb]
      show (if a.minus = true then _ else _) = _
      revert hle
      generalize a.mag * U = p; generalize s * U = q
      intro hle
      revert hsg
      cases a.minus <;> cases b.minus <;> simp <;> omega
theorem add_lossy (a b : Num) (ha : Rp a) (hb : Rp b) (hc : a.cls = 1) (ho : b.exp ≤ a.exp) (he : b.mag % 2 ^ (a.exp - b.exp).toNat ≠ 0) :
    ((addN a b).cls = 1 ∧ (addN a b).mag < 2 ^ 128 ∧ -10000 ≤ (addN a b).exp ∧ (addN a b).mag % 2 = 1 ∧ 2 ^ 125 ≤ (addN a b).mag) ∧ ∀ C : Num, C.mag < 2 ^ 53 → -10000 ≤ C.exp → sval C ≠ sval a + sval b := by
  obtain ⟨a1, a2, a3, a4, a5⟩ := ha
  obtain ⟨b1, b2, b3, b4, b5⟩ := hb
  have h127 : (2 : Nat) ^ 127 + 2 ^ 127 = 2 ^ 128 := by decide
  have h126 : (2 : Nat) ^ 126 = 2 ^ 125 + 2 ^ 125 := by decide
  have h53 : (2 : Nat) ^ 53 < 2 ^ 125 := by decide
  obtain ⟨n, hn⟩ : ∃ n, n = (a.exp - b.exp).toNat := ⟨_, rfl⟩
  rw [← hn] at he
  have hn75 : 74 < n := by
    apply Nat.lt_of_not_le; intro hle
    apply he
    have e : b.mag % 2 ^ 74 % 2 ^ n = b.mag % 2 ^ n := Nat.mod_mod_of_dvd _ (Nat.pow_dvd_pow 2 hle)
    rw [b3, Nat.zero_mod] at e; exact e.symm
  have hbn : b.mag / 2 ^ n < 2 ^ 53 := by
    rw [Nat.div_lt_iff_lt_mul (Nat.two_pow_pos n), ← Nat.pow_add]
    exact Nat.lt_of_lt_of_le b2 (Nat.pow_le_pow_right (by decide) (by omega))
  obtain ⟨s, hse⟩ : ∃ s, s = rsticky b.mag n := ⟨_, rfl⟩
  have hs : s % 2 = 1 ∧ s ≤ b.mag / 2 ^ n + 1 := by
    rw [hse]
    rcases rsticky_cases b.mag n (by omega) with h | h
    · exact absurd h.1 he
    · exact h.2
  have ha2 : a.mag % 2 = 0 := by
    have e : a.mag % 2 ^ 74 % 2 = a.mag % 2 := Nat.mod_mod_of_dvd _ (by decide)
    rw [a3] at e; omega
  have ea : addN a b = if a.minus = b.minus then ⟨a.cls, a.minus, a.exp, a.mag + s⟩ else if a.mag = s then ⟨0, false, 0, 0⟩ else ⟨a.cls, a.minus, a.exp, a.mag - s⟩ := by
    unfold addN; simp only; rw [← hn, ← hse]
  refine ⟨?_, ?_⟩
  · rw [ea]
    by_cases hsg : a.minus = b.minus
    · rw [if_pos hsg]
      refine ⟨hc, ?_, a4, ?_, ?_⟩
      · show a.mag + s < 2 ^ 128; omega
      · show (a.mag + s) % 2 = 1; omega
      · show 2 ^ 125 ≤ a.mag + s; omega
    · rw [if_neg hsg, if_neg (by omega)]
      refine ⟨hc, ?_, a4, ?_, ?_⟩
      · show a.mag - s < 2 ^ 128; omega
      · show (a.mag - s) % 2 = 1; omega
      · show 2 ^ 125 ≤ a.mag - s; omega
  · intro C hC hCe hv
    obtain ⟨q, hq⟩ : ∃ q, q = (b.exp + 20000).toNat := ⟨_, rfl⟩
    have va : val a = a.mag * 2 ^ n * 2 ^ q := by
      rw [hq]; unfold val; exact (pow_join a.mag n b.exp a.exp (by omega) (by omega)).symm
    have vb : val b = b.mag * 2 ^ q := by rw [hq]; rfl
    have hbig : 2 ^ 126 * 2 ^ n ≤ a.mag * 2 ^ n := Nat.mul_le_mul_right _ a1
    have h2n : 2 ≤ 2 ^ n := by
      obtain ⟨k, rfl⟩ : ∃ k, n = k + 1 := ⟨n - 1, by omega⟩
      rw [Nat.pow_succ]; have := Nat.two_pow_pos k; omega
    have hb125 : b.mag ≤ 2 ^ 125 * 2 ^ n := by
      have h4 : 2 ^ 125 * 4 ≤ 2 ^ 125 * 2 ^ n := Nat.mul_le_mul_left _ (by
        obtain ⟨k, rfl⟩ : ∃ k, n = k + 2 := ⟨n - 2, by omega⟩
        rw [Nat.pow_add]; have := Nat.two_pow_pos k; omega)
      have h5 : (2 : Nat) ^ 127 = 2 ^ 125 * 4 := by decide
      omega
    have h126n : 2 ^ 126 * 2 ^ n = 2 ^ 125 * 2 ^ n + 2 ^ 125 * 2 ^ n := by rw [h126, Nat.add_mul]
    have hWW : ∃ W, val C = W * 2 ^ q ∧ 2 ^ 125 * 2 ^ n ≤ W ∧ W % 2 ^ n ≠ 0 := by
      have hmod1 : (a.mag * 2 ^ n + b.mag) % 2 ^ n ≠ 0 := by rw [Nat.add_comm, Nat.add_mul_mod_self_right]; exact he
      have hmod2 : (a.mag * 2 ^ n - b.mag) % 2 ^ n ≠ 0 := by
        intro h0
        have h1 : (a.mag * 2 ^ n - b.mag + b.mag) % 2 ^ n = b.mag % 2 ^ n := by
          rw [Nat.add_mod, h0, Nat.zero_add, Nat.mod_mod]
        rw [Nat.sub_add_cancel (by omega), Nat.mul_mod_left] at h1
        exact he h1.symm
      have hc1 : val C = val a + val b ∨ val C = val a - val b := by
        have hle : val b ≤ val a := by rw [va, vb]; exact Nat.mul_le_mul_right _ (by omega)
        revert hv
        unfold sval
        cases C.minus <;> cases a.minus <;> cases b.minus <;> simp <;> omega
      rcases hc1 with h | h
      · exact ⟨_, by rw [h, va, vb, ← Nat.add_mul], by omega, hmod1⟩
      · exact ⟨_, by rw [h, va, vb, ← Nat.sub_mul], by omega, hmod2⟩
    obtain ⟨W, hW1, hW2, hW3⟩ := hWW
    have hW53 : 2 ^ 53 ≤ W := by
      have : 2 ^ 125 * 1 ≤ 2 ^ 125 * 2 ^ n := Nat.mul_le_mul_left _ (Nat.two_pow_pos n)
      omega
    have hcc : C.mag * 2 ^ (C.exp + 20000).toNat = W * 2 ^ q := hW1
    obtain ⟨k, hk1, hk2⟩ := val_far hC hW53 hcc
    by_cases hkn : n ≤ k + 1
    · apply hW3
      obtain ⟨j, hj⟩ : ∃ j, k + 1 = j + n := ⟨k + 1 - n, by omega⟩
      rw [hk2, hj, Nat.pow_add, ← Nat.mul_assoc]; exact Nat.mul_mod_left _ _
    · have h1 : C.mag * 2 ^ (k + 1) < 2 ^ 53 * 2 ^ n := by
        have h2 : C.mag * 2 ^ (k + 1) ≤ C.mag * 2 ^ n := Nat.mul_le_mul_left _ (Nat.pow_le_pow_right (by decide) (by omega))
        have h3 : C.mag * 2 ^ n < 2 ^ 53 * 2 ^ n := Nat.mul_lt_mul_of_pos_right hC (Nat.two_pow_pos n)
        omega
      have h4 : 2 ^ 53 * 2 ^ n ≤ 2 ^ 125 * 2 ^ n := Nat.mul_le_mul_right _ (by omega)
      omega
end Go.Proofs.Ythjdeopfbjmmeaa
