/- Numbers and their bytes. -/
import Derived.Test.YtibgdlianedcbaaF1
namespace Go.Proofs.Ytibgdlianedcbaa
set_option linter.unusedVariables false
set_option linter.unusedSimpArgs false
theorem numR_split (R : Nat → Nat) (j : Nat) : ∀ k, numR R (j + k) = numR R j + 256 ^ j * numR (fun i => R (j + i)) k
  | 0 => by show numR R j = numR R j + 256 ^ j * 0; omega
  | k + 1 => by
    show numR R (j + k) + R (j + k) * 256 ^ (j + k) = numR R j + 256 ^ j * (numR (fun i => R (j + i)) k + R (j + k) * 256 ^ k)
    rw [numR_split R j k, Nat.mul_add, Nat.pow_add, Nat.add_assoc, Nat.mul_left_comm]
theorem numR_congr {R T : Nat → Nat} : ∀ k, (∀ i, i < k → R i = T i) → numR R k = numR T k
  | 0, _ => rfl
  | k + 1, h => by
    show numR R k + R k * 256 ^ k = numR T k + T k * 256 ^ k
    rw [numR_congr k (fun i hi => h i (by omega)), h k (by omega)]
theorem numR_div (R : Nat → Nat) (hR : ∀ i, R i < 256) (j k : Nat) : numR R (j + k) / 256 ^ j = numR (fun i => R (j + i)) k := by
  rw [numR_split, Nat.add_mul_div_left _ _ (Nat.pow_pos (by decide)), Nat.div_eq_of_lt (numR_lt R hR j), Nat.zero_add]
theorem numR_digit (R : Nat → Nat) (hR : ∀ i, R i < 256) (j k : Nat) (h : j < k) : numR R k / 256 ^ j % 256 = R j := by
  obtain ⟨l, rfl⟩ : ∃ l, k = j + (l + 1) := ⟨k - j - 1, by omega⟩
  rw [numR_div R hR j (l + 1), Nat.add_comm l 1, numR_split (fun i => R (j + i)) 1 l]
  show (0 + R (j + 0) * 1 + 256 ^ 1 * _) % 256 = R j
  rw [Nat.add_zero, Nat.zero_add, Nat.mul_one, Nat.pow_one, Nat.add_mul_mod_self_left]
  exact Nat.mod_eq_of_lt (hR j)
theorem numR_zero (R : Nat → Nat) (n : Nat) : ∀ k, (∀ i, n ≤ i → R i = 0) → numR R (n + k) = numR R n
  | 0, _ => rfl
  | k + 1, h => by
    show numR R (n + k) + R (n + k) * 256 ^ (n + k) = _
    rw [numR_zero R n k h, h (n + k) (by omega), Nat.zero_mul, Nat.add_zero]
theorem rB_lt {F : Nat → Nat} (hF : ∀ i, F i < 256) (a n : Nat) : ∀ i, rB F a n i < 256 := by
  intro i
  unfold rB
  split
  · exact hF _
  · decide
theorem rB_num (F : Nat → Nat) (a n : Nat) (hn : n ≤ 8) : numR (rB F a n) 8 = numR (fun i => F (a + i)) n := by
  obtain ⟨k, hk⟩ : ∃ k, 8 = n + k := ⟨8 - n, by omega⟩
  rw [hk, numR_zero (rB F a n) n k (fun i hi => by unfold rB; rw [if_neg (by omega)])]
  exact numR_congr n (fun i hi => by unfold rB; rw [if_pos hi])
theorem readV_yes (F : Nat → Nat) (a n : Nat) (h : hasV a n = true) : readV F a n = numR (fun i => F (a + i)) n := by
  have h' := h
  unfold hasV at h'
  have h2 := (of_decide_eq_true h').1
  unfold readV
  rw [if_pos h, Int.toNat_natCast, rB_num F a n (by omega)]
theorem read1 (F : Nat → Nat) (a : Nat) (h : hasV a 1 = true) : readV F a 1 = F a := by
  have := readV_yes F a 1 h
  have e : readV F a 1 = numR (fun i => F (a + i)) 1 := this
  rw [e]
  show 0 + F (a + 0) * 1 = F a
  rw [Nat.add_zero]; omega
theorem has_iff (a n : Nat) (hn : n = 1 ∨ n = 2 ∨ n = 4 ∨ n = 8) : hasV a n = decide (2147483648 ≤ a ∧ a + n ≤ 2148532224) := by
  unfold hasV
  refine decide_eq_decide.2 ?_
  omega
theorem read8_byte (F : Nat → Nat) (hF : ∀ i, F i < 256) (a i : Nat) (h : hasV a 8 = true) (hi : i < 8) : readV F a 8 / 256 ^ i % 256 = F (a + i) := by
  have e : readV F a 8 = numR (fun i => F (a + i)) 8 := readV_yes F a 8 h
  rw [e, numR_digit _ (fun i => hF _) i 8 hi]
theorem read8_high (F : Nat → Nat) (hF : ∀ i, F i < 256) (a : Nat) (h : hasV a 8 = true) : readV F (a + 4) 4 = readV F a 8 / 4294967296 := by
  have h4 : hasV (a + 4) 4 = true := by
    have h1 := h
    rw [show (8 : Int) = ((8 : Nat) : Int) from rfl, has_iff a 8 (by omega)] at h1
    rw [show (4 : Int) = ((4 : Nat) : Int) from rfl, has_iff (a + 4) 4 (by omega)]
    have := of_decide_eq_true h1
    exact decide_eq_true (by omega)
  have e8 : readV F a 8 = numR (fun i => F (a + i)) 8 := readV_yes F a 8 h
  have e4 : readV F (a + 4) 4 = numR (fun i => F (a + 4 + i)) 4 := readV_yes F (a + 4) 4 h4
  have := numR_div (fun i => F (a + i)) (fun i => hF _) 4 4
  rw [e4, e8, show (4294967296 : Nat) = 256 ^ 4 from rfl, this]
  exact numR_congr 4 (fun i _ => by rw [Nat.add_assoc])
theorem readV_lt {F : Nat → Nat} (hF : ∀ i, F i < 256) (a : Nat) (sz : Int) : readV F a sz < 18446744073709551616 := by
  unfold readV
  split
  · exact numR_lt _ (rB_lt hF a _) 8
  · decide
/-- A write, at one byte. -/
theorem wrF_in (F : Nat → Nat) (a n v y : Nat) (h : hasV a n = true) (h1 : a ≤ y) (h2 : y < a + n) : wrF F a n v y = v / 256 ^ (y - a) % 256 := by
  unfold wrF
  rw [if_pos h, Int.toNat_natCast]
  unfold layF
  rw [if_pos ⟨h1, h2⟩]; rfl
theorem wrF_out (F : Nat → Nat) (a n v y : Nat) (h : y < a ∨ a + n ≤ y) : wrF F a n v y = F y := by
  unfold wrF
  split
  · rw [Int.toNat_natCast]; unfold layF; rw [if_neg (by omega)]
  · rfl
theorem wrF_no (F : Nat → Nat) (a : Nat) (sz : Int) (v : Nat) (h : hasV a sz = false) : wrF F a sz v = F := by
  unfold wrF
  rw [if_neg (by rw [h]; decide)]
end Go.Proofs.Ytibgdlianedcbaa
