/- What the code makes of words, in the walk's own forms, are the plain words of M0. -/
import Derived.Test.YtilfeanampomjaaA
import Derived.Laws.BitsAllLaws
namespace Go.Proofs.Ytilfeanampomjaa
open Go.RowKit
set_option linter.unusedVariables false
set_option linter.unusedSimpArgs false
theorem and_mask (x k : Nat) (hk : k ≤ 64) (hx : x < 18446744073709551616) : bits .and .u64 (x : Int) ((2 ^ k - 1 : Nat) : Int) = ((x % 2 ^ k : Nat) : Int) := by
  have h1 : 2 ^ k ≤ 2 ^ 64 := Nat.pow_le_pow_right (by decide) hk
  have h2 := Nat.two_pow_pos k
  rw [u64_and_nat x (2 ^ k - 1) hx (by omega), Nat.and_two_pow_sub_one_eq_mod]
theorem and1 (x : Nat) (hx : x < 18446744073709551616) : bits .and .u64 (x : Int) 1 = ((x % 2 : Nat) : Int) := and_mask x 1 (by decide) hx
theorem and32 (x : Nat) (hx : x < 18446744073709551616) : bits .and .u64 (x : Int) 4294967295 = ((x % 4294967296 : Nat) : Int) := and_mask x 32 (by decide) hx
theorem and64 (x : Nat) (hx : x < 18446744073709551616) : bits .and .u64 (x : Int) 18446744073709551615 = (x : Int) := by
  have := and_mask x 64 (by decide) hx
  rw [show x % 2 ^ 64 = x from Nat.mod_eq_of_lt hx] at this
  exact this
theorem andhi (x : Nat) (hx : x < 18446744073709551616) : bits .and .u64 ((x : Int) / 4294967296) 4294967295 = ((x / 4294967296 : Nat) : Int) := by
  have := and32 (x / 4294967296) (by omega)
  rw [show ((x : Int) / 4294967296) = ((x / 4294967296 : Nat) : Int) by simp, this]
  congr 1; omega
theorem not1 (x : Nat) (hx : x < 2) : bits .andNot .u64 (x : Int) 1 = ((0 : Nat) : Int) := by
  rw [show (1 : Int) = ((1 : Nat) : Int) by rfl, u64_andNot_nat x 1 (by omega) (by decide)]
  have : x = 0 ∨ x = 1 := by omega
  rcases this with rfl | rfl <;> rfl
theorem not64 (x : Nat) (hx : x < 18446744073709551616) : bits .andNot .u64 (x : Int) 18446744073709551615 = ((0 : Nat) : Int) := by
  rw [show (18446744073709551615 : Int) = ((18446744073709551615 : Nat) : Int) by rfl, u64_andNot_nat x 18446744073709551615 hx (by decide), Nat.sub_self, Nat.and_zero]
theorem notlo (x : Nat) (hx : x < 18446744073709551616) : bits .andNot .u64 (x : Int) 4294967295 = ((x / 4294967296 * 4294967296 : Nat) : Int) := by
  rw [show (4294967295 : Int) = ((4294967295 : Nat) : Int) by rfl, u64_andNot_nat x 4294967295 hx (by decide)]
  congr 1
  show x &&& ((2 ^ 32 - 1) * 2 ^ 32) = x / 2 ^ 32 * 2 ^ 32
  refine Nat.eq_of_testBit_eq fun i => ?_
  rw [Nat.testBit_and, Nat.testBit_mul_two_pow, Nat.testBit_mul_two_pow, Nat.testBit_two_pow_sub_one, Nat.testBit_div_two_pow]
  by_cases h : 32 ≤ i
  · rw [show i - 32 + 32 = i by omega]
    by_cases h2 : i < 64
    · simp [h]; intro; omega
    · have : x.testBit i = false := Nat.testBit_lt_two_pow (Nat.lt_of_lt_of_le hx (show 18446744073709551616 ≤ 2 ^ i from (Nat.pow_le_pow_right (by decide) (show 64 ≤ i by omega) : 2 ^ 64 ≤ 2 ^ i)))
      simp [this]
  · simp [h]
theorem nothi (x : Nat) (hx : x < 18446744073709551616) : bits .andNot .u64 (x : Int) 18446744069414584320 = ((x % 4294967296 : Nat) : Int) := by
  rw [show (18446744069414584320 : Int) = ((18446744069414584320 : Nat) : Int) by rfl, u64_andNot_nat x 18446744069414584320 hx (by decide)]
  congr 1
  exact Nat.and_two_pow_sub_one_eq_mod x 32
theorem or_zero (x : Nat) (hx : x < 18446744073709551616) : bits .or .u64 ((0 : Nat) : Int) (x : Int) = (x : Int) := by
  rw [u64_or_nat 0 x (by decide) hx, Nat.zero_or]
theorem or_lo (x v : Nat) (hx : x < 18446744073709551616) (hv : v < 4294967296) : bits .or .u64 ((x / 4294967296 * 4294967296 : Nat) : Int) (v : Int) = ((x / 4294967296 * 4294967296 + v : Nat) : Int) := by
  rw [u64_or_nat _ _ (by omega) (by omega)]
  congr 1
  have := Nat.two_pow_add_eq_or_of_lt (i := 32) (b := v) hv (x / 4294967296)
  rw [Nat.mul_comm] at this
  exact this.symm
theorem or_hi (x v : Nat) (hx : x < 4294967296) (hv : v < 4294967296) : bits .or .u64 (x : Int) ((v * 4294967296 : Nat) : Int) = ((v * 4294967296 + x : Nat) : Int) := by
  rw [u64_or_nat _ _ (by omega) (by omega)]
  congr 1
  have := Nat.two_pow_add_eq_or_of_lt (i := 32) (b := x) hx v
  rw [Nat.mul_comm, Nat.or_comm] at this
  exact this.symm
theorem wr1_eq (s v : Nat) (hs : s < 2) (hv : v < 18446744073709551616) : bits .or .u64 (bits .andNot .u64 (s : Int) 1) (IntKind.u64.wrap (bits .and .u64 (v : Int) 1)) = ((v % 2 : Nat) : Int) := by
  rw [not1 s hs, and1 v hv, IntKind.wrap_u64, show ((v % 2 : Nat) : Int) % 18446744073709551616 = ((v % 2 : Nat) : Int) by omega, or_zero _ (by omega)]
theorem wr64_eq (a v : Nat) (ha : a < 18446744073709551616) (hv : v < 18446744073709551616) : bits .or .u64 (bits .andNot .u64 (a : Int) 18446744073709551615) (IntKind.u64.wrap (bits .and .u64 (v : Int) 18446744073709551615)) = (v : Int) := by
  rw [not64 a ha, and64 v hv, IntKind.wrap_u64, show (v : Int) % 18446744073709551616 = (v : Int) by omega, or_zero _ hv]
theorem wrlo_eq (a v : Nat) (ha : a < 18446744073709551616) (hv : v < 18446744073709551616) : bits .or .u64 (bits .andNot .u64 (a : Int) 4294967295) (IntKind.u64.wrap (bits .and .u64 (v : Int) 4294967295)) = ((loW a v : Nat) : Int) := by
  rw [notlo a ha, and32 v hv, IntKind.wrap_u64, show ((v % 4294967296 : Nat) : Int) % 18446744073709551616 = ((v % 4294967296 : Nat) : Int) by omega, or_lo a _ ha (by omega)]
  rfl
theorem wrhi_eq (a v : Nat) (ha : a < 18446744073709551616) (hv : v < 18446744073709551616) : bits .or .u64 (bits .andNot .u64 (a : Int) 18446744069414584320) (IntKind.u64.wrap (bits .and .u64 (v : Int) 4294967295 * 4294967296)) = ((hiW a v : Nat) : Int) := by
  rw [nothi a ha, and32 v hv, IntKind.wrap_u64, show ((v % 4294967296 : Nat) : Int) * 4294967296 % 18446744073709551616 = ((v % 4294967296 * 4294967296 : Nat) : Int) by omega, or_hi _ _ (by omega) (by omega)]
  rfl
theorem lo_lt (a v : Nat) (ha : a < 18446744073709551616) : loW a v < 18446744073709551616 := by unfold loW; omega
theorem hi_lt (a v : Nat) : hiW a v < 18446744073709551616 := by unfold hiW; omega
theorem wrS_lt (k s v : Nat) (hs : s < 2) : wrS k s v < 2 := by unfold wrS; split <;> omega
theorem wrA_lt (k a v : Nat) (ha : a < 18446744073709551616) (hv : v < 18446744073709551616) : wrA k a v < 18446744073709551616 := by
  unfold wrA; split; exact hv; split; exact lo_lt a v ha; split; exact hi_lt a v; exact ha
theorem wrT_lt (k a v : Nat) (ha : a < 18446744073709551616) (hv : v < 18446744073709551616) : wrT k a v < 18446744073709551616 := by
  unfold wrT; split; exact hv; split; exact lo_lt a v ha; split; exact hi_lt a v; exact ha
theorem IsC.set0 {w : World} {b x y z : Nat} (h : IsC w b x y z) {e : Int} {n : Nat} (he : e = n) : IsC (w.setCell ⟨b, 0, none⟩ (.int .u64 e)) b n y z := by
  obtain ⟨h0, c0, c1, c2, f0, f1, f2⟩ := h
  refine ⟨by rw [sz_set]; exact h0, ?_, ?_, ?_, ?_, ?_, ?_⟩
  · rw [World.cell?_setCell_same _ _ _ c0, he]
  · rw [World.cell?_setCell_other _ _ _ _ (by simp)]; exact c1
  · rw [World.cell?_setCell_other _ _ _ _ (by simp)]; exact c2
  · simpa using f0
  · simpa using f1
  · simpa using f2
theorem IsC.set1 {w : World} {b x y z : Nat} (h : IsC w b x y z) {e : Int} {n : Nat} (he : e = n) : IsC (w.setCell ⟨b, 1, none⟩ (.int .u64 e)) b x n z := by
  obtain ⟨h0, c0, c1, c2, f0, f1, f2⟩ := h
  refine ⟨by rw [sz_set]; exact h0, ?_, ?_, ?_, ?_, ?_, ?_⟩
  · rw [World.cell?_setCell_other _ _ _ _ (by simp)]; exact c0
  · rw [World.cell?_setCell_same _ _ _ c1, he]
  · rw [World.cell?_setCell_other _ _ _ _ (by simp)]; exact c2
  · simpa using f0
  · simpa using f1
  · simpa using f2
theorem IsC.set2 {w : World} {b x y z : Nat} (h : IsC w b x y z) {e : Int} {n : Nat} (he : e = n) : IsC (w.setCell ⟨b, 2, none⟩ (.int .u64 e)) b x y n := by
  obtain ⟨h0, c0, c1, c2, f0, f1, f2⟩ := h
  refine ⟨by rw [sz_set]; exact h0, ?_, ?_, ?_, ?_, ?_, ?_⟩
  · rw [World.cell?_setCell_other _ _ _ _ (by simp)]; exact c0
  · rw [World.cell?_setCell_other _ _ _ _ (by simp)]; exact c1
  · rw [World.cell?_setCell_same _ _ _ c2, he]
  · simpa using f0
  · simpa using f1
  · simpa using f2
end Go.Proofs.Ytilfeanampomjaa
