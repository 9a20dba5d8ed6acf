/- What the code makes of words, in the walk's own forms, are the plain words of M0. -/
import Derived.Test.YtbbgcjdflcfnjaaA
namespace Go.Proofs.Ytbbgcjdflcfnjaa
open Go.RowKit
set_option linter.unusedVariables false
set_option linter.unusedSimpArgs false
theorem pow_cast (m : Nat) : (2 : Int) ^ m = ((2 ^ m : Nat) : Int) := by simp
theorem rem_mod (N x y a b q : Int) (ha : a % N = x % N) (hb : b % N = y % N) : (a - b * (q % N) % N) % N = (x - y * q) % N := by
  have e1 : b * (q % N) % N = y * q % N := by
    rw [Int.mul_emod b, hb, Int.emod_emod, ← Int.mul_emod]
  rw [e1, Int.sub_emod x, ← ha, Int.sub_emod a, Int.emod_emod]
theorem sgn_mod (half a : Nat) (h : a < 2 * half) : (a : Int) % (2 * half : Nat) = sgn half a % (2 * half : Nat) := by
  unfold sgn; split
  · rfl
  · rw [show ((a : Int) - 2 * half) = (a : Int) - ((2 * half : Nat) : Int) by omega, Int.sub_emod_right]
theorem un32 : ((2 * H32 : Nat) : Int) = 4294967296 := by decide
theorem sw32 (a : Nat) (h : a < 4294967296) : wrap32 (a : Int) = sgn H32 a := by
  rw [← IntWalk.i32_left]; exact swrap32 a h
theorem sw32_mod (x : Int) : wrap32 x % 4294967296 = x % 4294967296 := by
  rw [← IntWalk.i32_left, IntKind.wrap_i32]; omega
theorem sub32 (a b : Nat) (ha : a < 4294967296) (hb : b < 4294967296) : ((a : Int) + -(b : Int) % 4294967296) % 4294967296 = (((a + (2 * H32 - b)) % (2 * H32) : Nat) : Int) := by unfold H32; omega
theorem sll32 (a s : Nat) : (a : Int) * 2 ^ s % 4294967296 = ((a * 2 ^ s % (2 * H32) : Nat) : Int) := by
  rw [pow_cast, ← Int.natCast_mul]; generalize a * 2 ^ s = m; unfold H32; omega
theorem srl32 (a s : Nat) : (a : Int) / 2 ^ s = ((a / 2 ^ s : Nat) : Int) := by simp
theorem sra32 (a s : Nat) (ha : a < 4294967296) : wrap32 (a : Int) / 2 ^ s % 4294967296 = ((sraV H32 a s : Nat) : Int) := by
  unfold sraV; rw [uns_cast (by decide), sw32 a ha]; rfl
theorem div32 (a b : Nat) (ha : a < 4294967296) (hb : b < 4294967296) (hz : ¬ b = 0) : wrap32 ((wrap32 (a : Int)).tdiv (wrap32 (b : Int))) % 4294967296 = ((quoS H32 a b : Nat) : Int) := by
  unfold quoS; rw [if_neg hz, uns_cast (by decide), sw32_mod, sw32 a ha, sw32 b hb]; rfl
theorem rem32 (a b : Nat) (ha : a < 4294967296) (hb : b < 4294967296) (hz : ¬ b = 0) : ((a : Int) - (b : Int) * (wrap32 ((wrap32 (a : Int)).tdiv (wrap32 (b : Int))) % 4294967296) % 4294967296) % 4294967296 = ((remS H32 a b : Nat) : Int) := by
  unfold remS; rw [if_neg hz, uns_cast (by decide), sw32_mod, sw32 a ha, sw32 b hb, Int.tmod_def]
  exact rem_mod 4294967296 _ _ _ _ _ (sgn_mod H32 a ha) (sgn_mod H32 b hb)
theorem remu32 (a b : Nat) (ha : a < 4294967296) (hz : ¬ b = 0) : ((a : Int) - (b : Int) * ((a : Int) / (b : Int)) % 4294967296) % 4294967296 = ((remU H32 a b : Nat) : Int) := by
  unfold remU; rw [if_neg hz]
  have e : ((b : Int) * ((a : Int) / (b : Int))) = ((b * (a / b) : Nat) : Int) := by simp
  have d := Nat.div_add_mod a b
  rw [e]; generalize b * (a / b) = m at *; generalize a % b = r at *; omega
theorem snz32 (b : Nat) (hb : b < 4294967296) (hz : ¬ b = 0) : wrap32 (b : Int) ≠ 0 := by
  rw [sw32 b hb]; intro h; exact hz ((sgn_zero (by decide) hb).1 h)
theorem un64 : ((2 * H64 : Nat) : Int) = 18446744073709551616 := by decide
theorem sw64 (a : Nat) (h : a < 18446744073709551616) : wrap64 (a : Int) = sgn H64 a := by
  rw [← IntWalk.i64_left]; exact swrap64 a h
theorem sw64_mod (x : Int) : wrap64 x % 18446744073709551616 = x % 18446744073709551616 := by
  rw [← IntWalk.i64_left, IntKind.wrap_i64]; omega
theorem sub64 (a b : Nat) (ha : a < 18446744073709551616) (hb : b < 18446744073709551616) : ((a : Int) + -(b : Int) % 18446744073709551616) % 18446744073709551616 = (((a + (2 * H64 - b)) % (2 * H64) : Nat) : Int) := by unfold H64; omega
theorem sll64 (a s : Nat) : (a : Int) * 2 ^ s % 18446744073709551616 = ((a * 2 ^ s % (2 * H64) : Nat) : Int) := by
  rw [pow_cast, ← Int.natCast_mul]; generalize a * 2 ^ s = m; unfold H64; omega
theorem srl64 (a s : Nat) : (a : Int) / 2 ^ s = ((a / 2 ^ s : Nat) : Int) := by simp
theorem sra64 (a s : Nat) (ha : a < 18446744073709551616) : wrap64 (a : Int) / 2 ^ s % 18446744073709551616 = ((sraV H64 a s : Nat) : Int) := by
  unfold sraV; rw [uns_cast (by decide), sw64 a ha]; rfl
theorem div64 (a b : Nat) (ha : a < 18446744073709551616) (hb : b < 18446744073709551616) (hz : ¬ b = 0) : wrap64 ((wrap64 (a : Int)).tdiv (wrap64 (b : Int))) % 18446744073709551616 = ((quoS H64 a b : Nat) : Int) := by
  unfold quoS; rw [if_neg hz, uns_cast (by decide), sw64_mod, sw64 a ha, sw64 b hb]; rfl
theorem rem64 (a b : Nat) (ha : a < 18446744073709551616) (hb : b < 18446744073709551616) (hz : ¬ b = 0) : ((a : Int) - (b : Int) * (wrap64 ((wrap64 (a : Int)).tdiv (wrap64 (b : Int))) % 18446744073709551616) % 18446744073709551616) % 18446744073709551616 = ((remS H64 a b : Nat) : Int) := by
  unfold remS; rw [if_neg hz, uns_cast (by decide), sw64_mod, sw64 a ha, sw64 b hb, Int.tmod_def]
  exact rem_mod 18446744073709551616 _ _ _ _ _ (sgn_mod H64 a ha) (sgn_mod H64 b hb)
theorem remu64 (a b : Nat) (ha : a < 18446744073709551616) (hz : ¬ b = 0) : ((a : Int) - (b : Int) * ((a : Int) / (b : Int)) % 18446744073709551616) % 18446744073709551616 = ((remU H64 a b : Nat) : Int) := by
  unfold remU; rw [if_neg hz]
  have e : ((b : Int) * ((a : Int) / (b : Int))) = ((b * (a / b) : Nat) : Int) := by simp
  have d := Nat.div_add_mod a b
  rw [e]; generalize b * (a / b) = m at *; generalize a % b = r at *; omega
theorem snz64 (b : Nat) (hb : b < 18446744073709551616) (hz : ¬ b = 0) : wrap64 (b : Int) ≠ 0 := by
  rw [sw64 b hb]; intro h; exact hz ((sgn_zero (by decide) hb).1 h)
/-- All bits 1, if the highest one is. -/
def signV (a : Nat) : Nat := if a < 9223372036854775808 then 0 else 18446744073709551615
theorem signV_eq (a : Nat) (ha : a < 18446744073709551616) : wrap64 (a : Int) / 9223372036854775808 % 18446744073709551616 = ((signV a : Nat) : Int) := by
  rw [sw64 a ha]; unfold sgn signV H64; split <;> omega
end Go.Proofs.Ytbbgcjdflcfnjaa
