/- The document's part and Fault. -/
import Derived.Test.YthhlcchofilimaaGreatDoorD1
import Derived.Deep.LoopGhost
namespace Go.Proofs.YthhlcchofilimaaGreatDoor
open Go.ChangeShapes Go.WideShapes Go.ChangeAt Go.RowKit Go.Sort Y
set_option linter.unusedVariables false
set_option linter.unusedSimpArgs false

theorem part_m (n i m : Nat) : 2 * (n / 2 ^ (i + 1) % 2 ^ m) + n / 2 ^ i % 2 = n / 2 ^ i % 2 ^ (m + 1) := by
  rw [Nat.pow_succ 2 i, ← Nat.div_div_eq_div_mul, Nat.pow_succ 2 m, Nat.mul_comm (2 ^ m) 2, Nat.mod_mul]
  omega
theorem bit_n (n y : Nat) (hn : n < 18446744073709551616) : bits .and .u64 ((n : Int) / 2 ^ y) 1 = ((n / 2 ^ y % 2 : Nat) : Int) := by
  have h : (n : Int) / 2 ^ y = ((n / 2 ^ y : Nat) : Int) := by simp
  have h2 := and_n (n / 2 ^ y) 1 (Nat.lt_of_le_of_lt (Nat.div_le_self _ _) hn) (by decide)
  rw [h]; exact h2
set_option maxRecDepth 100000 in
theorem part_c (n hi lo : Nat) (hn : Hid (n < 18446744073709551616)) (hh : Hid (hi < 64)) (hl : Hid (lo ≤ hi + 1)) (w : World) : Calls Tryz.prog 37 #[.int .u64 n, .int .i64 hi, .int .i64 lo] w (RetUX (n / 2 ^ lo % 2 ^ (hi + 1 - lo)) w) := by
  go_enter Tryz.func37, Tryz.ntmps37
  go_wp2_with fail
  go_loopg [7, 8] (hi + 1 - lo) (fun gg o i wr => wr = w ∧ ∃ (v : Nat) (j : Int), o = .int .u64 v ∧ i = .int .i64 j ∧ Hid (j = (lo : Int) + gg - 1) ∧ Hid (gg ≤ hi + 1 - lo) ∧ Hid (v = n / 2 ^ (lo + gg) % 2 ^ (hi + 1 - lo - gg)))
  case atStart =>
    refine ⟨rfl, 0, hi, rfl, rfl, ?_, Nat.le_refl _, ?_⟩
    · have := hl.out
      show (hi : Int) = (lo : Int) + ((hi + 1 - lo : Nat) : Int) - 1
      omega
    · show 0 = _
      rw [Nat.sub_self, Nat.pow_zero, Nat.mod_one]
  case round =>
    obtain ⟨rfl, v, j, rfl, rfl, hj, hg, hv⟩ := hrel
    cases gk with
    | zero =>
      have d1 : decide ((lo : Int) ≤ j) = false := decide_eq_false (by have := hj.out; omega)
      go_wp2_with fail
      go_ret
      have e := hv.out
      simp only [Nat.add_zero, Nat.sub_zero] at e
      exact retUX_mk (by rw [e])
    | succ g =>
      obtain ⟨y, hy⟩ : ∃ y : Nat, y = lo + g := ⟨_, rfl⟩
      obtain rfl : j = (y : Int) := by have := hj.out; omega
      have hb : y < 64 := by have := hg.out; have := hh.out; omega
      have d1 : decide ((lo : Int) ≤ (y : Int)) = true := decide_eq_true (by omega)
      have d2 : decide (lo ≤ y) = true := decide_eq_true (by omega)
      have w1 : wrap64 ((y : Int) - 1) = (y : Int) - 1 := by unfold wrap64; omega
      have hm : hi + 1 - lo - g = (hi + 1 - lo - (g + 1)) + 1 := by have := hg.out; omega
      obtain ⟨v2, hv2⟩ : ∃ v2, v2 = n / 2 ^ y % 2 ^ (hi + 1 - lo - g) := ⟨_, rfl⟩
      have e2 : 2 * v + n / 2 ^ y % 2 = v2 := by
        rw [hv2, hm, hv.out, ← part_m, show lo + (g + 1) = y + 1 by omega]
      have b2 : v2 < 18446744073709551616 := by
        have h1 : v2 < 2 ^ (hi + 1 - lo - g) := by rw [hv2]; exact Nat.mod_lt _ (Nat.pow_pos (by decide))
        exact Nat.lt_of_lt_of_le h1 (Nat.pow_le_pow_right (by decide) (show hi + 1 - lo - g ≤ 64 by have := hh.out; omega))
      have E : IntKind.u64.wrap (IntKind.u64.wrap (2 * (v : Int)) + bits .and .u64 ((n : Int) / 2 ^ y) 1) = (v2 : Int) := by
        rw [bit_n n y hn.out]
        generalize n / 2 ^ y % 2 = q at e2 ⊢
        simp only [IntKind.wrap_u64]; omega
      have HE := Lib.hid hv2
      have HY := Lib.hid hy
      clear e2 b2 hm hv2 hv hj hy
      go_wp2_with fail
      go_roundg g
      case measure => omega
      case rel =>
        refine ⟨rfl, _, _, rfl, rfl, ?_, ?_, ?_⟩
        · have := HY.out; show (y : Int) - 1 = (lo : Int) + (g : Int) - 1; omega
        · have := hg.out; show g ≤ _; omega
        · rw [← HY.out]; exact HE.out
end Go.Proofs.YthhlcchofilimaaGreatDoor
