/- The document's own answers: bit, bits, part. -/
import Derived.Test.YtcfeeookjgdkmaaDoorF1
import Derived.LoopTactic
namespace Go.Proofs.YtcfeeookjgdkmaaDoor
open Go.ChangeShapes Go.WideShapes Go.ChangeAt Go.RowKit
set_option linter.unusedVariables false
set_option linter.unusedSimpArgs false
theorem pow_cast (m : Nat) : (2 : Int) ^ m = ((2 ^ m : Nat) : Int) := by simp
theorem bit_c (h n : Nat) (hh : Hid (h < 65536)) (hn : n < 16) (w : World) : Calls Tryd.prog 23 #[.int .u16 h, .int .i64 n] w (RetUX (h / 2 ^ n % 2) w) := by
  have hb : h / 2 ^ n < 65536 := Nat.lt_of_le_of_lt (Nat.div_le_self _ _) hh.out
  have H1 : Hid (bits .and .u32 ((h / 2 ^ n : Nat) : Int) 1 = ((h / 2 ^ n % 2 : Nat) : Int)) := u32_low (h / 2 ^ n) 1 (by omega) (by decide)
  have H2 : Hid ((((h / 2 ^ n : Nat) : Int)) % 4294967296 = ((h / 2 ^ n : Nat) : Int)) := by show _ = _; generalize h / 2 ^ n = x at hb ⊢; omega
  have H3 : Hid ((h : Int) / 2 ^ n = ((h / 2 ^ n : Nat) : Int)) := by show _ = _; rw [pow_cast]; simp
  clear hb
  have hn' : (n : Int) ≤ 16 := by omega
  go_enter Tryd.func23, Tryd.ntmps23
  go_wp2_with fail
  go_ret
  exact retUX_mk (by first | exact H1.out | (rw [H3.out, H2.out]; exact H1.out) | (rw [H3.out]; exact H1.out))
theorem low_step (x k : Nat) : x % 2 ^ (k + 1) = 2 * (x / 2 % 2 ^ k) + x % 2 := by
  rw [Nat.pow_succ, Nat.mul_comm, Nat.mod_mul]; omega
theorem div_step (n m : Nat) : n / 2 ^ (m + 1) = n / 2 ^ m / 2 := by rw [Nat.pow_succ, Nat.div_div_eq_div_mul]
/-- The number so far, when k of the bits from hi down are read. -/
def soFar (n hi k : Nat) : Nat := n / 2 ^ (hi + 1 - k) % 2 ^ k
theorem soFar_step (n hi k : Nat) (hk : k ≤ hi) : soFar n hi (k + 1) = 2 * soFar n hi k + n / 2 ^ (hi - k) % 2 := by
  unfold soFar
  rw [show hi + 1 - (k + 1) = hi - k by omega, low_step, show hi + 1 - k = (hi - k) + 1 by omega, div_step]
theorem soFar_lt (n hi k : Nat) : soFar n hi k < 2 ^ k := Nat.mod_lt _ (Nat.two_pow_pos k)
theorem soFar_lt20 (n hi k : Nat) (hk : k ≤ 20) : soFar n hi k < 1048576 := Nat.lt_of_lt_of_le (soFar_lt n hi k) (Nat.pow_le_pow_right (by decide) hk)
theorem soFar_all (n hi lo : Nat) (h : lo ≤ hi) : soFar n hi (hi + 1 - lo) = n / 2 ^ lo % 2 ^ (hi + 1 - lo) := by
  unfold soFar
  rw [show hi + 1 - (hi + 1 - lo) = lo by omega]
set_option maxRecDepth 100000 in
theorem bits_c (h hi lo : Nat) (hh : Hid (h < 65536)) (h1 : lo ≤ hi) (h2 : hi < 16) (w : World) : Calls Tryd.prog 16 #[.int .u16 h, .int .i64 hi, .int .i64 lo] w (RetUX (bitsD h hi lo) w) := by
  have HE : Hid (soFar h hi (hi + 1 - lo) = bitsD h hi lo) := soFar_all h hi lo h1
  go_enter Tryd.func16, Tryd.ntmps16
  go_wp2_with fail
  go_loopw [7, 8] (fun l i wr => ∃ k : Nat, k ≤ hi + 1 - lo ∧ l = .int .u32 (soFar h hi k : Nat) ∧ i = .int .i64 ((hi : Int) - k) ∧ w = wr) (fun _ i _ => (intOf i + 1).toNat)
  case atStart => exact ⟨0, by omega, by simp [soFar, Nat.mod_one], by simp, rfl⟩
  case round =>
    obtain ⟨k, hk, rfl, rfl, rfl⟩ := hrel
    by_cases hlt : k < hi + 1 - lo
    · have hlt' : (lo : Int) ≤ (hi : Int) - k := by omega
      obtain ⟨m, hm⟩ : ∃ m : Nat, m = hi - k := ⟨_, rfl⟩
      have em : (hi : Int) - (k : Int) = (m : Int) := by omega
      have hlt2 : (lo : Int) ≤ (m : Int) := by omega
      have hb20 := soFar_lt20 h hi k (by omega)
      have HS : Hid (soFar h hi (k + 1) = 2 * soFar h hi k + h / 2 ^ m % 2) := by show _ = _; rw [hm]; exact soFar_step h hi k (by omega)
      have hm16 : m < 16 := by omega
      have H20 : Hid (soFar h hi k < 1048576) := hb20
      have HM := Lib.hid em
      obtain ⟨b, hb⟩ : ∃ b, b = h / 2 ^ m % 2 := ⟨_, rfl⟩
      have hb2 : Hid (b < 2) := by show _ < _; omega
      have hbit := Lib.hid (bit_c h m hh hm16 w)
      rw [← hb] at HS hbit
      generalize soFar h hi k = s at *
      clear hb20 hb hm
      rw [em]
      go_wp2_with fail
      refine (hbit.out).mono ?_; rintro e u ⟨rfl, rfl⟩
      go_wp2_with fail
      go_roundw
      case rel =>
        have h20 := H20.out; have hbb := hb2.out
        exact ⟨k + 1, by omega, by rw [HS.out]; congr 1; omega, by congr 1; have := HM.out; first | omega | (rw [IntWalk.i64_in _ (by omega)]; omega), by first | rfl | trivial⟩
      case measure =>
        have := HM.out
        first | (simp [intOf]; done) | (simp [intOf]; omega)
    · have hk' : k = hi + 1 - lo := by omega
      have hlt' : ¬ (lo : Int) ≤ (hi : Int) - k := by omega
      go_wp2_with fail
      go_ret
      exact retUX_mk (by first | rw [HE.out] | rw [hk', HE.out])
set_option maxRecDepth 100000 in
theorem part_c (h hi lo : Nat) (hh : Hid (h < 4294967296)) (h1 : lo ≤ hi) (h2 : hi < 32) (h3 : hi + 1 - lo ≤ 20) (w : World) : Calls Tryd.prog 40 #[.int .u32 h, .int .i64 hi, .int .i64 lo] w (RetUX (partD h hi lo) w) := by
  have HE : Hid (soFar h hi (hi + 1 - lo) = partD h hi lo) := soFar_all h hi lo h1
  go_enter Tryd.func40, Tryd.ntmps40
  go_wp2_with fail
  go_loopw [7, 8] (fun l i wr => ∃ k : Nat, k ≤ hi + 1 - lo ∧ l = .int .u32 (soFar h hi k : Nat) ∧ i = .int .i64 ((hi : Int) - k) ∧ w = wr) (fun _ i _ => (intOf i + 1).toNat)
  case atStart => exact ⟨0, by omega, by simp [soFar, Nat.mod_one], by simp, rfl⟩
  case round =>
    obtain ⟨k, hk, rfl, rfl, rfl⟩ := hrel
    by_cases hlt : k < hi + 1 - lo
    · have hlt' : (lo : Int) ≤ (hi : Int) - k := by omega
      obtain ⟨m, hm⟩ : ∃ m : Nat, m = hi - k := ⟨_, rfl⟩
      have em : (hi : Int) - (k : Int) = (m : Int) := by omega
      have hlt2 : (lo : Int) ≤ (m : Int) := by omega
      have hb20 := soFar_lt20 h hi k (by omega)
      have HS : Hid (soFar h hi (k + 1) = 2 * soFar h hi k + h / 2 ^ m % 2) := by show _ = _; rw [hm]; exact soFar_step h hi k (by omega)
      have hm16 : (m : Int) ≤ 32 := by omega
      have hx : h / 2 ^ m < 4294967296 := Nat.lt_of_le_of_lt (Nat.div_le_self _ _) hh.out
      have e1 : (h : Int) / 2 ^ m = ((h / 2 ^ m : Nat) : Int) := by rw [pow_cast]; simp
      have e2 : bits .and .u32 ((h : Int) / 2 ^ m) 1 = ((h / 2 ^ m % 2 : Nat) : Int) := by rw [e1]; exact u32_low (h / 2 ^ m) 1 hx (by decide)
      have H20 : Hid (soFar h hi k < 1048576) := hb20
      have HM := Lib.hid em
      obtain ⟨b, hb⟩ : ∃ b, b = h / 2 ^ m % 2 := ⟨_, rfl⟩
      have hb2 : Hid (b < 2) := by show _ < _; omega
      rw [← hb] at HS e2
      clear hx e1
      generalize soFar h hi k = s at *
      clear hb20 hb hm
      rw [em]
      go_wp2_with fail
      go_roundw
      case rel =>
        have h20 := H20.out; have hbb := hb2.out
        exact ⟨k + 1, by omega, by rw [HS.out]; congr 1; omega, by congr 1; have := HM.out; first | omega | (rw [IntWalk.i64_in _ (by omega)]; omega), by first | rfl | trivial⟩
      case measure =>
        have := HM.out
        first | (simp [intOf]; done) | (simp [intOf]; omega)
    · have hk' : k = hi + 1 - lo := by omega
      have hlt' : ¬ (lo : Int) ≤ (hi : Int) - k := by omega
      go_wp2_with fail
      go_ret
      exact retUX_mk (by first | rw [HE.out] | rw [hk', HE.out])
end Go.Proofs.YtcfeeookjgdkmaaDoor
