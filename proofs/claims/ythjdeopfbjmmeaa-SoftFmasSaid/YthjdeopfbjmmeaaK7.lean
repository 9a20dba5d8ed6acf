/- The reference's Len, Low. -/
import Derived.Test.YthjdeopfbjmmeaaK6
namespace Go.Proofs.Ythjdeopfbjmmeaa
open Go.ChangeShapes Go.WideShapes Go.ChangeAt Go.RowKit
set_option linter.unusedVariables false
set_option linter.unusedSimpArgs false
theorem bit_cases (A j : Nat) : bitN A j = 0 ∨ bitN A j = 1 := by unfold bitN; omega
theorem mod_succ (A j : Nat) : A % 2 ^ (j + 1) = bitN A j * 2 ^ j + A % 2 ^ j := by
  unfold bitN; rw [Nat.pow_succ, Nat.mod_mul, Nat.mul_comm, Nat.add_comm]
theorem bit_top {A j : Nat} (h : A < 2 ^ (j + 1)) : A = bitN A j * 2 ^ j + A % 2 ^ j := by
  have := mod_succ A j; rw [Nat.mod_eq_of_lt h] at this; exact this
set_option maxHeartbeats 1000000 in
theorem len_c (g n cap A : Nat) (w : World) (h : Hid (IsRaw w g n cap A)) (hn : n ≤ 1000) :
    Calls Try.prog 72 #[.slice (some ⟨g, 0, none⟩) n cap] w (RetI0 (blen A) w) := by
  have hA : Hid (A < 2 ^ (32 * n)) := shd_eq_zero.1 h.out.2.2.2
  have e32 : 32 * (n : Int) = ((32 * n : Nat) : Int) := by omega
  have hN : 32 * n ≤ 32000 := by omega
  obtain ⟨nb, hnb⟩ : ∃ nb, nb = 32 * n := ⟨_, rfl⟩
  rw [← hnb] at e32 hA hN
  clear hnb
  go_enter Try.func72, Try.ntmps72
  go_wp2_with fail
  go_loopw [3] (fun i wr => ∃ k : Nat, k ≤ nb ∧ i = .int .i64 k ∧ Hid (A < 2 ^ k) ∧ w = wr) (fun i _ => (intOf i).toNat)
  case atStart => exact ⟨nb, Nat.le_refl _, by first | rfl | (congr 1; omega), hA, rfl⟩
  case round =>
    obtain ⟨k, hk, rfl, hs, rfl⟩ := hrel
    by_cases h0 : k = 0
    · subst h0
      have HB : Hid (blen A = 0) := by
        show _ = _
        have := hs.out; rw [Nat.pow_zero] at this
        rw [show A = 0 by omega]; rfl
      go_wp2_with fail
      go_ret
      exact retI0_mk (by simp [HB.out])
    · obtain ⟨j, rfl⟩ : ∃ j, k = j + 1 := ⟨k - 1, by omega⟩
      have e1 : (((j + 1 : Nat) : Int)) = (j : Int) + 1 := by omega
      rw [e1] at *
      have e2 : (j : Int) + 1 - 1 = (j : Int) := by omega
      have hb := bit_top hs.out
      have ha := bit_cases A j
      obtain ⟨b, hbb⟩ : ∃ b, b = bitN A j := ⟨_, rfl⟩
      have HBB := Lib.hid hbb
      rw [← hbb] at ha hb
      clear hbb
      by_cases hd : b = 0
      · have HZ : Hid (A < 2 ^ j) := by
          show _ < _; have := Nat.mod_lt A (Nat.two_pow_pos j); rw [hd] at hb; omega
        clear hb ha e1
        go_wp2_with (go_at_call 85; refine (bit_c g n cap A j _ h (by omega) (by omega)).mono ?_; rintro e w' ⟨rfl, rfl⟩; rw [← HBB.out, hd])
        go_roundw
        case rel => exact ⟨j, by omega, by first | rfl | (congr 1; omega), HZ, by trivial⟩
        case measure => first | (simp [intOf]; done) | (simp [intOf]; omega)
      · have hd1 : b = 1 := by omega
        have HL : Hid (blen A = j + 1) := by
          show _ = _
          have hp := Nat.two_pow_pos j
          rw [hd1, Nat.one_mul] at hb
          exact blen_of A j (by omega) (by omega) hs.out
        clear hb ha hd
        go_wp2_with (go_at_call 85; refine (bit_c g n cap A j _ h (by omega) (by omega)).mono ?_; rintro e w' ⟨rfl, rfl⟩; rw [← HBB.out, hd1])
        go_ret
        exact retI0_mk (by rw [HL.out]; omega)
def RetU0 (n : Nat) (W : World) (e : Ending) (w' : World) : Prop := e = .returned (.int .u64 n) ∧ w' = W
theorem retU0_mk {a : Int} {b : Nat} {W : World} (h : a = b) : RetU0 b W (.returned (.int .u64 a)) W := ⟨by rw [h], rfl⟩
set_option maxHeartbeats 1000000 in
theorem low_c (g n cap A : Nat) (w : World) (h : Hid (IsRaw w g n cap A)) (hn : n ≤ 100000) :
    Calls Try.prog 76 #[.slice (some ⟨g, 0, none⟩) n cap] w (RetU0 (A % 18446744073709551616) w) := by
  go_enter Try.func76, Try.ntmps76
  go_wp2_with fail
  go_loopw [3, 4] (fun y i wr => ∃ k x : Nat, k ≤ 2 ∧ k ≤ n ∧ i = .int .i64 k ∧ y = .int .u64 x ∧ Hid (x = A % 2 ^ (32 * k)) ∧ w = wr) (fun _ i _ => 2 - (intOf i).toNat)
  case atStart => exact ⟨0, 0, by decide, Nat.zero_le _, rfl, rfl, by show _ = _; rw [Nat.mul_zero, Nat.pow_zero, Nat.mod_one], rfl⟩
  case round =>
    obtain ⟨k, x, hk, hkn, rfl, rfl, hx, rfl⟩ := hrel
    by_cases h1 : k < n
    · have h1' : (k : Int) < (n : Int) := by omega
      by_cases h2 : k = 2
      · subst h2
        have HE : Hid (x = A % 18446744073709551616) := hx.out
        go_wp2_with fail
        go_ret
        exact retU0_mk (by rw [HE.out])
      · have ca := h.out.2.2.1 k h1
        have la := dg_lt A k
        have HX := low_succ A k
        rw [← hx.out] at HX
        have hxl : x < 2 ^ (32 * k) := by rw [hx.out]; exact Nat.mod_lt _ (Nat.two_pow_pos _)
        have HO := or_eq_add x (dg A k) (32 * k) hxl
        rw [← HO] at HX
        have HX' := Lib.hid HX; have HXL := Lib.hid hxl
        clear HX HO hxl
        generalize dg A k = da at *
        have hkk : k = 0 ∨ k = 1 := by omega
        rcases hkk with rfl | rfl
        · have HV : Hid (x < 1) := HXL.out
          have hxb : x < 18446744073709551616 := by have := HV.out; omega
          go_wp2_with fail
          go_roundw
          case rel => exact ⟨1, x ||| da * 2 ^ (32 * 0), by decide, by omega, rfl, by congr 1; rw [bits_or_u64_nat _ _ hxb (by omega)]; simp, HX'.out.symm, by trivial⟩
          case measure => first | (simp [intOf]; done) | (simp [intOf]; omega)
        · have HV : Hid (x < 4294967296) := HXL.out
          have hxb : x < 18446744073709551616 := by have := HV.out; omega
          go_wp2_with fail
          go_roundw
          case rel => exact ⟨2, x ||| da * 2 ^ (32 * 1), by decide, by omega, rfl, by congr 1; rw [show (da : Int) * 4294967296 = ((da * 4294967296 : Nat) : Int) by omega, bits_or_u64_nat _ _ hxb (by omega)], HX'.out.symm, by trivial⟩
          case measure => first | (simp [intOf]; done) | (simp [intOf]; omega)
    · obtain rfl : k = n := by omega
      have h1' : ¬ (k : Int) < (k : Int) := by omega
      have HE : Hid (x = A % 18446744073709551616) := by
        show _ = _
        have h3 := shd_eq_zero.1 h.out.2.2.2
        have h4 : A < 2 ^ (32 * 2) := Nat.lt_of_lt_of_le h3 (Nat.pow_le_pow_right (by decide) (by omega))
        rw [hx.out, Nat.mod_eq_of_lt h3, Nat.mod_eq_of_lt h4]
      go_wp2_with fail
      go_ret
      exact retU0_mk (by rw [HE.out])
end Go.Proofs.Ythjdeopfbjmmeaa
