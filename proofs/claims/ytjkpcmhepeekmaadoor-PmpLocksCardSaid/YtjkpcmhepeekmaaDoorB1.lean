/- The small functions' contracts. -/
import Derived.Test.YtjkpcmhepeekmaaDoorA
import Derived.Laws.Bits64
import Derived.Laws.Bits64b
namespace Go.Proofs.YtjkpcmhepeekmaaDoor
open Go.ChangeShapes Go.WideShapes Go.ChangeAt Go.RowKit
set_option linter.unusedVariables false
set_option linter.unusedSimpArgs false
theorem u8_all {p : Nat → Prop} [DecidablePred p] (h : ∀ x : Fin 256, p x.val) (c : Nat) (hc : c < 256) : p c := h ⟨c, hc⟩
theorem and24 (c : Nat) (hc : c < 256) : bits .and .u8 (c : Int) 24 = ((c / 8 % 4 * 8 : Nat) : Int) := u8_all (p := fun c => bits .and .u8 (c : Int) 24 = ((c / 8 % 4 * 8 : Nat) : Int)) (by decide +kernel) c hc
theorem and128 (c : Nat) (hc : c < 256) : bits .and .u8 (c : Int) 128 = ((c / 128 * 128 : Nat) : Int) := u8_all (p := fun c => bits .and .u8 (c : Int) 128 = ((c / 128 * 128 : Nat) : Int)) (by decide +kernel) c hc
theorem and3 (c : Nat) (hc : c < 256) : bits .and .u8 (c : Int) 3 = ((c % 4 : Nat) : Int) := u8_all (p := fun c => bits .and .u8 (c : Int) 3 = ((c % 4 : Nat) : Int)) (by decide +kernel) c hc
theorem and159 (c : Nat) (hc : c < 256) : bits .and .u8 (c : Int) 159 = ((cleanF c : Nat) : Int) := u8_all (p := fun c => bits .and .u8 (c : Int) 159 = ((cleanF c : Nat) : Int)) (by decide +kernel) c hc
theorem and1 (c : Nat) (hc : c < 256) : bits .and .u8 (c : Int) 1 = ((c % 2 : Nat) : Int) := u8_all (p := fun c => bits .and .u8 (c : Int) 1 = ((c % 2 : Nat) : Int)) (by decide +kernel) c hc
theorem mask54 (a : Nat) (ha : a < 18446744073709551616) : bits .and .u64 (a : Int) 18014398509481983 = ((adr a : Nat) : Int) := by
  have h := bits_and_u64_nat a 18014398509481983 ha (by decide)
  rw [show (18014398509481983 : Nat) = 2 ^ 54 - 1 from rfl, Nat.and_two_pow_sub_one_eq_mod] at h
  exact h
set_option maxRecDepth 100000 in
theorem tz_c (t m : Nat) (ht : t < 64) (h : Hid (2 ^ t * (2 * m + 1) < 18446744073709551616)) (w : World) (hG : Hid (G w)) :
    Calls Tryd.prog 32 #[.int .u64 (2 ^ t * (2 * m + 1) : Nat)] w (RetIX t w) := by
  obtain ⟨x, hx⟩ : ∃ x, x = 2 ^ t * (2 * m + 1) := ⟨_, rfl⟩
  have hp : 0 < 2 ^ t := Nat.two_pow_pos t
  have x0 : 0 < x := by rw [hx]; exact Nat.mul_pos hp (by omega)
  have x1 : x < 18446744073709551616 := by rw [hx]; exact h.out
  have b1 : bits .and .u64 (x : Int) ((18446744073709551616 - x : Nat) : Int) = ((2 ^ t : Nat) : Int) := by
    rw [bits_and_u64_nat x _ x1 (by omega), hx, least_bit t m ht h.out]
  have c0 := (hG.out.2 _ (deb_in t ht)).trans (deb_at t ht)
  have i0 := deb_in t ht
  obtain ⟨ix, hix⟩ : ∃ ix, ix = 2 ^ t * 285870213051353865 % 18446744073709551616 / 288230376151711744 := ⟨_, rfl⟩
  rw [← hix] at c0 i0
  have h4 : ((x : Int) == 0) = false := by rw [beq_eq_false_iff_ne]; omega
  have h5 : IntKind.u64.wrap (-(x : Int)) = ((18446744073709551616 - x : Nat) : Int) := by rw [IntKind.wrap_u64]; omega
  have h6 : bits .and .u64 (x : Int) (IntKind.u64.wrap (-(x : Int))) = ((2 ^ t : Nat) : Int) := by rw [h5, b1]
  have h7 : Hid (IntKind.u64.wrap (((2 ^ t : Nat) : Int) * 285870213051353865) / 288230376151711744 = (ix : Int)) := by
    show _ = _
    rw [hix, IntKind.wrap_u64]
    generalize 2 ^ t = p
    omega
  rw [← hx]
  obtain ⟨p, hpp⟩ : ∃ p, p = 2 ^ t := ⟨_, rfl⟩
  rw [← hpp] at h6 h7
  have t8 : (t : Int) < 256 := by omega
  clear hx hp x0 x1 b1 hix h5 hpp h
  replace h7 := h7.out
  have i1 : (ix : Int) < 64 := by omega
  have t9 : ((t : Nat) : Int).toNat = t := by omega
  go_enter Tryd.func32, Tryd.ntmps32
  go_wp2_with fail
  go_ret
  exact retIX_mk rfl
theorem isEntry_y (n : Int) (h1 : (0 ≤ n) = True) (h2 : (n < 8) = True) (w : World) : Calls Tryd.prog 17 #[.int .i64 n] w (RetBX true w) := by
  have h1 := of_eq_true h1
  have h2 := of_eq_true h2
  go_enter Tryd.func17, Tryd.ntmps17
  go_wp2_with fail
  go_ret
  exact retBX_mk rfl
theorem isEntry_n (n : Int) (h : Hid (¬ (0 ≤ n ∧ n < 8))) (w : World) : Calls Tryd.prog 17 #[.int .i64 n] w (RetBX false w) := by
  by_cases h1 : 0 ≤ n
  · have h2 : ¬ n < 8 := fun h2 => h.out ⟨h1, h2⟩
    clear h
    go_enter Tryd.func17, Tryd.ntmps17
    go_wp2_with fail
    go_ret
    exact retBX_mk rfl
  · clear h
    go_enter Tryd.func17, Tryd.ntmps17
    go_wp2_with fail
    go_ret
    exact retBX_mk rfl
theorem place_c (a : Nat) (ha : Hid (a < 18446744073709551616)) (w : World) : Calls Tryd.prog 18 #[.int .u64 a] w (RetUX (4 * adr a) w) := by
  have h1 := mask54 a ha.out
  have h2 := adr_lt a
  obtain ⟨x, hx⟩ : ∃ x, x = adr a := ⟨_, rfl⟩
  rw [← hx] at h1 h2 ⊢
  clear hx
  have h3 : IntKind.u64.wrap (4 * (x : Int)) = 4 * x := by rw [IntKind.wrap_u64]; omega
  clear h2
  go_enter Tryd.func18, Tryd.ntmps18
  go_wp2_with fail
  go_ret
  exact retUX_mk (by omega)
theorem wayOf_c (c : Nat) (hc : Hid (c < 256)) (w : World) : Calls Tryd.prog 19 #[.int .u8 c] w (RetIX (wayN c) w) := by
  have h1 := and24 c hc.out
  obtain ⟨x, hx⟩ : ∃ x, x = wayN c := ⟨_, rfl⟩
  have h2 : x < 4 := by rw [hx]; exact way_lt c
  rw [show c / 8 % 4 = x from hx.symm] at h1
  rw [← hx]
  clear hx
  go_enter Tryd.func19, Tryd.ntmps19
  go_wp2_with fail
  go_ret
  exact retIX_mk (by omega)
theorem isLocked_c (c : Nat) (hc : Hid (c < 256)) (w : World) : Calls Tryd.prog 26 #[.int .u8 c] w (RetBX (lockB c) w) := by
  have h1 := and128 c hc.out
  have h0 := hc.out
  have h2 : (!(((c / 128 * 128 : Nat) : Int) == 0)) = lockB c := by
    unfold lockB
    rw [Bool.eq_iff_iff]; simp; omega
  obtain ⟨x, hx⟩ : ∃ x, x = c / 128 * 128 := ⟨_, rfl⟩
  rw [← hx] at h1 h2
  have H2 := Lib.hid h2
  clear hx h2 h0
  go_enter Tryd.func26, Tryd.ntmps26
  go_wp2_with fail
  go_ret
  exact retBX_mk (by first | exact H2.out | (rw [← H2.out]; simp))
theorem isRefused_c (c : Nat) (hc : Hid (c < 256)) (w : World) : Calls Tryd.prog 30 #[.int .u8 c] w (RetBX (oddB c) w) := by
  have h1 := and3 c hc.out
  have h2 : (((c % 4 : Nat) : Int) == 2) = oddB c := by
    unfold oddB
    rw [Bool.eq_iff_iff]; simp; omega
  obtain ⟨x, hx⟩ : ∃ x, x = c % 4 := ⟨_, rfl⟩
  rw [← hx] at h1 h2
  have H2 := Lib.hid h2
  clear hx h2
  go_enter Tryd.func30, Tryd.ntmps30
  go_wp2_with fail
  go_ret
  exact retBX_mk (by first | exact H2.out | (rw [← H2.out]; simp))
theorem between_y (x y : Nat) (h : (x : Int) < y) (hy : Hid (y < 18446744073709551616)) (w : World) : Calls Tryd.prog 20 #[.int .u64 x, .int .u64 y] w (RetRX x (y - 1) true w) := by
  have h1 : IntKind.u64.wrap ((y : Int) - 1) = ((y - 1 : Nat) : Int) := by have := hy.out; rw [IntKind.wrap_u64]; omega
  have h2 : ¬ (x : Int) ≥ y := by omega
  go_enter Tryd.func20, Tryd.ntmps20
  go_wp2_with fail
  go_ret3
  exact retRX_mk rfl rfl rfl
theorem between_n (x y : Nat) (h : (y : Int) ≤ x) (w : World) : Calls Tryd.prog 20 #[.int .u64 x, .int .u64 y] w (RetRX 0 0 false w) := by
  go_enter Tryd.func20, Tryd.ntmps20
  go_wp2_with fail
  go_ret3
  exact retRX_mk rfl rfl rfl
/-- What is left of x where the lowest t bits are taken. -/
theorem floor_bits (t x : Nat) (ht : t ≤ 57) (hx : x < 18446744073709551616) : bits .andNot .u64 (x : Int) ((2 ^ t - 1 : Nat) : Int) = ((x / 2 ^ t * 2 ^ t : Nat) : Int) := by
  have hp : 2 ^ t ≤ 2 ^ 57 := Nat.pow_le_pow_right (by decide) ht
  rw [u64_andNot_nat x _ hx (by omega)]
  congr 1
  have e1 : 18446744073709551615 - (2 ^ t - 1) = 2 ^ 64 - ((2 ^ t - 1) + 1) := by have := Nat.two_pow_pos t; omega
  rw [e1]
  apply Nat.eq_of_testBit_eq
  intro i
  have h0 := Nat.two_pow_pos t
  rw [Nat.testBit_and, Nat.testBit_two_pow_sub_succ (by show _ < 18446744073709551616; omega), Nat.testBit_two_pow_sub_one]
  have b := Nat.testBit_two_pow_mul_add (x / 2 ^ t) h0 i
  rw [Nat.add_zero, Nat.mul_comm] at b
  rw [b]
  by_cases h1 : i < t
  · rw [if_pos h1, Nat.zero_testBit]; simp [h1]
  · rw [if_neg h1]
    have h2 : (x / 2 ^ t).testBit (i - t) = x.testBit i := by
      rw [Nat.testBit_div_two_pow]; congr 1; omega
    rw [h2]
    by_cases h3 : i < 64
    · simp [h1, h3]
    · have : x.testBit i = false := Nat.testBit_lt_two_pow (Nat.lt_of_lt_of_le (show x < 2 ^ 64 from hx) (Nat.pow_le_pow_right (by decide) (by omega)))
      rw [this]; simp
theorem around_c (x t : Nat) (ht : t ≤ 57) (hx : Hid (x < 216172782113783808)) (w : World) :
    Calls Tryd.prog 21 #[.int .u64 x, .int .u64 (2 ^ t : Nat)] w (RetRX (x / 2 ^ t * 2 ^ t) (x / 2 ^ t * 2 ^ t + 2 ^ t - 1) true w) := by
  have h0 := floor_bits t x ht (by have := hx.out; omega)
  have hp : 2 ^ t ≤ 2 ^ 57 := Nat.pow_le_pow_right (by decide) ht
  have hq := Nat.two_pow_pos t
  have hf := Nat.div_mul_le_self x (2 ^ t)
  have hx' := hx.out
  obtain ⟨f, hf'⟩ : ∃ f, f = x / 2 ^ t * 2 ^ t := ⟨_, rfl⟩
  rw [← hf'] at h0 hf ⊢
  clear hf'
  generalize 2 ^ t = p at h0 hp hq ⊢
  have h1 : IntKind.u64.wrap ((p : Int) - 1) = ((p - 1 : Nat) : Int) := by rw [IntKind.wrap_u64]; omega
  have h2 : IntKind.u64.wrap ((f : Int) + p) = ((f + p : Nat) : Int) := by rw [IntKind.wrap_u64]; omega
  have h3 : IntKind.u64.wrap (((f + p : Nat) : Int) - 1) = ((f + p - 1 : Nat) : Int) := by rw [IntKind.wrap_u64]; omega
  have H0 : bits .andNot .u64 (x : Int) (IntKind.u64.wrap ((p : Int) - 1)) = (f : Int) := by rw [h1]; exact h0
  have H3 : IntKind.u64.wrap (IntKind.u64.wrap ((f : Int) + p) - 1) = ((f + p - 1 : Nat) : Int) := by rw [h2]; exact h3
  clear h0 h1 h2 h3 hp hq hf hx' hx ht
  go_enter Tryd.func21, Tryd.ntmps21
  go_wp2_with fail
  go_ret3
  exact retRX_mk rfl (by first | rfl | exact H3) rfl
end Go.Proofs.YtjkpcmhepeekmaaDoor
