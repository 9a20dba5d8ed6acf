/- The small functions' contracts: reach, allows; the reference's. -/
import Derived.Test.YtjkpcmhepeekmaaDoorB1
namespace Go.Proofs.YtjkpcmhepeekmaaDoor
open Go.ChangeShapes Go.WideShapes Go.ChangeAt Go.RowKit
set_option linter.unusedVariables false
set_option linter.unusedSimpArgs false
theorem reach_c (a : Nat) (ha : Hid (a < 18446744073709551616)) (w : World) (hG : Hid (G w)) : Calls Tryd.prog 22 #[.int .u64 a] w (RetUX (2 ^ (ones 54 (adr a) + 3)) w) := by
  have h1 := mask54 a ha.out
  have h2 := adr_lt a
  obtain ⟨x, hx⟩ : ∃ x, x = adr a := ⟨_, rfl⟩
  rw [← hx] at h1 h2 ⊢
  clear hx ha
  obtain ⟨s1, s2⟩ := ones_spec 54 x h2
  have s3 := ones_le 54 x
  generalize ones 54 x = t at s1 s2 s3 ⊢
  obtain ⟨y, hy⟩ : ∃ y, y = 18446744073709551615 - x := ⟨_, rfl⟩
  have hp := Nat.two_pow_pos t
  have hp2 : 2 ^ t ≤ 2 ^ 54 := Nat.pow_le_pow_right (by decide) s3
  -- y = 2 ^ t times an odd number
  have k1 := Nat.div_add_mod x (2 ^ t)
  have k2 : 2 ^ t * (2 ^ (64 - t)) = 18446744073709551616 := by rw [← Nat.pow_add, show t + (64 - t) = 64 by omega]
  have hq2 : 2 ^ (64 - t) = 2 * 2 ^ (63 - t) := by rw [← Nat.pow_succ', show (63 - t).succ = 64 - t by omega]
  obtain ⟨z, hz⟩ : ∃ z, x / 2 ^ t = 2 * z := ⟨x / 2 ^ t / 2, by omega⟩
  have hm : y = 2 ^ t * (2 * (2 ^ (63 - t) - 1 - z) + 1) := by
    have e1 : x + 1 = 2 ^ t * (2 * z + 1) := by
      rw [s1, hz] at k1
      rw [Nat.mul_add, Nat.mul_one]; omega
    have e2 : x + 1 + y = 2 ^ t * 2 ^ (64 - t) := by rw [k2]; omega
    have e3 : 2 * z + 1 < 2 ^ (64 - t) := by
      apply Nat.lt_of_not_le
      intro h
      have := Nat.mul_le_mul_left (2 ^ t) h
      omega
    have e4 : 2 * (2 ^ (63 - t) - 1 - z) + 1 = 2 ^ (64 - t) - (2 * z + 1) := by omega
    rw [e4, Nat.mul_sub, ← e1, ← e2]; omega
  have hy1 : y < 18446744073709551616 := by omega
  have HT := Lib.hid (tz_c t (2 ^ (63 - t) - 1 - z) (by omega) (by show _ < _; rw [← hm]; exact hy1))
  rw [← hm] at HT
  have h3 : bits .xor .u64 IntKind.u64.max (x : Int) = (y : Int) := by
    rw [hy]
    have h5 : ((18446744073709551615 : Nat) : Int) = IntKind.u64.max := rfl
    rw [← h5, u64_xor_nat 18446744073709551615 x (by decide) (by omega)]
    congr 1
    have h6 := Nat.xor_comm 18446744073709551615 x
    apply Nat.eq_of_testBit_eq
    intro i
    have e1 : 18446744073709551615 - x = 2 ^ 64 - (x + 1) := by omega
    rw [Nat.testBit_xor, e1, Nat.testBit_two_pow_sub_succ (by show _ < 18446744073709551616; omega), show (18446744073709551615 : Nat) = 2 ^ 64 - 1 from rfl, Nat.testBit_two_pow_sub_one]
    by_cases h3 : i < 64
    · simp [h3]
    · have : x.testBit i = false := Nat.testBit_lt_two_pow (Nat.lt_of_lt_of_le (show x < 2 ^ 64 by show _ < 18446744073709551616; omega) (Nat.pow_le_pow_right (by decide) (by omega)))
      rw [this]; simp [h3]
  have h4 : IntKind.u64.wrap (8 * 2 ^ t) = ((2 ^ (t + 3) : Nat) : Int) := by
    rw [IntKind.wrap_u64, Nat.pow_add]
    have : ((2 ^ t : Nat) : Int) = 2 ^ t := by simp
    rw [← this]
    generalize 2 ^ t = p at hp2 hp ⊢
    omega
  obtain ⟨r, hr⟩ : ∃ r, r = 2 ^ (t + 3) := ⟨_, rfl⟩
  rw [← hr] at h4 ⊢
  have t0 : (t : Int) < 64 := by omega
  clear hm k1 k2 hq2 hz hy1 hy hp hp2 s1 s2 s3 hr h2
  go_enter Tryd.func22, Tryd.ntmps22
  go_wp2_with fail
  refine (HT.out _ hG).mono ?_; rintro e w1 ⟨rfl, h⟩; replace h := h.symm; subst h
  go_wp2_with fail
  go_ret
  exact retUX_mk (by first | exact h4 | rfl)

theorem allow_0 (c : Nat) (hc : c < 256) : (bits .and .u8 (c : Int) 4 == 4) = allowB c 0 := u8_all (p := fun c => (bits .and .u8 (c : Int) 4 == 4) = allowB c 0) (by decide +kernel) c hc
theorem allows_0 (c : Nat) (hc : Hid (c < 256)) (w : World) : Calls Tryd.prog 27 #[.int .u8 c, .int .i64 0] w (RetBX (allowB c 0) w) := by
  have h1 := Lib.hid (allow_0 c hc.out)
  go_enter Tryd.func27, Tryd.ntmps27
  go_wp2_with fail
  go_ret
  exact retBX_mk h1.out
theorem allow_1 (c : Nat) (hc : c < 256) : (bits .and .u8 (c : Int) 1 == 1) = allowB c 1 := u8_all (p := fun c => (bits .and .u8 (c : Int) 1 == 1) = allowB c 1) (by decide +kernel) c hc
theorem allows_1 (c : Nat) (hc : Hid (c < 256)) (w : World) : Calls Tryd.prog 27 #[.int .u8 c, .int .i64 1] w (RetBX (allowB c 1) w) := by
  have h1 := Lib.hid (allow_1 c hc.out)
  go_enter Tryd.func27, Tryd.ntmps27
  go_wp2_with fail
  go_ret
  exact retBX_mk h1.out
theorem allow_2 (c : Nat) (hc : c < 256) : (bits .and .u8 (c : Int) 2 == 2) = allowB c 2 := u8_all (p := fun c => (bits .and .u8 (c : Int) 2 == 2) = allowB c 2) (by decide +kernel) c hc
theorem allows_2 (c : Nat) (hc : Hid (c < 256)) (w : World) : Calls Tryd.prog 27 #[.int .u8 c, .int .i64 2] w (RetBX (allowB c 2) w) := by
  have h1 := Lib.hid (allow_2 c hc.out)
  go_enter Tryd.func27, Tryd.ntmps27
  go_wp2_with fail
  go_ret
  exact retBX_mk h1.out
theorem allow_3 (c : Nat) (hc : c < 256) : (bits .and .u8 (c : Int) 3 == 3) = allowB c 3 := u8_all (p := fun c => (bits .and .u8 (c : Int) 3 == 3) = allowB c 3) (by decide +kernel) c hc
theorem allows_3 (c : Nat) (hc : Hid (c < 256)) (w : World) : Calls Tryd.prog 27 #[.int .u8 c, .int .i64 3] w (RetBX (allowB c 3) w) := by
  have h1 := Lib.hid (allow_3 c hc.out)
  go_enter Tryd.func27, Tryd.ntmps27
  go_wp2_with fail
  go_ret
  exact retBX_mk h1.out
theorem allows_c (c k : Nat) (hk : k < 4) (hc : Hid (c < 256)) (w : World) : Calls Tryd.prog 27 #[.int .u8 c, .int .i64 k] w (RetBX (allowB c k) w) := by
  have : k = 0 ∨ k = 1 ∨ k = 2 ∨ k = 3 := by omega
  rcases this with rfl | rfl | rfl | rfl
  · exact allows_0 c hc w
  · exact allows_1 c hc w
  · exact allows_2 c hc w
  · exact allows_3 c hc w
theorem bitf_0 (c : Nat) (hc : c < 256) : (bits .and .u8 (((c / 1 : Nat) : Int)) 1 == 1) = (c / 1 % 2 == 1) := u8_all (p := fun c => (bits .and .u8 (((c / 1 : Nat) : Int)) 1 == 1) = (c / 1 % 2 == 1)) (by decide +kernel) c hc
theorem bit_0 (c : Nat) (hc : Hid (c < 256)) (w : World) : Calls Tryd.prog 28 #[.int .u8 c, .int .i64 0] w (RetBX (c / 1 % 2 == 1) w) := by
  have h1 := Lib.hid (bitf_0 c hc.out)
  go_enter Tryd.func28, Tryd.ntmps28
  go_wp2_with fail
  go_ret
  refine retBX_mk ?_
  rw [← h1.out]
  try simp
theorem bitf_1 (c : Nat) (hc : c < 256) : (bits .and .u8 (((c / 2 : Nat) : Int)) 1 == 1) = (c / 2 % 2 == 1) := u8_all (p := fun c => (bits .and .u8 (((c / 2 : Nat) : Int)) 1 == 1) = (c / 2 % 2 == 1)) (by decide +kernel) c hc
theorem bit_1 (c : Nat) (hc : Hid (c < 256)) (w : World) : Calls Tryd.prog 28 #[.int .u8 c, .int .i64 1] w (RetBX (c / 2 % 2 == 1) w) := by
  have h1 := Lib.hid (bitf_1 c hc.out)
  go_enter Tryd.func28, Tryd.ntmps28
  go_wp2_with fail
  go_ret
  refine retBX_mk ?_
  rw [← h1.out]
  try simp
theorem bitf_2 (c : Nat) (hc : c < 256) : (bits .and .u8 (((c / 4 : Nat) : Int)) 1 == 1) = (c / 4 % 2 == 1) := u8_all (p := fun c => (bits .and .u8 (((c / 4 : Nat) : Int)) 1 == 1) = (c / 4 % 2 == 1)) (by decide +kernel) c hc
theorem bit_2 (c : Nat) (hc : Hid (c < 256)) (w : World) : Calls Tryd.prog 28 #[.int .u8 c, .int .i64 2] w (RetBX (c / 4 % 2 == 1) w) := by
  have h1 := Lib.hid (bitf_2 c hc.out)
  go_enter Tryd.func28, Tryd.ntmps28
  go_wp2_with fail
  go_ret
  refine retBX_mk ?_
  rw [← h1.out]
  try simp
theorem bitf_3 (c : Nat) (hc : c < 256) : (bits .and .u8 (((c / 8 : Nat) : Int)) 1 == 1) = (c / 8 % 2 == 1) := u8_all (p := fun c => (bits .and .u8 (((c / 8 : Nat) : Int)) 1 == 1) = (c / 8 % 2 == 1)) (by decide +kernel) c hc
theorem bit_3 (c : Nat) (hc : Hid (c < 256)) (w : World) : Calls Tryd.prog 28 #[.int .u8 c, .int .i64 3] w (RetBX (c / 8 % 2 == 1) w) := by
  have h1 := Lib.hid (bitf_3 c hc.out)
  go_enter Tryd.func28, Tryd.ntmps28
  go_wp2_with fail
  go_ret
  refine retBX_mk ?_
  rw [← h1.out]
  try simp
theorem bitf_4 (c : Nat) (hc : c < 256) : (bits .and .u8 (((c / 16 : Nat) : Int)) 1 == 1) = (c / 16 % 2 == 1) := u8_all (p := fun c => (bits .and .u8 (((c / 16 : Nat) : Int)) 1 == 1) = (c / 16 % 2 == 1)) (by decide +kernel) c hc
theorem bit_4 (c : Nat) (hc : Hid (c < 256)) (w : World) : Calls Tryd.prog 28 #[.int .u8 c, .int .i64 4] w (RetBX (c / 16 % 2 == 1) w) := by
  have h1 := Lib.hid (bitf_4 c hc.out)
  go_enter Tryd.func28, Tryd.ntmps28
  go_wp2_with fail
  go_ret
  refine retBX_mk ?_
  rw [← h1.out]
  try simp
theorem bitf_7 (c : Nat) (hc : c < 256) : (bits .and .u8 (((c / 128 : Nat) : Int)) 1 == 1) = (c / 128 % 2 == 1) := u8_all (p := fun c => (bits .and .u8 (((c / 128 : Nat) : Int)) 1 == 1) = (c / 128 % 2 == 1)) (by decide +kernel) c hc
theorem bit_7 (c : Nat) (hc : Hid (c < 256)) (w : World) : Calls Tryd.prog 28 #[.int .u8 c, .int .i64 7] w (RetBX (c / 128 % 2 == 1) w) := by
  have h1 := Lib.hid (bitf_7 c hc.out)
  go_enter Tryd.func28, Tryd.ntmps28
  go_wp2_with fail
  go_ret
  refine retBX_mk ?_
  rw [← h1.out]
  try simp
theorem address_c (a : Nat) (ha : Hid (a < 18446744073709551616)) (w : World) : Calls Tryd.prog 23 #[.int .u64 a] w (RetUX (adr a) w) := by
  go_enter Tryd.func23, Tryd.ntmps23
  go_wp2_with fail
  go_ret
  exact retUX_mk (by first | rfl | (unfold adr; simp) | (unfold adr; omega))
theorem way_bits (c : Nat) : wayN c = (bif c / 8 % 2 == 1 then 1 else 0) + (bif c / 16 % 2 == 1 then 2 else 0) := by
  unfold wayN
  have h1 : c / 8 % 2 = 0 ∨ c / 8 % 2 = 1 := by omega
  have h2 : c / 16 % 2 = 0 ∨ c / 16 % 2 = 1 := by omega
  rcases h1 with h1 | h1 <;> rcases h2 with h2 | h2 <;> rw [h1, h2] <;> simp <;> omega
theorem way_c (c : Nat) (hc : Hid (c < 256)) (w : World) : Calls Tryd.prog 24 #[.int .u8 c] w (RetIX (wayN c) w) := by
  have H3 := Lib.hid (fun v => bit_3 c hc v)
  have H4 := Lib.hid (fun v => bit_4 c hc v)
  have hw := way_bits c
  obtain ⟨x, hx⟩ : ∃ x, (c / 8 % 2 == 1) = x := ⟨_, rfl⟩
  obtain ⟨y, hy⟩ : ∃ y, (c / 16 % 2 == 1) = y := ⟨_, rfl⟩
  rw [show (8 : Nat) = 2 ^ 3 from rfl] at hx
  rw [show (16 : Nat) = 2 ^ 4 from rfl] at hy
  simp only [show (2 ^ 3 : Nat) = 8 from rfl, show (2 ^ 4 : Nat) = 16 from rfl] at hx hy
  rw [hx, hy] at hw
  rw [hx] at H3
  rw [hy] at H4
  have HW := Lib.hid hw
  clear hw hx hy hc
  go_enter Tryd.func24, Tryd.ntmps24
  go_wp2_with fail
  refine (H3.out _).mono ?_; rintro e w1 ⟨rfl, h⟩; replace h := h.symm; subst h
  cases x
  all_goals
    go_wp2_with fail
    refine (H4.out _).mono ?_; rintro e w1 ⟨rfl, h⟩; replace h := h.symm; subst h
    cases y
    all_goals
      go_wp2_with fail
      go_ret
      exact retIX_mk (by rw [HW.out]; rfl)
theorem allowr_0 (c : Nat) (hc : Hid (c < 256)) (w : World) : Calls Tryd.prog 29 #[.int .u8 c, .int .i64 0] w (RetBX (allowB c 0) w) := by
  have H0 := Lib.hid (fun v => bit_0 c hc v)
  obtain ⟨x0, hx0⟩ : ∃ x, (c / 1 % 2 == 1) = x := ⟨_, rfl⟩
  rw [hx0] at H0
  have H1 := Lib.hid (fun v => bit_1 c hc v)
  obtain ⟨x1, hx1⟩ : ∃ x, (c / 2 % 2 == 1) = x := ⟨_, rfl⟩
  rw [hx1] at H1
  have H2 := Lib.hid (fun v => bit_2 c hc v)
  obtain ⟨x2, hx2⟩ : ∃ x, (c / 4 % 2 == 1) = x := ⟨_, rfl⟩
  rw [hx2] at H2
  have hA : allowB c 0 = x2 := by
    (try rw [← hx0]); (try rw [← hx1]); (try rw [← hx2]); (try rw [Nat.div_one]); rfl
  rw [hA]
  clear hA hx0 hx1 hx2 hc
  go_enter Tryd.func29, Tryd.ntmps29
  go_wp2_with fail
  refine (H0.out _).mono ?_; rintro e w1 ⟨rfl, h⟩; replace h := h.symm; subst h
  go_wp2_with fail
  refine (H1.out _).mono ?_; rintro e w1 ⟨rfl, h⟩; replace h := h.symm; subst h
  go_wp2_with fail
  refine (H2.out _).mono ?_; rintro e w1 ⟨rfl, h⟩; replace h := h.symm; subst h
  go_wp2_with fail
  
  all_goals go_ret
  all_goals exact retBX_mk (by first | rfl | simp)
theorem allowr_1 (c : Nat) (hc : Hid (c < 256)) (w : World) : Calls Tryd.prog 29 #[.int .u8 c, .int .i64 1] w (RetBX (allowB c 1) w) := by
  have H0 := Lib.hid (fun v => bit_0 c hc v)
  obtain ⟨x0, hx0⟩ : ∃ x, (c / 1 % 2 == 1) = x := ⟨_, rfl⟩
  rw [hx0] at H0
  have H1 := Lib.hid (fun v => bit_1 c hc v)
  obtain ⟨x1, hx1⟩ : ∃ x, (c / 2 % 2 == 1) = x := ⟨_, rfl⟩
  rw [hx1] at H1
  have H2 := Lib.hid (fun v => bit_2 c hc v)
  obtain ⟨x2, hx2⟩ : ∃ x, (c / 4 % 2 == 1) = x := ⟨_, rfl⟩
  rw [hx2] at H2
  have hA : allowB c 1 = x0 := by
    (try rw [← hx0]); (try rw [← hx1]); (try rw [← hx2]); (try rw [Nat.div_one]); rfl
  rw [hA]
  clear hA hx0 hx1 hx2 hc
  go_enter Tryd.func29, Tryd.ntmps29
  go_wp2_with fail
  refine (H0.out _).mono ?_; rintro e w1 ⟨rfl, h⟩; replace h := h.symm; subst h
  go_wp2_with fail
  refine (H1.out _).mono ?_; rintro e w1 ⟨rfl, h⟩; replace h := h.symm; subst h
  go_wp2_with fail
  refine (H2.out _).mono ?_; rintro e w1 ⟨rfl, h⟩; replace h := h.symm; subst h
  go_wp2_with fail
  
  all_goals go_ret
  all_goals exact retBX_mk (by first | rfl | simp)
theorem allowr_2 (c : Nat) (hc : Hid (c < 256)) (w : World) : Calls Tryd.prog 29 #[.int .u8 c, .int .i64 2] w (RetBX (allowB c 2) w) := by
  have H0 := Lib.hid (fun v => bit_0 c hc v)
  obtain ⟨x0, hx0⟩ : ∃ x, (c / 1 % 2 == 1) = x := ⟨_, rfl⟩
  rw [hx0] at H0
  have H1 := Lib.hid (fun v => bit_1 c hc v)
  obtain ⟨x1, hx1⟩ : ∃ x, (c / 2 % 2 == 1) = x := ⟨_, rfl⟩
  rw [hx1] at H1
  have H2 := Lib.hid (fun v => bit_2 c hc v)
  obtain ⟨x2, hx2⟩ : ∃ x, (c / 4 % 2 == 1) = x := ⟨_, rfl⟩
  rw [hx2] at H2
  have hA : allowB c 2 = x1 := by
    (try rw [← hx0]); (try rw [← hx1]); (try rw [← hx2]); (try rw [Nat.div_one]); rfl
  rw [hA]
  clear hA hx0 hx1 hx2 hc
  go_enter Tryd.func29, Tryd.ntmps29
  go_wp2_with fail
  refine (H0.out _).mono ?_; rintro e w1 ⟨rfl, h⟩; replace h := h.symm; subst h
  go_wp2_with fail
  refine (H1.out _).mono ?_; rintro e w1 ⟨rfl, h⟩; replace h := h.symm; subst h
  go_wp2_with fail
  refine (H2.out _).mono ?_; rintro e w1 ⟨rfl, h⟩; replace h := h.symm; subst h
  go_wp2_with fail
  
  all_goals go_ret
  all_goals exact retBX_mk (by first | rfl | simp)
theorem allowr_3 (c : Nat) (hc : Hid (c < 256)) (w : World) : Calls Tryd.prog 29 #[.int .u8 c, .int .i64 3] w (RetBX (allowB c 3) w) := by
  have H0 := Lib.hid (fun v => bit_0 c hc v)
  obtain ⟨x0, hx0⟩ : ∃ x, (c / 1 % 2 == 1) = x := ⟨_, rfl⟩
  rw [hx0] at H0
  have H1 := Lib.hid (fun v => bit_1 c hc v)
  obtain ⟨x1, hx1⟩ : ∃ x, (c / 2 % 2 == 1) = x := ⟨_, rfl⟩
  rw [hx1] at H1
  have H2 := Lib.hid (fun v => bit_2 c hc v)
  obtain ⟨x2, hx2⟩ : ∃ x, (c / 4 % 2 == 1) = x := ⟨_, rfl⟩
  rw [hx2] at H2
  have hA : allowB c 3 = (x0 && x1) := by
    (try rw [← hx0]); (try rw [← hx1]); (try rw [← hx2]); (try rw [Nat.div_one]); rfl
  rw [hA]
  clear hA hx0 hx1 hx2 hc
  go_enter Tryd.func29, Tryd.ntmps29
  go_wp2_with fail
  refine (H0.out _).mono ?_; rintro e w1 ⟨rfl, h⟩; replace h := h.symm; subst h
  go_wp2_with fail
  refine (H1.out _).mono ?_; rintro e w1 ⟨rfl, h⟩; replace h := h.symm; subst h
  go_wp2_with fail
  refine (H2.out _).mono ?_; rintro e w1 ⟨rfl, h⟩; replace h := h.symm; subst h
  cases x0 <;> cases x1 <;> go_wp2_with fail
  all_goals go_ret
  all_goals exact retBX_mk (by first | rfl | simp)
theorem allowr_c (c k : Nat) (hk : k < 4) (hc : Hid (c < 256)) (w : World) : Calls Tryd.prog 29 #[.int .u8 c, .int .i64 k] w (RetBX (allowB c k) w) := by
  have : k = 0 ∨ k = 1 ∨ k = 2 ∨ k = 3 := by omega
  rcases this with rfl | rfl | rfl | rfl
  · exact allowr_0 c hc w
  · exact allowr_1 c hc w
  · exact allowr_2 c hc w
  · exact allowr_3 c hc w
end Go.Proofs.YtjkpcmhepeekmaaDoor
