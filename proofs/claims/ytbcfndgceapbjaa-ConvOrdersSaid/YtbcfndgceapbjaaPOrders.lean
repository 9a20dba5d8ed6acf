/- PROVED: 'ConvOrders' returns true whatever the three numbers are: of two floats one is below or both are one, the lesser and the greater are these two, turned signs turn the order. No condition. -/
import Derived.Test.YtbcfndgceapbjaaF2
import Derived.Test.YtbcfndgceapbjaaB11
namespace Go.Proofs.Ytbcfndgceapbjaa
open Go.ChangeShapes Go.WideShapes Go.ChangeAt Go.RowKit
set_option linter.unusedVariables false
set_option linter.unusedSimpArgs false
theorem u64_of_wf3 {a : Int} (h : (Lit.int .u64 a).wf = true) : ∃ n : Nat, a = n ∧ Hid (n < 18446744073709551616) := by
  simp [Lit.wf, IntKind.min, IntKind.max, IntKind.signed, IntKind.bits] at h
  obtain ⟨h0, h1⟩ := h
  exact ⟨a.toNat, by omega, by show _ < _; omega⟩
def flip (d : Bool) (x : Nat) : Nat := x ^^^ signB d
theorem flip_far (d : Bool) (x : Nat) : farN d (flip d x) = farN d x := by
  unfold farN flip
  rw [signB_pow, Nat.xor_mod_two_pow, Nat.mod_self, Nat.xor_zero]
theorem flip_minus (d : Bool) (x : Nat) : minusN d (flip d x) = !minusN d x := by
  unfold minusN flip
  rw [signB_pow, bit_xor, Nat.div_self (Nat.two_pow_pos _)]
  have h : x / 2 ^ (if d then 63 else 31) % 2 = 0 ∨ x / 2 ^ (if d then 63 else 31) % 2 = 1 := by omega
  rcases h with h | h <;> rw [h] <;> rfl
theorem flip_lt (d : Bool) (x : Nat) (h : x < 18446744073709551616) : flip d x < 18446744073709551616 := by
  unfold flip; rw [pow64] at *; exact Nat.xor_lt_two_pow h (by rw [← pow64]; cases d <;> decide)
theorem flip_none (d : Bool) (x : Nat) : noneV d (flip d x) = noneV d x := by rw [none_nan, none_nan]; unfold nanX; rw [flip_far]
theorem flip_rank (d : Bool) (x : Nat) : rankV d (flip d x) = -1 - rankV d x := by
  unfold rankV; rw [flip_minus, flip_far]
  cases minusN d x
  · simp
  · simp; omega
theorem same_flip (d : Bool) (a b : Nat) : sameV d (flip d b) (flip d a) = sameV d a b := by
  unfold sameV; rw [flip_rank, flip_rank, flip_far, flip_far, Bool.eq_iff_iff]; simp only [decide_eq_true_eq]; omega
theorem same_comm (d : Bool) (a b : Nat) : sameV d b a = sameV d a b := by
  unfold sameV; rw [Bool.eq_iff_iff]; simp only [decide_eq_true_eq]; omega
theorem mask_idem (d : Bool) (a : Nat) : maskN d a < 18446744073709551616 ∧ maskN d (maskN d a) = maskN d a := by
  cases d
  · show a % 2147483648 + a / 2147483648 % 2 * 2147483648 < _ ∧ (a % 2147483648 + a / 2147483648 % 2 * 2147483648) % 2147483648 + (a % 2147483648 + a / 2147483648 % 2 * 2147483648) / 2147483648 % 2 * 2147483648 = a % 2147483648 + a / 2147483648 % 2 * 2147483648
    omega
  · show a % 9223372036854775808 + a / 9223372036854775808 % 2 * 9223372036854775808 < _ ∧ (a % 9223372036854775808 + a / 9223372036854775808 % 2 * 9223372036854775808) % 9223372036854775808 + (a % 9223372036854775808 + a / 9223372036854775808 % 2 * 9223372036854775808) / 9223372036854775808 % 2 * 9223372036854775808 = a % 9223372036854775808 + a / 9223372036854775808 % 2 * 9223372036854775808
    omega
theorem cmp_num (d : Bool) (a b : Nat) (na : noneV d a = false) (nb : noneV d b = false) :
    cmpV 70 d a b = cond (belowV d a b) 1 0 ∧ cmpV 69 d a b = cond (sameV d a b) 1 0 ∧ cmpV 71 d a b = cond (sameV d a b || belowV d a b) 1 0 ∧ (∀ k, cmpF k d a b = 0) := by
  have hn : ¬ ((false : Bool) = true ∨ (false : Bool) = true) := by simp
  refine ⟨?_, ?_, ?_, fun k => ?_⟩
  · unfold cmpV; rw [na, nb, if_neg hn]; cases belowV d a b <;> simp
  · unfold cmpV; rw [na, nb, if_neg hn]; cases sameV d a b <;> simp
  · unfold cmpV; rw [na, nb, if_neg hn]; cases sameV d a b <;> cases belowV d a b <;> simp
  · unfold cmpF; rw [na, nb, if_neg hn]
theorem flag_none (d : Bool) (a b : Nat) (na : noneV d a = false) (nb : noneV d b = false) : flagS (clsV d a) (clsV d b) = 0 := by
  have h1 := of_decide_eq_false na; have h2 := of_decide_eq_false nb
  unfold flagS; rw [if_neg (by omega)]
theorem pick_num (d : Bool) (a b : Nat) (na : noneV d a = false) (nb : noneV d b = false) :
    pickV 67 d a b = cond (decide (rankV d a < rankV d b)) (maskN d a) (maskN d b) ∧ pickV 68 d a b = cond (decide (rankV d a < rankV d b)) (maskN d b) (maskN d a) := by
  have hn : ¬ ((false : Bool) = true ∧ (false : Bool) = true) := by simp
  refine ⟨?_, ?_⟩
  · unfold pickV; rw [na, nb, if_neg hn, if_neg (by simp), if_neg (by simp)]
    by_cases h : rankV d a < rankV d b <;> simp [h]
  · unfold pickV; rw [na, nb, if_neg hn, if_neg (by simp), if_neg (by simp)]
    by_cases h : rankV d a < rankV d b <;> simp [h]
theorem cmp_none (d : Bool) (a b : Nat) (hn : noneV d a = true ∨ noneV d b = true) :
    (∀ k, cmpV k d a b = 0) ∧ cmpF 69 d a b = flagS (clsV d a) (clsV d b) ∧ pickV 67 d a b = pickV 68 d a b := by
  refine ⟨fun k => by unfold cmpV; rw [if_pos hn], by unfold cmpF; rw [if_pos hn]; rfl, ?_⟩
  unfold pickV
  cases ha : noneV d a <;> cases hb : noneV d b
  · rw [ha, hb] at hn; simp at hn
  · simp
  · simp
  · simp
def clsU (d : Bool) (a : Nat) : Nat := 2 ^ (clsV d a).toNat
theorem cls_tab : ∀ c1 : Fin 10, ∀ c2 : Fin 10, decide ((256 : Int) ≤ bits .or .u64 ((2 ^ c1.val : Nat) : Int) ((2 ^ c2.val : Nat) : Int)) = decide (8 ≤ c1.val ∨ 8 ≤ c2.val) ∧
    (bits .and .u64 (bits .or .u64 ((2 ^ c1.val : Nat) : Int) ((2 ^ c2.val : Nat) : Int)) 256 != 0) = decide (c1.val = 8 ∨ c2.val = 8) := by decide +kernel
theorem cls_or (d : Bool) (a b : Nat) : decide ((256 : Int) ≤ bits .or .u64 ((clsU d a : Nat) : Int) ((clsU d b : Nat) : Int)) = (noneV d a || noneV d b) ∧
    (bits .and .u64 (bits .or .u64 ((clsU d a : Nat) : Int) ((clsU d b : Nat) : Int)) 256 != 0) = decide (flagS (clsV d a) (clsV d b) = 16) := by
  obtain ⟨a0, a1⟩ := clsV_bd d a
  obtain ⟨b0, b1⟩ := clsV_bd d b
  have t := cls_tab ⟨(clsV d a).toNat, by omega⟩ ⟨(clsV d b).toNat, by omega⟩
  refine ⟨t.1.trans ?_, t.2.trans ?_⟩
  · unfold noneV; rw [Bool.eq_iff_iff]; simp only [decide_eq_true_eq, Bool.or_eq_true]; omega
  · unfold flagS; rw [Bool.eq_iff_iff]; simp only [decide_eq_true_eq]; split <;> omega
theorem Class_u (sz : Int) (d : Bool) (hsz : Hid (SzOk sz d)) (a : Nat) (ha : Hid (a < 18446744073709551616)) (w : World) : Calls Try.prog 24 #[.int .i64 sz, .int .u64 a] w (RetU (clsU d a) w) := Class_c sz d hsz a ha w
theorem cmp_at {k x y : Int} {sz : Int} {a b : Nat} {d : Bool} (h1 : cmpV k d a b = x) (h2 : cmpF k d a b = y) (c : ∀ w, Calls Try.prog 28 #[.int .i64 k, .int .i64 sz, .int .u64 a, .int .u64 b] w (RetL (cmpV k d a b) (cmpF k d a b) w)) (w : World) :
    Calls Try.prog 28 #[.int .i64 k, .int .i64 sz, .int .u64 a, .int .u64 b] w (RetL x y w) := by rw [← h1, ← h2]; exact c w
theorem pick_at {k y : Int} {x : Nat} {sz : Int} {a b : Nat} {d : Bool} (h1 : pickV k d a b = x) (h2 : flagS (clsV d a) (clsV d b) = y) (c : ∀ w, Calls Try.prog 26 #[.int .i64 k, .int .i64 sz, .int .u64 a, .int .u64 b] w (RetL (pickV k d a b) (flagS (clsV d a) (clsV d b)) w)) (w : World) :
    Calls Try.prog 26 #[.int .i64 k, .int .i64 sz, .int .u64 a, .int .u64 b] w (RetL x y w) := by rw [← h1, ← h2]; exact c w
set_option maxRecDepth 100000 in
set_option maxHeartbeats 2000000 in
theorem orders_lt_4 (n0 : Int) (hs : bits .and .i64 n0 1 = 0) (A B a b : Nat) (hA : Hid (A < 18446744073709551616)) (hB : Hid (B < 18446744073709551616)) (ha : Hid (a < 18446744073709551616)) (hb : Hid (b < 18446744073709551616))
    (ma : Hid (maskN false A = a)) (mb : Hid (maskN false B = b)) (n1 : ((a : Int) != (b : Int)) = true) (n2 : ((b : Int) != (a : Int)) = true)
    (C1 : Hid (∀ w, Calls Try.prog 28 #[.int .i64 70, .int .i64 4, .int .u64 a, .int .u64 b] w (RetL 1 0 w)))
    (C2 : Hid (∀ w, Calls Try.prog 28 #[.int .i64 70, .int .i64 4, .int .u64 b, .int .u64 a] w (RetL 0 0 w)))
    (C3 : Hid (∀ w, Calls Try.prog 28 #[.int .i64 69, .int .i64 4, .int .u64 a, .int .u64 b] w (RetL 0 0 w)))
    (C4 : Hid (∀ w, Calls Try.prog 28 #[.int .i64 71, .int .i64 4, .int .u64 a, .int .u64 b] w (RetL 1 0 w)))
    (C5 : Hid (∀ w, Calls Try.prog 26 #[.int .i64 67, .int .i64 4, .int .u64 a, .int .u64 b] w (RetL a 0 w)))
    (C6 : Hid (∀ w, Calls Try.prog 26 #[.int .i64 68, .int .i64 4, .int .u64 a, .int .u64 b] w (RetL b 0 w)))
    (C7 : Hid (∀ w, Calls Try.prog 28 #[.int .i64 70, .int .i64 4, .int .u64 (flip false b : Nat), .int .u64 (flip false a : Nat)] w (RetL 1 0 w)))
    (C8 : Hid (∀ w, Calls Try.prog 28 #[.int .i64 70, .int .i64 4, .int .u64 b, .int .u64 a] w (RetL 0 0 w)))
    (hN : decide ((256 : Int) ≤ bits .or .u64 ((clsU false a : Nat) : Int) ((clsU false b : Nat) : Int)) = false) (w : World) :
    Calls Try.prog 9 #[.int .i64 n0, .int .u64 A, .int .u64 B] w (RetB true w) := by
  have X1 : bits .xor .u64 (a : Int) 2147483648 = ((flip false a : Nat) : Int) := u64_xor_nat a 2147483648 ha.out (by decide)
  have X2 : bits .xor .u64 (b : Int) 2147483648 = ((flip false b : Nat) : Int) := u64_xor_nat b 2147483648 hb.out (by decide)
  go_enter Try.func9, Try.ntmps9
  go_wp2_with fail
  refine (awake_c _).mono ?_; rintro e w1 ⟨rfl, hb1⟩
  go_wp2_with fail
  refine (rmask_c 4 false rfl A hA _).mono ?_; rintro e w2 ⟨rfl, hb2⟩
  rw [ma.out]
  go_wp2_with fail
  refine (rmask_c 4 false rfl B hB _).mono ?_; rintro e w3 ⟨rfl, hb3⟩
  rw [mb.out]
  go_wp2_with fail
  refine (C1.out _).mono ?_; rintro e w4 ⟨rfl, hb4⟩
  go_wp2_with fail
  refine (C2.out _).mono ?_; rintro e w5 ⟨rfl, hb5⟩
  go_wp2_with fail
  refine (C3.out _).mono ?_; rintro e w6 ⟨rfl, hb6⟩
  go_wp2_with fail
  refine (C4.out _).mono ?_; rintro e w7 ⟨rfl, hb7⟩
  go_wp2_with fail
  refine (C5.out _).mono ?_; rintro e w8 ⟨rfl, hb8⟩
  go_wp2_with fail
  refine (C6.out _).mono ?_; rintro e w9 ⟨rfl, hb9⟩
  go_wp2_with fail
  refine (Class_u 4 false rfl a ha _).mono ?_; rintro e w10 ⟨rfl, hb10⟩
  go_wp2_with fail
  refine (Class_u 4 false rfl b hb _).mono ?_; rintro e w11 ⟨rfl, hb11⟩
  go_wp2_with fail
  refine (C7.out _).mono ?_; rintro e w12 ⟨rfl, hb12⟩
  go_wp2_with fail
  refine (C8.out _).mono ?_; rintro e w13 ⟨rfl, hb13⟩
  go_wp2_with fail
  go_ret
  exact retB_mk rfl (by repeat (first | (with_reducible first | exact Below.refl _ _ | assumption | exact Nat.le_refl _ | refine Below.drew ?_ | refine Below.alloc ?_ ?_ _ | refine Below.setCell ?_ ?_ _ | refine le_alloc ?_ | refine le_set ?_ | refine le_drew ?_ | refine below_step (by assumption) ?_ ?_ | refine le_below (by assumption) ?_) | (dsimp only; omega)))
set_option maxRecDepth 100000 in
set_option maxHeartbeats 2000000 in
theorem orders_gt_4 (n0 : Int) (hs : bits .and .i64 n0 1 = 0) (A B a b : Nat) (hA : Hid (A < 18446744073709551616)) (hB : Hid (B < 18446744073709551616)) (ha : Hid (a < 18446744073709551616)) (hb : Hid (b < 18446744073709551616))
    (ma : Hid (maskN false A = a)) (mb : Hid (maskN false B = b)) (n1 : ((a : Int) != (b : Int)) = true) (n2 : ((b : Int) != (a : Int)) = true) (xc : bits .xor .u64 (b : Int) (a : Int) = bits .xor .u64 (a : Int) (b : Int))
    (C1 : Hid (∀ w, Calls Try.prog 28 #[.int .i64 70, .int .i64 4, .int .u64 a, .int .u64 b] w (RetL 0 0 w)))
    (C2 : Hid (∀ w, Calls Try.prog 28 #[.int .i64 70, .int .i64 4, .int .u64 b, .int .u64 a] w (RetL 1 0 w)))
    (C3 : Hid (∀ w, Calls Try.prog 28 #[.int .i64 69, .int .i64 4, .int .u64 a, .int .u64 b] w (RetL 0 0 w)))
    (C4 : Hid (∀ w, Calls Try.prog 28 #[.int .i64 71, .int .i64 4, .int .u64 a, .int .u64 b] w (RetL 0 0 w)))
    (C5 : Hid (∀ w, Calls Try.prog 26 #[.int .i64 67, .int .i64 4, .int .u64 a, .int .u64 b] w (RetL b 0 w)))
    (C6 : Hid (∀ w, Calls Try.prog 26 #[.int .i64 68, .int .i64 4, .int .u64 a, .int .u64 b] w (RetL a 0 w)))
    (C7 : Hid (∀ w, Calls Try.prog 28 #[.int .i64 70, .int .i64 4, .int .u64 (flip false b : Nat), .int .u64 (flip false a : Nat)] w (RetL 0 0 w)))
    (C8 : Hid (∀ w, Calls Try.prog 28 #[.int .i64 70, .int .i64 4, .int .u64 a, .int .u64 b] w (RetL 0 0 w)))
    (hN : decide ((256 : Int) ≤ bits .or .u64 ((clsU false a : Nat) : Int) ((clsU false b : Nat) : Int)) = false) (w : World) :
    Calls Try.prog 9 #[.int .i64 n0, .int .u64 A, .int .u64 B] w (RetB true w) := by
  have X1 : bits .xor .u64 (a : Int) 2147483648 = ((flip false a : Nat) : Int) := u64_xor_nat a 2147483648 ha.out (by decide)
  have X2 : bits .xor .u64 (b : Int) 2147483648 = ((flip false b : Nat) : Int) := u64_xor_nat b 2147483648 hb.out (by decide)
  go_enter Try.func9, Try.ntmps9
  go_wp2_with fail
  refine (awake_c _).mono ?_; rintro e w1 ⟨rfl, hb1⟩
  go_wp2_with fail
  refine (rmask_c 4 false rfl A hA _).mono ?_; rintro e w2 ⟨rfl, hb2⟩
  rw [ma.out]
  go_wp2_with fail
  refine (rmask_c 4 false rfl B hB _).mono ?_; rintro e w3 ⟨rfl, hb3⟩
  rw [mb.out]
  go_wp2_with fail
  refine (C1.out _).mono ?_; rintro e w4 ⟨rfl, hb4⟩
  go_wp2_with fail
  refine (C2.out _).mono ?_; rintro e w5 ⟨rfl, hb5⟩
  go_wp2_with fail
  refine (C3.out _).mono ?_; rintro e w6 ⟨rfl, hb6⟩
  go_wp2_with fail
  refine (C4.out _).mono ?_; rintro e w7 ⟨rfl, hb7⟩
  go_wp2_with fail
  refine (C5.out _).mono ?_; rintro e w8 ⟨rfl, hb8⟩
  go_wp2_with fail
  refine (C6.out _).mono ?_; rintro e w9 ⟨rfl, hb9⟩
  go_wp2_with fail
  refine (Class_u 4 false rfl a ha _).mono ?_; rintro e w10 ⟨rfl, hb10⟩
  go_wp2_with fail
  refine (Class_u 4 false rfl b hb _).mono ?_; rintro e w11 ⟨rfl, hb11⟩
  go_wp2_with fail
  refine (C7.out _).mono ?_; rintro e w12 ⟨rfl, hb12⟩
  go_wp2_with fail
  refine (C8.out _).mono ?_; rintro e w13 ⟨rfl, hb13⟩
  go_wp2_with fail
  go_ret
  exact retB_mk rfl (by repeat (first | (with_reducible first | exact Below.refl _ _ | assumption | exact Nat.le_refl _ | refine Below.drew ?_ | refine Below.alloc ?_ ?_ _ | refine Below.setCell ?_ ?_ _ | refine le_alloc ?_ | refine le_set ?_ | refine le_drew ?_ | refine below_step (by assumption) ?_ ?_ | refine le_below (by assumption) ?_) | (dsimp only; omega)))
set_option maxRecDepth 100000 in
set_option maxHeartbeats 2000000 in
theorem orders_slt_4 (n0 : Int) (hs : bits .and .i64 n0 1 = 0) (A B a b : Nat) (hA : Hid (A < 18446744073709551616)) (hB : Hid (B < 18446744073709551616)) (ha : Hid (a < 18446744073709551616)) (hb : Hid (b < 18446744073709551616))
    (ma : Hid (maskN false A = a)) (mb : Hid (maskN false B = b)) (n1 : ((a : Int) != (b : Int)) = true) (n2 : ((b : Int) != (a : Int)) = true)
    (C1 : Hid (∀ w, Calls Try.prog 28 #[.int .i64 70, .int .i64 4, .int .u64 a, .int .u64 b] w (RetL 0 0 w)))
    (C2 : Hid (∀ w, Calls Try.prog 28 #[.int .i64 70, .int .i64 4, .int .u64 b, .int .u64 a] w (RetL 0 0 w)))
    (C3 : Hid (∀ w, Calls Try.prog 28 #[.int .i64 69, .int .i64 4, .int .u64 a, .int .u64 b] w (RetL 1 0 w)))
    (C4 : Hid (∀ w, Calls Try.prog 28 #[.int .i64 71, .int .i64 4, .int .u64 a, .int .u64 b] w (RetL 1 0 w)))
    (C5 : Hid (∀ w, Calls Try.prog 26 #[.int .i64 67, .int .i64 4, .int .u64 a, .int .u64 b] w (RetL a 0 w)))
    (C6 : Hid (∀ w, Calls Try.prog 26 #[.int .i64 68, .int .i64 4, .int .u64 a, .int .u64 b] w (RetL b 0 w)))
    (C7 : Hid (∀ w, Calls Try.prog 28 #[.int .i64 70, .int .i64 4, .int .u64 (flip false b : Nat), .int .u64 (flip false a : Nat)] w (RetL 0 0 w)))
    (C8 : Hid (∀ w, Calls Try.prog 28 #[.int .i64 70, .int .i64 4, .int .u64 b, .int .u64 a] w (RetL 0 0 w)))
    (hN : decide ((256 : Int) ≤ bits .or .u64 ((clsU false a : Nat) : Int) ((clsU false b : Nat) : Int)) = false) (w : World) :
    Calls Try.prog 9 #[.int .i64 n0, .int .u64 A, .int .u64 B] w (RetB true w) := by
  have X1 : bits .xor .u64 (a : Int) 2147483648 = ((flip false a : Nat) : Int) := u64_xor_nat a 2147483648 ha.out (by decide)
  have X2 : bits .xor .u64 (b : Int) 2147483648 = ((flip false b : Nat) : Int) := u64_xor_nat b 2147483648 hb.out (by decide)
  go_enter Try.func9, Try.ntmps9
  go_wp2_with fail
  refine (awake_c _).mono ?_; rintro e w1 ⟨rfl, hb1⟩
  go_wp2_with fail
  refine (rmask_c 4 false rfl A hA _).mono ?_; rintro e w2 ⟨rfl, hb2⟩
  rw [ma.out]
  go_wp2_with fail
  refine (rmask_c 4 false rfl B hB _).mono ?_; rintro e w3 ⟨rfl, hb3⟩
  rw [mb.out]
  go_wp2_with fail
  refine (C1.out _).mono ?_; rintro e w4 ⟨rfl, hb4⟩
  go_wp2_with fail
  refine (C2.out _).mono ?_; rintro e w5 ⟨rfl, hb5⟩
  go_wp2_with fail
  refine (C3.out _).mono ?_; rintro e w6 ⟨rfl, hb6⟩
  go_wp2_with fail
  refine (C4.out _).mono ?_; rintro e w7 ⟨rfl, hb7⟩
  go_wp2_with fail
  refine (C5.out _).mono ?_; rintro e w8 ⟨rfl, hb8⟩
  go_wp2_with fail
  refine (C6.out _).mono ?_; rintro e w9 ⟨rfl, hb9⟩
  go_wp2_with fail
  refine (Class_u 4 false rfl a ha _).mono ?_; rintro e w10 ⟨rfl, hb10⟩
  go_wp2_with fail
  refine (Class_u 4 false rfl b hb _).mono ?_; rintro e w11 ⟨rfl, hb11⟩
  go_wp2_with fail
  refine (C7.out _).mono ?_; rintro e w12 ⟨rfl, hb12⟩
  go_wp2_with fail
  refine (C8.out _).mono ?_; rintro e w13 ⟨rfl, hb13⟩
  go_wp2_with fail
  go_ret
  exact retB_mk rfl (by repeat (first | (with_reducible first | exact Below.refl _ _ | assumption | exact Nat.le_refl _ | refine Below.drew ?_ | refine Below.alloc ?_ ?_ _ | refine Below.setCell ?_ ?_ _ | refine le_alloc ?_ | refine le_set ?_ | refine le_drew ?_ | refine below_step (by assumption) ?_ ?_ | refine le_below (by assumption) ?_) | (dsimp only; omega)))
set_option maxRecDepth 100000 in
set_option maxHeartbeats 2000000 in
theorem orders_sgt_4 (n0 : Int) (hs : bits .and .i64 n0 1 = 0) (A B a b : Nat) (hA : Hid (A < 18446744073709551616)) (hB : Hid (B < 18446744073709551616)) (ha : Hid (a < 18446744073709551616)) (hb : Hid (b < 18446744073709551616))
    (ma : Hid (maskN false A = a)) (mb : Hid (maskN false B = b)) (n1 : ((a : Int) != (b : Int)) = true) (n2 : ((b : Int) != (a : Int)) = true) (xc : bits .xor .u64 (b : Int) (a : Int) = bits .xor .u64 (a : Int) (b : Int))
    (C1 : Hid (∀ w, Calls Try.prog 28 #[.int .i64 70, .int .i64 4, .int .u64 a, .int .u64 b] w (RetL 0 0 w)))
    (C2 : Hid (∀ w, Calls Try.prog 28 #[.int .i64 70, .int .i64 4, .int .u64 b, .int .u64 a] w (RetL 0 0 w)))
    (C3 : Hid (∀ w, Calls Try.prog 28 #[.int .i64 69, .int .i64 4, .int .u64 a, .int .u64 b] w (RetL 1 0 w)))
    (C4 : Hid (∀ w, Calls Try.prog 28 #[.int .i64 71, .int .i64 4, .int .u64 a, .int .u64 b] w (RetL 1 0 w)))
    (C5 : Hid (∀ w, Calls Try.prog 26 #[.int .i64 67, .int .i64 4, .int .u64 a, .int .u64 b] w (RetL b 0 w)))
    (C6 : Hid (∀ w, Calls Try.prog 26 #[.int .i64 68, .int .i64 4, .int .u64 a, .int .u64 b] w (RetL a 0 w)))
    (C7 : Hid (∀ w, Calls Try.prog 28 #[.int .i64 70, .int .i64 4, .int .u64 (flip false b : Nat), .int .u64 (flip false a : Nat)] w (RetL 0 0 w)))
    (C8 : Hid (∀ w, Calls Try.prog 28 #[.int .i64 70, .int .i64 4, .int .u64 a, .int .u64 b] w (RetL 0 0 w)))
    (hN : decide ((256 : Int) ≤ bits .or .u64 ((clsU false a : Nat) : Int) ((clsU false b : Nat) : Int)) = false) (w : World) :
    Calls Try.prog 9 #[.int .i64 n0, .int .u64 A, .int .u64 B] w (RetB true w) := by
  have X1 : bits .xor .u64 (a : Int) 2147483648 = ((flip false a : Nat) : Int) := u64_xor_nat a 2147483648 ha.out (by decide)
  have X2 : bits .xor .u64 (b : Int) 2147483648 = ((flip false b : Nat) : Int) := u64_xor_nat b 2147483648 hb.out (by decide)
  go_enter Try.func9, Try.ntmps9
  go_wp2_with fail
  refine (awake_c _).mono ?_; rintro e w1 ⟨rfl, hb1⟩
  go_wp2_with fail
  refine (rmask_c 4 false rfl A hA _).mono ?_; rintro e w2 ⟨rfl, hb2⟩
  rw [ma.out]
  go_wp2_with fail
  refine (rmask_c 4 false rfl B hB _).mono ?_; rintro e w3 ⟨rfl, hb3⟩
  rw [mb.out]
  go_wp2_with fail
  refine (C1.out _).mono ?_; rintro e w4 ⟨rfl, hb4⟩
  go_wp2_with fail
  refine (C2.out _).mono ?_; rintro e w5 ⟨rfl, hb5⟩
  go_wp2_with fail
  refine (C3.out _).mono ?_; rintro e w6 ⟨rfl, hb6⟩
  go_wp2_with fail
  refine (C4.out _).mono ?_; rintro e w7 ⟨rfl, hb7⟩
  go_wp2_with fail
  refine (C5.out _).mono ?_; rintro e w8 ⟨rfl, hb8⟩
  go_wp2_with fail
  refine (C6.out _).mono ?_; rintro e w9 ⟨rfl, hb9⟩
  go_wp2_with fail
  refine (Class_u 4 false rfl a ha _).mono ?_; rintro e w10 ⟨rfl, hb10⟩
  go_wp2_with fail
  refine (Class_u 4 false rfl b hb _).mono ?_; rintro e w11 ⟨rfl, hb11⟩
  go_wp2_with fail
  refine (C7.out _).mono ?_; rintro e w12 ⟨rfl, hb12⟩
  go_wp2_with fail
  refine (C8.out _).mono ?_; rintro e w13 ⟨rfl, hb13⟩
  go_wp2_with fail
  go_ret
  exact retB_mk rfl (by repeat (first | (with_reducible first | exact Below.refl _ _ | assumption | exact Nat.le_refl _ | refine Below.drew ?_ | refine Below.alloc ?_ ?_ _ | refine Below.setCell ?_ ?_ _ | refine le_alloc ?_ | refine le_set ?_ | refine le_drew ?_ | refine below_step (by assumption) ?_ ?_ | refine le_below (by assumption) ?_) | (dsimp only; omega)))
set_option maxRecDepth 100000 in
set_option maxHeartbeats 2000000 in
theorem orders_seq_4 (n0 : Int) (hs : bits .and .i64 n0 1 = 0) (A B a b : Nat) (hA : Hid (A < 18446744073709551616)) (hB : Hid (B < 18446744073709551616)) (ha : Hid (a < 18446744073709551616)) (hb : Hid (b < 18446744073709551616))
    (ma : Hid (maskN false A = a)) (mb : Hid (maskN false B = b)) (n1 : ((a : Int) != (b : Int)) = false) (n2 : ((b : Int) != (a : Int)) = false) (xc : bits .xor .u64 (b : Int) (a : Int) = bits .xor .u64 (a : Int) (b : Int))
    (C1 : Hid (∀ w, Calls Try.prog 28 #[.int .i64 70, .int .i64 4, .int .u64 a, .int .u64 b] w (RetL 0 0 w)))
    (C2 : Hid (∀ w, Calls Try.prog 28 #[.int .i64 70, .int .i64 4, .int .u64 b, .int .u64 a] w (RetL 0 0 w)))
    (C3 : Hid (∀ w, Calls Try.prog 28 #[.int .i64 69, .int .i64 4, .int .u64 a, .int .u64 b] w (RetL 1 0 w)))
    (C4 : Hid (∀ w, Calls Try.prog 28 #[.int .i64 71, .int .i64 4, .int .u64 a, .int .u64 b] w (RetL 1 0 w)))
    (C5 : Hid (∀ w, Calls Try.prog 26 #[.int .i64 67, .int .i64 4, .int .u64 a, .int .u64 b] w (RetL b 0 w)))
    (C6 : Hid (∀ w, Calls Try.prog 26 #[.int .i64 68, .int .i64 4, .int .u64 a, .int .u64 b] w (RetL a 0 w)))
    (C7 : Hid (∀ w, Calls Try.prog 28 #[.int .i64 70, .int .i64 4, .int .u64 (flip false b : Nat), .int .u64 (flip false a : Nat)] w (RetL 0 0 w)))
    (C8 : Hid (∀ w, Calls Try.prog 28 #[.int .i64 70, .int .i64 4, .int .u64 a, .int .u64 b] w (RetL 0 0 w)))
    (hN : decide ((256 : Int) ≤ bits .or .u64 ((clsU false a : Nat) : Int) ((clsU false b : Nat) : Int)) = false) (w : World) :
    Calls Try.prog 9 #[.int .i64 n0, .int .u64 A, .int .u64 B] w (RetB true w) := by
  have X1 : bits .xor .u64 (a : Int) 2147483648 = ((flip false a : Nat) : Int) := u64_xor_nat a 2147483648 ha.out (by decide)
  have X2 : bits .xor .u64 (b : Int) 2147483648 = ((flip false b : Nat) : Int) := u64_xor_nat b 2147483648 hb.out (by decide)
  go_enter Try.func9, Try.ntmps9
  go_wp2_with fail
  refine (awake_c _).mono ?_; rintro e w1 ⟨rfl, hb1⟩
  go_wp2_with fail
  refine (rmask_c 4 false rfl A hA _).mono ?_; rintro e w2 ⟨rfl, hb2⟩
  rw [ma.out]
  go_wp2_with fail
  refine (rmask_c 4 false rfl B hB _).mono ?_; rintro e w3 ⟨rfl, hb3⟩
  rw [mb.out]
  go_wp2_with fail
  refine (C1.out _).mono ?_; rintro e w4 ⟨rfl, hb4⟩
  go_wp2_with fail
  refine (C2.out _).mono ?_; rintro e w5 ⟨rfl, hb5⟩
  go_wp2_with fail
  refine (C3.out _).mono ?_; rintro e w6 ⟨rfl, hb6⟩
  go_wp2_with fail
  refine (C4.out _).mono ?_; rintro e w7 ⟨rfl, hb7⟩
  go_wp2_with fail
  refine (C5.out _).mono ?_; rintro e w8 ⟨rfl, hb8⟩
  go_wp2_with fail
  refine (C6.out _).mono ?_; rintro e w9 ⟨rfl, hb9⟩
  go_wp2_with fail
  refine (Class_u 4 false rfl a ha _).mono ?_; rintro e w10 ⟨rfl, hb10⟩
  go_wp2_with fail
  refine (Class_u 4 false rfl b hb _).mono ?_; rintro e w11 ⟨rfl, hb11⟩
  go_wp2_with fail
  refine (C7.out _).mono ?_; rintro e w12 ⟨rfl, hb12⟩
  go_wp2_with fail
  refine (C8.out _).mono ?_; rintro e w13 ⟨rfl, hb13⟩
  go_wp2_with fail
  go_ret
  exact retB_mk rfl (by repeat (first | (with_reducible first | exact Below.refl _ _ | assumption | exact Nat.le_refl _ | refine Below.drew ?_ | refine Below.alloc ?_ ?_ _ | refine Below.setCell ?_ ?_ _ | refine le_alloc ?_ | refine le_set ?_ | refine le_drew ?_ | refine below_step (by assumption) ?_ ?_ | refine le_below (by assumption) ?_) | (dsimp only; omega)))
set_option maxRecDepth 100000 in
set_option maxHeartbeats 2000000 in
theorem orders_lt_8 (n0 : Int) (hs : bits .and .i64 n0 1 = 1) (A B a b : Nat) (hA : Hid (A < 18446744073709551616)) (hB : Hid (B < 18446744073709551616)) (ha : Hid (a < 18446744073709551616)) (hb : Hid (b < 18446744073709551616))
    (ma : Hid (maskN true A = a)) (mb : Hid (maskN true B = b)) (n1 : ((a : Int) != (b : Int)) = true) (n2 : ((b : Int) != (a : Int)) = true)
    (C1 : Hid (∀ w, Calls Try.prog 28 #[.int .i64 70, .int .i64 8, .int .u64 a, .int .u64 b] w (RetL 1 0 w)))
    (C2 : Hid (∀ w, Calls Try.prog 28 #[.int .i64 70, .int .i64 8, .int .u64 b, .int .u64 a] w (RetL 0 0 w)))
    (C3 : Hid (∀ w, Calls Try.prog 28 #[.int .i64 69, .int .i64 8, .int .u64 a, .int .u64 b] w (RetL 0 0 w)))
    (C4 : Hid (∀ w, Calls Try.prog 28 #[.int .i64 71, .int .i64 8, .int .u64 a, .int .u64 b] w (RetL 1 0 w)))
    (C5 : Hid (∀ w, Calls Try.prog 26 #[.int .i64 67, .int .i64 8, .int .u64 a, .int .u64 b] w (RetL a 0 w)))
    (C6 : Hid (∀ w, Calls Try.prog 26 #[.int .i64 68, .int .i64 8, .int .u64 a, .int .u64 b] w (RetL b 0 w)))
    (C7 : Hid (∀ w, Calls Try.prog 28 #[.int .i64 70, .int .i64 8, .int .u64 (flip true b : Nat), .int .u64 (flip true a : Nat)] w (RetL 1 0 w)))
    (C8 : Hid (∀ w, Calls Try.prog 28 #[.int .i64 70, .int .i64 8, .int .u64 b, .int .u64 a] w (RetL 0 0 w)))
    (hN : decide ((256 : Int) ≤ bits .or .u64 ((clsU true a : Nat) : Int) ((clsU true b : Nat) : Int)) = false) (w : World) :
    Calls Try.prog 9 #[.int .i64 n0, .int .u64 A, .int .u64 B] w (RetB true w) := by
  have X1 : bits .xor .u64 (a : Int) 9223372036854775808 = ((flip true a : Nat) : Int) := u64_xor_nat a 9223372036854775808 ha.out (by decide)
  have X2 : bits .xor .u64 (b : Int) 9223372036854775808 = ((flip true b : Nat) : Int) := u64_xor_nat b 9223372036854775808 hb.out (by decide)
  go_enter Try.func9, Try.ntmps9
  go_wp2_with fail
  refine (awake_c _).mono ?_; rintro e w1 ⟨rfl, hb1⟩
  go_wp2_with fail
  refine (rmask_c 8 true rfl A hA _).mono ?_; rintro e w2 ⟨rfl, hb2⟩
  rw [ma.out]
  go_wp2_with fail
  refine (rmask_c 8 true rfl B hB _).mono ?_; rintro e w3 ⟨rfl, hb3⟩
  rw [mb.out]
  go_wp2_with fail
  refine (C1.out _).mono ?_; rintro e w4 ⟨rfl, hb4⟩
  go_wp2_with fail
  refine (C2.out _).mono ?_; rintro e w5 ⟨rfl, hb5⟩
  go_wp2_with fail
  refine (C3.out _).mono ?_; rintro e w6 ⟨rfl, hb6⟩
  go_wp2_with fail
  refine (C4.out _).mono ?_; rintro e w7 ⟨rfl, hb7⟩
  go_wp2_with fail
  refine (C5.out _).mono ?_; rintro e w8 ⟨rfl, hb8⟩
  go_wp2_with fail
  refine (C6.out _).mono ?_; rintro e w9 ⟨rfl, hb9⟩
  go_wp2_with fail
  refine (Class_u 8 true rfl a ha _).mono ?_; rintro e w10 ⟨rfl, hb10⟩
  go_wp2_with fail
  refine (Class_u 8 true rfl b hb _).mono ?_; rintro e w11 ⟨rfl, hb11⟩
  go_wp2_with fail
  refine (C7.out _).mono ?_; rintro e w12 ⟨rfl, hb12⟩
  go_wp2_with fail
  refine (C8.out _).mono ?_; rintro e w13 ⟨rfl, hb13⟩
  go_wp2_with fail
  go_ret
  exact retB_mk rfl (by repeat (first | (with_reducible first | exact Below.refl _ _ | assumption | exact Nat.le_refl _ | refine Below.drew ?_ | refine Below.alloc ?_ ?_ _ | refine Below.setCell ?_ ?_ _ | refine le_alloc ?_ | refine le_set ?_ | refine le_drew ?_ | refine below_step (by assumption) ?_ ?_ | refine le_below (by assumption) ?_) | (dsimp only; omega)))
set_option maxRecDepth 100000 in
set_option maxHeartbeats 2000000 in
theorem orders_gt_8 (n0 : Int) (hs : bits .and .i64 n0 1 = 1) (A B a b : Nat) (hA : Hid (A < 18446744073709551616)) (hB : Hid (B < 18446744073709551616)) (ha : Hid (a < 18446744073709551616)) (hb : Hid (b < 18446744073709551616))
    (ma : Hid (maskN true A = a)) (mb : Hid (maskN true B = b)) (n1 : ((a : Int) != (b : Int)) = true) (n2 : ((b : Int) != (a : Int)) = true) (xc : bits .xor .u64 (b : Int) (a : Int) = bits .xor .u64 (a : Int) (b : Int))
    (C1 : Hid (∀ w, Calls Try.prog 28 #[.int .i64 70, .int .i64 8, .int .u64 a, .int .u64 b] w (RetL 0 0 w)))
    (C2 : Hid (∀ w, Calls Try.prog 28 #[.int .i64 70, .int .i64 8, .int .u64 b, .int .u64 a] w (RetL 1 0 w)))
    (C3 : Hid (∀ w, Calls Try.prog 28 #[.int .i64 69, .int .i64 8, .int .u64 a, .int .u64 b] w (RetL 0 0 w)))
    (C4 : Hid (∀ w, Calls Try.prog 28 #[.int .i64 71, .int .i64 8, .int .u64 a, .int .u64 b] w (RetL 0 0 w)))
    (C5 : Hid (∀ w, Calls Try.prog 26 #[.int .i64 67, .int .i64 8, .int .u64 a, .int .u64 b] w (RetL b 0 w)))
    (C6 : Hid (∀ w, Calls Try.prog 26 #[.int .i64 68, .int .i64 8, .int .u64 a, .int .u64 b] w (RetL a 0 w)))
    (C7 : Hid (∀ w, Calls Try.prog 28 #[.int .i64 70, .int .i64 8, .int .u64 (flip true b : Nat), .int .u64 (flip true a : Nat)] w (RetL 0 0 w)))
    (C8 : Hid (∀ w, Calls Try.prog 28 #[.int .i64 70, .int .i64 8, .int .u64 a, .int .u64 b] w (RetL 0 0 w)))
    (hN : decide ((256 : Int) ≤ bits .or .u64 ((clsU true a : Nat) : Int) ((clsU true b : Nat) : Int)) = false) (w : World) :
    Calls Try.prog 9 #[.int .i64 n0, .int .u64 A, .int .u64 B] w (RetB true w) := by
  have X1 : bits .xor .u64 (a : Int) 9223372036854775808 = ((flip true a : Nat) : Int) := u64_xor_nat a 9223372036854775808 ha.out (by decide)
  have X2 : bits .xor .u64 (b : Int) 9223372036854775808 = ((flip true b : Nat) : Int) := u64_xor_nat b 9223372036854775808 hb.out (by decide)
  go_enter Try.func9, Try.ntmps9
  go_wp2_with fail
  refine (awake_c _).mono ?_; rintro e w1 ⟨rfl, hb1⟩
  go_wp2_with fail
  refine (rmask_c 8 true rfl A hA _).mono ?_; rintro e w2 ⟨rfl, hb2⟩
  rw [ma.out]
  go_wp2_with fail
  refine (rmask_c 8 true rfl B hB _).mono ?_; rintro e w3 ⟨rfl, hb3⟩
  rw [mb.out]
  go_wp2_with fail
  refine (C1.out _).mono ?_; rintro e w4 ⟨rfl, hb4⟩
  go_wp2_with fail
  refine (C2.out _).mono ?_; rintro e w5 ⟨rfl, hb5⟩
  go_wp2_with fail
  refine (C3.out _).mono ?_; rintro e w6 ⟨rfl, hb6⟩
  go_wp2_with fail
  refine (C4.out _).mono ?_; rintro e w7 ⟨rfl, hb7⟩
  go_wp2_with fail
  refine (C5.out _).mono ?_; rintro e w8 ⟨rfl, hb8⟩
  go_wp2_with fail
  refine (C6.out _).mono ?_; rintro e w9 ⟨rfl, hb9⟩
  go_wp2_with fail
  refine (Class_u 8 true rfl a ha _).mono ?_; rintro e w10 ⟨rfl, hb10⟩
  go_wp2_with fail
  refine (Class_u 8 true rfl b hb _).mono ?_; rintro e w11 ⟨rfl, hb11⟩
  go_wp2_with fail
  refine (C7.out _).mono ?_; rintro e w12 ⟨rfl, hb12⟩
  go_wp2_with fail
  refine (C8.out _).mono ?_; rintro e w13 ⟨rfl, hb13⟩
  go_wp2_with fail
  go_ret
  exact retB_mk rfl (by repeat (first | (with_reducible first | exact Below.refl _ _ | assumption | exact Nat.le_refl _ | refine Below.drew ?_ | refine Below.alloc ?_ ?_ _ | refine Below.setCell ?_ ?_ _ | refine le_alloc ?_ | refine le_set ?_ | refine le_drew ?_ | refine below_step (by assumption) ?_ ?_ | refine le_below (by assumption) ?_) | (dsimp only; omega)))
set_option maxRecDepth 100000 in
set_option maxHeartbeats 2000000 in
theorem orders_slt_8 (n0 : Int) (hs : bits .and .i64 n0 1 = 1) (A B a b : Nat) (hA : Hid (A < 18446744073709551616)) (hB : Hid (B < 18446744073709551616)) (ha : Hid (a < 18446744073709551616)) (hb : Hid (b < 18446744073709551616))
    (ma : Hid (maskN true A = a)) (mb : Hid (maskN true B = b)) (n1 : ((a : Int) != (b : Int)) = true) (n2 : ((b : Int) != (a : Int)) = true)
    (C1 : Hid (∀ w, Calls Try.prog 28 #[.int .i64 70, .int .i64 8, .int .u64 a, .int .u64 b] w (RetL 0 0 w)))
    (C2 : Hid (∀ w, Calls Try.prog 28 #[.int .i64 70, .int .i64 8, .int .u64 b, .int .u64 a] w (RetL 0 0 w)))
    (C3 : Hid (∀ w, Calls Try.prog 28 #[.int .i64 69, .int .i64 8, .int .u64 a, .int .u64 b] w (RetL 1 0 w)))
    (C4 : Hid (∀ w, Calls Try.prog 28 #[.int .i64 71, .int .i64 8, .int .u64 a, .int .u64 b] w (RetL 1 0 w)))
    (C5 : Hid (∀ w, Calls Try.prog 26 #[.int .i64 67, .int .i64 8, .int .u64 a, .int .u64 b] w (RetL a 0 w)))
    (C6 : Hid (∀ w, Calls Try.prog 26 #[.int .i64 68, .int .i64 8, .int .u64 a, .int .u64 b] w (RetL b 0 w)))
    (C7 : Hid (∀ w, Calls Try.prog 28 #[.int .i64 70, .int .i64 8, .int .u64 (flip true b : Nat), .int .u64 (flip true a : Nat)] w (RetL 0 0 w)))
    (C8 : Hid (∀ w, Calls Try.prog 28 #[.int .i64 70, .int .i64 8, .int .u64 b, .int .u64 a] w (RetL 0 0 w)))
    (hN : decide ((256 : Int) ≤ bits .or .u64 ((clsU true a : Nat) : Int) ((clsU true b : Nat) : Int)) = false) (w : World) :
    Calls Try.prog 9 #[.int .i64 n0, .int .u64 A, .int .u64 B] w (RetB true w) := by
  have X1 : bits .xor .u64 (a : Int) 9223372036854775808 = ((flip true a : Nat) : Int) := u64_xor_nat a 9223372036854775808 ha.out (by decide)
  have X2 : bits .xor .u64 (b : Int) 9223372036854775808 = ((flip true b : Nat) : Int) := u64_xor_nat b 9223372036854775808 hb.out (by decide)
  go_enter Try.func9, Try.ntmps9
  go_wp2_with fail
  refine (awake_c _).mono ?_; rintro e w1 ⟨rfl, hb1⟩
  go_wp2_with fail
  refine (rmask_c 8 true rfl A hA _).mono ?_; rintro e w2 ⟨rfl, hb2⟩
  rw [ma.out]
  go_wp2_with fail
  refine (rmask_c 8 true rfl B hB _).mono ?_; rintro e w3 ⟨rfl, hb3⟩
  rw [mb.out]
  go_wp2_with fail
  refine (C1.out _).mono ?_; rintro e w4 ⟨rfl, hb4⟩
  go_wp2_with fail
  refine (C2.out _).mono ?_; rintro e w5 ⟨rfl, hb5⟩
  go_wp2_with fail
  refine (C3.out _).mono ?_; rintro e w6 ⟨rfl, hb6⟩
  go_wp2_with fail
  refine (C4.out _).mono ?_; rintro e w7 ⟨rfl, hb7⟩
  go_wp2_with fail
  refine (C5.out _).mono ?_; rintro e w8 ⟨rfl, hb8⟩
  go_wp2_with fail
  refine (C6.out _).mono ?_; rintro e w9 ⟨rfl, hb9⟩
  go_wp2_with fail
  refine (Class_u 8 true rfl a ha _).mono ?_; rintro e w10 ⟨rfl, hb10⟩
  go_wp2_with fail
  refine (Class_u 8 true rfl b hb _).mono ?_; rintro e w11 ⟨rfl, hb11⟩
  go_wp2_with fail
  refine (C7.out _).mono ?_; rintro e w12 ⟨rfl, hb12⟩
  go_wp2_with fail
  refine (C8.out _).mono ?_; rintro e w13 ⟨rfl, hb13⟩
  go_wp2_with fail
  go_ret
  exact retB_mk rfl (by repeat (first | (with_reducible first | exact Below.refl _ _ | assumption | exact Nat.le_refl _ | refine Below.drew ?_ | refine Below.alloc ?_ ?_ _ | refine Below.setCell ?_ ?_ _ | refine le_alloc ?_ | refine le_set ?_ | refine le_drew ?_ | refine below_step (by assumption) ?_ ?_ | refine le_below (by assumption) ?_) | (dsimp only; omega)))
set_option maxRecDepth 100000 in
set_option maxHeartbeats 2000000 in
theorem orders_sgt_8 (n0 : Int) (hs : bits .and .i64 n0 1 = 1) (A B a b : Nat) (hA : Hid (A < 18446744073709551616)) (hB : Hid (B < 18446744073709551616)) (ha : Hid (a < 18446744073709551616)) (hb : Hid (b < 18446744073709551616))
    (ma : Hid (maskN true A = a)) (mb : Hid (maskN true B = b)) (n1 : ((a : Int) != (b : Int)) = true) (n2 : ((b : Int) != (a : Int)) = true) (xc : bits .xor .u64 (b : Int) (a : Int) = bits .xor .u64 (a : Int) (b : Int))
    (C1 : Hid (∀ w, Calls Try.prog 28 #[.int .i64 70, .int .i64 8, .int .u64 a, .int .u64 b] w (RetL 0 0 w)))
    (C2 : Hid (∀ w, Calls Try.prog 28 #[.int .i64 70, .int .i64 8, .int .u64 b, .int .u64 a] w (RetL 0 0 w)))
    (C3 : Hid (∀ w, Calls Try.prog 28 #[.int .i64 69, .int .i64 8, .int .u64 a, .int .u64 b] w (RetL 1 0 w)))
    (C4 : Hid (∀ w, Calls Try.prog 28 #[.int .i64 71, .int .i64 8, .int .u64 a, .int .u64 b] w (RetL 1 0 w)))
    (C5 : Hid (∀ w, Calls Try.prog 26 #[.int .i64 67, .int .i64 8, .int .u64 a, .int .u64 b] w (RetL b 0 w)))
    (C6 : Hid (∀ w, Calls Try.prog 26 #[.int .i64 68, .int .i64 8, .int .u64 a, .int .u64 b] w (RetL a 0 w)))
    (C7 : Hid (∀ w, Calls Try.prog 28 #[.int .i64 70, .int .i64 8, .int .u64 (flip true b : Nat), .int .u64 (flip true a : Nat)] w (RetL 0 0 w)))
    (C8 : Hid (∀ w, Calls Try.prog 28 #[.int .i64 70, .int .i64 8, .int .u64 a, .int .u64 b] w (RetL 0 0 w)))
    (hN : decide ((256 : Int) ≤ bits .or .u64 ((clsU true a : Nat) : Int) ((clsU true b : Nat) : Int)) = false) (w : World) :
    Calls Try.prog 9 #[.int .i64 n0, .int .u64 A, .int .u64 B] w (RetB true w) := by
  have X1 : bits .xor .u64 (a : Int) 9223372036854775808 = ((flip true a : Nat) : Int) := u64_xor_nat a 9223372036854775808 ha.out (by decide)
  have X2 : bits .xor .u64 (b : Int) 9223372036854775808 = ((flip true b : Nat) : Int) := u64_xor_nat b 9223372036854775808 hb.out (by decide)
  go_enter Try.func9, Try.ntmps9
  go_wp2_with fail
  refine (awake_c _).mono ?_; rintro e w1 ⟨rfl, hb1⟩
  go_wp2_with fail
  refine (rmask_c 8 true rfl A hA _).mono ?_; rintro e w2 ⟨rfl, hb2⟩
  rw [ma.out]
  go_wp2_with fail
  refine (rmask_c 8 true rfl B hB _).mono ?_; rintro e w3 ⟨rfl, hb3⟩
  rw [mb.out]
  go_wp2_with fail
  refine (C1.out _).mono ?_; rintro e w4 ⟨rfl, hb4⟩
  go_wp2_with fail
  refine (C2.out _).mono ?_; rintro e w5 ⟨rfl, hb5⟩
  go_wp2_with fail
  refine (C3.out _).mono ?_; rintro e w6 ⟨rfl, hb6⟩
  go_wp2_with fail
  refine (C4.out _).mono ?_; rintro e w7 ⟨rfl, hb7⟩
  go_wp2_with fail
  refine (C5.out _).mono ?_; rintro e w8 ⟨rfl, hb8⟩
  go_wp2_with fail
  refine (C6.out _).mono ?_; rintro e w9 ⟨rfl, hb9⟩
  go_wp2_with fail
  refine (Class_u 8 true rfl a ha _).mono ?_; rintro e w10 ⟨rfl, hb10⟩
  go_wp2_with fail
  refine (Class_u 8 true rfl b hb _).mono ?_; rintro e w11 ⟨rfl, hb11⟩
  go_wp2_with fail
  refine (C7.out _).mono ?_; rintro e w12 ⟨rfl, hb12⟩
  go_wp2_with fail
  refine (C8.out _).mono ?_; rintro e w13 ⟨rfl, hb13⟩
  go_wp2_with fail
  go_ret
  exact retB_mk rfl (by repeat (first | (with_reducible first | exact Below.refl _ _ | assumption | exact Nat.le_refl _ | refine Below.drew ?_ | refine Below.alloc ?_ ?_ _ | refine Below.setCell ?_ ?_ _ | refine le_alloc ?_ | refine le_set ?_ | refine le_drew ?_ | refine below_step (by assumption) ?_ ?_ | refine le_below (by assumption) ?_) | (dsimp only; omega)))
set_option maxRecDepth 100000 in
set_option maxHeartbeats 2000000 in
theorem orders_seq_8 (n0 : Int) (hs : bits .and .i64 n0 1 = 1) (A B a b : Nat) (hA : Hid (A < 18446744073709551616)) (hB : Hid (B < 18446744073709551616)) (ha : Hid (a < 18446744073709551616)) (hb : Hid (b < 18446744073709551616))
    (ma : Hid (maskN true A = a)) (mb : Hid (maskN true B = b)) (n1 : ((a : Int) != (b : Int)) = false) (n2 : ((b : Int) != (a : Int)) = false) (xc : bits .xor .u64 (b : Int) (a : Int) = bits .xor .u64 (a : Int) (b : Int))
    (C1 : Hid (∀ w, Calls Try.prog 28 #[.int .i64 70, .int .i64 8, .int .u64 a, .int .u64 b] w (RetL 0 0 w)))
    (C2 : Hid (∀ w, Calls Try.prog 28 #[.int .i64 70, .int .i64 8, .int .u64 b, .int .u64 a] w (RetL 0 0 w)))
    (C3 : Hid (∀ w, Calls Try.prog 28 #[.int .i64 69, .int .i64 8, .int .u64 a, .int .u64 b] w (RetL 1 0 w)))
    (C4 : Hid (∀ w, Calls Try.prog 28 #[.int .i64 71, .int .i64 8, .int .u64 a, .int .u64 b] w (RetL 1 0 w)))
    (C5 : Hid (∀ w, Calls Try.prog 26 #[.int .i64 67, .int .i64 8, .int .u64 a, .int .u64 b] w (RetL b 0 w)))
    (C6 : Hid (∀ w, Calls Try.prog 26 #[.int .i64 68, .int .i64 8, .int .u64 a, .int .u64 b] w (RetL a 0 w)))
    (C7 : Hid (∀ w, Calls Try.prog 28 #[.int .i64 70, .int .i64 8, .int .u64 (flip true b : Nat), .int .u64 (flip true a : Nat)] w (RetL 0 0 w)))
    (C8 : Hid (∀ w, Calls Try.prog 28 #[.int .i64 70, .int .i64 8, .int .u64 a, .int .u64 b] w (RetL 0 0 w)))
    (hN : decide ((256 : Int) ≤ bits .or .u64 ((clsU true a : Nat) : Int) ((clsU true b : Nat) : Int)) = false) (w : World) :
    Calls Try.prog 9 #[.int .i64 n0, .int .u64 A, .int .u64 B] w (RetB true w) := by
  have X1 : bits .xor .u64 (a : Int) 9223372036854775808 = ((flip true a : Nat) : Int) := u64_xor_nat a 9223372036854775808 ha.out (by decide)
  have X2 : bits .xor .u64 (b : Int) 9223372036854775808 = ((flip true b : Nat) : Int) := u64_xor_nat b 9223372036854775808 hb.out (by decide)
  go_enter Try.func9, Try.ntmps9
  go_wp2_with fail
  refine (awake_c _).mono ?_; rintro e w1 ⟨rfl, hb1⟩
  go_wp2_with fail
  refine (rmask_c 8 true rfl A hA _).mono ?_; rintro e w2 ⟨rfl, hb2⟩
  rw [ma.out]
  go_wp2_with fail
  refine (rmask_c 8 true rfl B hB _).mono ?_; rintro e w3 ⟨rfl, hb3⟩
  rw [mb.out]
  go_wp2_with fail
  refine (C1.out _).mono ?_; rintro e w4 ⟨rfl, hb4⟩
  go_wp2_with fail
  refine (C2.out _).mono ?_; rintro e w5 ⟨rfl, hb5⟩
  go_wp2_with fail
  refine (C3.out _).mono ?_; rintro e w6 ⟨rfl, hb6⟩
  go_wp2_with fail
  refine (C4.out _).mono ?_; rintro e w7 ⟨rfl, hb7⟩
  go_wp2_with fail
  refine (C5.out _).mono ?_; rintro e w8 ⟨rfl, hb8⟩
  go_wp2_with fail
  refine (C6.out _).mono ?_; rintro e w9 ⟨rfl, hb9⟩
  go_wp2_with fail
  refine (Class_u 8 true rfl a ha _).mono ?_; rintro e w10 ⟨rfl, hb10⟩
  go_wp2_with fail
  refine (Class_u 8 true rfl b hb _).mono ?_; rintro e w11 ⟨rfl, hb11⟩
  go_wp2_with fail
  refine (C7.out _).mono ?_; rintro e w12 ⟨rfl, hb12⟩
  go_wp2_with fail
  refine (C8.out _).mono ?_; rintro e w13 ⟨rfl, hb13⟩
  go_wp2_with fail
  go_ret
  exact retB_mk rfl (by repeat (first | (with_reducible first | exact Below.refl _ _ | assumption | exact Nat.le_refl _ | refine Below.drew ?_ | refine Below.alloc ?_ ?_ _ | refine Below.setCell ?_ ?_ _ | refine le_alloc ?_ | refine le_set ?_ | refine le_drew ?_ | refine below_step (by assumption) ?_ ?_ | refine le_below (by assumption) ?_) | (dsimp only; omega)))
set_option maxRecDepth 100000 in
set_option maxHeartbeats 2000000 in
theorem orders_none16_4 (n0 : Int) (hs : bits .and .i64 n0 1 = 0) (A B a b p : Nat) (hA : Hid (A < 18446744073709551616)) (hB : Hid (B < 18446744073709551616)) (ha : Hid (a < 18446744073709551616)) (hb : Hid (b < 18446744073709551616))
    (ma : Hid (maskN false A = a)) (mb : Hid (maskN false B = b)) (c1 c2 c4 : Int)
    (C1 : Hid (∀ w, Calls Try.prog 28 #[.int .i64 70, .int .i64 4, .int .u64 a, .int .u64 b] w (RetL 0 c1 w)))
    (C2 : Hid (∀ w, Calls Try.prog 28 #[.int .i64 70, .int .i64 4, .int .u64 b, .int .u64 a] w (RetL 0 c2 w)))
    (C3 : Hid (∀ w, Calls Try.prog 28 #[.int .i64 69, .int .i64 4, .int .u64 a, .int .u64 b] w (RetL 0 16 w)))
    (C4 : Hid (∀ w, Calls Try.prog 28 #[.int .i64 71, .int .i64 4, .int .u64 a, .int .u64 b] w (RetL 0 c4 w)))
    (C5 : Hid (∀ w, Calls Try.prog 26 #[.int .i64 67, .int .i64 4, .int .u64 a, .int .u64 b] w (RetL p 16 w)))
    (C6 : Hid (∀ w, Calls Try.prog 26 #[.int .i64 68, .int .i64 4, .int .u64 a, .int .u64 b] w (RetL p 16 w)))
    (hN : decide ((256 : Int) ≤ bits .or .u64 ((clsU false a : Nat) : Int) ((clsU false b : Nat) : Int)) = true)
    (hL : (bits .and .u64 (bits .or .u64 ((clsU false a : Nat) : Int) ((clsU false b : Nat) : Int)) 256 != 0) = true) (w : World) :
    Calls Try.prog 9 #[.int .i64 n0, .int .u64 A, .int .u64 B] w (RetB true w) := by
  go_enter Try.func9, Try.ntmps9
  go_wp2_with fail
  refine (awake_c _).mono ?_; rintro e w1 ⟨rfl, hb1⟩
  go_wp2_with fail
  refine (rmask_c 4 false rfl A hA _).mono ?_; rintro e w2 ⟨rfl, hb2⟩
  rw [ma.out]
  go_wp2_with fail
  refine (rmask_c 4 false rfl B hB _).mono ?_; rintro e w3 ⟨rfl, hb3⟩
  rw [mb.out]
  go_wp2_with fail
  refine (C1.out _).mono ?_; rintro e w4 ⟨rfl, hb4⟩
  go_wp2_with fail
  refine (C2.out _).mono ?_; rintro e w5 ⟨rfl, hb5⟩
  go_wp2_with fail
  refine (C3.out _).mono ?_; rintro e w6 ⟨rfl, hb6⟩
  go_wp2_with fail
  refine (C4.out _).mono ?_; rintro e w7 ⟨rfl, hb7⟩
  go_wp2_with fail
  refine (C5.out _).mono ?_; rintro e w8 ⟨rfl, hb8⟩
  go_wp2_with fail
  refine (C6.out _).mono ?_; rintro e w9 ⟨rfl, hb9⟩
  go_wp2_with fail
  refine (Class_u 4 false rfl a ha _).mono ?_; rintro e w10 ⟨rfl, hb10⟩
  go_wp2_with fail
  refine (Class_u 4 false rfl b hb _).mono ?_; rintro e w11 ⟨rfl, hb11⟩
  go_wp2_with fail
  refine (Class_u 4 false rfl a ha _).mono ?_; rintro e w12 ⟨rfl, hb12⟩
  go_wp2_with fail
  refine (Class_u 4 false rfl b hb _).mono ?_; rintro e w13 ⟨rfl, hb13⟩
  go_wp2_with fail
  go_ret
  refine retB_mk ?_ (by repeat (first | (with_reducible first | exact Below.refl _ _ | assumption | exact Nat.le_refl _ | refine Below.drew ?_ | refine Below.alloc ?_ ?_ _ | refine Below.setCell ?_ ?_ _ | refine le_alloc ?_ | refine le_set ?_ | refine le_drew ?_ | refine below_step (by assumption) ?_ ?_ | refine le_below (by assumption) ?_) | (dsimp only; omega)))
  simp
set_option maxRecDepth 100000 in
set_option maxHeartbeats 2000000 in
theorem orders_none0_4 (n0 : Int) (hs : bits .and .i64 n0 1 = 0) (A B a b p : Nat) (hA : Hid (A < 18446744073709551616)) (hB : Hid (B < 18446744073709551616)) (ha : Hid (a < 18446744073709551616)) (hb : Hid (b < 18446744073709551616))
    (ma : Hid (maskN false A = a)) (mb : Hid (maskN false B = b)) (c1 c2 c4 : Int)
    (C1 : Hid (∀ w, Calls Try.prog 28 #[.int .i64 70, .int .i64 4, .int .u64 a, .int .u64 b] w (RetL 0 c1 w)))
    (C2 : Hid (∀ w, Calls Try.prog 28 #[.int .i64 70, .int .i64 4, .int .u64 b, .int .u64 a] w (RetL 0 c2 w)))
    (C3 : Hid (∀ w, Calls Try.prog 28 #[.int .i64 69, .int .i64 4, .int .u64 a, .int .u64 b] w (RetL 0 0 w)))
    (C4 : Hid (∀ w, Calls Try.prog 28 #[.int .i64 71, .int .i64 4, .int .u64 a, .int .u64 b] w (RetL 0 c4 w)))
    (C5 : Hid (∀ w, Calls Try.prog 26 #[.int .i64 67, .int .i64 4, .int .u64 a, .int .u64 b] w (RetL p 0 w)))
    (C6 : Hid (∀ w, Calls Try.prog 26 #[.int .i64 68, .int .i64 4, .int .u64 a, .int .u64 b] w (RetL p 0 w)))
    (hN : decide ((256 : Int) ≤ bits .or .u64 ((clsU false a : Nat) : Int) ((clsU false b : Nat) : Int)) = true)
    (hL : (bits .and .u64 (bits .or .u64 ((clsU false a : Nat) : Int) ((clsU false b : Nat) : Int)) 256 != 0) = false) (w : World) :
    Calls Try.prog 9 #[.int .i64 n0, .int .u64 A, .int .u64 B] w (RetB true w) := by
  go_enter Try.func9, Try.ntmps9
  go_wp2_with fail
  refine (awake_c _).mono ?_; rintro e w1 ⟨rfl, hb1⟩
  go_wp2_with fail
  refine (rmask_c 4 false rfl A hA _).mono ?_; rintro e w2 ⟨rfl, hb2⟩
  rw [ma.out]
  go_wp2_with fail
  refine (rmask_c 4 false rfl B hB _).mono ?_; rintro e w3 ⟨rfl, hb3⟩
  rw [mb.out]
  go_wp2_with fail
  refine (C1.out _).mono ?_; rintro e w4 ⟨rfl, hb4⟩
  go_wp2_with fail
  refine (C2.out _).mono ?_; rintro e w5 ⟨rfl, hb5⟩
  go_wp2_with fail
  refine (C3.out _).mono ?_; rintro e w6 ⟨rfl, hb6⟩
  go_wp2_with fail
  refine (C4.out _).mono ?_; rintro e w7 ⟨rfl, hb7⟩
  go_wp2_with fail
  refine (C5.out _).mono ?_; rintro e w8 ⟨rfl, hb8⟩
  go_wp2_with fail
  refine (C6.out _).mono ?_; rintro e w9 ⟨rfl, hb9⟩
  go_wp2_with fail
  refine (Class_u 4 false rfl a ha _).mono ?_; rintro e w10 ⟨rfl, hb10⟩
  go_wp2_with fail
  refine (Class_u 4 false rfl b hb _).mono ?_; rintro e w11 ⟨rfl, hb11⟩
  go_wp2_with fail
  refine (Class_u 4 false rfl a ha _).mono ?_; rintro e w12 ⟨rfl, hb12⟩
  go_wp2_with fail
  refine (Class_u 4 false rfl b hb _).mono ?_; rintro e w13 ⟨rfl, hb13⟩
  go_wp2_with fail
  go_ret
  refine retB_mk ?_ (by repeat (first | (with_reducible first | exact Below.refl _ _ | assumption | exact Nat.le_refl _ | refine Below.drew ?_ | refine Below.alloc ?_ ?_ _ | refine Below.setCell ?_ ?_ _ | refine le_alloc ?_ | refine le_set ?_ | refine le_drew ?_ | refine below_step (by assumption) ?_ ?_ | refine le_below (by assumption) ?_) | (dsimp only; omega)))
  simp
theorem orders_4 (n0 : Int) (hs0 : bits .and .i64 n0 1 = 0) (A B : Nat) (hA : Hid (A < 18446744073709551616)) (hB : Hid (B < 18446744073709551616)) (w : World) :
    Calls Try.prog 9 #[.int .i64 n0, .int .u64 A, .int .u64 B] w (RetB true w) := by
  obtain ⟨a, ma⟩ : ∃ a, maskN false A = a := ⟨_, rfl⟩
  obtain ⟨b, mb⟩ : ∃ b, maskN false B = b := ⟨_, rfl⟩
  have la := mask_idem false A
  have lb := mask_idem false B
  rw [ma] at la; rw [mb] at lb
  obtain ⟨ha, ia⟩ := la
  obtain ⟨hb, ib⟩ := lb
  obtain ⟨t1, t2⟩ := cls_or false a b
  have fa := flip_lt false a ha
  have fb := flip_lt false b hb
  have xc : bits .xor .u64 (b : Int) (a : Int) = bits .xor .u64 (a : Int) (b : Int) := by rw [u64_xor_nat _ _ hb ha, u64_xor_nat _ _ ha hb, Nat.xor_comm]
  by_cases hn : noneV false a = true ∨ noneV false b = true
  · obtain ⟨z1, z2, z3⟩ := cmp_none false a b hn
    obtain ⟨y1, -, -⟩ := cmp_none false b a (hn.elim .inr .inl)
    have hor : (noneV false a || noneV false b) = true := by rw [Bool.or_eq_true]; exact hn
    rw [hor] at t1
    have hf : flagS (clsV false a) (clsV false b) = 16 ∨ flagS (clsV false a) (clsV false b) = 0 := by unfold flagS; split <;> simp
    rcases hf with hf | hf
    · rw [hf] at t2
      exact orders_none16_4 n0 hs0 A B a b (pickV 68 false a b) hA hB ha hb ma mb _ _ _
        (fun w => cmp_at (z1 70) rfl (fun w => Compare_70 4 false rfl a b ha hb w) w) (fun w => cmp_at (y1 70) rfl (fun w => Compare_70 4 false rfl b a hb ha w) w)
        (fun w => cmp_at (z1 69) (z2.trans hf) (fun w => Compare_69 4 false rfl a b ha hb w) w) (fun w => cmp_at (z1 71) rfl (fun w => Compare_71 4 false rfl a b ha hb w) w)
        (fun w => pick_at z3 hf (fun w => Pick_67 4 false rfl a b ha hb w) w) (fun w => pick_at rfl hf (fun w => Pick_68 4 false rfl a b ha hb w) w) t1 (t2.trans (by decide)) w
    · rw [hf] at t2
      exact orders_none0_4 n0 hs0 A B a b (pickV 68 false a b) hA hB ha hb ma mb _ _ _
        (fun w => cmp_at (z1 70) rfl (fun w => Compare_70 4 false rfl a b ha hb w) w) (fun w => cmp_at (y1 70) rfl (fun w => Compare_70 4 false rfl b a hb ha w) w)
        (fun w => cmp_at (z1 69) (z2.trans hf) (fun w => Compare_69 4 false rfl a b ha hb w) w) (fun w => cmp_at (z1 71) rfl (fun w => Compare_71 4 false rfl a b ha hb w) w)
        (fun w => pick_at z3 hf (fun w => Pick_67 4 false rfl a b ha hb w) w) (fun w => pick_at rfl hf (fun w => Pick_68 4 false rfl a b ha hb w) w) t1 (t2.trans (by decide)) w
  · have na : noneV false a = false := Bool.eq_false_iff.2 (fun h => hn (.inl h))
    have nb : noneV false b = false := Bool.eq_false_iff.2 (fun h => hn (.inr h))
    rw [na, nb] at t1
    obtain ⟨z1, z2, z3, z4⟩ := cmp_num false a b na nb
    obtain ⟨y1, -, -, y4⟩ := cmp_num false b a nb na
    obtain ⟨x1, -, -, x4⟩ := cmp_num false (flip false b) (flip false a) (by rw [flip_none]; exact nb) (by rw [flip_none]; exact na)
    obtain ⟨p1, p2⟩ := pick_num false a b na nb
    have hf := flag_none false a b na nb
    have mr := mask_rank false a b
    rw [ia, ib] at mr
    rw [ia, ib] at p1 p2
    have fr : decide (rankV false (flip false b) < rankV false (flip false a)) = decide (rankV false a < rankV false b) := by rw [flip_rank, flip_rank, Bool.eq_iff_iff]; simp only [decide_eq_true_eq]; omega
    have D1 : belowV false a b = (!sameV false a b && decide (rankV false a < rankV false b)) := rfl
    have D2 : belowV false b a = (!sameV false a b && decide (rankV false b < rankV false a)) := by unfold belowV; rw [same_comm]
    have D3 : belowV false (flip false b) (flip false a) = (!sameV false a b && decide (rankV false a < rankV false b)) := by unfold belowV; rw [same_flip, fr]
    have ne1 : a ≠ b → (((a : Int) != (b : Int)) = true ∧ ((b : Int) != (a : Int)) = true) := fun h => ⟨by rw [bne_iff_ne]; omega, by rw [bne_iff_ne]; omega⟩
    have eq1 : a = b → (((a : Int) != (b : Int)) = false ∧ ((b : Int) != (a : Int)) = false) := fun h => by rw [h]; exact ⟨by simp, by simp⟩
    have tri : rankV false a < rankV false b ∨ rankV false b < rankV false a ∨ rankV false a = rankV false b := by omega
    have sm : rankV false a = rankV false b → sameV false a b = true := fun h => decide_eq_true (.inl h)
    cases hs : sameV false a b
    · rcases tri with h | h | h
      · skip
        have hl : decide (rankV false a < rankV false b) = true := decide_eq_true (by omega)
        have hg : decide (rankV false b < rankV false a) = false := decide_eq_false (by omega)
        have ne := ne1 (fun h => by have := mr.1 h; omega)
        rw [hs] at D1 D2 D3 z2 z3
        rw [hl] at D1 D3 p1 p2
        rw [hg] at D2
        rw [D1] at z1 z3; rw [D2] at y1; rw [D3] at x1
        exact orders_lt_4 n0 hs0 A B a b hA hB ha hb ma mb ne.1 ne.2
          (fun w => cmp_at z1 (z4 _) (fun w => Compare_70 4 false rfl a b ha hb w) w) (fun w => cmp_at y1 (y4 _) (fun w => Compare_70 4 false rfl b a hb ha w) w)
          (fun w => cmp_at z2 (z4 _) (fun w => Compare_69 4 false rfl a b ha hb w) w) (fun w => cmp_at z3 (z4 _) (fun w => Compare_71 4 false rfl a b ha hb w) w)
          (fun w => pick_at p1 hf (fun w => Pick_67 4 false rfl a b ha hb w) w) (fun w => pick_at p2 hf (fun w => Pick_68 4 false rfl a b ha hb w) w)
          (fun w => cmp_at x1 (x4 _) (fun w => Compare_70 4 false rfl (flip false b) (flip false a) fb fa w) w)
          (fun w => cmp_at y1 (y4 _) (fun w => Compare_70 4 false rfl b a hb ha w) w) t1 w
      · skip
        have hl : decide (rankV false a < rankV false b) = false := decide_eq_false (by omega)
        have hg : decide (rankV false b < rankV false a) = true := decide_eq_true (by omega)
        have ne := ne1 (fun h => by have := mr.1 h; omega)
        rw [hs] at D1 D2 D3 z2 z3
        rw [hl] at D1 D3 p1 p2
        rw [hg] at D2
        rw [D1] at z1 z3; rw [D2] at y1; rw [D3] at x1
        exact orders_gt_4 n0 hs0 A B a b hA hB ha hb ma mb ne.1 ne.2 xc
          (fun w => cmp_at z1 (z4 _) (fun w => Compare_70 4 false rfl a b ha hb w) w) (fun w => cmp_at y1 (y4 _) (fun w => Compare_70 4 false rfl b a hb ha w) w)
          (fun w => cmp_at z2 (z4 _) (fun w => Compare_69 4 false rfl a b ha hb w) w) (fun w => cmp_at z3 (z4 _) (fun w => Compare_71 4 false rfl a b ha hb w) w)
          (fun w => pick_at p1 hf (fun w => Pick_67 4 false rfl a b ha hb w) w) (fun w => pick_at p2 hf (fun w => Pick_68 4 false rfl a b ha hb w) w)
          (fun w => cmp_at x1 (x4 _) (fun w => Compare_70 4 false rfl (flip false b) (flip false a) fb fa w) w)
          (fun w => cmp_at z1 (z4 _) (fun w => Compare_70 4 false rfl a b ha hb w) w) t1 w
      · exact absurd (sm h) (by rw [hs]; decide)
    · rcases tri with h | h | h
      · skip
        have hl : decide (rankV false a < rankV false b) = true := decide_eq_true (by omega)
        have hg : decide (rankV false b < rankV false a) = false := decide_eq_false (by omega)
        have ne := ne1 (fun h => by have := mr.1 h; omega)
        rw [hs] at D1 D2 D3 z2 z3
        rw [hl] at D1 D3 p1 p2
        rw [hg] at D2
        rw [D1] at z1 z3; rw [D2] at y1; rw [D3] at x1
        exact orders_slt_4 n0 hs0 A B a b hA hB ha hb ma mb ne.1 ne.2
          (fun w => cmp_at z1 (z4 _) (fun w => Compare_70 4 false rfl a b ha hb w) w) (fun w => cmp_at y1 (y4 _) (fun w => Compare_70 4 false rfl b a hb ha w) w)
          (fun w => cmp_at z2 (z4 _) (fun w => Compare_69 4 false rfl a b ha hb w) w) (fun w => cmp_at z3 (z4 _) (fun w => Compare_71 4 false rfl a b ha hb w) w)
          (fun w => pick_at p1 hf (fun w => Pick_67 4 false rfl a b ha hb w) w) (fun w => pick_at p2 hf (fun w => Pick_68 4 false rfl a b ha hb w) w)
          (fun w => cmp_at x1 (x4 _) (fun w => Compare_70 4 false rfl (flip false b) (flip false a) fb fa w) w)
          (fun w => cmp_at y1 (y4 _) (fun w => Compare_70 4 false rfl b a hb ha w) w) t1 w
      · skip
        have hl : decide (rankV false a < rankV false b) = false := decide_eq_false (by omega)
        have hg : decide (rankV false b < rankV false a) = true := decide_eq_true (by omega)
        have ne := ne1 (fun h => by have := mr.1 h; omega)
        rw [hs] at D1 D2 D3 z2 z3
        rw [hl] at D1 D3 p1 p2
        rw [hg] at D2
        rw [D1] at z1 z3; rw [D2] at y1; rw [D3] at x1
        exact orders_sgt_4 n0 hs0 A B a b hA hB ha hb ma mb ne.1 ne.2 xc
          (fun w => cmp_at z1 (z4 _) (fun w => Compare_70 4 false rfl a b ha hb w) w) (fun w => cmp_at y1 (y4 _) (fun w => Compare_70 4 false rfl b a hb ha w) w)
          (fun w => cmp_at z2 (z4 _) (fun w => Compare_69 4 false rfl a b ha hb w) w) (fun w => cmp_at z3 (z4 _) (fun w => Compare_71 4 false rfl a b ha hb w) w)
          (fun w => pick_at p1 hf (fun w => Pick_67 4 false rfl a b ha hb w) w) (fun w => pick_at p2 hf (fun w => Pick_68 4 false rfl a b ha hb w) w)
          (fun w => cmp_at x1 (x4 _) (fun w => Compare_70 4 false rfl (flip false b) (flip false a) fb fa w) w)
          (fun w => cmp_at z1 (z4 _) (fun w => Compare_70 4 false rfl a b ha hb w) w) t1 w
      · skip
        have hl : decide (rankV false a < rankV false b) = false := decide_eq_false (by omega)
        have hg : decide (rankV false b < rankV false a) = false := decide_eq_false (by omega)
        have ne := eq1 (mr.2 (by omega))
        rw [hs] at D1 D2 D3 z2 z3
        rw [hl] at D1 D3 p1 p2
        rw [hg] at D2
        rw [D1] at z1 z3; rw [D2] at y1; rw [D3] at x1
        exact orders_seq_4 n0 hs0 A B a b hA hB ha hb ma mb ne.1 ne.2 xc
          (fun w => cmp_at z1 (z4 _) (fun w => Compare_70 4 false rfl a b ha hb w) w) (fun w => cmp_at y1 (y4 _) (fun w => Compare_70 4 false rfl b a hb ha w) w)
          (fun w => cmp_at z2 (z4 _) (fun w => Compare_69 4 false rfl a b ha hb w) w) (fun w => cmp_at z3 (z4 _) (fun w => Compare_71 4 false rfl a b ha hb w) w)
          (fun w => pick_at p1 hf (fun w => Pick_67 4 false rfl a b ha hb w) w) (fun w => pick_at p2 hf (fun w => Pick_68 4 false rfl a b ha hb w) w)
          (fun w => cmp_at x1 (x4 _) (fun w => Compare_70 4 false rfl (flip false b) (flip false a) fb fa w) w)
          (fun w => cmp_at z1 (z4 _) (fun w => Compare_70 4 false rfl a b ha hb w) w) t1 w
set_option maxRecDepth 100000 in
set_option maxHeartbeats 2000000 in
theorem orders_none16_8 (n0 : Int) (hs : bits .and .i64 n0 1 = 1) (A B a b p : Nat) (hA : Hid (A < 18446744073709551616)) (hB : Hid (B < 18446744073709551616)) (ha : Hid (a < 18446744073709551616)) (hb : Hid (b < 18446744073709551616))
    (ma : Hid (maskN true A = a)) (mb : Hid (maskN true B = b)) (c1 c2 c4 : Int)
    (C1 : Hid (∀ w, Calls Try.prog 28 #[.int .i64 70, .int .i64 8, .int .u64 a, .int .u64 b] w (RetL 0 c1 w)))
    (C2 : Hid (∀ w, Calls Try.prog 28 #[.int .i64 70, .int .i64 8, .int .u64 b, .int .u64 a] w (RetL 0 c2 w)))
    (C3 : Hid (∀ w, Calls Try.prog 28 #[.int .i64 69, .int .i64 8, .int .u64 a, .int .u64 b] w (RetL 0 16 w)))
    (C4 : Hid (∀ w, Calls Try.prog 28 #[.int .i64 71, .int .i64 8, .int .u64 a, .int .u64 b] w (RetL 0 c4 w)))
    (C5 : Hid (∀ w, Calls Try.prog 26 #[.int .i64 67, .int .i64 8, .int .u64 a, .int .u64 b] w (RetL p 16 w)))
    (C6 : Hid (∀ w, Calls Try.prog 26 #[.int .i64 68, .int .i64 8, .int .u64 a, .int .u64 b] w (RetL p 16 w)))
    (hN : decide ((256 : Int) ≤ bits .or .u64 ((clsU true a : Nat) : Int) ((clsU true b : Nat) : Int)) = true)
    (hL : (bits .and .u64 (bits .or .u64 ((clsU true a : Nat) : Int) ((clsU true b : Nat) : Int)) 256 != 0) = true) (w : World) :
    Calls Try.prog 9 #[.int .i64 n0, .int .u64 A, .int .u64 B] w (RetB true w) := by
  go_enter Try.func9, Try.ntmps9
  go_wp2_with fail
  refine (awake_c _).mono ?_; rintro e w1 ⟨rfl, hb1⟩
  go_wp2_with fail
  refine (rmask_c 8 true rfl A hA _).mono ?_; rintro e w2 ⟨rfl, hb2⟩
  rw [ma.out]
  go_wp2_with fail
  refine (rmask_c 8 true rfl B hB _).mono ?_; rintro e w3 ⟨rfl, hb3⟩
  rw [mb.out]
  go_wp2_with fail
  refine (C1.out _).mono ?_; rintro e w4 ⟨rfl, hb4⟩
  go_wp2_with fail
  refine (C2.out _).mono ?_; rintro e w5 ⟨rfl, hb5⟩
  go_wp2_with fail
  refine (C3.out _).mono ?_; rintro e w6 ⟨rfl, hb6⟩
  go_wp2_with fail
  refine (C4.out _).mono ?_; rintro e w7 ⟨rfl, hb7⟩
  go_wp2_with fail
  refine (C5.out _).mono ?_; rintro e w8 ⟨rfl, hb8⟩
  go_wp2_with fail
  refine (C6.out _).mono ?_; rintro e w9 ⟨rfl, hb9⟩
  go_wp2_with fail
  refine (Class_u 8 true rfl a ha _).mono ?_; rintro e w10 ⟨rfl, hb10⟩
  go_wp2_with fail
  refine (Class_u 8 true rfl b hb _).mono ?_; rintro e w11 ⟨rfl, hb11⟩
  go_wp2_with fail
  refine (Class_u 8 true rfl a ha _).mono ?_; rintro e w12 ⟨rfl, hb12⟩
  go_wp2_with fail
  refine (Class_u 8 true rfl b hb _).mono ?_; rintro e w13 ⟨rfl, hb13⟩
  go_wp2_with fail
  go_ret
  refine retB_mk ?_ (by repeat (first | (with_reducible first | exact Below.refl _ _ | assumption | exact Nat.le_refl _ | refine Below.drew ?_ | refine Below.alloc ?_ ?_ _ | refine Below.setCell ?_ ?_ _ | refine le_alloc ?_ | refine le_set ?_ | refine le_drew ?_ | refine below_step (by assumption) ?_ ?_ | refine le_below (by assumption) ?_) | (dsimp only; omega)))
  simp
set_option maxRecDepth 100000 in
set_option maxHeartbeats 2000000 in
theorem orders_none0_8 (n0 : Int) (hs : bits .and .i64 n0 1 = 1) (A B a b p : Nat) (hA : Hid (A < 18446744073709551616)) (hB : Hid (B < 18446744073709551616)) (ha : Hid (a < 18446744073709551616)) (hb : Hid (b < 18446744073709551616))
    (ma : Hid (maskN true A = a)) (mb : Hid (maskN true B = b)) (c1 c2 c4 : Int)
    (C1 : Hid (∀ w, Calls Try.prog 28 #[.int .i64 70, .int .i64 8, .int .u64 a, .int .u64 b] w (RetL 0 c1 w)))
    (C2 : Hid (∀ w, Calls Try.prog 28 #[.int .i64 70, .int .i64 8, .int .u64 b, .int .u64 a] w (RetL 0 c2 w)))
    (C3 : Hid (∀ w, Calls Try.prog 28 #[.int .i64 69, .int .i64 8, .int .u64 a, .int .u64 b] w (RetL 0 0 w)))
    (C4 : Hid (∀ w, Calls Try.prog 28 #[.int .i64 71, .int .i64 8, .int .u64 a, .int .u64 b] w (RetL 0 c4 w)))
    (C5 : Hid (∀ w, Calls Try.prog 26 #[.int .i64 67, .int .i64 8, .int .u64 a, .int .u64 b] w (RetL p 0 w)))
    (C6 : Hid (∀ w, Calls Try.prog 26 #[.int .i64 68, .int .i64 8, .int .u64 a, .int .u64 b] w (RetL p 0 w)))
    (hN : decide ((256 : Int) ≤ bits .or .u64 ((clsU true a : Nat) : Int) ((clsU true b : Nat) : Int)) = true)
    (hL : (bits .and .u64 (bits .or .u64 ((clsU true a : Nat) : Int) ((clsU true b : Nat) : Int)) 256 != 0) = false) (w : World) :
    Calls Try.prog 9 #[.int .i64 n0, .int .u64 A, .int .u64 B] w (RetB true w) := by
  go_enter Try.func9, Try.ntmps9
  go_wp2_with fail
  refine (awake_c _).mono ?_; rintro e w1 ⟨rfl, hb1⟩
  go_wp2_with fail
  refine (rmask_c 8 true rfl A hA _).mono ?_; rintro e w2 ⟨rfl, hb2⟩
  rw [ma.out]
  go_wp2_with fail
  refine (rmask_c 8 true rfl B hB _).mono ?_; rintro e w3 ⟨rfl, hb3⟩
  rw [mb.out]
  go_wp2_with fail
  refine (C1.out _).mono ?_; rintro e w4 ⟨rfl, hb4⟩
  go_wp2_with fail
  refine (C2.out _).mono ?_; rintro e w5 ⟨rfl, hb5⟩
  go_wp2_with fail
  refine (C3.out _).mono ?_; rintro e w6 ⟨rfl, hb6⟩
  go_wp2_with fail
  refine (C4.out _).mono ?_; rintro e w7 ⟨rfl, hb7⟩
  go_wp2_with fail
  refine (C5.out _).mono ?_; rintro e w8 ⟨rfl, hb8⟩
  go_wp2_with fail
  refine (C6.out _).mono ?_; rintro e w9 ⟨rfl, hb9⟩
  go_wp2_with fail
  refine (Class_u 8 true rfl a ha _).mono ?_; rintro e w10 ⟨rfl, hb10⟩
  go_wp2_with fail
  refine (Class_u 8 true rfl b hb _).mono ?_; rintro e w11 ⟨rfl, hb11⟩
  go_wp2_with fail
  refine (Class_u 8 true rfl a ha _).mono ?_; rintro e w12 ⟨rfl, hb12⟩
  go_wp2_with fail
  refine (Class_u 8 true rfl b hb _).mono ?_; rintro e w13 ⟨rfl, hb13⟩
  go_wp2_with fail
  go_ret
  refine retB_mk ?_ (by repeat (first | (with_reducible first | exact Below.refl _ _ | assumption | exact Nat.le_refl _ | refine Below.drew ?_ | refine Below.alloc ?_ ?_ _ | refine Below.setCell ?_ ?_ _ | refine le_alloc ?_ | refine le_set ?_ | refine le_drew ?_ | refine below_step (by assumption) ?_ ?_ | refine le_below (by assumption) ?_) | (dsimp only; omega)))
  simp
theorem orders_8 (n0 : Int) (hs0 : bits .and .i64 n0 1 = 1) (A B : Nat) (hA : Hid (A < 18446744073709551616)) (hB : Hid (B < 18446744073709551616)) (w : World) :
    Calls Try.prog 9 #[.int .i64 n0, .int .u64 A, .int .u64 B] w (RetB true w) := by
  obtain ⟨a, ma⟩ : ∃ a, maskN true A = a := ⟨_, rfl⟩
  obtain ⟨b, mb⟩ : ∃ b, maskN true B = b := ⟨_, rfl⟩
  have la := mask_idem true A
  have lb := mask_idem true B
  rw [ma] at la; rw [mb] at lb
  obtain ⟨ha, ia⟩ := la
  obtain ⟨hb, ib⟩ := lb
  obtain ⟨t1, t2⟩ := cls_or true a b
  have fa := flip_lt true a ha
  have fb := flip_lt true b hb
  have xc : bits .xor .u64 (b : Int) (a : Int) = bits .xor .u64 (a : Int) (b : Int) := by rw [u64_xor_nat _ _ hb ha, u64_xor_nat _ _ ha hb, Nat.xor_comm]
  by_cases hn : noneV true a = true ∨ noneV true b = true
  · obtain ⟨z1, z2, z3⟩ := cmp_none true a b hn
    obtain ⟨y1, -, -⟩ := cmp_none true b a (hn.elim .inr .inl)
    have hor : (noneV true a || noneV true b) = true := by rw [Bool.or_eq_true]; exact hn
    rw [hor] at t1
    have hf : flagS (clsV true a) (clsV true b) = 16 ∨ flagS (clsV true a) (clsV true b) = 0 := by unfold flagS; split <;> simp
    rcases hf with hf | hf
    · rw [hf] at t2
      exact orders_none16_8 n0 hs0 A B a b (pickV 68 true a b) hA hB ha hb ma mb _ _ _
        (fun w => cmp_at (z1 70) rfl (fun w => Compare_70 8 true rfl a b ha hb w) w) (fun w => cmp_at (y1 70) rfl (fun w => Compare_70 8 true rfl b a hb ha w) w)
        (fun w => cmp_at (z1 69) (z2.trans hf) (fun w => Compare_69 8 true rfl a b ha hb w) w) (fun w => cmp_at (z1 71) rfl (fun w => Compare_71 8 true rfl a b ha hb w) w)
        (fun w => pick_at z3 hf (fun w => Pick_67 8 true rfl a b ha hb w) w) (fun w => pick_at rfl hf (fun w => Pick_68 8 true rfl a b ha hb w) w) t1 (t2.trans (by decide)) w
    · rw [hf] at t2
      exact orders_none0_8 n0 hs0 A B a b (pickV 68 true a b) hA hB ha hb ma mb _ _ _
        (fun w => cmp_at (z1 70) rfl (fun w => Compare_70 8 true rfl a b ha hb w) w) (fun w => cmp_at (y1 70) rfl (fun w => Compare_70 8 true rfl b a hb ha w) w)
        (fun w => cmp_at (z1 69) (z2.trans hf) (fun w => Compare_69 8 true rfl a b ha hb w) w) (fun w => cmp_at (z1 71) rfl (fun w => Compare_71 8 true rfl a b ha hb w) w)
        (fun w => pick_at z3 hf (fun w => Pick_67 8 true rfl a b ha hb w) w) (fun w => pick_at rfl hf (fun w => Pick_68 8 true rfl a b ha hb w) w) t1 (t2.trans (by decide)) w
  · have na : noneV true a = false := Bool.eq_false_iff.2 (fun h => hn (.inl h))
    have nb : noneV true b = false := Bool.eq_false_iff.2 (fun h => hn (.inr h))
    rw [na, nb] at t1
    obtain ⟨z1, z2, z3, z4⟩ := cmp_num true a b na nb
    obtain ⟨y1, -, -, y4⟩ := cmp_num true b a nb na
    obtain ⟨x1, -, -, x4⟩ := cmp_num true (flip true b) (flip true a) (by rw [flip_none]; exact nb) (by rw [flip_none]; exact na)
    obtain ⟨p1, p2⟩ := pick_num true a b na nb
    have hf := flag_none true a b na nb
    have mr := mask_rank true a b
    rw [ia, ib] at mr
    rw [ia, ib] at p1 p2
    have fr : decide (rankV true (flip true b) < rankV true (flip true a)) = decide (rankV true a < rankV true b) := by rw [flip_rank, flip_rank, Bool.eq_iff_iff]; simp only [decide_eq_true_eq]; omega
    have D1 : belowV true a b = (!sameV true a b && decide (rankV true a < rankV true b)) := rfl
    have D2 : belowV true b a = (!sameV true a b && decide (rankV true b < rankV true a)) := by unfold belowV; rw [same_comm]
    have D3 : belowV true (flip true b) (flip true a) = (!sameV true a b && decide (rankV true a < rankV true b)) := by unfold belowV; rw [same_flip, fr]
    have ne1 : a ≠ b → (((a : Int) != (b : Int)) = true ∧ ((b : Int) != (a : Int)) = true) := fun h => ⟨by rw [bne_iff_ne]; omega, by rw [bne_iff_ne]; omega⟩
    have eq1 : a = b → (((a : Int) != (b : Int)) = false ∧ ((b : Int) != (a : Int)) = false) := fun h => by rw [h]; exact ⟨by simp, by simp⟩
    have tri : rankV true a < rankV true b ∨ rankV true b < rankV true a ∨ rankV true a = rankV true b := by omega
    have sm : rankV true a = rankV true b → sameV true a b = true := fun h => decide_eq_true (.inl h)
    cases hs : sameV true a b
    · rcases tri with h | h | h
      · skip
        have hl : decide (rankV true a < rankV true b) = true := decide_eq_true (by omega)
        have hg : decide (rankV true b < rankV true a) = false := decide_eq_false (by omega)
        have ne := ne1 (fun h => by have := mr.1 h; omega)
        rw [hs] at D1 D2 D3 z2 z3
        rw [hl] at D1 D3 p1 p2
        rw [hg] at D2
        rw [D1] at z1 z3; rw [D2] at y1; rw [D3] at x1
        exact orders_lt_8 n0 hs0 A B a b hA hB ha hb ma mb ne.1 ne.2
          (fun w => cmp_at z1 (z4 _) (fun w => Compare_70 8 true rfl a b ha hb w) w) (fun w => cmp_at y1 (y4 _) (fun w => Compare_70 8 true rfl b a hb ha w) w)
          (fun w => cmp_at z2 (z4 _) (fun w => Compare_69 8 true rfl a b ha hb w) w) (fun w => cmp_at z3 (z4 _) (fun w => Compare_71 8 true rfl a b ha hb w) w)
          (fun w => pick_at p1 hf (fun w => Pick_67 8 true rfl a b ha hb w) w) (fun w => pick_at p2 hf (fun w => Pick_68 8 true rfl a b ha hb w) w)
          (fun w => cmp_at x1 (x4 _) (fun w => Compare_70 8 true rfl (flip true b) (flip true a) fb fa w) w)
          (fun w => cmp_at y1 (y4 _) (fun w => Compare_70 8 true rfl b a hb ha w) w) t1 w
      · skip
        have hl : decide (rankV true a < rankV true b) = false := decide_eq_false (by omega)
        have hg : decide (rankV true b < rankV true a) = true := decide_eq_true (by omega)
        have ne := ne1 (fun h => by have := mr.1 h; omega)
        rw [hs] at D1 D2 D3 z2 z3
        rw [hl] at D1 D3 p1 p2
        rw [hg] at D2
        rw [D1] at z1 z3; rw [D2] at y1; rw [D3] at x1
        exact orders_gt_8 n0 hs0 A B a b hA hB ha hb ma mb ne.1 ne.2 xc
          (fun w => cmp_at z1 (z4 _) (fun w => Compare_70 8 true rfl a b ha hb w) w) (fun w => cmp_at y1 (y4 _) (fun w => Compare_70 8 true rfl b a hb ha w) w)
          (fun w => cmp_at z2 (z4 _) (fun w => Compare_69 8 true rfl a b ha hb w) w) (fun w => cmp_at z3 (z4 _) (fun w => Compare_71 8 true rfl a b ha hb w) w)
          (fun w => pick_at p1 hf (fun w => Pick_67 8 true rfl a b ha hb w) w) (fun w => pick_at p2 hf (fun w => Pick_68 8 true rfl a b ha hb w) w)
          (fun w => cmp_at x1 (x4 _) (fun w => Compare_70 8 true rfl (flip true b) (flip true a) fb fa w) w)
          (fun w => cmp_at z1 (z4 _) (fun w => Compare_70 8 true rfl a b ha hb w) w) t1 w
      · exact absurd (sm h) (by rw [hs]; decide)
    · rcases tri with h | h | h
      · skip
        have hl : decide (rankV true a < rankV true b) = true := decide_eq_true (by omega)
        have hg : decide (rankV true b < rankV true a) = false := decide_eq_false (by omega)
        have ne := ne1 (fun h => by have := mr.1 h; omega)
        rw [hs] at D1 D2 D3 z2 z3
        rw [hl] at D1 D3 p1 p2
        rw [hg] at D2
        rw [D1] at z1 z3; rw [D2] at y1; rw [D3] at x1
        exact orders_slt_8 n0 hs0 A B a b hA hB ha hb ma mb ne.1 ne.2
          (fun w => cmp_at z1 (z4 _) (fun w => Compare_70 8 true rfl a b ha hb w) w) (fun w => cmp_at y1 (y4 _) (fun w => Compare_70 8 true rfl b a hb ha w) w)
          (fun w => cmp_at z2 (z4 _) (fun w => Compare_69 8 true rfl a b ha hb w) w) (fun w => cmp_at z3 (z4 _) (fun w => Compare_71 8 true rfl a b ha hb w) w)
          (fun w => pick_at p1 hf (fun w => Pick_67 8 true rfl a b ha hb w) w) (fun w => pick_at p2 hf (fun w => Pick_68 8 true rfl a b ha hb w) w)
          (fun w => cmp_at x1 (x4 _) (fun w => Compare_70 8 true rfl (flip true b) (flip true a) fb fa w) w)
          (fun w => cmp_at y1 (y4 _) (fun w => Compare_70 8 true rfl b a hb ha w) w) t1 w
      · skip
        have hl : decide (rankV true a < rankV true b) = false := decide_eq_false (by omega)
        have hg : decide (rankV true b < rankV true a) = true := decide_eq_true (by omega)
        have ne := ne1 (fun h => by have := mr.1 h; omega)
        rw [hs] at D1 D2 D3 z2 z3
        rw [hl] at D1 D3 p1 p2
        rw [hg] at D2
        rw [D1] at z1 z3; rw [D2] at y1; rw [D3] at x1
        exact orders_sgt_8 n0 hs0 A B a b hA hB ha hb ma mb ne.1 ne.2 xc
          (fun w => cmp_at z1 (z4 _) (fun w => Compare_70 8 true rfl a b ha hb w) w) (fun w => cmp_at y1 (y4 _) (fun w => Compare_70 8 true rfl b a hb ha w) w)
          (fun w => cmp_at z2 (z4 _) (fun w => Compare_69 8 true rfl a b ha hb w) w) (fun w => cmp_at z3 (z4 _) (fun w => Compare_71 8 true rfl a b ha hb w) w)
          (fun w => pick_at p1 hf (fun w => Pick_67 8 true rfl a b ha hb w) w) (fun w => pick_at p2 hf (fun w => Pick_68 8 true rfl a b ha hb w) w)
          (fun w => cmp_at x1 (x4 _) (fun w => Compare_70 8 true rfl (flip true b) (flip true a) fb fa w) w)
          (fun w => cmp_at z1 (z4 _) (fun w => Compare_70 8 true rfl a b ha hb w) w) t1 w
      · skip
        have hl : decide (rankV true a < rankV true b) = false := decide_eq_false (by omega)
        have hg : decide (rankV true b < rankV true a) = false := decide_eq_false (by omega)
        have ne := eq1 (mr.2 (by omega))
        rw [hs] at D1 D2 D3 z2 z3
        rw [hl] at D1 D3 p1 p2
        rw [hg] at D2
        rw [D1] at z1 z3; rw [D2] at y1; rw [D3] at x1
        exact orders_seq_8 n0 hs0 A B a b hA hB ha hb ma mb ne.1 ne.2 xc
          (fun w => cmp_at z1 (z4 _) (fun w => Compare_70 8 true rfl a b ha hb w) w) (fun w => cmp_at y1 (y4 _) (fun w => Compare_70 8 true rfl b a hb ha w) w)
          (fun w => cmp_at z2 (z4 _) (fun w => Compare_69 8 true rfl a b ha hb w) w) (fun w => cmp_at z3 (z4 _) (fun w => Compare_71 8 true rfl a b ha hb w) w)
          (fun w => pick_at p1 hf (fun w => Pick_67 8 true rfl a b ha hb w) w) (fun w => pick_at p2 hf (fun w => Pick_68 8 true rfl a b ha hb w) w)
          (fun w => cmp_at x1 (x4 _) (fun w => Compare_70 8 true rfl (flip true b) (flip true a) fb fa w) w)
          (fun w => cmp_at z1 (z4 _) (fun w => Compare_70 8 true rfl a b ha hb w) w) t1 w
theorem convOrders_walk (a0 a1 a2 : Int) (w0 : (Lit.int .i64 a0).wf = true) (w1 : (Lit.int .u64 a1).wf = true) (w2 : (Lit.int .u64 a2).wf = true) (w : World) :
    Calls Try.prog 9 #[.int .i64 a0, .int .u64 a1, .int .u64 a2] w (RetB true w) := by
  obtain ⟨A, rfl, hA⟩ := u64_of_wf3 w1
  obtain ⟨B, rfl, hB⟩ := u64_of_wf3 w2
  rcases i64_and1 a0 with hs | hs
  · exact orders_4 a0 hs A B hA hB w
  · exact orders_8 a0 hs A B hA hB w
end Go.Proofs.Ytbcfndgceapbjaa
namespace Go.Proofs.Ytbcfndgceapbjaa.convOrders
open Go.ChangeShapes Go.WideShapes Go.ChangeAt Go.RowKit
set_option linter.unusedVariables false
theorem own : ownKnob Try.prog.godebug = none := by kernel_rfl
set_option maxRecDepth 100000 in
theorem lifted (os : Os) (started : os.Started) (H : Type) (enc : TypeId × Value → H) :
    ReturnsInHanded {} Try.checked os 9 .any (Rows.convOrdersSpec.pre6 enc Try.prog Try.f9 Rows.convOrdersRow.domain false) (Rows.convOrdersSpec.post enc Try.prog Try.f9 false true false false) := by
  refine returnsInHanded_of_change (C := Try.checked) own started (by kernel_rfl) Try.func9
    (ChangeSpec.witness6 (enc := enc) (C := Try.checked) false ⟨#[], #[.int .i64 0, .int .u64 0, .int .u64 0], []⟩ 8 (by kernel_rfl) (by kernel_rfl) (by kernel_rfl) (by kernel_rfl)) ?_
  intro W base args ds gs before hval0 hW hcnd _
  have hval : ∀ (j : Nat) t v, Try.f9.params[j]? = some t → args[j]? = some v → Value.okWide Try.prog W .any base t v := hval0
  have hW' := hW
  obtain ⟨p, q, hA0, hV, rfl, hfz, hnd⟩ := hW
  have hA : DataW.TrodAll enc Try.prog W 0 (fun _ => true) true Try.f9.params.toList args.toList ds p := hA0
  rw [Try.params9] at hA hval
  obtain ⟨v0, vs0, d0, ds0, p0, q0, hargs, rfl, rfl, h0, r0⟩ := trodAll_cons hA
  obtain ⟨v1, vs1, d1, ds1, p1, q1, rfl, rfl, rfl, h1, r1⟩ := trodAll_cons r0
  obtain ⟨v2, vs2, d2, ds2, p2, q2, rfl, rfl, rfl, h2, r2⟩ := trodAll_cons r1
  obtain ⟨rfl, rfl, rfl⟩ := trodAll_nil r2
  obtain rfl : args = #[v0, v1, v2] := by cases args; simp_all
  obtain ⟨rfl, rfl⟩ := trodVars_none hV
  obtain ⟨a0, rfl, rfl, rfl, w0⟩ := open_int Try.underlying3 (hval 0 3 v0 rfl rfl) h0
  obtain ⟨a1, rfl, rfl, rfl, w1⟩ := open_int Try.underlying22 (hval 1 22 v1 rfl rfl) h1
  obtain ⟨a2, rfl, rfl, rfl, w2⟩ := open_int Try.underlying22 (hval 2 22 v2 rfl rfl) h2
  clear hA0 hval0
  simp only [List.append_nil] at hW'
  refine (convOrders_walk a0 a1 a2 w0 w1 w2 W).mono fun e W' ⟨he, hg⟩ => ?_
  subst he
  exact ⟨_, rfl, post_nums hW' (fun _ _ _ => (trodAll_cons_mk (shut_bool Try.underlying4 _) trodAll_mk0)) (fun sp => (trodAll_cons_mk (shut_int Try.underlying3 w0) (trodAll_cons_mk (shut_int Try.underlying22 w1) (trodAll_cons_mk (shut_int Try.underlying22 w2) trodAll_mk0)))) (fun _ => rfl) hg (ok_one (by kernel_rfl) rfl (okWide_bool_mk Try.underlying4 _))⟩
theorem over : Rows.convOrdersRow.holds Try.pinned (OpenSpec.ofChange Rows.convOrdersSpec) :=
  OpenClaim.holds_of_wide 9 Try.f9 rfl rfl rfl rfl rfl rfl rfl ⟨rfl, rfl, rfl, rfl, rfl⟩ rfl rfl rfl rfl rfl (by kernel_rfl) Try.func9 (by kernel_rfl)
    (of_decide_eq_true (by kernel_rfl)) (by unfold Func.isWrapper; first | (rw [if_pos (by decide +kernel)]; kernel_rfl) | (rw [if_neg (by decide +kernel)]; exact ⟨rfl, rfl⟩))
    (fun os started H enc _ => lifted os started H enc)
theorem proved : Rows.ConvOrdersSaid := over
#print axioms proved
end Go.Proofs.Ytbcfndgceapbjaa.convOrders
