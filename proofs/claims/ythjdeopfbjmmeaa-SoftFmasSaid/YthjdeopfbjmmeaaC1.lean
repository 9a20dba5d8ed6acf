/- The contracts of rounding. -/
import Derived.Test.YthjdeopfbjmmeaaB3
import Derived.Test.YthjdeopfbjmmeaaB2
namespace Go.Proofs.Ythjdeopfbjmmeaa
open Go.ChangeShapes Go.WideShapes Go.ChangeAt Go.RowKit
set_option linter.unusedVariables false
set_option linter.unusedSimpArgs false
attribute [local go_sem ↓ high] run_neW run_eqW
/-- Where the bits that are dropped stand. -/
def restV (x n : Nat) : Int := if x % 2 ^ n = 0 then 0 else if x % 2 ^ n = 2 ^ (n - 1) then 2 else if x % 2 ^ n < 2 ^ (n - 1) then 1 else 3
theorem run_eqW0 (h l : Nat) (w : World) :
    (binOp .eql 45 (.agg #[.int .u64 h, .int .u64 l]) (.agg #[.int .u64 0, .int .u64 0])).run Try.prog w = .ok (.bool (eqW h l 0 0)) w := run_eqW h l 0 0 w
attribute [local go_sem ↓ high] run_eqW0
theorem rest_eq (x n : Nat) (h : x < 2 ^ 128) : x - shl (x / 2 ^ n) n = x % 2 ^ n ∧ shl (x / 2 ^ n) n ≤ x := by
  have e := Nat.div_add_mod x (2 ^ n)
  have e2 : shl (x / 2 ^ n) n = x / 2 ^ n * 2 ^ n := by
    unfold shl; apply Nat.mod_eq_of_lt; exact Nat.lt_of_le_of_lt (Nat.div_mul_le_self _ _) h
  rw [e2, Nat.mul_comm]; omega
theorem one_shl (n : Nat) (h : n < 128) : shl 1 n = 2 ^ n := by
  unfold shl; rw [Nat.one_mul]; exact Nat.mod_eq_of_lt (Nat.pow_lt_pow_right (by decide) h)
theorem rest_far (x n : Nat) (h0 : x ≠ 0) (h : x < 2 ^ 128) (hn : 128 < n) : x / 2 ^ n = 0 ∧ restV x n = 1 := by
  have h1 : 2 ^ 128 ≤ 2 ^ (n - 1) := Nat.pow_le_pow_right (by decide) (by omega)
  have h2 : 2 ^ (n - 1) < 2 ^ n := Nat.pow_lt_pow_right (by decide) (by omega)
  refine ⟨Nat.div_eq_of_lt (by omega), ?_⟩
  unfold restV
  rw [Nat.mod_eq_of_lt (by omega), if_neg h0, if_neg (by omega), if_pos (by omega)]
def RetS (x n : Nat) (W : World) (e : Ending) (w' : World) : Prop := e = .returned (.tuple #[.int .u64 (x / 2 ^ n : Nat), .int .i64 (restV x n)]) ∧ Below W.heap.size W w'
theorem retS_mk {x n : Nat} {a b : Int} {W w' : World} (ha : a = ((x / 2 ^ n : Nat) : Int)) (hb : b = restV x n) (h : Below W.heap.size W w') : RetS x n W (.returned (.tuple #[.int .u64 a, .int .i64 b])) w' := ⟨by rw [ha, hb], h⟩
theorem rest_cases (x n : Nat) : (restV x n = 0 ∧ x % 2 ^ n = 0) ∨ (restV x n = 2 ∧ x % 2 ^ n ≠ 0 ∧ x % 2 ^ n = 2 ^ (n - 1)) ∨
    (restV x n = 1 ∧ x % 2 ^ n ≠ 0 ∧ x % 2 ^ n ≠ 2 ^ (n - 1) ∧ x % 2 ^ n < 2 ^ (n - 1)) ∨ (restV x n = 3 ∧ x % 2 ^ n ≠ 0 ∧ x % 2 ^ n ≠ 2 ^ (n - 1) ∧ ¬ x % 2 ^ n < 2 ^ (n - 1)) := by
  unfold restV
  by_cases h1 : x % 2 ^ n = 0
  · exact .inl ⟨if_pos h1, h1⟩
  · rw [if_neg h1]
    by_cases h2 : x % 2 ^ n = 2 ^ (n - 1)
    · exact .inr (.inl ⟨if_pos h2, h1, h2⟩)
    · rw [if_neg h2]
      by_cases h3 : x % 2 ^ n < 2 ^ (n - 1)
      · exact .inr (.inr (.inl ⟨if_pos h3, h1, h2, h3⟩))
      · exact .inr (.inr (.inr ⟨if_neg h3, h1, h2, h3⟩))

theorem left_one (n : Int) (h0 : 0 ≤ n) (h1 : n < 65536) (w : World) :
    Calls Try.prog 83 #[.agg #[.int .u64 0, .int .u64 1], .int .i64 n] w (RetW (shl 1 n.toNat) w) :=
  left_c 0 1 1 n ⟨by decide, by decide, rfl⟩ h0 h1 w
theorem zero_W : IsW 0 0 0 := ⟨by decide, by decide, rfl⟩
set_option maxHeartbeats 4000000 in
theorem split_c (h l x : Nat) (n : Nat) (hx : Hid (IsW h l x)) (h0 : Hid (x ≠ 0)) (hn1 : 1 ≤ n) (hn2 : n ≤ 60000) (hk : Hid (x / 2 ^ n < 18446744073709551616)) (w : World) :
    Calls Try.prog 95 #[.agg #[.int .u64 h, .int .u64 l], .int .i64 n] w (RetS x n w) := by
  by_cases hn : 128 < n
  · have HF := Lib.hid (rest_far x n h0.out hx.out.lt128 hn)
    go_enter Try.func95, Try.ntmps95
    go_wp2_with fail
    go_ret2
    exact retS_mk (by rw [HF.out.1]; rfl) HF.out.2.symm (by repeat (first | (with_reducible first | exact Below.refl _ _ | assumption | exact Nat.le_refl _ | refine Below.drew ?_ | refine Below.alloc ?_ ?_ _ | refine Below.setCell ?_ ?_ _ | refine le_alloc ?_ | refine le_set ?_ | refine le_drew ?_ | refine below_step (by assumption) ?_ ?_ | refine le_below (by assumption) ?_) | (dsimp only; omega)))
  · have HR := Lib.hid (rest_eq x n hx.out.lt128)
    have HO := Lib.hid (one_shl (n - 1) (by omega))
    go_enter Try.func95, Try.ntmps95
    go_wp2_with fail
    refine (right_c _ _ _ _ hx (by omega) (by omega) _).mono ?_
    rintro e w1 ⟨h1, l1, rfl, hI1, hb1⟩
    obtain ⟨hc1, hf1⟩ := bcell hb1; have hz1 := hb1.size; (try simp only [sz_alloc, sz_drew, sz_set] at hz1 hc1 hf1); have l1_0 : w.heap.size < w1.heap.size := (by omega); have n1_0 : ¬ w.heap.size = w1.heap.size := (by omega); have m1_0 : ¬ w1.heap.size = w.heap.size := (by omega); have k1_0 := fun o => hc1 (w.heap.size) o (by omega); have f1_0 := fun o => hf1 (w.heap.size) o (by omega); (try simp (disch := (first | rfl | omega | (simp only [sz_alloc, sz_drew, sz_set]; omega))) only [sz_alloc, sz_drew, sz_set, World.cell?_drew, World.frozen?_drew, World.cell?_alloc_at, World.cell?_alloc_past, World.frozen?_alloc_at, World.frozen?_alloc_past] at k1_0 f1_0)
    rw [Int.toNat_natCast] at hI1
    go_wp2_with fail
    go_region_held3 (fun w' => w'.cell? ⟨w.heap.size, 0, none⟩ = some (.int .u64 h) ∧ w'.cell? ⟨w.heap.size, 1, none⟩ = some (.int .u64 l) ∧ w'.cell? ⟨w1.heap.size, 0, none⟩ = some (.int .u64 h1) ∧ w'.cell? ⟨w1.heap.size, 1, none⟩ = some (.int .u64 l1)) (all_goals (first | (go_keep; done) | (simp (disch := omega) only [cell_set_far]; simp [*])))
      (first
        | (go_at_call 83; refine (left_c _ _ _ _ hI1 (by omega) (by omega) _).mono ?_; rintro e w2 ⟨h2, l2, rfl, hI2, hb2⟩; (try rw [Int.toNat_natCast] at hI2); obtain ⟨hc2, hf2⟩ := bcell hb2; have hz2 := hb2.size; (try simp only [sz_alloc, sz_drew, sz_set] at hz2 hc2 hf2); have l2_0 : w.heap.size < w2.heap.size := (by omega); have n2_0 : ¬ w.heap.size = w2.heap.size := (by omega); have m2_0 : ¬ w2.heap.size = w.heap.size := (by omega); have k2_0 := fun o => hc2 (w.heap.size) o (by omega); have f2_0 := fun o => hf2 (w.heap.size) o (by omega); (try simp (disch := (first | rfl | omega | (simp only [sz_alloc, sz_drew, sz_set]; omega))) only [sz_alloc, sz_drew, sz_set, World.cell?_drew, World.frozen?_drew, World.cell?_alloc_at, World.cell?_alloc_past, World.frozen?_alloc_at, World.frozen?_alloc_past, hc1, hf1] at k2_0 f2_0); have l2_1 : w1.heap.size < w2.heap.size := (by omega); have n2_1 : ¬ w1.heap.size = w2.heap.size := (by omega); have m2_1 : ¬ w2.heap.size = w1.heap.size := (by omega); have k2_1 := fun o => hc2 (w1.heap.size) o (by omega); have f2_1 := fun o => hf2 (w1.heap.size) o (by omega); (try simp (disch := (first | rfl | omega | (simp only [sz_alloc, sz_drew, sz_set]; omega))) only [sz_alloc, sz_drew, sz_set, World.cell?_drew, World.frozen?_drew, World.cell?_alloc_at, World.cell?_alloc_past, World.frozen?_alloc_at, World.frozen?_alloc_past, hc1, hf1] at k2_1 f2_1); (try (have l2_t0 : w1.heap.size + 1 < w2.heap.size := (by omega); have n2_t0 : ¬ w1.heap.size + 1 = w2.heap.size := (by omega); have m2_t0 : ¬ w2.heap.size = w1.heap.size + 1 := (by omega); have k2_t0 := fun o => hc2 (w1.heap.size + 1) o (by omega); have f2_t0 := fun o => hf2 (w1.heap.size + 1) o (by omega); (try simp (disch := (first | rfl | omega | (simp only [sz_alloc, sz_drew, sz_set]; omega))) only [sz_alloc, sz_drew, sz_set, World.cell?_drew, World.frozen?_drew, World.cell?_alloc_at, World.cell?_alloc_past, World.frozen?_alloc_at, World.frozen?_alloc_past, hc1, hf1] at k2_t0 f2_t0))))
        | (go_at_call 91; refine (minus_c _ _ _ _ _ _ hx hI2 HR.out.2 _).mono ?_;  rintro e w3 ⟨h3, l3, rfl, hI3, hb3⟩; obtain ⟨hc3, hf3⟩ := bcell hb3; have hz3 := hb3.size; (try simp only [sz_alloc, sz_drew, sz_set] at hz3 hc3 hf3); have l3_0 : w.heap.size < w3.heap.size := (by omega); have n3_0 : ¬ w.heap.size = w3.heap.size := (by omega); have m3_0 : ¬ w3.heap.size = w.heap.size := (by omega); have k3_0 := fun o => hc3 (w.heap.size) o (by omega); have f3_0 := fun o => hf3 (w.heap.size) o (by omega); (try simp (disch := (first | rfl | omega | (simp only [sz_alloc, sz_drew, sz_set]; omega))) only [sz_alloc, sz_drew, sz_set, World.cell?_drew, World.frozen?_drew, World.cell?_alloc_at, World.cell?_alloc_past, World.frozen?_alloc_at, World.frozen?_alloc_past, hc2, hc1, hf2, hf1] at k3_0 f3_0); have l3_1 : w1.heap.size < w3.heap.size := (by omega); have n3_1 : ¬ w1.heap.size = w3.heap.size := (by omega); have m3_1 : ¬ w3.heap.size = w1.heap.size := (by omega); have k3_1 := fun o => hc3 (w1.heap.size) o (by omega); have f3_1 := fun o => hf3 (w1.heap.size) o (by omega); (try simp (disch := (first | rfl | omega | (simp only [sz_alloc, sz_drew, sz_set]; omega))) only [sz_alloc, sz_drew, sz_set, World.cell?_drew, World.frozen?_drew, World.cell?_alloc_at, World.cell?_alloc_past, World.frozen?_alloc_at, World.frozen?_alloc_past, hc2, hc1, hf2, hf1] at k3_1 f3_1); (try (have l3_t0 : w1.heap.size + 1 < w3.heap.size := (by omega); have n3_t0 : ¬ w1.heap.size + 1 = w3.heap.size := (by omega); have m3_t0 : ¬ w3.heap.size = w1.heap.size + 1 := (by omega); have k3_t0 := fun o => hc3 (w1.heap.size + 1) o (by omega); have f3_t0 := fun o => hf3 (w1.heap.size + 1) o (by omega); (try simp (disch := (first | rfl | omega | (simp only [sz_alloc, sz_drew, sz_set]; omega))) only [sz_alloc, sz_drew, sz_set, World.cell?_drew, World.frozen?_drew, World.cell?_alloc_at, World.cell?_alloc_past, World.frozen?_alloc_at, World.frozen?_alloc_past, hc2, hc1, hf2, hf1] at k3_t0 f3_t0))); (try (have l3_t1 : w2.heap.size < w3.heap.size := (by omega); have n3_t1 : ¬ w2.heap.size = w3.heap.size := (by omega); have m3_t1 : ¬ w3.heap.size = w2.heap.size := (by omega); have k3_t1 := fun o => hc3 (w2.heap.size) o (by omega); have f3_t1 := fun o => hf3 (w2.heap.size) o (by omega); (try simp (disch := (first | rfl | omega | (simp only [sz_alloc, sz_drew, sz_set]; omega))) only [sz_alloc, sz_drew, sz_set, World.cell?_drew, World.frozen?_drew, World.cell?_alloc_at, World.cell?_alloc_past, World.frozen?_alloc_at, World.frozen?_alloc_past, hc2, hc1, hf2, hf1] at k3_t1 f3_t1)))))
    all_goals go_wp2_with fail
    all_goals
      refine (left_one _ (by omega) (by omega) _).mono ?_
      rintro e w4 ⟨h4, l4, rfl, hI4, hb4⟩
      obtain ⟨hc4, hf4⟩ := bcell hb4; have hz4 := hb4.size; (try simp only [sz_alloc, sz_drew, sz_set] at hz4 hc4 hf4); have l4_0 : w1.heap.size < w4.heap.size := (by omega); have n4_0 : ¬ w1.heap.size = w4.heap.size := (by omega); have m4_0 : ¬ w4.heap.size = w1.heap.size := (by omega); have k4_0 := fun o => hc4 (w1.heap.size) o (by omega); have f4_0 := fun o => hf4 (w1.heap.size) o (by omega); (try simp (disch := (first | rfl | omega | (simp only [sz_alloc, sz_drew, sz_set]; omega))) only [sz_alloc, sz_drew, sz_set, World.cell?_drew, World.frozen?_drew, World.cell?_alloc_at, World.cell?_alloc_past, World.frozen?_alloc_at, World.frozen?_alloc_past, hc3, hc2, hc1, hf3, hf2, hf1] at k4_0 f4_0); (try (have l4_t0 : w1.heap.size + 1 < w4.heap.size := (by omega); have n4_t0 : ¬ w1.heap.size + 1 = w4.heap.size := (by omega); have m4_t0 : ¬ w4.heap.size = w1.heap.size + 1 := (by omega); have k4_t0 := fun o => hc4 (w1.heap.size + 1) o (by omega); have f4_t0 := fun o => hf4 (w1.heap.size + 1) o (by omega); (try simp (disch := (first | rfl | omega | (simp only [sz_alloc, sz_drew, sz_set]; omega))) only [sz_alloc, sz_drew, sz_set, World.cell?_drew, World.frozen?_drew, World.cell?_alloc_at, World.cell?_alloc_past, World.frozen?_alloc_at, World.frozen?_alloc_past, hc3, hc2, hc1, hf3, hf2, hf1] at k4_t0 f4_t0))); (try (have l4_t1 : w2.heap.size < w4.heap.size := (by omega); have n4_t1 : ¬ w2.heap.size = w4.heap.size := (by omega); have m4_t1 : ¬ w4.heap.size = w2.heap.size := (by omega); have k4_t1 := fun o => hc4 (w2.heap.size) o (by omega); have f4_t1 := fun o => hf4 (w2.heap.size) o (by omega); (try simp (disch := (first | rfl | omega | (simp only [sz_alloc, sz_drew, sz_set]; omega))) only [sz_alloc, sz_drew, sz_set, World.cell?_drew, World.frozen?_drew, World.cell?_alloc_at, World.cell?_alloc_past, World.frozen?_alloc_at, World.frozen?_alloc_past, hc3, hc2, hc1, hf3, hf2, hf1] at k4_t1 f4_t1))); (try (have l4_t2 : w3.heap.size < w4.heap.size := (by omega); have n4_t2 : ¬ w3.heap.size = w4.heap.size := (by omega); have m4_t2 : ¬ w4.heap.size = w3.heap.size := (by omega); have k4_t2 := fun o => hc4 (w3.heap.size) o (by omega); have f4_t2 := fun o => hf4 (w3.heap.size) o (by omega); (try simp (disch := (first | rfl | omega | (simp only [sz_alloc, sz_drew, sz_set]; omega))) only [sz_alloc, sz_drew, sz_set, World.cell?_drew, World.frozen?_drew, World.cell?_alloc_at, World.cell?_alloc_past, World.frozen?_alloc_at, World.frozen?_alloc_past, hc3, hc2, hc1, hf3, hf2, hf1] at k4_t2 f4_t2)))
      rw [show ((n : Int) - 1).toNat = n - 1 by omega, HO.out] at hI4
      rw [HR.out.1] at hI3
      have hE1 := eqW_of hI3.out zero_W
      have hE2 := eqW_of hI3.out hI4.out
      have HL := Lib.hid (hI1.out.low hk.out)
      rcases rest_cases x n with ⟨hr, c1⟩ | ⟨hr, c1, c2⟩ | ⟨hr, c1, c2, c3⟩ | ⟨hr, c1, c2, c3⟩
      · rw [c1] at hE1; rw [decide_eq_true rfl] at hE1
        have H0 := Lib.hid hr; clear hr c1 hE2
        go_wp2_with fail
        go_ret2
        exact retS_mk (by rw [← HL.out]) H0.out.symm (by repeat (first | (with_reducible first | exact Below.refl _ _ | assumption | exact Nat.le_refl _ | refine Below.drew ?_ | refine Below.alloc ?_ ?_ _ | refine Below.setCell ?_ ?_ _ | refine le_alloc ?_ | refine le_set ?_ | refine le_drew ?_ | refine below_step (by assumption) ?_ ?_ | refine le_below (by assumption) ?_) | (dsimp only; omega)))
      · rw [decide_eq_false c1] at hE1; rw [decide_eq_true c2] at hE2
        have H0 := Lib.hid hr; clear hr c1 c2
        go_wp2_with fail
        go_ret2
        exact retS_mk (by rw [← HL.out]) H0.out.symm (by repeat (first | (with_reducible first | exact Below.refl _ _ | assumption | exact Nat.le_refl _ | refine Below.drew ?_ | refine Below.alloc ?_ ?_ _ | refine Below.setCell ?_ ?_ _ | refine le_alloc ?_ | refine le_set ?_ | refine le_drew ?_ | refine below_step (by assumption) ?_ ?_ | refine le_below (by assumption) ?_) | (dsimp only; omega)))
      · rw [decide_eq_false c1] at hE1; rw [decide_eq_false c2] at hE2
        have H0 := Lib.hid hr; have H3 := Lib.hid c3; clear hr c1 c2 c3
        go_wp2_with fail
        refine (below_c _ _ _ _ _ _ hI3 hI4 _).mono ?_
        rintro e w5 ⟨rfl, hb5⟩
        rw [decide_eq_true H3.out]
        obtain ⟨hc5, hf5⟩ := bcell hb5; have hz5 := hb5.size; (try simp only [sz_alloc, sz_drew, sz_set] at hz5 hc5 hf5); have l5_0 : w1.heap.size < w5.heap.size := (by omega); have n5_0 : ¬ w1.heap.size = w5.heap.size := (by omega); have m5_0 : ¬ w5.heap.size = w1.heap.size := (by omega); have k5_0 := fun o => hc5 (w1.heap.size) o (by omega); have f5_0 := fun o => hf5 (w1.heap.size) o (by omega); (try simp (disch := (first | rfl | omega | (simp only [sz_alloc, sz_drew, sz_set]; omega))) only [sz_alloc, sz_drew, sz_set, World.cell?_drew, World.frozen?_drew, World.cell?_alloc_at, World.cell?_alloc_past, World.frozen?_alloc_at, World.frozen?_alloc_past, hc4, hc3, hc2, hc1, hf4, hf3, hf2, hf1] at k5_0 f5_0)
        go_wp2_with fail
        go_ret2
        exact retS_mk (by rw [← HL.out]) H0.out.symm (by repeat (first | (with_reducible first | exact Below.refl _ _ | assumption | exact Nat.le_refl _ | refine Below.drew ?_ | refine Below.alloc ?_ ?_ _ | refine Below.setCell ?_ ?_ _ | refine le_alloc ?_ | refine le_set ?_ | refine le_drew ?_ | refine below_step (by assumption) ?_ ?_ | refine le_below (by assumption) ?_) | (dsimp only; omega)))
      · rw [decide_eq_false c1] at hE1; rw [decide_eq_false c2] at hE2
        have H0 := Lib.hid hr; have H3 := Lib.hid c3; clear hr c1 c2 c3
        go_wp2_with fail
        refine (below_c _ _ _ _ _ _ hI3 hI4 _).mono ?_
        rintro e w5 ⟨rfl, hb5⟩
        rw [decide_eq_false H3.out]
        obtain ⟨hc5, hf5⟩ := bcell hb5; have hz5 := hb5.size; (try simp only [sz_alloc, sz_drew, sz_set] at hz5 hc5 hf5); have l5_0 : w1.heap.size < w5.heap.size := (by omega); have n5_0 : ¬ w1.heap.size = w5.heap.size := (by omega); have m5_0 : ¬ w5.heap.size = w1.heap.size := (by omega); have k5_0 := fun o => hc5 (w1.heap.size) o (by omega); have f5_0 := fun o => hf5 (w1.heap.size) o (by omega); (try simp (disch := (first | rfl | omega | (simp only [sz_alloc, sz_drew, sz_set]; omega))) only [sz_alloc, sz_drew, sz_set, World.cell?_drew, World.frozen?_drew, World.cell?_alloc_at, World.cell?_alloc_past, World.frozen?_alloc_at, World.frozen?_alloc_past, hc4, hc3, hc2, hc1, hf4, hf3, hf2, hf1] at k5_0 f5_0)
        go_wp2_with fail
        go_ret2
        exact retS_mk (by rw [← HL.out]) H0.out.symm (by repeat (first | (with_reducible first | exact Below.refl _ _ | assumption | exact Nat.le_refl _ | refine Below.drew ?_ | refine Below.alloc ?_ ?_ _ | refine Below.setCell ?_ ?_ _ | refine le_alloc ?_ | refine le_set ?_ | refine le_drew ?_ | refine below_step (by assumption) ?_ ?_ | refine le_below (by assumption) ?_) | (dsimp only; omega)))
end Go.Proofs.Ythjdeopfbjmmeaa
