/- The contracts of gather and scatter, from immediate 4 on. -/
import Derived.Test.YtcfeeookjgdkmaaDoorB4
namespace Go.Proofs.YtcfeeookjgdkmaaDoor
open Go.ChangeShapes Go.WideShapes Go.ChangeAt Go.RowKit
set_option linter.unusedVariables false
set_option linter.unusedSimpArgs false

set_option maxRecDepth 100000 in
set_option maxHeartbeats 2000000 in
theorem gather_4 (h : Nat) (hh : Hid (h < 65536)) (w : World) (hG : Hid (G w)) : Calls Tryd.prog 39 #[.agg #[.int .u16 4220, .int .u64 5517840, .bool true], .int .u16 h] w (RetU (immF 4 h) w) := by
  have l0 : bits .and .u16 4220 4219 = 4216 := by decide
  have l1 : bits .and .u16 4216 4215 = 4208 := by decide
  have l2 : bits .and .u16 4208 4207 = 4192 := by decide
  have l3 : bits .and .u16 4192 4191 = 4160 := by decide
  have l4 : bits .and .u16 4160 4159 = 4096 := by decide
  have l5 : bits .and .u16 4096 4095 = 0 := by decide
  have t0 : bits .and .u64 5517840 15 = 0 := by decide
  have t1 : bits .and .u64 344865 15 = 1 := by decide
  have t2 : bits .and .u64 21554 15 = 2 := by decide
  have t3 : bits .and .u64 1347 15 = 3 := by decide
  have t4 : bits .and .u64 84 15 = 4 := by decide
  have t5 : bits .and .u64 5 15 = 5 := by decide
  have d2 : bits .and .u16 ((h : Int) / 4) 1 = ((h / 4 % 2 : Nat) : Int) := by have e : ((h : Int) / 4) = ((h / 4 : Nat) : Int) := (by simp); rw [e]; exact u16_low (h / 4) 1 (by have := hh.out; omega) (by decide)
  have d3 : bits .and .u16 ((h : Int) / 8) 1 = ((h / 8 % 2 : Nat) : Int) := by have e : ((h : Int) / 8) = ((h / 8 : Nat) : Int) := (by simp); rw [e]; exact u16_low (h / 8) 1 (by have := hh.out; omega) (by decide)
  have d4 : bits .and .u16 ((h : Int) / 16) 1 = ((h / 16 % 2 : Nat) : Int) := by have e : ((h : Int) / 16) = ((h / 16 : Nat) : Int) := (by simp); rw [e]; exact u16_low (h / 16) 1 (by have := hh.out; omega) (by decide)
  have d5 : bits .and .u16 ((h : Int) / 32) 1 = ((h / 32 % 2 : Nat) : Int) := by have e : ((h : Int) / 32) = ((h / 32 : Nat) : Int) := (by simp); rw [e]; exact u16_low (h / 32) 1 (by have := hh.out; omega) (by decide)
  have d6 : bits .and .u16 ((h : Int) / 64) 1 = ((h / 64 % 2 : Nat) : Int) := by have e : ((h : Int) / 64) = ((h / 64 : Nat) : Int) := (by simp); rw [e]; exact u16_low (h / 64) 1 (by have := hh.out; omega) (by decide)
  have d12 : bits .and .u16 ((h : Int) / 4096) 1 = ((h / 4096 % 2 : Nat) : Int) := by have e : ((h : Int) / 4096) = ((h / 4096 : Nat) : Int) := (by simp); rw [e]; exact u16_low (h / 4096) 1 (by have := hh.out; omega) (by decide)
  go_enter Tryd.func39, Tryd.ntmps39
  go_wp2_with fail
  refine wp_loop_rounds 7 ?_
  rw [rounds_succ]
  go_wp2_with fail
  refine (tz16_c 4220 2 (by show _ ∧ _ ∧ _ ∧ _; decide) _ (Lib.hid (g_alloc hG.out _))).mono ?_; rintro e v0 ⟨rfl, rfl⟩
  go_wp2_with fail
  rw [rounds_succ]
  go_wp2_with fail
  refine (tz16_c 4216 3 (by show _ ∧ _ ∧ _ ∧ _; decide) _ (Lib.hid (g_alloc hG.out _))).mono ?_; rintro e v1 ⟨rfl, rfl⟩
  go_wp2_with fail
  rw [rounds_succ]
  go_wp2_with fail
  refine (tz16_c 4208 4 (by show _ ∧ _ ∧ _ ∧ _; decide) _ (Lib.hid (g_alloc hG.out _))).mono ?_; rintro e v2 ⟨rfl, rfl⟩
  go_wp2_with fail
  rw [rounds_succ]
  go_wp2_with fail
  refine (tz16_c 4192 5 (by show _ ∧ _ ∧ _ ∧ _; decide) _ (Lib.hid (g_alloc hG.out _))).mono ?_; rintro e v3 ⟨rfl, rfl⟩
  go_wp2_with fail
  rw [rounds_succ]
  go_wp2_with fail
  refine (tz16_c 4160 6 (by show _ ∧ _ ∧ _ ∧ _; decide) _ (Lib.hid (g_alloc hG.out _))).mono ?_; rintro e v4 ⟨rfl, rfl⟩
  go_wp2_with fail
  rw [rounds_succ]
  go_wp2_with fail
  refine (tz16_c 4096 12 (by show _ ∧ _ ∧ _ ∧ _; decide) _ (Lib.hid (g_alloc hG.out _))).mono ?_; rintro e v5 ⟨rfl, rfl⟩
  go_wp2_with fail
  rw [rounds_succ]
  go_wp2_with fail
  go_ret
  have hh' := hh.out
  have hb : ga4 h < 64 := by
    unfold ga4
    repeat' (first | with_reducible refine Nat.or_lt_two_pow (n := 6) ?_ ?_ | omega)
  refine retU_mk (b := immF 4 h) ?_ (by repeat (first | (with_reducible first | exact Below.refl _ _ | assumption | exact Nat.le_refl _ | refine Below.drew ?_ | refine Below.alloc ?_ ?_ _ | refine Below.setCell ?_ ?_ _ | refine le_alloc ?_ | refine le_set ?_ | refine le_drew ?_ | refine below_step (by assumption) ?_ ?_ | refine le_below (by assumption) ?_) | (dsimp only; omega)))
  rw [immF_4, im4, ← wid_5 _ hb]
  refine congrArg (fun z : Int => wrap32 (z * 67108864 % 4294967296) / 67108864 % 4294967296) ?_
  refine IsU.left ?_
  unfold ga4
  repeat' (first | with_reducible refine isU_or ?_ ?_ | exact ⟨by omega, by omega⟩)
set_option maxRecDepth 100000 in
set_option maxHeartbeats 2000000 in
theorem scatter_4 (n : Nat) (hn : Hid (n < 4294967296)) (w : World) (hG : Hid (G w)) : Calls Tryd.prog 42 #[.agg #[.int .u16 4220, .int .u64 5517840, .bool true], .int .u32 n] w (RetH (scaF 4 n) w) := by
  have l0 : bits .and .u16 4220 4219 = 4216 := by decide
  have l1 : bits .and .u16 4216 4215 = 4208 := by decide
  have l2 : bits .and .u16 4208 4207 = 4192 := by decide
  have l3 : bits .and .u16 4192 4191 = 4160 := by decide
  have l4 : bits .and .u16 4160 4159 = 4096 := by decide
  have l5 : bits .and .u16 4096 4095 = 0 := by decide
  have t0 : bits .and .u64 5517840 15 = 0 := by decide
  have t1 : bits .and .u64 344865 15 = 1 := by decide
  have t2 : bits .and .u64 21554 15 = 2 := by decide
  have t3 : bits .and .u64 1347 15 = 3 := by decide
  have t4 : bits .and .u64 84 15 = 4 := by decide
  have t5 : bits .and .u64 5 15 = 5 := by decide
  have d0 : bits .and .u32 (n : Int) 1 = ((n % 2 : Nat) : Int) := u32_low n 1 hn.out (by decide)
  have d1 : bits .and .u32 ((n : Int) / 2) 1 = ((n / 2 % 2 : Nat) : Int) := by have e : ((n : Int) / 2) = ((n / 2 : Nat) : Int) := (by simp); rw [e]; exact u32_low (n / 2) 1 (by have := hn.out; omega) (by decide)
  have d2 : bits .and .u32 ((n : Int) / 4) 1 = ((n / 4 % 2 : Nat) : Int) := by have e : ((n : Int) / 4) = ((n / 4 : Nat) : Int) := (by simp); rw [e]; exact u32_low (n / 4) 1 (by have := hn.out; omega) (by decide)
  have d3 : bits .and .u32 ((n : Int) / 8) 1 = ((n / 8 % 2 : Nat) : Int) := by have e : ((n : Int) / 8) = ((n / 8 : Nat) : Int) := (by simp); rw [e]; exact u32_low (n / 8) 1 (by have := hn.out; omega) (by decide)
  have d4 : bits .and .u32 ((n : Int) / 16) 1 = ((n / 16 % 2 : Nat) : Int) := by have e : ((n : Int) / 16) = ((n / 16 : Nat) : Int) := (by simp); rw [e]; exact u32_low (n / 16) 1 (by have := hn.out; omega) (by decide)
  have d5 : bits .and .u32 ((n : Int) / 32) 1 = ((n / 32 % 2 : Nat) : Int) := by have e : ((n : Int) / 32) = ((n / 32 : Nat) : Int) := (by simp); rw [e]; exact u32_low (n / 32) 1 (by have := hn.out; omega) (by decide)
  go_enter Tryd.func42, Tryd.ntmps42
  go_wp2_with fail
  refine wp_loop_rounds 7 ?_
  rw [rounds_succ]
  go_wp2_with fail
  refine (tz16_c 4220 2 (by show _ ∧ _ ∧ _ ∧ _; decide) _ (Lib.hid (g_alloc hG.out _))).mono ?_; rintro e v0 ⟨rfl, rfl⟩
  go_wp2_with fail
  rw [rounds_succ]
  go_wp2_with fail
  refine (tz16_c 4216 3 (by show _ ∧ _ ∧ _ ∧ _; decide) _ (Lib.hid (g_alloc hG.out _))).mono ?_; rintro e v1 ⟨rfl, rfl⟩
  go_wp2_with fail
  rw [rounds_succ]
  go_wp2_with fail
  refine (tz16_c 4208 4 (by show _ ∧ _ ∧ _ ∧ _; decide) _ (Lib.hid (g_alloc hG.out _))).mono ?_; rintro e v2 ⟨rfl, rfl⟩
  go_wp2_with fail
  rw [rounds_succ]
  go_wp2_with fail
  refine (tz16_c 4192 5 (by show _ ∧ _ ∧ _ ∧ _; decide) _ (Lib.hid (g_alloc hG.out _))).mono ?_; rintro e v3 ⟨rfl, rfl⟩
  go_wp2_with fail
  rw [rounds_succ]
  go_wp2_with fail
  refine (tz16_c 4160 6 (by show _ ∧ _ ∧ _ ∧ _; decide) _ (Lib.hid (g_alloc hG.out _))).mono ?_; rintro e v4 ⟨rfl, rfl⟩
  go_wp2_with fail
  rw [rounds_succ]
  go_wp2_with fail
  refine (tz16_c 4096 12 (by show _ ∧ _ ∧ _ ∧ _; decide) _ (Lib.hid (g_alloc hG.out _))).mono ?_; rintro e v5 ⟨rfl, rfl⟩
  go_wp2_with fail
  rw [rounds_succ]
  go_wp2_with fail
  go_ret
  have hn' := hn.out
  refine retH_mk (b := scaF 4 n) ?_ (by repeat (first | (with_reducible first | exact Below.refl _ _ | assumption | exact Nat.le_refl _ | refine Below.drew ?_ | refine Below.alloc ?_ ?_ _ | refine Below.setCell ?_ ?_ _ | refine le_alloc ?_ | refine le_set ?_ | refine le_drew ?_ | refine below_step (by assumption) ?_ ?_ | refine le_below (by assumption) ?_) | (dsimp only; omega)))
  rw [scaF_4]
  refine IsH.left ?_
  unfold sc4
  repeat' (first | with_reducible refine isH_or ?_ ?_ | exact ⟨by omega, by omega⟩)
set_option maxRecDepth 100000 in
set_option maxHeartbeats 2000000 in
theorem gather_5 (h : Nat) (hh : Hid (h < 65536)) (w : World) (hG : Hid (G w)) : Calls Tryd.prog 39 #[.agg #[.int .u16 4220, .int .u64 5517840, .bool false], .int .u16 h] w (RetU (immF 5 h) w) := by
  have l0 : bits .and .u16 4220 4219 = 4216 := by decide
  have l1 : bits .and .u16 4216 4215 = 4208 := by decide
  have l2 : bits .and .u16 4208 4207 = 4192 := by decide
  have l3 : bits .and .u16 4192 4191 = 4160 := by decide
  have l4 : bits .and .u16 4160 4159 = 4096 := by decide
  have l5 : bits .and .u16 4096 4095 = 0 := by decide
  have t0 : bits .and .u64 5517840 15 = 0 := by decide
  have t1 : bits .and .u64 344865 15 = 1 := by decide
  have t2 : bits .and .u64 21554 15 = 2 := by decide
  have t3 : bits .and .u64 1347 15 = 3 := by decide
  have t4 : bits .and .u64 84 15 = 4 := by decide
  have t5 : bits .and .u64 5 15 = 5 := by decide
  have d2 : bits .and .u16 ((h : Int) / 4) 1 = ((h / 4 % 2 : Nat) : Int) := by have e : ((h : Int) / 4) = ((h / 4 : Nat) : Int) := (by simp); rw [e]; exact u16_low (h / 4) 1 (by have := hh.out; omega) (by decide)
  have d3 : bits .and .u16 ((h : Int) / 8) 1 = ((h / 8 % 2 : Nat) : Int) := by have e : ((h : Int) / 8) = ((h / 8 : Nat) : Int) := (by simp); rw [e]; exact u16_low (h / 8) 1 (by have := hh.out; omega) (by decide)
  have d4 : bits .and .u16 ((h : Int) / 16) 1 = ((h / 16 % 2 : Nat) : Int) := by have e : ((h : Int) / 16) = ((h / 16 : Nat) : Int) := (by simp); rw [e]; exact u16_low (h / 16) 1 (by have := hh.out; omega) (by decide)
  have d5 : bits .and .u16 ((h : Int) / 32) 1 = ((h / 32 % 2 : Nat) : Int) := by have e : ((h : Int) / 32) = ((h / 32 : Nat) : Int) := (by simp); rw [e]; exact u16_low (h / 32) 1 (by have := hh.out; omega) (by decide)
  have d6 : bits .and .u16 ((h : Int) / 64) 1 = ((h / 64 % 2 : Nat) : Int) := by have e : ((h : Int) / 64) = ((h / 64 : Nat) : Int) := (by simp); rw [e]; exact u16_low (h / 64) 1 (by have := hh.out; omega) (by decide)
  have d12 : bits .and .u16 ((h : Int) / 4096) 1 = ((h / 4096 % 2 : Nat) : Int) := by have e : ((h : Int) / 4096) = ((h / 4096 : Nat) : Int) := (by simp); rw [e]; exact u16_low (h / 4096) 1 (by have := hh.out; omega) (by decide)
  go_enter Tryd.func39, Tryd.ntmps39
  go_wp2_with fail
  refine wp_loop_rounds 7 ?_
  rw [rounds_succ]
  go_wp2_with fail
  refine (tz16_c 4220 2 (by show _ ∧ _ ∧ _ ∧ _; decide) _ (Lib.hid (g_alloc hG.out _))).mono ?_; rintro e v0 ⟨rfl, rfl⟩
  go_wp2_with fail
  rw [rounds_succ]
  go_wp2_with fail
  refine (tz16_c 4216 3 (by show _ ∧ _ ∧ _ ∧ _; decide) _ (Lib.hid (g_alloc hG.out _))).mono ?_; rintro e v1 ⟨rfl, rfl⟩
  go_wp2_with fail
  rw [rounds_succ]
  go_wp2_with fail
  refine (tz16_c 4208 4 (by show _ ∧ _ ∧ _ ∧ _; decide) _ (Lib.hid (g_alloc hG.out _))).mono ?_; rintro e v2 ⟨rfl, rfl⟩
  go_wp2_with fail
  rw [rounds_succ]
  go_wp2_with fail
  refine (tz16_c 4192 5 (by show _ ∧ _ ∧ _ ∧ _; decide) _ (Lib.hid (g_alloc hG.out _))).mono ?_; rintro e v3 ⟨rfl, rfl⟩
  go_wp2_with fail
  rw [rounds_succ]
  go_wp2_with fail
  refine (tz16_c 4160 6 (by show _ ∧ _ ∧ _ ∧ _; decide) _ (Lib.hid (g_alloc hG.out _))).mono ?_; rintro e v4 ⟨rfl, rfl⟩
  go_wp2_with fail
  rw [rounds_succ]
  go_wp2_with fail
  refine (tz16_c 4096 12 (by show _ ∧ _ ∧ _ ∧ _; decide) _ (Lib.hid (g_alloc hG.out _))).mono ?_; rintro e v5 ⟨rfl, rfl⟩
  go_wp2_with fail
  rw [rounds_succ]
  go_wp2_with fail
  go_ret
  have hh' := hh.out
  refine retU_mk (b := immF 5 h) ?_ (by repeat (first | (with_reducible first | exact Below.refl _ _ | assumption | exact Nat.le_refl _ | refine Below.drew ?_ | refine Below.alloc ?_ ?_ _ | refine Below.setCell ?_ ?_ _ | refine le_alloc ?_ | refine le_set ?_ | refine le_drew ?_ | refine below_step (by assumption) ?_ ?_ | refine le_below (by assumption) ?_) | (dsimp only; omega)))
  rw [immF_5]
  refine IsU.left ?_
  unfold ga5
  repeat' (first | with_reducible refine isU_or ?_ ?_ | exact ⟨by omega, by omega⟩)
set_option maxRecDepth 100000 in
set_option maxHeartbeats 2000000 in
theorem scatter_5 (n : Nat) (hn : Hid (n < 4294967296)) (w : World) (hG : Hid (G w)) : Calls Tryd.prog 42 #[.agg #[.int .u16 4220, .int .u64 5517840, .bool false], .int .u32 n] w (RetH (scaF 5 n) w) := by
  have l0 : bits .and .u16 4220 4219 = 4216 := by decide
  have l1 : bits .and .u16 4216 4215 = 4208 := by decide
  have l2 : bits .and .u16 4208 4207 = 4192 := by decide
  have l3 : bits .and .u16 4192 4191 = 4160 := by decide
  have l4 : bits .and .u16 4160 4159 = 4096 := by decide
  have l5 : bits .and .u16 4096 4095 = 0 := by decide
  have t0 : bits .and .u64 5517840 15 = 0 := by decide
  have t1 : bits .and .u64 344865 15 = 1 := by decide
  have t2 : bits .and .u64 21554 15 = 2 := by decide
  have t3 : bits .and .u64 1347 15 = 3 := by decide
  have t4 : bits .and .u64 84 15 = 4 := by decide
  have t5 : bits .and .u64 5 15 = 5 := by decide
  have d0 : bits .and .u32 (n : Int) 1 = ((n % 2 : Nat) : Int) := u32_low n 1 hn.out (by decide)
  have d1 : bits .and .u32 ((n : Int) / 2) 1 = ((n / 2 % 2 : Nat) : Int) := by have e : ((n : Int) / 2) = ((n / 2 : Nat) : Int) := (by simp); rw [e]; exact u32_low (n / 2) 1 (by have := hn.out; omega) (by decide)
  have d2 : bits .and .u32 ((n : Int) / 4) 1 = ((n / 4 % 2 : Nat) : Int) := by have e : ((n : Int) / 4) = ((n / 4 : Nat) : Int) := (by simp); rw [e]; exact u32_low (n / 4) 1 (by have := hn.out; omega) (by decide)
  have d3 : bits .and .u32 ((n : Int) / 8) 1 = ((n / 8 % 2 : Nat) : Int) := by have e : ((n : Int) / 8) = ((n / 8 : Nat) : Int) := (by simp); rw [e]; exact u32_low (n / 8) 1 (by have := hn.out; omega) (by decide)
  have d4 : bits .and .u32 ((n : Int) / 16) 1 = ((n / 16 % 2 : Nat) : Int) := by have e : ((n : Int) / 16) = ((n / 16 : Nat) : Int) := (by simp); rw [e]; exact u32_low (n / 16) 1 (by have := hn.out; omega) (by decide)
  have d5 : bits .and .u32 ((n : Int) / 32) 1 = ((n / 32 % 2 : Nat) : Int) := by have e : ((n : Int) / 32) = ((n / 32 : Nat) : Int) := (by simp); rw [e]; exact u32_low (n / 32) 1 (by have := hn.out; omega) (by decide)
  go_enter Tryd.func42, Tryd.ntmps42
  go_wp2_with fail
  refine wp_loop_rounds 7 ?_
  rw [rounds_succ]
  go_wp2_with fail
  refine (tz16_c 4220 2 (by show _ ∧ _ ∧ _ ∧ _; decide) _ (Lib.hid (g_alloc hG.out _))).mono ?_; rintro e v0 ⟨rfl, rfl⟩
  go_wp2_with fail
  rw [rounds_succ]
  go_wp2_with fail
  refine (tz16_c 4216 3 (by show _ ∧ _ ∧ _ ∧ _; decide) _ (Lib.hid (g_alloc hG.out _))).mono ?_; rintro e v1 ⟨rfl, rfl⟩
  go_wp2_with fail
  rw [rounds_succ]
  go_wp2_with fail
  refine (tz16_c 4208 4 (by show _ ∧ _ ∧ _ ∧ _; decide) _ (Lib.hid (g_alloc hG.out _))).mono ?_; rintro e v2 ⟨rfl, rfl⟩
  go_wp2_with fail
  rw [rounds_succ]
  go_wp2_with fail
  refine (tz16_c 4192 5 (by show _ ∧ _ ∧ _ ∧ _; decide) _ (Lib.hid (g_alloc hG.out _))).mono ?_; rintro e v3 ⟨rfl, rfl⟩
  go_wp2_with fail
  rw [rounds_succ]
  go_wp2_with fail
  refine (tz16_c 4160 6 (by show _ ∧ _ ∧ _ ∧ _; decide) _ (Lib.hid (g_alloc hG.out _))).mono ?_; rintro e v4 ⟨rfl, rfl⟩
  go_wp2_with fail
  rw [rounds_succ]
  go_wp2_with fail
  refine (tz16_c 4096 12 (by show _ ∧ _ ∧ _ ∧ _; decide) _ (Lib.hid (g_alloc hG.out _))).mono ?_; rintro e v5 ⟨rfl, rfl⟩
  go_wp2_with fail
  rw [rounds_succ]
  go_wp2_with fail
  go_ret
  have hn' := hn.out
  refine retH_mk (b := scaF 5 n) ?_ (by repeat (first | (with_reducible first | exact Below.refl _ _ | assumption | exact Nat.le_refl _ | refine Below.drew ?_ | refine Below.alloc ?_ ?_ _ | refine Below.setCell ?_ ?_ _ | refine le_alloc ?_ | refine le_set ?_ | refine le_drew ?_ | refine below_step (by assumption) ?_ ?_ | refine le_below (by assumption) ?_) | (dsimp only; omega)))
  rw [scaF_5]
  refine IsH.left ?_
  unfold sc5
  repeat' (first | with_reducible refine isH_or ?_ ?_ | exact ⟨by omega, by omega⟩)
set_option maxRecDepth 100000 in
set_option maxHeartbeats 2000000 in
theorem gather_6 (h : Nat) (hh : Hid (h < 65536)) (w : World) (hG : Hid (G w)) : Calls Tryd.prog 39 #[.agg #[.int .u16 4220, .int .u64 9726069, .bool true], .int .u16 h] w (RetU (immF 6 h) w) := by
  have l0 : bits .and .u16 4220 4219 = 4216 := by decide
  have l1 : bits .and .u16 4216 4215 = 4208 := by decide
  have l2 : bits .and .u16 4208 4207 = 4192 := by decide
  have l3 : bits .and .u16 4192 4191 = 4160 := by decide
  have l4 : bits .and .u16 4160 4159 = 4096 := by decide
  have l5 : bits .and .u16 4096 4095 = 0 := by decide
  have t0 : bits .and .u64 9726069 15 = 5 := by decide
  have t1 : bits .and .u64 607879 15 = 7 := by decide
  have t2 : bits .and .u64 37992 15 = 8 := by decide
  have t3 : bits .and .u64 2374 15 = 6 := by decide
  have t4 : bits .and .u64 148 15 = 4 := by decide
  have t5 : bits .and .u64 9 15 = 9 := by decide
  have d2 : bits .and .u16 ((h : Int) / 4) 1 = ((h / 4 % 2 : Nat) : Int) := by have e : ((h : Int) / 4) = ((h / 4 : Nat) : Int) := (by simp); rw [e]; exact u16_low (h / 4) 1 (by have := hh.out; omega) (by decide)
  have d3 : bits .and .u16 ((h : Int) / 8) 1 = ((h / 8 % 2 : Nat) : Int) := by have e : ((h : Int) / 8) = ((h / 8 : Nat) : Int) := (by simp); rw [e]; exact u16_low (h / 8) 1 (by have := hh.out; omega) (by decide)
  have d4 : bits .and .u16 ((h : Int) / 16) 1 = ((h / 16 % 2 : Nat) : Int) := by have e : ((h : Int) / 16) = ((h / 16 : Nat) : Int) := (by simp); rw [e]; exact u16_low (h / 16) 1 (by have := hh.out; omega) (by decide)
  have d5 : bits .and .u16 ((h : Int) / 32) 1 = ((h / 32 % 2 : Nat) : Int) := by have e : ((h : Int) / 32) = ((h / 32 : Nat) : Int) := (by simp); rw [e]; exact u16_low (h / 32) 1 (by have := hh.out; omega) (by decide)
  have d6 : bits .and .u16 ((h : Int) / 64) 1 = ((h / 64 % 2 : Nat) : Int) := by have e : ((h : Int) / 64) = ((h / 64 : Nat) : Int) := (by simp); rw [e]; exact u16_low (h / 64) 1 (by have := hh.out; omega) (by decide)
  have d12 : bits .and .u16 ((h : Int) / 4096) 1 = ((h / 4096 % 2 : Nat) : Int) := by have e : ((h : Int) / 4096) = ((h / 4096 : Nat) : Int) := (by simp); rw [e]; exact u16_low (h / 4096) 1 (by have := hh.out; omega) (by decide)
  go_enter Tryd.func39, Tryd.ntmps39
  go_wp2_with fail
  refine wp_loop_rounds 7 ?_
  rw [rounds_succ]
  go_wp2_with fail
  refine (tz16_c 4220 2 (by show _ ∧ _ ∧ _ ∧ _; decide) _ (Lib.hid (g_alloc hG.out _))).mono ?_; rintro e v0 ⟨rfl, rfl⟩
  go_wp2_with fail
  rw [rounds_succ]
  go_wp2_with fail
  refine (tz16_c 4216 3 (by show _ ∧ _ ∧ _ ∧ _; decide) _ (Lib.hid (g_alloc hG.out _))).mono ?_; rintro e v1 ⟨rfl, rfl⟩
  go_wp2_with fail
  rw [rounds_succ]
  go_wp2_with fail
  refine (tz16_c 4208 4 (by show _ ∧ _ ∧ _ ∧ _; decide) _ (Lib.hid (g_alloc hG.out _))).mono ?_; rintro e v2 ⟨rfl, rfl⟩
  go_wp2_with fail
  rw [rounds_succ]
  go_wp2_with fail
  refine (tz16_c 4192 5 (by show _ ∧ _ ∧ _ ∧ _; decide) _ (Lib.hid (g_alloc hG.out _))).mono ?_; rintro e v3 ⟨rfl, rfl⟩
  go_wp2_with fail
  rw [rounds_succ]
  go_wp2_with fail
  refine (tz16_c 4160 6 (by show _ ∧ _ ∧ _ ∧ _; decide) _ (Lib.hid (g_alloc hG.out _))).mono ?_; rintro e v4 ⟨rfl, rfl⟩
  go_wp2_with fail
  rw [rounds_succ]
  go_wp2_with fail
  refine (tz16_c 4096 12 (by show _ ∧ _ ∧ _ ∧ _; decide) _ (Lib.hid (g_alloc hG.out _))).mono ?_; rintro e v5 ⟨rfl, rfl⟩
  go_wp2_with fail
  rw [rounds_succ]
  go_wp2_with fail
  go_ret
  have hh' := hh.out
  have hb : ga6 h < 1024 := by
    unfold ga6
    repeat' (first | with_reducible refine Nat.or_lt_two_pow (n := 10) ?_ ?_ | omega)
  refine retU_mk (b := immF 6 h) ?_ (by repeat (first | (with_reducible first | exact Below.refl _ _ | assumption | exact Nat.le_refl _ | refine Below.drew ?_ | refine Below.alloc ?_ ?_ _ | refine Below.setCell ?_ ?_ _ | refine le_alloc ?_ | refine le_set ?_ | refine le_drew ?_ | refine below_step (by assumption) ?_ ?_ | refine le_below (by assumption) ?_) | (dsimp only; omega)))
  rw [immF_6, im6, ← wid_9 _ hb]
  refine congrArg (fun z : Int => wrap32 (z * 4194304 % 4294967296) / 4194304 % 4294967296) ?_
  refine IsU.left ?_
  unfold ga6
  repeat' (first | with_reducible refine isU_or ?_ ?_ | exact ⟨by omega, by omega⟩)
set_option maxRecDepth 100000 in
set_option maxHeartbeats 2000000 in
theorem scatter_6 (n : Nat) (hn : Hid (n < 4294967296)) (w : World) (hG : Hid (G w)) : Calls Tryd.prog 42 #[.agg #[.int .u16 4220, .int .u64 9726069, .bool true], .int .u32 n] w (RetH (scaF 6 n) w) := by
  have l0 : bits .and .u16 4220 4219 = 4216 := by decide
  have l1 : bits .and .u16 4216 4215 = 4208 := by decide
  have l2 : bits .and .u16 4208 4207 = 4192 := by decide
  have l3 : bits .and .u16 4192 4191 = 4160 := by decide
  have l4 : bits .and .u16 4160 4159 = 4096 := by decide
  have l5 : bits .and .u16 4096 4095 = 0 := by decide
  have t0 : bits .and .u64 9726069 15 = 5 := by decide
  have t1 : bits .and .u64 607879 15 = 7 := by decide
  have t2 : bits .and .u64 37992 15 = 8 := by decide
  have t3 : bits .and .u64 2374 15 = 6 := by decide
  have t4 : bits .and .u64 148 15 = 4 := by decide
  have t5 : bits .and .u64 9 15 = 9 := by decide
  have d5 : bits .and .u32 ((n : Int) / 32) 1 = ((n / 32 % 2 : Nat) : Int) := by have e : ((n : Int) / 32) = ((n / 32 : Nat) : Int) := (by simp); rw [e]; exact u32_low (n / 32) 1 (by have := hn.out; omega) (by decide)
  have d7 : bits .and .u32 ((n : Int) / 128) 1 = ((n / 128 % 2 : Nat) : Int) := by have e : ((n : Int) / 128) = ((n / 128 : Nat) : Int) := (by simp); rw [e]; exact u32_low (n / 128) 1 (by have := hn.out; omega) (by decide)
  have d8 : bits .and .u32 ((n : Int) / 256) 1 = ((n / 256 % 2 : Nat) : Int) := by have e : ((n : Int) / 256) = ((n / 256 : Nat) : Int) := (by simp); rw [e]; exact u32_low (n / 256) 1 (by have := hn.out; omega) (by decide)
  have d6 : bits .and .u32 ((n : Int) / 64) 1 = ((n / 64 % 2 : Nat) : Int) := by have e : ((n : Int) / 64) = ((n / 64 : Nat) : Int) := (by simp); rw [e]; exact u32_low (n / 64) 1 (by have := hn.out; omega) (by decide)
  have d4 : bits .and .u32 ((n : Int) / 16) 1 = ((n / 16 % 2 : Nat) : Int) := by have e : ((n : Int) / 16) = ((n / 16 : Nat) : Int) := (by simp); rw [e]; exact u32_low (n / 16) 1 (by have := hn.out; omega) (by decide)
  have d9 : bits .and .u32 ((n : Int) / 512) 1 = ((n / 512 % 2 : Nat) : Int) := by have e : ((n : Int) / 512) = ((n / 512 : Nat) : Int) := (by simp); rw [e]; exact u32_low (n / 512) 1 (by have := hn.out; omega) (by decide)
  go_enter Tryd.func42, Tryd.ntmps42
  go_wp2_with fail
  refine wp_loop_rounds 7 ?_
  rw [rounds_succ]
  go_wp2_with fail
  refine (tz16_c 4220 2 (by show _ ∧ _ ∧ _ ∧ _; decide) _ (Lib.hid (g_alloc hG.out _))).mono ?_; rintro e v0 ⟨rfl, rfl⟩
  go_wp2_with fail
  rw [rounds_succ]
  go_wp2_with fail
  refine (tz16_c 4216 3 (by show _ ∧ _ ∧ _ ∧ _; decide) _ (Lib.hid (g_alloc hG.out _))).mono ?_; rintro e v1 ⟨rfl, rfl⟩
  go_wp2_with fail
  rw [rounds_succ]
  go_wp2_with fail
  refine (tz16_c 4208 4 (by show _ ∧ _ ∧ _ ∧ _; decide) _ (Lib.hid (g_alloc hG.out _))).mono ?_; rintro e v2 ⟨rfl, rfl⟩
  go_wp2_with fail
  rw [rounds_succ]
  go_wp2_with fail
  refine (tz16_c 4192 5 (by show _ ∧ _ ∧ _ ∧ _; decide) _ (Lib.hid (g_alloc hG.out _))).mono ?_; rintro e v3 ⟨rfl, rfl⟩
  go_wp2_with fail
  rw [rounds_succ]
  go_wp2_with fail
  refine (tz16_c 4160 6 (by show _ ∧ _ ∧ _ ∧ _; decide) _ (Lib.hid (g_alloc hG.out _))).mono ?_; rintro e v4 ⟨rfl, rfl⟩
  go_wp2_with fail
  rw [rounds_succ]
  go_wp2_with fail
  refine (tz16_c 4096 12 (by show _ ∧ _ ∧ _ ∧ _; decide) _ (Lib.hid (g_alloc hG.out _))).mono ?_; rintro e v5 ⟨rfl, rfl⟩
  go_wp2_with fail
  rw [rounds_succ]
  go_wp2_with fail
  go_ret
  have hn' := hn.out
  refine retH_mk (b := scaF 6 n) ?_ (by repeat (first | (with_reducible first | exact Below.refl _ _ | assumption | exact Nat.le_refl _ | refine Below.drew ?_ | refine Below.alloc ?_ ?_ _ | refine Below.setCell ?_ ?_ _ | refine le_alloc ?_ | refine le_set ?_ | refine le_drew ?_ | refine below_step (by assumption) ?_ ?_ | refine le_below (by assumption) ?_) | (dsimp only; omega)))
  rw [scaF_6]
  refine IsH.left ?_
  unfold sc6
  repeat' (first | with_reducible refine isH_or ?_ ?_ | exact ⟨by omega, by omega⟩)
end Go.Proofs.YtcfeeookjgdkmaaDoor
