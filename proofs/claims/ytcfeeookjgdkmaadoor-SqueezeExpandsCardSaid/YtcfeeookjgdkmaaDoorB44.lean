/- The contracts of gather and scatter, from immediate 10 on. -/
import Derived.Test.YtcfeeookjgdkmaaDoorB4
namespace Go.Proofs.YtcfeeookjgdkmaaDoor
open Go.ChangeShapes Go.WideShapes Go.ChangeAt Go.RowKit
set_option linter.unusedVariables false
set_option linter.unusedSimpArgs false

set_option maxRecDepth 100000 in
set_option maxHeartbeats 2000000 in
theorem gather_10 (h : Nat) (hh : Hid (h < 65536)) (w : World) (hG : Hid (G w)) : Calls Tryd.prog 39 #[.agg #[.int .u16 4220, .int .u64 5517942, .bool false], .int .u16 h] w (RetU (immF 10 h) w) := by
  have l0 : bits .and .u16 4220 4219 = 4216 := by decide
  have l1 : bits .and .u16 4216 4215 = 4208 := by decide
  have l2 : bits .and .u16 4208 4207 = 4192 := by decide
  have l3 : bits .and .u16 4192 4191 = 4160 := by decide
  have l4 : bits .and .u16 4160 4159 = 4096 := by decide
  have l5 : bits .and .u16 4096 4095 = 0 := by decide
  have t0 : bits .and .u64 5517942 15 = 6 := by decide
  have t1 : bits .and .u64 344871 15 = 7 := by decide
  have t2 : bits .and .u64 21554 15 = 2 := by decide
  have t3 : bits .and .u64 1347 15 = 3 := by decide
  have t4 : bits .and .u64 84 15 = 4 := by decide
  have t5 : bits .and .u64 5 15 = 5 := by decide
  have d2 : bits .and .u16 ((h : Int) / 4) 1 = ((h / 4 % 2 : Nat) : Int) := by have e : ((h : Int) / 4) = ((h / 4 : Nat) : Int) := (by simp); rw [e]; exact u16_low (h / 4) 1 (by have := hh.out; omega) (by decide)
  have d3 : bits .and .u16 ((h : Int) / 8) 1 = ((h / 8 % 2 : Nat) : Int) := by have e : ((h : Int) / 8) = ((h / 8 : Nat) : Int) := (by simp); rw [e]; exact u16_low (h / 8) 1 (by have := hh.out; omega) (by decide)
  have d4 : bits .and .u16 ((h : Int) / 16) 1 = ((h / 16 % 2 : Nat) : Int) := by have e : ((h : Int) / 16) = ((h / 16 : Nat) : Int) := (by simp); rw [e]; exact u16_low (h / 16) 1 (by have := hh.out; omega) (by decide)
  have d5 : bits .and .u16 ((h : Int) / 32) 1 = ((h / 32 % 2 : Nat) : Int) := by have e : ((h : Int) / 32) = ((h / 32 : Nat) : Int) := (by simp); rw [e]; exact u16_low (h / 32) 1 (by have := hh.out; omega) (by decide)
  have d6 : bits .and .u16 ((h : Int) / 64) 1 = ((h / 64 % 2 : Nat) : Int) := by have e : ((h : Int) / 64) = ((h / 64 : Nat) : Int) := (by simp); rw [e]; exact u16_low (h / 64) 1 (by have := hh.out; omega) (by decide)
  have d12 : bits .and .u16 ((h : Int) / 4096) 1 = ((h / 4096 % 2 : Nat) : Int) := by have e : ((h : Int) / 4096) = ((h / 4096 : Nat) : Int) := (by simp); rw [e]; exact u16_low (h / 4096) 1 (by have := hh.out; omega) (by decide)
  go_enter Tryd.func39, Tryd.ntmps39
  go_wp2_with fail
  refine wp_loop_rounds 7 ?_
  rw [rounds_succ]
  go_wp2_with fail
  refine (tz16_c 4220 2 (by show _ ∧ _ ∧ _ ∧ _; decide) _ (Lib.hid (g_alloc hG.out _))).mono ?_; rintro e v0 ⟨rfl, rfl⟩
  go_wp2_with fail
  rw [rounds_succ]
  go_wp2_with fail
  refine (tz16_c 4216 3 (by show _ ∧ _ ∧ _ ∧ _; decide) _ (Lib.hid (g_alloc hG.out _))).mono ?_; rintro e v1 ⟨rfl, rfl⟩
  go_wp2_with fail
  rw [rounds_succ]
  go_wp2_with fail
  refine (tz16_c 4208 4 (by show _ ∧ _ ∧ _ ∧ _; decide) _ (Lib.hid (g_alloc hG.out _))).mono ?_; rintro e v2 ⟨rfl, rfl⟩
  go_wp2_with fail
  rw [rounds_succ]
  go_wp2_with fail
  refine (tz16_c 4192 5 (by show _ ∧ _ ∧ _ ∧ _; decide) _ (Lib.hid (g_alloc hG.out _))).mono ?_; rintro e v3 ⟨rfl, rfl⟩
  go_wp2_with fail
  rw [rounds_succ]
  go_wp2_with fail
  refine (tz16_c 4160 6 (by show _ ∧ _ ∧ _ ∧ _; decide) _ (Lib.hid (g_alloc hG.out _))).mono ?_; rintro e v4 ⟨rfl, rfl⟩
  go_wp2_with fail
  rw [rounds_succ]
  go_wp2_with fail
  refine (tz16_c 4096 12 (by show _ ∧ _ ∧ _ ∧ _; decide) _ (Lib.hid (g_alloc hG.out _))).mono ?_; rintro e v5 ⟨rfl, rfl⟩
  go_wp2_with fail
  rw [rounds_succ]
  go_wp2_with fail
  go_ret
  have hh' := hh.out
  refine retU_mk (b := immF 10 h) ?_ (by repeat (first | (with_reducible first | exact Below.refl _ _ | assumption | exact Nat.le_refl _ | refine Below.drew ?_ | refine Below.alloc ?_ ?_ _ | refine Below.setCell ?_ ?_ _ | refine le_alloc ?_ | refine le_set ?_ | refine le_drew ?_ | refine below_step (by assumption) ?_ ?_ | refine le_below (by assumption) ?_) | (dsimp only; omega)))
  rw [immF_10]
  refine IsU.left ?_
  unfold ga10
  repeat' (first | with_reducible refine isU_or ?_ ?_ | exact ⟨by omega, by omega⟩)
set_option maxRecDepth 100000 in
set_option maxHeartbeats 2000000 in
theorem scatter_10 (n : Nat) (hn : Hid (n < 4294967296)) (w : World) (hG : Hid (G w)) : Calls Tryd.prog 42 #[.agg #[.int .u16 4220, .int .u64 5517942, .bool false], .int .u32 n] w (RetH (scaF 10 n) w) := by
  have l0 : bits .and .u16 4220 4219 = 4216 := by decide
  have l1 : bits .and .u16 4216 4215 = 4208 := by decide
  have l2 : bits .and .u16 4208 4207 = 4192 := by decide
  have l3 : bits .and .u16 4192 4191 = 4160 := by decide
  have l4 : bits .and .u16 4160 4159 = 4096 := by decide
  have l5 : bits .and .u16 4096 4095 = 0 := by decide
  have t0 : bits .and .u64 5517942 15 = 6 := by decide
  have t1 : bits .and .u64 344871 15 = 7 := by decide
  have t2 : bits .and .u64 21554 15 = 2 := by decide
  have t3 : bits .and .u64 1347 15 = 3 := by decide
  have t4 : bits .and .u64 84 15 = 4 := by decide
  have t5 : bits .and .u64 5 15 = 5 := by decide
  have d6 : bits .and .u32 ((n : Int) / 64) 1 = ((n / 64 % 2 : Nat) : Int) := by have e : ((n : Int) / 64) = ((n / 64 : Nat) : Int) := (by simp); rw [e]; exact u32_low (n / 64) 1 (by have := hn.out; omega) (by decide)
  have d7 : bits .and .u32 ((n : Int) / 128) 1 = ((n / 128 % 2 : Nat) : Int) := by have e : ((n : Int) / 128) = ((n / 128 : Nat) : Int) := (by simp); rw [e]; exact u32_low (n / 128) 1 (by have := hn.out; omega) (by decide)
  have d2 : bits .and .u32 ((n : Int) / 4) 1 = ((n / 4 % 2 : Nat) : Int) := by have e : ((n : Int) / 4) = ((n / 4 : Nat) : Int) := (by simp); rw [e]; exact u32_low (n / 4) 1 (by have := hn.out; omega) (by decide)
  have d3 : bits .and .u32 ((n : Int) / 8) 1 = ((n / 8 % 2 : Nat) : Int) := by have e : ((n : Int) / 8) = ((n / 8 : Nat) : Int) := (by simp); rw [e]; exact u32_low (n / 8) 1 (by have := hn.out; omega) (by decide)
  have d4 : bits .and .u32 ((n : Int) / 16) 1 = ((n / 16 % 2 : Nat) : Int) := by have e : ((n : Int) / 16) = ((n / 16 : Nat) : Int) := (by simp); rw [e]; exact u32_low (n / 16) 1 (by have := hn.out; omega) (by decide)
  have d5 : bits .and .u32 ((n : Int) / 32) 1 = ((n / 32 % 2 : Nat) : Int) := by have e : ((n : Int) / 32) = ((n / 32 : Nat) : Int) := (by simp); rw [e]; exact u32_low (n / 32) 1 (by have := hn.out; omega) (by decide)
  go_enter Tryd.func42, Tryd.ntmps42
  go_wp2_with fail
  refine wp_loop_rounds 7 ?_
  rw [rounds_succ]
  go_wp2_with fail
  refine (tz16_c 4220 2 (by show _ ∧ _ ∧ _ ∧ _; decide) _ (Lib.hid (g_alloc hG.out _))).mono ?_; rintro e v0 ⟨rfl, rfl⟩
  go_wp2_with fail
  rw [rounds_succ]
  go_wp2_with fail
  refine (tz16_c 4216 3 (by show _ ∧ _ ∧ _ ∧ _; decide) _ (Lib.hid (g_alloc hG.out _))).mono ?_; rintro e v1 ⟨rfl, rfl⟩
  go_wp2_with fail
  rw [rounds_succ]
  go_wp2_with fail
  refine (tz16_c 4208 4 (by show _ ∧ _ ∧ _ ∧ _; decide) _ (Lib.hid (g_alloc hG.out _))).mono ?_; rintro e v2 ⟨rfl, rfl⟩
  go_wp2_with fail
  rw [rounds_succ]
  go_wp2_with fail
  refine (tz16_c 4192 5 (by show _ ∧ _ ∧ _ ∧ _; decide) _ (Lib.hid (g_alloc hG.out _))).mono ?_; rintro e v3 ⟨rfl, rfl⟩
  go_wp2_with fail
  rw [rounds_succ]
  go_wp2_with fail
  refine (tz16_c 4160 6 (by show _ ∧ _ ∧ _ ∧ _; decide) _ (Lib.hid (g_alloc hG.out _))).mono ?_; rintro e v4 ⟨rfl, rfl⟩
  go_wp2_with fail
  rw [rounds_succ]
  go_wp2_with fail
  refine (tz16_c 4096 12 (by show _ ∧ _ ∧ _ ∧ _; decide) _ (Lib.hid (g_alloc hG.out _))).mono ?_; rintro e v5 ⟨rfl, rfl⟩
  go_wp2_with fail
  rw [rounds_succ]
  go_wp2_with fail
  go_ret
  have hn' := hn.out
  refine retH_mk (b := scaF 10 n) ?_ (by repeat (first | (with_reducible first | exact Below.refl _ _ | assumption | exact Nat.le_refl _ | refine Below.drew ?_ | refine Below.alloc ?_ ?_ _ | refine Below.setCell ?_ ?_ _ | refine le_alloc ?_ | refine le_set ?_ | refine le_drew ?_ | refine below_step (by assumption) ?_ ?_ | refine le_below (by assumption) ?_) | (dsimp only; omega)))
  rw [scaF_10]
  refine IsH.left ?_
  unfold sc10
  repeat' (first | with_reducible refine isH_or ?_ ?_ | exact ⟨by omega, by omega⟩)
set_option maxRecDepth 100000 in
set_option maxHeartbeats 2000000 in
theorem gather_11 (h : Nat) (hh : Hid (h < 65536)) (w : World) (hG : Hid (G w)) : Calls Tryd.prog 39 #[.agg #[.int .u16 8064, .int .u64 5519478, .bool false], .int .u16 h] w (RetU (immF 11 h) w) := by
  have l0 : bits .and .u16 8064 8063 = 7936 := by decide
  have l1 : bits .and .u16 7936 7935 = 7680 := by decide
  have l2 : bits .and .u16 7680 7679 = 7168 := by decide
  have l3 : bits .and .u16 7168 7167 = 6144 := by decide
  have l4 : bits .and .u16 6144 6143 = 4096 := by decide
  have l5 : bits .and .u16 4096 4095 = 0 := by decide
  have t0 : bits .and .u64 5519478 15 = 6 := by decide
  have t1 : bits .and .u64 344967 15 = 7 := by decide
  have t2 : bits .and .u64 21560 15 = 8 := by decide
  have t3 : bits .and .u64 1347 15 = 3 := by decide
  have t4 : bits .and .u64 84 15 = 4 := by decide
  have t5 : bits .and .u64 5 15 = 5 := by decide
  have d7 : bits .and .u16 ((h : Int) / 128) 1 = ((h / 128 % 2 : Nat) : Int) := by have e : ((h : Int) / 128) = ((h / 128 : Nat) : Int) := (by simp); rw [e]; exact u16_low (h / 128) 1 (by have := hh.out; omega) (by decide)
  have d8 : bits .and .u16 ((h : Int) / 256) 1 = ((h / 256 % 2 : Nat) : Int) := by have e : ((h : Int) / 256) = ((h / 256 : Nat) : Int) := (by simp); rw [e]; exact u16_low (h / 256) 1 (by have := hh.out; omega) (by decide)
  have d9 : bits .and .u16 ((h : Int) / 512) 1 = ((h / 512 % 2 : Nat) : Int) := by have e : ((h : Int) / 512) = ((h / 512 : Nat) : Int) := (by simp); rw [e]; exact u16_low (h / 512) 1 (by have := hh.out; omega) (by decide)
  have d10 : bits .and .u16 ((h : Int) / 1024) 1 = ((h / 1024 % 2 : Nat) : Int) := by have e : ((h : Int) / 1024) = ((h / 1024 : Nat) : Int) := (by simp); rw [e]; exact u16_low (h / 1024) 1 (by have := hh.out; omega) (by decide)
  have d11 : bits .and .u16 ((h : Int) / 2048) 1 = ((h / 2048 % 2 : Nat) : Int) := by have e : ((h : Int) / 2048) = ((h / 2048 : Nat) : Int) := (by simp); rw [e]; exact u16_low (h / 2048) 1 (by have := hh.out; omega) (by decide)
  have d12 : bits .and .u16 ((h : Int) / 4096) 1 = ((h / 4096 % 2 : Nat) : Int) := by have e : ((h : Int) / 4096) = ((h / 4096 : Nat) : Int) := (by simp); rw [e]; exact u16_low (h / 4096) 1 (by have := hh.out; omega) (by decide)
  go_enter Tryd.func39, Tryd.ntmps39
  go_wp2_with fail
  refine wp_loop_rounds 7 ?_
  rw [rounds_succ]
  go_wp2_with fail
  refine (tz16_c 8064 7 (by show _ ∧ _ ∧ _ ∧ _; decide) _ (Lib.hid (g_alloc hG.out _))).mono ?_; rintro e v0 ⟨rfl, rfl⟩
  go_wp2_with fail
  rw [rounds_succ]
  go_wp2_with fail
  refine (tz16_c 7936 8 (by show _ ∧ _ ∧ _ ∧ _; decide) _ (Lib.hid (g_alloc hG.out _))).mono ?_; rintro e v1 ⟨rfl, rfl⟩
  go_wp2_with fail
  rw [rounds_succ]
  go_wp2_with fail
  refine (tz16_c 7680 9 (by show _ ∧ _ ∧ _ ∧ _; decide) _ (Lib.hid (g_alloc hG.out _))).mono ?_; rintro e v2 ⟨rfl, rfl⟩
  go_wp2_with fail
  rw [rounds_succ]
  go_wp2_with fail
  refine (tz16_c 7168 10 (by show _ ∧ _ ∧ _ ∧ _; decide) _ (Lib.hid (g_alloc hG.out _))).mono ?_; rintro e v3 ⟨rfl, rfl⟩
  go_wp2_with fail
  rw [rounds_succ]
  go_wp2_with fail
  refine (tz16_c 6144 11 (by show _ ∧ _ ∧ _ ∧ _; decide) _ (Lib.hid (g_alloc hG.out _))).mono ?_; rintro e v4 ⟨rfl, rfl⟩
  go_wp2_with fail
  rw [rounds_succ]
  go_wp2_with fail
  refine (tz16_c 4096 12 (by show _ ∧ _ ∧ _ ∧ _; decide) _ (Lib.hid (g_alloc hG.out _))).mono ?_; rintro e v5 ⟨rfl, rfl⟩
  go_wp2_with fail
  rw [rounds_succ]
  go_wp2_with fail
  go_ret
  have hh' := hh.out
  refine retU_mk (b := immF 11 h) ?_ (by repeat (first | (with_reducible first | exact Below.refl _ _ | assumption | exact Nat.le_refl _ | refine Below.drew ?_ | refine Below.alloc ?_ ?_ _ | refine Below.setCell ?_ ?_ _ | refine le_alloc ?_ | refine le_set ?_ | refine le_drew ?_ | refine below_step (by assumption) ?_ ?_ | refine le_below (by assumption) ?_) | (dsimp only; omega)))
  rw [immF_11]
  refine IsU.left ?_
  unfold ga11
  repeat' (first | with_reducible refine isU_or ?_ ?_ | exact ⟨by omega, by omega⟩)
set_option maxRecDepth 100000 in
set_option maxHeartbeats 2000000 in
theorem scatter_11 (n : Nat) (hn : Hid (n < 4294967296)) (w : World) (hG : Hid (G w)) : Calls Tryd.prog 42 #[.agg #[.int .u16 8064, .int .u64 5519478, .bool false], .int .u32 n] w (RetH (scaF 11 n) w) := by
  have l0 : bits .and .u16 8064 8063 = 7936 := by decide
  have l1 : bits .and .u16 7936 7935 = 7680 := by decide
  have l2 : bits .and .u16 7680 7679 = 7168 := by decide
  have l3 : bits .and .u16 7168 7167 = 6144 := by decide
  have l4 : bits .and .u16 6144 6143 = 4096 := by decide
  have l5 : bits .and .u16 4096 4095 = 0 := by decide
  have t0 : bits .and .u64 5519478 15 = 6 := by decide
  have t1 : bits .and .u64 344967 15 = 7 := by decide
  have t2 : bits .and .u64 21560 15 = 8 := by decide
  have t3 : bits .and .u64 1347 15 = 3 := by decide
  have t4 : bits .and .u64 84 15 = 4 := by decide
  have t5 : bits .and .u64 5 15 = 5 := by decide
  have d6 : bits .and .u32 ((n : Int) / 64) 1 = ((n / 64 % 2 : Nat) : Int) := by have e : ((n : Int) / 64) = ((n / 64 : Nat) : Int) := (by simp); rw [e]; exact u32_low (n / 64) 1 (by have := hn.out; omega) (by decide)
  have d7 : bits .and .u32 ((n : Int) / 128) 1 = ((n / 128 % 2 : Nat) : Int) := by have e : ((n : Int) / 128) = ((n / 128 : Nat) : Int) := (by simp); rw [e]; exact u32_low (n / 128) 1 (by have := hn.out; omega) (by decide)
  have d8 : bits .and .u32 ((n : Int) / 256) 1 = ((n / 256 % 2 : Nat) : Int) := by have e : ((n : Int) / 256) = ((n / 256 : Nat) : Int) := (by simp); rw [e]; exact u32_low (n / 256) 1 (by have := hn.out; omega) (by decide)
  have d3 : bits .and .u32 ((n : Int) / 8) 1 = ((n / 8 % 2 : Nat) : Int) := by have e : ((n : Int) / 8) = ((n / 8 : Nat) : Int) := (by simp); rw [e]; exact u32_low (n / 8) 1 (by have := hn.out; omega) (by decide)
  have d4 : bits .and .u32 ((n : Int) / 16) 1 = ((n / 16 % 2 : Nat) : Int) := by have e : ((n : Int) / 16) = ((n / 16 : Nat) : Int) := (by simp); rw [e]; exact u32_low (n / 16) 1 (by have := hn.out; omega) (by decide)
  have d5 : bits .and .u32 ((n : Int) / 32) 1 = ((n / 32 % 2 : Nat) : Int) := by have e : ((n : Int) / 32) = ((n / 32 : Nat) : Int) := (by simp); rw [e]; exact u32_low (n / 32) 1 (by have := hn.out; omega) (by decide)
  go_enter Tryd.func42, Tryd.ntmps42
  go_wp2_with fail
  refine wp_loop_rounds 7 ?_
  rw [rounds_succ]
  go_wp2_with fail
  refine (tz16_c 8064 7 (by show _ ∧ _ ∧ _ ∧ _; decide) _ (Lib.hid (g_alloc hG.out _))).mono ?_; rintro e v0 ⟨rfl, rfl⟩
  go_wp2_with fail
  rw [rounds_succ]
  go_wp2_with fail
  refine (tz16_c 7936 8 (by show _ ∧ _ ∧ _ ∧ _; decide) _ (Lib.hid (g_alloc hG.out _))).mono ?_; rintro e v1 ⟨rfl, rfl⟩
  go_wp2_with fail
  rw [rounds_succ]
  go_wp2_with fail
  refine (tz16_c 7680 9 (by show _ ∧ _ ∧ _ ∧ _; decide) _ (Lib.hid (g_alloc hG.out _))).mono ?_; rintro e v2 ⟨rfl, rfl⟩
  go_wp2_with fail
  rw [rounds_succ]
  go_wp2_with fail
  refine (tz16_c 7168 10 (by show _ ∧ _ ∧ _ ∧ _; decide) _ (Lib.hid (g_alloc hG.out _))).mono ?_; rintro e v3 ⟨rfl, rfl⟩
  go_wp2_with fail
  rw [rounds_succ]
  go_wp2_with fail
  refine (tz16_c 6144 11 (by show _ ∧ _ ∧ _ ∧ _; decide) _ (Lib.hid (g_alloc hG.out _))).mono ?_; rintro e v4 ⟨rfl, rfl⟩
  go_wp2_with fail
  rw [rounds_succ]
  go_wp2_with fail
  refine (tz16_c 4096 12 (by show _ ∧ _ ∧ _ ∧ _; decide) _ (Lib.hid (g_alloc hG.out _))).mono ?_; rintro e v5 ⟨rfl, rfl⟩
  go_wp2_with fail
  rw [rounds_succ]
  go_wp2_with fail
  go_ret
  have hn' := hn.out
  refine retH_mk (b := scaF 11 n) ?_ (by repeat (first | (with_reducible first | exact Below.refl _ _ | assumption | exact Nat.le_refl _ | refine Below.drew ?_ | refine Below.alloc ?_ ?_ _ | refine Below.setCell ?_ ?_ _ | refine le_alloc ?_ | refine le_set ?_ | refine le_drew ?_ | refine below_step (by assumption) ?_ ?_ | refine le_below (by assumption) ?_) | (dsimp only; omega)))
  rw [scaF_11]
  refine IsH.left ?_
  unfold sc11
  repeat' (first | with_reducible refine isH_or ?_ ?_ | exact ⟨by omega, by omega⟩)
set_option maxRecDepth 100000 in
set_option maxHeartbeats 2000000 in
theorem gather_12 (h : Nat) (hh : Hid (h < 65536)) (w : World) (hG : Hid (G w)) : Calls Tryd.prog 39 #[.agg #[.int .u16 8064, .int .u64 5517942, .bool false], .int .u16 h] w (RetU (immF 12 h) w) := by
  have l0 : bits .and .u16 8064 8063 = 7936 := by decide
  have l1 : bits .and .u16 7936 7935 = 7680 := by decide
  have l2 : bits .and .u16 7680 7679 = 7168 := by decide
  have l3 : bits .and .u16 7168 7167 = 6144 := by decide
  have l4 : bits .and .u16 6144 6143 = 4096 := by decide
  have l5 : bits .and .u16 4096 4095 = 0 := by decide
  have t0 : bits .and .u64 5517942 15 = 6 := by decide
  have t1 : bits .and .u64 344871 15 = 7 := by decide
  have t2 : bits .and .u64 21554 15 = 2 := by decide
  have t3 : bits .and .u64 1347 15 = 3 := by decide
  have t4 : bits .and .u64 84 15 = 4 := by decide
  have t5 : bits .and .u64 5 15 = 5 := by decide
  have d7 : bits .and .u16 ((h : Int) / 128) 1 = ((h / 128 % 2 : Nat) : Int) := by have e : ((h : Int) / 128) = ((h / 128 : Nat) : Int) := (by simp); rw [e]; exact u16_low (h / 128) 1 (by have := hh.out; omega) (by decide)
  have d8 : bits .and .u16 ((h : Int) / 256) 1 = ((h / 256 % 2 : Nat) : Int) := by have e : ((h : Int) / 256) = ((h / 256 : Nat) : Int) := (by simp); rw [e]; exact u16_low (h / 256) 1 (by have := hh.out; omega) (by decide)
  have d9 : bits .and .u16 ((h : Int) / 512) 1 = ((h / 512 % 2 : Nat) : Int) := by have e : ((h : Int) / 512) = ((h / 512 : Nat) : Int) := (by simp); rw [e]; exact u16_low (h / 512) 1 (by have := hh.out; omega) (by decide)
  have d10 : bits .and .u16 ((h : Int) / 1024) 1 = ((h / 1024 % 2 : Nat) : Int) := by have e : ((h : Int) / 1024) = ((h / 1024 : Nat) : Int) := (by simp); rw [e]; exact u16_low (h / 1024) 1 (by have := hh.out; omega) (by decide)
  have d11 : bits .and .u16 ((h : Int) / 2048) 1 = ((h / 2048 % 2 : Nat) : Int) := by have e : ((h : Int) / 2048) = ((h / 2048 : Nat) : Int) := (by simp); rw [e]; exact u16_low (h / 2048) 1 (by have := hh.out; omega) (by decide)
  have d12 : bits .and .u16 ((h : Int) / 4096) 1 = ((h / 4096 % 2 : Nat) : Int) := by have e : ((h : Int) / 4096) = ((h / 4096 : Nat) : Int) := (by simp); rw [e]; exact u16_low (h / 4096) 1 (by have := hh.out; omega) (by decide)
  go_enter Tryd.func39, Tryd.ntmps39
  go_wp2_with fail
  refine wp_loop_rounds 7 ?_
  rw [rounds_succ]
  go_wp2_with fail
  refine (tz16_c 8064 7 (by show _ ∧ _ ∧ _ ∧ _; decide) _ (Lib.hid (g_alloc hG.out _))).mono ?_; rintro e v0 ⟨rfl, rfl⟩
  go_wp2_with fail
  rw [rounds_succ]
  go_wp2_with fail
  refine (tz16_c 7936 8 (by show _ ∧ _ ∧ _ ∧ _; decide) _ (Lib.hid (g_alloc hG.out _))).mono ?_; rintro e v1 ⟨rfl, rfl⟩
  go_wp2_with fail
  rw [rounds_succ]
  go_wp2_with fail
  refine (tz16_c 7680 9 (by show _ ∧ _ ∧ _ ∧ _; decide) _ (Lib.hid (g_alloc hG.out _))).mono ?_; rintro e v2 ⟨rfl, rfl⟩
  go_wp2_with fail
  rw [rounds_succ]
  go_wp2_with fail
  refine (tz16_c 7168 10 (by show _ ∧ _ ∧ _ ∧ _; decide) _ (Lib.hid (g_alloc hG.out _))).mono ?_; rintro e v3 ⟨rfl, rfl⟩
  go_wp2_with fail
  rw [rounds_succ]
  go_wp2_with fail
  refine (tz16_c 6144 11 (by show _ ∧ _ ∧ _ ∧ _; decide) _ (Lib.hid (g_alloc hG.out _))).mono ?_; rintro e v4 ⟨rfl, rfl⟩
  go_wp2_with fail
  rw [rounds_succ]
  go_wp2_with fail
  refine (tz16_c 4096 12 (by show _ ∧ _ ∧ _ ∧ _; decide) _ (Lib.hid (g_alloc hG.out _))).mono ?_; rintro e v5 ⟨rfl, rfl⟩
  go_wp2_with fail
  rw [rounds_succ]
  go_wp2_with fail
  go_ret
  have hh' := hh.out
  refine retU_mk (b := immF 12 h) ?_ (by repeat (first | (with_reducible first | exact Below.refl _ _ | assumption | exact Nat.le_refl _ | refine Below.drew ?_ | refine Below.alloc ?_ ?_ _ | refine Below.setCell ?_ ?_ _ | refine le_alloc ?_ | refine le_set ?_ | refine le_drew ?_ | refine below_step (by assumption) ?_ ?_ | refine le_below (by assumption) ?_) | (dsimp only; omega)))
  rw [immF_12]
  refine IsU.left ?_
  unfold ga12
  repeat' (first | with_reducible refine isU_or ?_ ?_ | exact ⟨by omega, by omega⟩)
set_option maxRecDepth 100000 in
set_option maxHeartbeats 2000000 in
theorem scatter_12 (n : Nat) (hn : Hid (n < 4294967296)) (w : World) (hG : Hid (G w)) : Calls Tryd.prog 42 #[.agg #[.int .u16 8064, .int .u64 5517942, .bool false], .int .u32 n] w (RetH (scaF 12 n) w) := by
  have l0 : bits .and .u16 8064 8063 = 7936 := by decide
  have l1 : bits .and .u16 7936 7935 = 7680 := by decide
  have l2 : bits .and .u16 7680 7679 = 7168 := by decide
  have l3 : bits .and .u16 7168 7167 = 6144 := by decide
  have l4 : bits .and .u16 6144 6143 = 4096 := by decide
  have l5 : bits .and .u16 4096 4095 = 0 := by decide
  have t0 : bits .and .u64 5517942 15 = 6 := by decide
  have t1 : bits .and .u64 344871 15 = 7 := by decide
  have t2 : bits .and .u64 21554 15 = 2 := by decide
  have t3 : bits .and .u64 1347 15 = 3 := by decide
  have t4 : bits .and .u64 84 15 = 4 := by decide
  have t5 : bits .and .u64 5 15 = 5 := by decide
  have d6 : bits .and .u32 ((n : Int) / 64) 1 = ((n / 64 % 2 : Nat) : Int) := by have e : ((n : Int) / 64) = ((n / 64 : Nat) : Int) := (by simp); rw [e]; exact u32_low (n / 64) 1 (by have := hn.out; omega) (by decide)
  have d7 : bits .and .u32 ((n : Int) / 128) 1 = ((n / 128 % 2 : Nat) : Int) := by have e : ((n : Int) / 128) = ((n / 128 : Nat) : Int) := (by simp); rw [e]; exact u32_low (n / 128) 1 (by have := hn.out; omega) (by decide)
  have d2 : bits .and .u32 ((n : Int) / 4) 1 = ((n / 4 % 2 : Nat) : Int) := by have e : ((n : Int) / 4) = ((n / 4 : Nat) : Int) := (by simp); rw [e]; exact u32_low (n / 4) 1 (by have := hn.out; omega) (by decide)
  have d3 : bits .and .u32 ((n : Int) / 8) 1 = ((n / 8 % 2 : Nat) : Int) := by have e : ((n : Int) / 8) = ((n / 8 : Nat) : Int) := (by simp); rw [e]; exact u32_low (n / 8) 1 (by have := hn.out; omega) (by decide)
  have d4 : bits .and .u32 ((n : Int) / 16) 1 = ((n / 16 % 2 : Nat) : Int) := by have e : ((n : Int) / 16) = ((n / 16 : Nat) : Int) := (by simp); rw [e]; exact u32_low (n / 16) 1 (by have := hn.out; omega) (by decide)
  have d5 : bits .and .u32 ((n : Int) / 32) 1 = ((n / 32 % 2 : Nat) : Int) := by have e : ((n : Int) / 32) = ((n / 32 : Nat) : Int) := (by simp); rw [e]; exact u32_low (n / 32) 1 (by have := hn.out; omega) (by decide)
  go_enter Tryd.func42, Tryd.ntmps42
  go_wp2_with fail
  refine wp_loop_rounds 7 ?_
  rw [rounds_succ]
  go_wp2_with fail
  refine (tz16_c 8064 7 (by show _ ∧ _ ∧ _ ∧ _; decide) _ (Lib.hid (g_alloc hG.out _))).mono ?_; rintro e v0 ⟨rfl, rfl⟩
  go_wp2_with fail
  rw [rounds_succ]
  go_wp2_with fail
  refine (tz16_c 7936 8 (by show _ ∧ _ ∧ _ ∧ _; decide) _ (Lib.hid (g_alloc hG.out _))).mono ?_; rintro e v1 ⟨rfl, rfl⟩
  go_wp2_with fail
  rw [rounds_succ]
  go_wp2_with fail
  refine (tz16_c 7680 9 (by show _ ∧ _ ∧ _ ∧ _; decide) _ (Lib.hid (g_alloc hG.out _))).mono ?_; rintro e v2 ⟨rfl, rfl⟩
  go_wp2_with fail
  rw [rounds_succ]
  go_wp2_with fail
  refine (tz16_c 7168 10 (by show _ ∧ _ ∧ _ ∧ _; decide) _ (Lib.hid (g_alloc hG.out _))).mono ?_; rintro e v3 ⟨rfl, rfl⟩
  go_wp2_with fail
  rw [rounds_succ]
  go_wp2_with fail
  refine (tz16_c 6144 11 (by show _ ∧ _ ∧ _ ∧ _; decide) _ (Lib.hid (g_alloc hG.out _))).mono ?_; rintro e v4 ⟨rfl, rfl⟩
  go_wp2_with fail
  rw [rounds_succ]
  go_wp2_with fail
  refine (tz16_c 4096 12 (by show _ ∧ _ ∧ _ ∧ _; decide) _ (Lib.hid (g_alloc hG.out _))).mono ?_; rintro e v5 ⟨rfl, rfl⟩
  go_wp2_with fail
  rw [rounds_succ]
  go_wp2_with fail
  go_ret
  have hn' := hn.out
  refine retH_mk (b := scaF 12 n) ?_ (by repeat (first | (with_reducible first | exact Below.refl _ _ | assumption | exact Nat.le_refl _ | refine Below.drew ?_ | refine Below.alloc ?_ ?_ _ | refine Below.setCell ?_ ?_ _ | refine le_alloc ?_ | refine le_set ?_ | refine le_drew ?_ | refine below_step (by assumption) ?_ ?_ | refine le_below (by assumption) ?_) | (dsimp only; omega)))
  rw [scaF_12]
  refine IsH.left ?_
  unfold sc12
  repeat' (first | with_reducible refine isH_or ?_ ?_ | exact ⟨by omega, by omega⟩)
end Go.Proofs.YtcfeeookjgdkmaaDoor
