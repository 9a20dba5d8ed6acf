/- The contracts of gather and scatter, from immediate 0 on. -/
import Derived.Test.YtcfeeookjgdkmaaDoorB4
namespace Go.Proofs.YtcfeeookjgdkmaaDoor
open Go.ChangeShapes Go.WideShapes Go.ChangeAt Go.RowKit
set_option linter.unusedVariables false
set_option linter.unusedSimpArgs false

set_option maxRecDepth 100000 in
set_option maxHeartbeats 2000000 in
theorem gather_0 (h : Nat) (hh : Hid (h < 65536)) (w : World) (hG : Hid (G w)) : Calls Tryd.prog 39 #[.agg #[.int .u16 0, .int .u64 0, .bool false], .int .u16 h] w (RetU (immF 0 h) w) := by
  go_enter Tryd.func39, Tryd.ntmps39
  go_wp2_with fail
  refine wp_loop_rounds 1 ?_
  rw [rounds_succ]
  go_wp2_with fail
  go_ret
  have hh' := hh.out
  refine retU_mk (b := immF 0 h) ?_ (by repeat (first | (with_reducible first | exact Below.refl _ _ | assumption | exact Nat.le_refl _ | refine Below.drew ?_ | refine Below.alloc ?_ ?_ _ | refine Below.setCell ?_ ?_ _ | refine le_alloc ?_ | refine le_set ?_ | refine le_drew ?_ | refine below_step (by assumption) ?_ ?_ | refine le_below (by assumption) ?_) | (dsimp only; omega)))
  rw [immF_0]
  refine IsU.left ?_
  unfold ga0
  repeat' (first | with_reducible refine isU_or ?_ ?_ | exact ⟨by omega, by omega⟩)
set_option maxRecDepth 100000 in
set_option maxHeartbeats 2000000 in
theorem scatter_0 (n : Nat) (hn : Hid (n < 4294967296)) (w : World) (hG : Hid (G w)) : Calls Tryd.prog 42 #[.agg #[.int .u16 0, .int .u64 0, .bool false], .int .u32 n] w (RetH (scaF 0 n) w) := by
  go_enter Tryd.func42, Tryd.ntmps42
  go_wp2_with fail
  refine wp_loop_rounds 1 ?_
  rw [rounds_succ]
  go_wp2_with fail
  go_ret
  have hn' := hn.out
  refine retH_mk (b := scaF 0 n) ?_ (by repeat (first | (with_reducible first | exact Below.refl _ _ | assumption | exact Nat.le_refl _ | refine Below.drew ?_ | refine Below.alloc ?_ ?_ _ | refine Below.setCell ?_ ?_ _ | refine le_alloc ?_ | refine le_set ?_ | refine le_drew ?_ | refine below_step (by assumption) ?_ ?_ | refine le_below (by assumption) ?_) | (dsimp only; omega)))
  rw [scaF_0]
  refine IsH.left ?_
  unfold sc0
  repeat' (first | with_reducible refine isH_or ?_ ?_ | exact ⟨by omega, by omega⟩)
set_option maxRecDepth 100000 in
set_option maxHeartbeats 2000000 in
theorem gather_1 (h : Nat) (hh : Hid (h < 65536)) (w : World) (hG : Hid (G w)) : Calls Tryd.prog 39 #[.agg #[.int .u16 8160, .int .u64 1419277859, .bool false], .int .u16 h] w (RetU (immF 1 h) w) := by
  have l0 : bits .and .u16 8160 8159 = 8128 := by decide
  have l1 : bits .and .u16 8128 8127 = 8064 := by decide
  have l2 : bits .and .u16 8064 8063 = 7936 := by decide
  have l3 : bits .and .u16 7936 7935 = 7680 := by decide
  have l4 : bits .and .u16 7680 7679 = 7168 := by decide
  have l5 : bits .and .u16 7168 7167 = 6144 := by decide
  have l6 : bits .and .u16 6144 6143 = 4096 := by decide
  have l7 : bits .and .u16 4096 4095 = 0 := by decide
  have t0 : bits .and .u64 1419277859 15 = 3 := by decide
  have t1 : bits .and .u64 88704866 15 = 2 := by decide
  have t2 : bits .and .u64 5544054 15 = 6 := by decide
  have t3 : bits .and .u64 346503 15 = 7 := by decide
  have t4 : bits .and .u64 21656 15 = 8 := by decide
  have t5 : bits .and .u64 1353 15 = 9 := by decide
  have t6 : bits .and .u64 84 15 = 4 := by decide
  have t7 : bits .and .u64 5 15 = 5 := by decide
  have d5 : bits .and .u16 ((h : Int) / 32) 1 = ((h / 32 % 2 : Nat) : Int) := by have e : ((h : Int) / 32) = ((h / 32 : Nat) : Int) := (by simp); rw [e]; exact u16_low (h / 32) 1 (by have := hh.out; omega) (by decide)
  have d6 : bits .and .u16 ((h : Int) / 64) 1 = ((h / 64 % 2 : Nat) : Int) := by have e : ((h : Int) / 64) = ((h / 64 : Nat) : Int) := (by simp); rw [e]; exact u16_low (h / 64) 1 (by have := hh.out; omega) (by decide)
  have d7 : bits .and .u16 ((h : Int) / 128) 1 = ((h / 128 % 2 : Nat) : Int) := by have e : ((h : Int) / 128) = ((h / 128 : Nat) : Int) := (by simp); rw [e]; exact u16_low (h / 128) 1 (by have := hh.out; omega) (by decide)
  have d8 : bits .and .u16 ((h : Int) / 256) 1 = ((h / 256 % 2 : Nat) : Int) := by have e : ((h : Int) / 256) = ((h / 256 : Nat) : Int) := (by simp); rw [e]; exact u16_low (h / 256) 1 (by have := hh.out; omega) (by decide)
  have d9 : bits .and .u16 ((h : Int) / 512) 1 = ((h / 512 % 2 : Nat) : Int) := by have e : ((h : Int) / 512) = ((h / 512 : Nat) : Int) := (by simp); rw [e]; exact u16_low (h / 512) 1 (by have := hh.out; omega) (by decide)
  have d10 : bits .and .u16 ((h : Int) / 1024) 1 = ((h / 1024 % 2 : Nat) : Int) := by have e : ((h : Int) / 1024) = ((h / 1024 : Nat) : Int) := (by simp); rw [e]; exact u16_low (h / 1024) 1 (by have := hh.out; omega) (by decide)
  have d11 : bits .and .u16 ((h : Int) / 2048) 1 = ((h / 2048 % 2 : Nat) : Int) := by have e : ((h : Int) / 2048) = ((h / 2048 : Nat) : Int) := (by simp); rw [e]; exact u16_low (h / 2048) 1 (by have := hh.out; omega) (by decide)
  have d12 : bits .and .u16 ((h : Int) / 4096) 1 = ((h / 4096 % 2 : Nat) : Int) := by have e : ((h : Int) / 4096) = ((h / 4096 : Nat) : Int) := (by simp); rw [e]; exact u16_low (h / 4096) 1 (by have := hh.out; omega) (by decide)
  go_enter Tryd.func39, Tryd.ntmps39
  go_wp2_with fail
  refine wp_loop_rounds 9 ?_
  rw [rounds_succ]
  go_wp2_with fail
  refine (tz16_c 8160 5 (by show _ ∧ _ ∧ _ ∧ _; decide) _ (Lib.hid (g_alloc hG.out _))).mono ?_; rintro e v0 ⟨rfl, rfl⟩
  go_wp2_with fail
  rw [rounds_succ]
  go_wp2_with fail
  refine (tz16_c 8128 6 (by show _ ∧ _ ∧ _ ∧ _; decide) _ (Lib.hid (g_alloc hG.out _))).mono ?_; rintro e v1 ⟨rfl, rfl⟩
  go_wp2_with fail
  rw [rounds_succ]
  go_wp2_with fail
  refine (tz16_c 8064 7 (by show _ ∧ _ ∧ _ ∧ _; decide) _ (Lib.hid (g_alloc hG.out _))).mono ?_; rintro e v2 ⟨rfl, rfl⟩
  go_wp2_with fail
  rw [rounds_succ]
  go_wp2_with fail
  refine (tz16_c 7936 8 (by show _ ∧ _ ∧ _ ∧ _; decide) _ (Lib.hid (g_alloc hG.out _))).mono ?_; rintro e v3 ⟨rfl, rfl⟩
  go_wp2_with fail
  rw [rounds_succ]
  go_wp2_with fail
  refine (tz16_c 7680 9 (by show _ ∧ _ ∧ _ ∧ _; decide) _ (Lib.hid (g_alloc hG.out _))).mono ?_; rintro e v4 ⟨rfl, rfl⟩
  go_wp2_with fail
  rw [rounds_succ]
  go_wp2_with fail
  refine (tz16_c 7168 10 (by show _ ∧ _ ∧ _ ∧ _; decide) _ (Lib.hid (g_alloc hG.out _))).mono ?_; rintro e v5 ⟨rfl, rfl⟩
  go_wp2_with fail
  rw [rounds_succ]
  go_wp2_with fail
  refine (tz16_c 6144 11 (by show _ ∧ _ ∧ _ ∧ _; decide) _ (Lib.hid (g_alloc hG.out _))).mono ?_; rintro e v6 ⟨rfl, rfl⟩
  go_wp2_with fail
  rw [rounds_succ]
  go_wp2_with fail
  refine (tz16_c 4096 12 (by show _ ∧ _ ∧ _ ∧ _; decide) _ (Lib.hid (g_alloc hG.out _))).mono ?_; rintro e v7 ⟨rfl, rfl⟩
  go_wp2_with fail
  rw [rounds_succ]
  go_wp2_with fail
  go_ret
  have hh' := hh.out
  refine retU_mk (b := immF 1 h) ?_ (by repeat (first | (with_reducible first | exact Below.refl _ _ | assumption | exact Nat.le_refl _ | refine Below.drew ?_ | refine Below.alloc ?_ ?_ _ | refine Below.setCell ?_ ?_ _ | refine le_alloc ?_ | refine le_set ?_ | refine le_drew ?_ | refine below_step (by assumption) ?_ ?_ | refine le_below (by assumption) ?_) | (dsimp only; omega)))
  rw [immF_1]
  refine IsU.left ?_
  unfold ga1
  repeat' (first | with_reducible refine isU_or ?_ ?_ | exact ⟨by omega, by omega⟩)
set_option maxRecDepth 100000 in
set_option maxHeartbeats 2000000 in
theorem scatter_1 (n : Nat) (hn : Hid (n < 4294967296)) (w : World) (hG : Hid (G w)) : Calls Tryd.prog 42 #[.agg #[.int .u16 8160, .int .u64 1419277859, .bool false], .int .u32 n] w (RetH (scaF 1 n) w) := by
  have l0 : bits .and .u16 8160 8159 = 8128 := by decide
  have l1 : bits .and .u16 8128 8127 = 8064 := by decide
  have l2 : bits .and .u16 8064 8063 = 7936 := by decide
  have l3 : bits .and .u16 7936 7935 = 7680 := by decide
  have l4 : bits .and .u16 7680 7679 = 7168 := by decide
  have l5 : bits .and .u16 7168 7167 = 6144 := by decide
  have l6 : bits .and .u16 6144 6143 = 4096 := by decide
  have l7 : bits .and .u16 4096 4095 = 0 := by decide
  have t0 : bits .and .u64 1419277859 15 = 3 := by decide
  have t1 : bits .and .u64 88704866 15 = 2 := by decide
  have t2 : bits .and .u64 5544054 15 = 6 := by decide
  have t3 : bits .and .u64 346503 15 = 7 := by decide
  have t4 : bits .and .u64 21656 15 = 8 := by decide
  have t5 : bits .and .u64 1353 15 = 9 := by decide
  have t6 : bits .and .u64 84 15 = 4 := by decide
  have t7 : bits .and .u64 5 15 = 5 := by decide
  have d3 : bits .and .u32 ((n : Int) / 8) 1 = ((n / 8 % 2 : Nat) : Int) := by have e : ((n : Int) / 8) = ((n / 8 : Nat) : Int) := (by simp); rw [e]; exact u32_low (n / 8) 1 (by have := hn.out; omega) (by decide)
  have d2 : bits .and .u32 ((n : Int) / 4) 1 = ((n / 4 % 2 : Nat) : Int) := by have e : ((n : Int) / 4) = ((n / 4 : Nat) : Int) := (by simp); rw [e]; exact u32_low (n / 4) 1 (by have := hn.out; omega) (by decide)
  have d6 : bits .and .u32 ((n : Int) / 64) 1 = ((n / 64 % 2 : Nat) : Int) := by have e : ((n : Int) / 64) = ((n / 64 : Nat) : Int) := (by simp); rw [e]; exact u32_low (n / 64) 1 (by have := hn.out; omega) (by decide)
  have d7 : bits .and .u32 ((n : Int) / 128) 1 = ((n / 128 % 2 : Nat) : Int) := by have e : ((n : Int) / 128) = ((n / 128 : Nat) : Int) := (by simp); rw [e]; exact u32_low (n / 128) 1 (by have := hn.out; omega) (by decide)
  have d8 : bits .and .u32 ((n : Int) / 256) 1 = ((n / 256 % 2 : Nat) : Int) := by have e : ((n : Int) / 256) = ((n / 256 : Nat) : Int) := (by simp); rw [e]; exact u32_low (n / 256) 1 (by have := hn.out; omega) (by decide)
  have d9 : bits .and .u32 ((n : Int) / 512) 1 = ((n / 512 % 2 : Nat) : Int) := by have e : ((n : Int) / 512) = ((n / 512 : Nat) : Int) := (by simp); rw [e]; exact u32_low (n / 512) 1 (by have := hn.out; omega) (by decide)
  have d4 : bits .and .u32 ((n : Int) / 16) 1 = ((n / 16 % 2 : Nat) : Int) := by have e : ((n : Int) / 16) = ((n / 16 : Nat) : Int) := (by simp); rw [e]; exact u32_low (n / 16) 1 (by have := hn.out; omega) (by decide)
  have d5 : bits .and .u32 ((n : Int) / 32) 1 = ((n / 32 % 2 : Nat) : Int) := by have e : ((n : Int) / 32) = ((n / 32 : Nat) : Int) := (by simp); rw [e]; exact u32_low (n / 32) 1 (by have := hn.out; omega) (by decide)
  go_enter Tryd.func42, Tryd.ntmps42
  go_wp2_with fail
  refine wp_loop_rounds 9 ?_
  rw [rounds_succ]
  go_wp2_with fail
  refine (tz16_c 8160 5 (by show _ ∧ _ ∧ _ ∧ _; decide) _ (Lib.hid (g_alloc hG.out _))).mono ?_; rintro e v0 ⟨rfl, rfl⟩
  go_wp2_with fail
  rw [rounds_succ]
  go_wp2_with fail
  refine (tz16_c 8128 6 (by show _ ∧ _ ∧ _ ∧ _; decide) _ (Lib.hid (g_alloc hG.out _))).mono ?_; rintro e v1 ⟨rfl, rfl⟩
  go_wp2_with fail
  rw [rounds_succ]
  go_wp2_with fail
  refine (tz16_c 8064 7 (by show _ ∧ _ ∧ _ ∧ _; decide) _ (Lib.hid (g_alloc hG.out _))).mono ?_; rintro e v2 ⟨rfl, rfl⟩
  go_wp2_with fail
  rw [rounds_succ]
  go_wp2_with fail
  refine (tz16_c 7936 8 (by show _ ∧ _ ∧ _ ∧ _; decide) _ (Lib.hid (g_alloc hG.out _))).mono ?_; rintro e v3 ⟨rfl, rfl⟩
  go_wp2_with fail
  rw [rounds_succ]
  go_wp2_with fail
  refine (tz16_c 7680 9 (by show _ ∧ _ ∧ _ ∧ _; decide) _ (Lib.hid (g_alloc hG.out _))).mono ?_; rintro e v4 ⟨rfl, rfl⟩
  go_wp2_with fail
  rw [rounds_succ]
  go_wp2_with fail
  refine (tz16_c 7168 10 (by show _ ∧ _ ∧ _ ∧ _; decide) _ (Lib.hid (g_alloc hG.out _))).mono ?_; rintro e v5 ⟨rfl, rfl⟩
  go_wp2_with fail
  rw [rounds_succ]
  go_wp2_with fail
  refine (tz16_c 6144 11 (by show _ ∧ _ ∧ _ ∧ _; decide) _ (Lib.hid (g_alloc hG.out _))).mono ?_; rintro e v6 ⟨rfl, rfl⟩
  go_wp2_with fail
  rw [rounds_succ]
  go_wp2_with fail
  refine (tz16_c 4096 12 (by show _ ∧ _ ∧ _ ∧ _; decide) _ (Lib.hid (g_alloc hG.out _))).mono ?_; rintro e v7 ⟨rfl, rfl⟩
  go_wp2_with fail
  rw [rounds_succ]
  go_wp2_with fail
  go_ret
  have hn' := hn.out
  refine retH_mk (b := scaF 1 n) ?_ (by repeat (first | (with_reducible first | exact Below.refl _ _ | assumption | exact Nat.le_refl _ | refine Below.drew ?_ | refine Below.alloc ?_ ?_ _ | refine Below.setCell ?_ ?_ _ | refine le_alloc ?_ | refine le_set ?_ | refine le_drew ?_ | refine below_step (by assumption) ?_ ?_ | refine le_below (by assumption) ?_) | (dsimp only; omega)))
  rw [scaF_1]
  refine IsH.left ?_
  unfold sc1
  repeat' (first | with_reducible refine isH_or ?_ ?_ | exact ⟨by omega, by omega⟩)
set_option maxRecDepth 100000 in
set_option maxHeartbeats 2000000 in
theorem gather_2 (h : Nat) (hh : Hid (h < 65536)) (w : World) (hG : Hid (G w)) : Calls Tryd.prog 39 #[.agg #[.int .u16 7264, .int .u64 344950, .bool false], .int .u16 h] w (RetU (immF 2 h) w) := by
  have l0 : bits .and .u16 7264 7263 = 7232 := by decide
  have l1 : bits .and .u16 7232 7231 = 7168 := by decide
  have l2 : bits .and .u16 7168 7167 = 6144 := by decide
  have l3 : bits .and .u16 6144 6143 = 4096 := by decide
  have l4 : bits .and .u16 4096 4095 = 0 := by decide
  have t0 : bits .and .u64 344950 15 = 6 := by decide
  have t1 : bits .and .u64 21559 15 = 7 := by decide
  have t2 : bits .and .u64 1347 15 = 3 := by decide
  have t3 : bits .and .u64 84 15 = 4 := by decide
  have t4 : bits .and .u64 5 15 = 5 := by decide
  have d5 : bits .and .u16 ((h : Int) / 32) 1 = ((h / 32 % 2 : Nat) : Int) := by have e : ((h : Int) / 32) = ((h / 32 : Nat) : Int) := (by simp); rw [e]; exact u16_low (h / 32) 1 (by have := hh.out; omega) (by decide)
  have d6 : bits .and .u16 ((h : Int) / 64) 1 = ((h / 64 % 2 : Nat) : Int) := by have e : ((h : Int) / 64) = ((h / 64 : Nat) : Int) := (by simp); rw [e]; exact u16_low (h / 64) 1 (by have := hh.out; omega) (by decide)
  have d10 : bits .and .u16 ((h : Int) / 1024) 1 = ((h / 1024 % 2 : Nat) : Int) := by have e : ((h : Int) / 1024) = ((h / 1024 : Nat) : Int) := (by simp); rw [e]; exact u16_low (h / 1024) 1 (by have := hh.out; omega) (by decide)
  have d11 : bits .and .u16 ((h : Int) / 2048) 1 = ((h / 2048 % 2 : Nat) : Int) := by have e : ((h : Int) / 2048) = ((h / 2048 : Nat) : Int) := (by simp); rw [e]; exact u16_low (h / 2048) 1 (by have := hh.out; omega) (by decide)
  have d12 : bits .and .u16 ((h : Int) / 4096) 1 = ((h / 4096 % 2 : Nat) : Int) := by have e : ((h : Int) / 4096) = ((h / 4096 : Nat) : Int) := (by simp); rw [e]; exact u16_low (h / 4096) 1 (by have := hh.out; omega) (by decide)
  go_enter Tryd.func39, Tryd.ntmps39
  go_wp2_with fail
  refine wp_loop_rounds 6 ?_
  rw [rounds_succ]
  go_wp2_with fail
  refine (tz16_c 7264 5 (by show _ ∧ _ ∧ _ ∧ _; decide) _ (Lib.hid (g_alloc hG.out _))).mono ?_; rintro e v0 ⟨rfl, rfl⟩
  go_wp2_with fail
  rw [rounds_succ]
  go_wp2_with fail
  refine (tz16_c 7232 6 (by show _ ∧ _ ∧ _ ∧ _; decide) _ (Lib.hid (g_alloc hG.out _))).mono ?_; rintro e v1 ⟨rfl, rfl⟩
  go_wp2_with fail
  rw [rounds_succ]
  go_wp2_with fail
  refine (tz16_c 7168 10 (by show _ ∧ _ ∧ _ ∧ _; decide) _ (Lib.hid (g_alloc hG.out _))).mono ?_; rintro e v2 ⟨rfl, rfl⟩
  go_wp2_with fail
  rw [rounds_succ]
  go_wp2_with fail
  refine (tz16_c 6144 11 (by show _ ∧ _ ∧ _ ∧ _; decide) _ (Lib.hid (g_alloc hG.out _))).mono ?_; rintro e v3 ⟨rfl, rfl⟩
  go_wp2_with fail
  rw [rounds_succ]
  go_wp2_with fail
  refine (tz16_c 4096 12 (by show _ ∧ _ ∧ _ ∧ _; decide) _ (Lib.hid (g_alloc hG.out _))).mono ?_; rintro e v4 ⟨rfl, rfl⟩
  go_wp2_with fail
  rw [rounds_succ]
  go_wp2_with fail
  go_ret
  have hh' := hh.out
  refine retU_mk (b := immF 2 h) ?_ (by repeat (first | (with_reducible first | exact Below.refl _ _ | assumption | exact Nat.le_refl _ | refine Below.drew ?_ | refine Below.alloc ?_ ?_ _ | refine Below.setCell ?_ ?_ _ | refine le_alloc ?_ | refine le_set ?_ | refine le_drew ?_ | refine below_step (by assumption) ?_ ?_ | refine le_below (by assumption) ?_) | (dsimp only; omega)))
  rw [immF_2]
  refine IsU.left ?_
  unfold ga2
  repeat' (first | with_reducible refine isU_or ?_ ?_ | exact ⟨by omega, by omega⟩)
set_option maxRecDepth 100000 in
set_option maxHeartbeats 2000000 in
theorem scatter_2 (n : Nat) (hn : Hid (n < 4294967296)) (w : World) (hG : Hid (G w)) : Calls Tryd.prog 42 #[.agg #[.int .u16 7264, .int .u64 344950, .bool false], .int .u32 n] w (RetH (scaF 2 n) w) := by
  have l0 : bits .and .u16 7264 7263 = 7232 := by decide
  have l1 : bits .and .u16 7232 7231 = 7168 := by decide
  have l2 : bits .and .u16 7168 7167 = 6144 := by decide
  have l3 : bits .and .u16 6144 6143 = 4096 := by decide
  have l4 : bits .and .u16 4096 4095 = 0 := by decide
  have t0 : bits .and .u64 344950 15 = 6 := by decide
  have t1 : bits .and .u64 21559 15 = 7 := by decide
  have t2 : bits .and .u64 1347 15 = 3 := by decide
  have t3 : bits .and .u64 84 15 = 4 := by decide
  have t4 : bits .and .u64 5 15 = 5 := by decide
  have d6 : bits .and .u32 ((n : Int) / 64) 1 = ((n / 64 % 2 : Nat) : Int) := by have e : ((n : Int) / 64) = ((n / 64 : Nat) : Int) := (by simp); rw [e]; exact u32_low (n / 64) 1 (by have := hn.out; omega) (by decide)
  have d7 : bits .and .u32 ((n : Int) / 128) 1 = ((n / 128 % 2 : Nat) : Int) := by have e : ((n : Int) / 128) = ((n / 128 : Nat) : Int) := (by simp); rw [e]; exact u32_low (n / 128) 1 (by have := hn.out; omega) (by decide)
  have d3 : bits .and .u32 ((n : Int) / 8) 1 = ((n / 8 % 2 : Nat) : Int) := by have e : ((n : Int) / 8) = ((n / 8 : Nat) : Int) := (by simp); rw [e]; exact u32_low (n / 8) 1 (by have := hn.out; omega) (by decide)
  have d4 : bits .and .u32 ((n : Int) / 16) 1 = ((n / 16 % 2 : Nat) : Int) := by have e : ((n : Int) / 16) = ((n / 16 : Nat) : Int) := (by simp); rw [e]; exact u32_low (n / 16) 1 (by have := hn.out; omega) (by decide)
  have d5 : bits .and .u32 ((n : Int) / 32) 1 = ((n / 32 % 2 : Nat) : Int) := by have e : ((n : Int) / 32) = ((n / 32 : Nat) : Int) := (by simp); rw [e]; exact u32_low (n / 32) 1 (by have := hn.out; omega) (by decide)
  go_enter Tryd.func42, Tryd.ntmps42
  go_wp2_with fail
  refine wp_loop_rounds 6 ?_
  rw [rounds_succ]
  go_wp2_with fail
  refine (tz16_c 7264 5 (by show _ ∧ _ ∧ _ ∧ _; decide) _ (Lib.hid (g_alloc hG.out _))).mono ?_; rintro e v0 ⟨rfl, rfl⟩
  go_wp2_with fail
  rw [rounds_succ]
  go_wp2_with fail
  refine (tz16_c 7232 6 (by show _ ∧ _ ∧ _ ∧ _; decide) _ (Lib.hid (g_alloc hG.out _))).mono ?_; rintro e v1 ⟨rfl, rfl⟩
  go_wp2_with fail
  rw [rounds_succ]
  go_wp2_with fail
  refine (tz16_c 7168 10 (by show _ ∧ _ ∧ _ ∧ _; decide) _ (Lib.hid (g_alloc hG.out _))).mono ?_; rintro e v2 ⟨rfl, rfl⟩
  go_wp2_with fail
  rw [rounds_succ]
  go_wp2_with fail
  refine (tz16_c 6144 11 (by show _ ∧ _ ∧ _ ∧ _; decide) _ (Lib.hid (g_alloc hG.out _))).mono ?_; rintro e v3 ⟨rfl, rfl⟩
  go_wp2_with fail
  rw [rounds_succ]
  go_wp2_with fail
  refine (tz16_c 4096 12 (by show _ ∧ _ ∧ _ ∧ _; decide) _ (Lib.hid (g_alloc hG.out _))).mono ?_; rintro e v4 ⟨rfl, rfl⟩
  go_wp2_with fail
  rw [rounds_succ]
  go_wp2_with fail
  go_ret
  have hn' := hn.out
  refine retH_mk (b := scaF 2 n) ?_ (by repeat (first | (with_reducible first | exact Below.refl _ _ | assumption | exact Nat.le_refl _ | refine Below.drew ?_ | refine Below.alloc ?_ ?_ _ | refine Below.setCell ?_ ?_ _ | refine le_alloc ?_ | refine le_set ?_ | refine le_drew ?_ | refine below_step (by assumption) ?_ ?_ | refine le_below (by assumption) ?_) | (dsimp only; omega)))
  rw [scaF_2]
  refine IsH.left ?_
  unfold sc2
  repeat' (first | with_reducible refine isH_or ?_ ?_ | exact ⟨by omega, by omega⟩)
set_option maxRecDepth 100000 in
set_option maxHeartbeats 2000000 in
theorem gather_3 (h : Nat) (hh : Hid (h < 65536)) (w : World) (hG : Hid (G w)) : Calls Tryd.prog 39 #[.agg #[.int .u16 7264, .int .u64 344870, .bool false], .int .u16 h] w (RetU (immF 3 h) w) := by
  have l0 : bits .and .u16 7264 7263 = 7232 := by decide
  have l1 : bits .and .u16 7232 7231 = 7168 := by decide
  have l2 : bits .and .u16 7168 7167 = 6144 := by decide
  have l3 : bits .and .u16 6144 6143 = 4096 := by decide
  have l4 : bits .and .u16 4096 4095 = 0 := by decide
  have t0 : bits .and .u64 344870 15 = 6 := by decide
  have t1 : bits .and .u64 21554 15 = 2 := by decide
  have t2 : bits .and .u64 1347 15 = 3 := by decide
  have t3 : bits .and .u64 84 15 = 4 := by decide
  have t4 : bits .and .u64 5 15 = 5 := by decide
  have d5 : bits .and .u16 ((h : Int) / 32) 1 = ((h / 32 % 2 : Nat) : Int) := by have e : ((h : Int) / 32) = ((h / 32 : Nat) : Int) := (by simp); rw [e]; exact u16_low (h / 32) 1 (by have := hh.out; omega) (by decide)
  have d6 : bits .and .u16 ((h : Int) / 64) 1 = ((h / 64 % 2 : Nat) : Int) := by have e : ((h : Int) / 64) = ((h / 64 : Nat) : Int) := (by simp); rw [e]; exact u16_low (h / 64) 1 (by have := hh.out; omega) (by decide)
  have d10 : bits .and .u16 ((h : Int) / 1024) 1 = ((h / 1024 % 2 : Nat) : Int) := by have e : ((h : Int) / 1024) = ((h / 1024 : Nat) : Int) := (by simp); rw [e]; exact u16_low (h / 1024) 1 (by have := hh.out; omega) (by decide)
  have d11 : bits .and .u16 ((h : Int) / 2048) 1 = ((h / 2048 % 2 : Nat) : Int) := by have e : ((h : Int) / 2048) = ((h / 2048 : Nat) : Int) := (by simp); rw [e]; exact u16_low (h / 2048) 1 (by have := hh.out; omega) (by decide)
  have d12 : bits .and .u16 ((h : Int) / 4096) 1 = ((h / 4096 % 2 : Nat) : Int) := by have e : ((h : Int) / 4096) = ((h / 4096 : Nat) : Int) := (by simp); rw [e]; exact u16_low (h / 4096) 1 (by have := hh.out; omega) (by decide)
  go_enter Tryd.func39, Tryd.ntmps39
  go_wp2_with fail
  refine wp_loop_rounds 6 ?_
  rw [rounds_succ]
  go_wp2_with fail
  refine (tz16_c 7264 5 (by show _ ∧ _ ∧ _ ∧ _; decide) _ (Lib.hid (g_alloc hG.out _))).mono ?_; rintro e v0 ⟨rfl, rfl⟩
  go_wp2_with fail
  rw [rounds_succ]
  go_wp2_with fail
  refine (tz16_c 7232 6 (by show _ ∧ _ ∧ _ ∧ _; decide) _ (Lib.hid (g_alloc hG.out _))).mono ?_; rintro e v1 ⟨rfl, rfl⟩
  go_wp2_with fail
  rw [rounds_succ]
  go_wp2_with fail
  refine (tz16_c 7168 10 (by show _ ∧ _ ∧ _ ∧ _; decide) _ (Lib.hid (g_alloc hG.out _))).mono ?_; rintro e v2 ⟨rfl, rfl⟩
  go_wp2_with fail
  rw [rounds_succ]
  go_wp2_with fail
  refine (tz16_c 6144 11 (by show _ ∧ _ ∧ _ ∧ _; decide) _ (Lib.hid (g_alloc hG.out _))).mono ?_; rintro e v3 ⟨rfl, rfl⟩
  go_wp2_with fail
  rw [rounds_succ]
  go_wp2_with fail
  refine (tz16_c 4096 12 (by show _ ∧ _ ∧ _ ∧ _; decide) _ (Lib.hid (g_alloc hG.out _))).mono ?_; rintro e v4 ⟨rfl, rfl⟩
  go_wp2_with fail
  rw [rounds_succ]
  go_wp2_with fail
  go_ret
  have hh' := hh.out
  refine retU_mk (b := immF 3 h) ?_ (by repeat (first | (with_reducible first | exact Below.refl _ _ | assumption | exact Nat.le_refl _ | refine Below.drew ?_ | refine Below.alloc ?_ ?_ _ | refine Below.setCell ?_ ?_ _ | refine le_alloc ?_ | refine le_set ?_ | refine le_drew ?_ | refine below_step (by assumption) ?_ ?_ | refine le_below (by assumption) ?_) | (dsimp only; omega)))
  rw [immF_3]
  refine IsU.left ?_
  unfold ga3
  repeat' (first | with_reducible refine isU_or ?_ ?_ | exact ⟨by omega, by omega⟩)
set_option maxRecDepth 100000 in
set_option maxHeartbeats 2000000 in
theorem scatter_3 (n : Nat) (hn : Hid (n < 4294967296)) (w : World) (hG : Hid (G w)) : Calls Tryd.prog 42 #[.agg #[.int .u16 7264, .int .u64 344870, .bool false], .int .u32 n] w (RetH (scaF 3 n) w) := by
  have l0 : bits .and .u16 7264 7263 = 7232 := by decide
  have l1 : bits .and .u16 7232 7231 = 7168 := by decide
  have l2 : bits .and .u16 7168 7167 = 6144 := by decide
  have l3 : bits .and .u16 6144 6143 = 4096 := by decide
  have l4 : bits .and .u16 4096 4095 = 0 := by decide
  have t0 : bits .and .u64 344870 15 = 6 := by decide
  have t1 : bits .and .u64 21554 15 = 2 := by decide
  have t2 : bits .and .u64 1347 15 = 3 := by decide
  have t3 : bits .and .u64 84 15 = 4 := by decide
  have t4 : bits .and .u64 5 15 = 5 := by decide
  have d6 : bits .and .u32 ((n : Int) / 64) 1 = ((n / 64 % 2 : Nat) : Int) := by have e : ((n : Int) / 64) = ((n / 64 : Nat) : Int) := (by simp); rw [e]; exact u32_low (n / 64) 1 (by have := hn.out; omega) (by decide)
  have d2 : bits .and .u32 ((n : Int) / 4) 1 = ((n / 4 % 2 : Nat) : Int) := by have e : ((n : Int) / 4) = ((n / 4 : Nat) : Int) := (by simp); rw [e]; exact u32_low (n / 4) 1 (by have := hn.out; omega) (by decide)
  have d3 : bits .and .u32 ((n : Int) / 8) 1 = ((n / 8 % 2 : Nat) : Int) := by have e : ((n : Int) / 8) = ((n / 8 : Nat) : Int) := (by simp); rw [e]; exact u32_low (n / 8) 1 (by have := hn.out; omega) (by decide)
  have d4 : bits .and .u32 ((n : Int) / 16) 1 = ((n / 16 % 2 : Nat) : Int) := by have e : ((n : Int) / 16) = ((n / 16 : Nat) : Int) := (by simp); rw [e]; exact u32_low (n / 16) 1 (by have := hn.out; omega) (by decide)
  have d5 : bits .and .u32 ((n : Int) / 32) 1 = ((n / 32 % 2 : Nat) : Int) := by have e : ((n : Int) / 32) = ((n / 32 : Nat) : Int) := (by simp); rw [e]; exact u32_low (n / 32) 1 (by have := hn.out; omega) (by decide)
  go_enter Tryd.func42, Tryd.ntmps42
  go_wp2_with fail
  refine wp_loop_rounds 6 ?_
  rw [rounds_succ]
  go_wp2_with fail
  refine (tz16_c 7264 5 (by show _ ∧ _ ∧ _ ∧ _; decide) _ (Lib.hid (g_alloc hG.out _))).mono ?_; rintro e v0 ⟨rfl, rfl⟩
  go_wp2_with fail
  rw [rounds_succ]
  go_wp2_with fail
  refine (tz16_c 7232 6 (by show _ ∧ _ ∧ _ ∧ _; decide) _ (Lib.hid (g_alloc hG.out _))).mono ?_; rintro e v1 ⟨rfl, rfl⟩
  go_wp2_with fail
  rw [rounds_succ]
  go_wp2_with fail
  refine (tz16_c 7168 10 (by show _ ∧ _ ∧ _ ∧ _; decide) _ (Lib.hid (g_alloc hG.out _))).mono ?_; rintro e v2 ⟨rfl, rfl⟩
  go_wp2_with fail
  rw [rounds_succ]
  go_wp2_with fail
  refine (tz16_c 6144 11 (by show _ ∧ _ ∧ _ ∧ _; decide) _ (Lib.hid (g_alloc hG.out _))).mono ?_; rintro e v3 ⟨rfl, rfl⟩
  go_wp2_with fail
  rw [rounds_succ]
  go_wp2_with fail
  refine (tz16_c 4096 12 (by show _ ∧ _ ∧ _ ∧ _; decide) _ (Lib.hid (g_alloc hG.out _))).mono ?_; rintro e v4 ⟨rfl, rfl⟩
  go_wp2_with fail
  rw [rounds_succ]
  go_wp2_with fail
  go_ret
  have hn' := hn.out
  refine retH_mk (b := scaF 3 n) ?_ (by repeat (first | (with_reducible first | exact Below.refl _ _ | assumption | exact Nat.le_refl _ | refine Below.drew ?_ | refine Below.alloc ?_ ?_ _ | refine Below.setCell ?_ ?_ _ | refine le_alloc ?_ | refine le_set ?_ | refine le_drew ?_ | refine below_step (by assumption) ?_ ?_ | refine le_below (by assumption) ?_) | (dsimp only; omega)))
  rw [scaF_3]
  refine IsH.left ?_
  unfold sc3
  repeat' (first | with_reducible refine isH_or ?_ ?_ | exact ⟨by omega, by omega⟩)
end Go.Proofs.YtcfeeookjgdkmaaDoor
