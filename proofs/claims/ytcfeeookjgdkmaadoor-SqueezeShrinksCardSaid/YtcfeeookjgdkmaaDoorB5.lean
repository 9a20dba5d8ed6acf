/- The contracts of a row's holds, write and read. -/
import Derived.Test.YtcfeeookjgdkmaaDoorB3
import Derived.Test.YtcfeeookjgdkmaaDoorB41
import Derived.Test.YtcfeeookjgdkmaaDoorB42
import Derived.Test.YtcfeeookjgdkmaaDoorB43
import Derived.Test.YtcfeeookjgdkmaaDoorB44
import Derived.Lib.QuietBelow
namespace Go.Proofs.YtcfeeookjgdkmaaDoor
open Go.ChangeShapes Go.WideShapes Go.ChangeAt Go.RowKit Go.Sort
set_option linter.unusedVariables false
set_option linter.unusedSimpArgs false

def namesL : List Nat := [0, 1, 4, 8, 9, 16, 18, 20, 32, 33, 41, 80, 82]
def OkS (r : SRow) : Prop := r.mask < 65536 ∧ r.mat < 65536 ∧ r.some < 65536 ∧ r.base < 4294967296 ∧ r.names ∈ namesL ∧ r.imm < 13 ∧ r.form < 6
instance (r : SRow) : Decidable (OkS r) := by unfold OkS; infer_instance
theorem ok_rows : ∀ r ∈ rowsL, OkS r := by decide +kernel
theorem names_cases {k : Nat} (h : k ∈ namesL) : k = 0 ∨ k = 1 ∨ k = 4 ∨ k = 8 ∨ k = 9 ∨ k = 16 ∨ k = 18 ∨ k = 20 ∨ k = 32 ∨ k = 33 ∨ k = 41 ∨ k = 80 ∨ k = 82 := by simpa [namesL] using h
theorem wn_c (k : Nat) (hk : k ∈ namesL) (h : Nat) (hh : Hid (h < 65536)) (w : World) (hG : Hid (G w)) : Calls Tryd.prog 37 #[.int .u8 k, .int .u16 h] w (RetU (wnF k h) w) := by
  rcases names_cases hk with rfl | rfl | rfl | rfl | rfl | rfl | rfl | rfl | rfl | rfl | rfl | rfl | rfl
  · exact writeNames_0 h hh w hG
  · exact writeNames_1 h hh w hG
  · exact writeNames_4 h hh w hG
  · exact writeNames_8 h hh w hG
  · exact writeNames_9 h hh w hG
  · exact writeNames_16 h hh w hG
  · exact writeNames_18 h hh w hG
  · exact writeNames_20 h hh w hG
  · exact writeNames_32 h hh w hG
  · exact writeNames_33 h hh w hG
  · exact writeNames_41 h hh w hG
  · exact writeNames_80 h hh w hG
  · exact writeNames_82 h hh w hG
theorem rn_c (k : Nat) (hk : k ∈ namesL) (x : Nat) (hx : Hid (x < 4294967296)) (w : World) (hG : Hid (G w)) : Calls Tryd.prog 41 #[.int .u8 k, .int .u32 x] w (RetH (rnF k x) w) := by
  rcases names_cases hk with rfl | rfl | rfl | rfl | rfl | rfl | rfl | rfl | rfl | rfl | rfl | rfl | rfl
  · exact readNames_0 x hx w hG
  · exact readNames_1 x hx w hG
  · exact readNames_4 x hx w hG
  · exact readNames_8 x hx w hG
  · exact readNames_9 x hx w hG
  · exact readNames_16 x hx w hG
  · exact readNames_18 x hx w hG
  · exact readNames_20 x hx w hG
  · exact readNames_32 x hx w hG
  · exact readNames_33 x hx w hG
  · exact readNames_41 x hx w hG
  · exact readNames_80 x hx w hG
  · exact readNames_82 x hx w hG
theorem imm_at (i : Nat) (hi : i < 13) : ∃ (F T : Nat) (s : Bool), (∀ w, G w → w.cell? ⟨0, i * 3, none⟩ = some (.int .u16 F) ∧ w.cell? ⟨0, i * 3 + 1, none⟩ = some (.int .u64 T) ∧ w.cell? ⟨0, i * 3 + 2, none⟩ = some (.bool s)) ∧
    (∀ (h : Nat) (hh : Hid (h < 65536)) (w : World) (hG : Hid (G w)), Calls Tryd.prog 39 #[.agg #[.int .u16 F, .int .u64 T, .bool s], .int .u16 h] w (RetU (immF i h) w)) ∧
    (∀ (n : Nat) (hn : Hid (n < 4294967296)) (w : World) (hG : Hid (G w)), Calls Tryd.prog 42 #[.agg #[.int .u16 F, .int .u64 T, .bool s], .int .u32 n] w (RetH (scaF i n) w)) := by
  have h : i = 0 ∨ i = 1 ∨ i = 2 ∨ i = 3 ∨ i = 4 ∨ i = 5 ∨ i = 6 ∨ i = 7 ∨ i = 8 ∨ i = 9 ∨ i = 10 ∨ i = 11 ∨ i = 12 := by omega
  rcases h with rfl | rfl | rfl | rfl | rfl | rfl | rfl | rfl | rfl | rfl | rfl | rfl | rfl
  · exact ⟨0, 0, false, fun w hg => g_imm hg 0 0 0 false (by decide) rfl rfl rfl, gather_0, scatter_0⟩
  · exact ⟨8160, 1419277859, false, fun w hg => g_imm hg 1 8160 1419277859 false (by decide) rfl rfl rfl, gather_1, scatter_1⟩
  · exact ⟨7264, 344950, false, fun w hg => g_imm hg 2 7264 344950 false (by decide) rfl rfl rfl, gather_2, scatter_2⟩
  · exact ⟨7264, 344870, false, fun w hg => g_imm hg 3 7264 344870 false (by decide) rfl rfl rfl, gather_3, scatter_3⟩
  · exact ⟨4220, 5517840, true, fun w hg => g_imm hg 4 4220 5517840 true (by decide) rfl rfl rfl, gather_4, scatter_4⟩
  · exact ⟨4220, 5517840, false, fun w hg => g_imm hg 5 4220 5517840 false (by decide) rfl rfl rfl, gather_5, scatter_5⟩
  · exact ⟨4220, 9726069, true, fun w hg => g_imm hg 6 4220 9726069 true (by decide) rfl rfl rfl, gather_6, scatter_6⟩
  · exact ⟨8188, 12410482536981, true, fun w hg => g_imm hg 7 8188 12410482536981 true (by decide) rfl rfl rfl, gather_7, scatter_7⟩
  · exact ⟨7292, 2218222101, true, fun w hg => g_imm hg 8 7292 2218222101 true (by decide) rfl rfl rfl, gather_8, scatter_8⟩
  · exact ⟨4220, 5519478, false, fun w hg => g_imm hg 9 4220 5519478 false (by decide) rfl rfl rfl, gather_9, scatter_9⟩
  · exact ⟨4220, 5517942, false, fun w hg => g_imm hg 10 4220 5517942 false (by decide) rfl rfl rfl, gather_10, scatter_10⟩
  · exact ⟨8064, 5519478, false, fun w hg => g_imm hg 11 8064 5519478 false (by decide) rfl rfl rfl, gather_11, scatter_11⟩
  · exact ⟨8064, 5517942, false, fun w hg => g_imm hg 12 8064 5517942 false (by decide) rfl rfl rfl, gather_12, scatter_12⟩
theorem wid_lt (p n : Nat) (h : n < 2 ^ (p + 1)) (hp : p < 31) : wid p n < 4294967296 := by
  have h2 : 2 ^ (p + 1) < 2 ^ 32 := Nat.pow_lt_pow_right (by decide) (by omega)
  have h3 : (2 : Nat) ^ 32 = 4294967296 := by decide
  unfold wid; split <;> omega
theorem ga0_lt (h : Nat) : ga0 h < 2 ^ 1 := by
  unfold ga0
  repeat' (first | with_reducible refine Nat.or_lt_two_pow ?_ ?_ | omega)
theorem ga1_lt (h : Nat) : ga1 h < 2 ^ 10 := by
  unfold ga1
  repeat' (first | with_reducible refine Nat.or_lt_two_pow ?_ ?_ | omega)
theorem ga2_lt (h : Nat) : ga2 h < 2 ^ 8 := by
  unfold ga2
  repeat' (first | with_reducible refine Nat.or_lt_two_pow ?_ ?_ | omega)
theorem ga3_lt (h : Nat) : ga3 h < 2 ^ 7 := by
  unfold ga3
  repeat' (first | with_reducible refine Nat.or_lt_two_pow ?_ ?_ | omega)
theorem ga4_lt (h : Nat) : ga4 h < 2 ^ 6 := by
  unfold ga4
  repeat' (first | with_reducible refine Nat.or_lt_two_pow ?_ ?_ | omega)
theorem ga5_lt (h : Nat) : ga5 h < 2 ^ 6 := by
  unfold ga5
  repeat' (first | with_reducible refine Nat.or_lt_two_pow ?_ ?_ | omega)
theorem ga6_lt (h : Nat) : ga6 h < 2 ^ 10 := by
  unfold ga6
  repeat' (first | with_reducible refine Nat.or_lt_two_pow ?_ ?_ | omega)
theorem ga7_lt (h : Nat) : ga7 h < 2 ^ 12 := by
  unfold ga7
  repeat' (first | with_reducible refine Nat.or_lt_two_pow ?_ ?_ | omega)
theorem ga8_lt (h : Nat) : ga8 h < 2 ^ 9 := by
  unfold ga8
  repeat' (first | with_reducible refine Nat.or_lt_two_pow ?_ ?_ | omega)
theorem ga9_lt (h : Nat) : ga9 h < 2 ^ 9 := by
  unfold ga9
  repeat' (first | with_reducible refine Nat.or_lt_two_pow ?_ ?_ | omega)
theorem ga10_lt (h : Nat) : ga10 h < 2 ^ 8 := by
  unfold ga10
  repeat' (first | with_reducible refine Nat.or_lt_two_pow ?_ ?_ | omega)
theorem ga11_lt (h : Nat) : ga11 h < 2 ^ 9 := by
  unfold ga11
  repeat' (first | with_reducible refine Nat.or_lt_two_pow ?_ ?_ | omega)
theorem ga12_lt (h : Nat) : ga12 h < 2 ^ 8 := by
  unfold ga12
  repeat' (first | with_reducible refine Nat.or_lt_two_pow ?_ ?_ | omega)
theorem immF_lt (i h : Nat) (hi : i < 13) : immF i h < 4294967296 := by
  have hc : i = 0 ∨ i = 1 ∨ i = 2 ∨ i = 3 ∨ i = 4 ∨ i = 5 ∨ i = 6 ∨ i = 7 ∨ i = 8 ∨ i = 9 ∨ i = 10 ∨ i = 11 ∨ i = 12 := by omega
  rcases hc with rfl | rfl | rfl | rfl | rfl | rfl | rfl | rfl | rfl | rfl | rfl | rfl | rfl
  · rw [immF_0]; exact Nat.lt_of_lt_of_le (ga0_lt h) (by decide)
  · rw [immF_1]; exact Nat.lt_of_lt_of_le (ga1_lt h) (by decide)
  · rw [immF_2]; exact Nat.lt_of_lt_of_le (ga2_lt h) (by decide)
  · rw [immF_3]; exact Nat.lt_of_lt_of_le (ga3_lt h) (by decide)
  · rw [immF_4]; exact wid_lt 5 _ (ga4_lt h) (by decide)
  · rw [immF_5]; exact Nat.lt_of_lt_of_le (ga5_lt h) (by decide)
  · rw [immF_6]; exact wid_lt 9 _ (ga6_lt h) (by decide)
  · rw [immF_7]; exact wid_lt 11 _ (ga7_lt h) (by decide)
  · rw [immF_8]; exact wid_lt 8 _ (ga8_lt h) (by decide)
  · rw [immF_9]; exact Nat.lt_of_lt_of_le (ga9_lt h) (by decide)
  · rw [immF_10]; exact Nat.lt_of_lt_of_le (ga10_lt h) (by decide)
  · rw [immF_11]; exact Nat.lt_of_lt_of_le (ga11_lt h) (by decide)
  · rw [immF_12]; exact Nat.lt_of_lt_of_le (ga12_lt h) (by decide)
theorem wnF_lt (k h : Nat) (hk : k ∈ namesL) : wnF k h < 4294967296 := by
  rcases names_cases hk with rfl | rfl | rfl | rfl | rfl | rfl | rfl | rfl | rfl | rfl | rfl | rfl | rfl
  · rw [wnF_0]; unfold wn0
    repeat' (first | with_reducible refine Nat.or_lt_two_pow (n := 32) ?_ ?_ | omega)
  · rw [wnF_1]; unfold wn1
    repeat' (first | with_reducible refine Nat.or_lt_two_pow (n := 32) ?_ ?_ | omega)
  · rw [wnF_4]; unfold wn4
    repeat' (first | with_reducible refine Nat.or_lt_two_pow (n := 32) ?_ ?_ | omega)
  · rw [wnF_8]; unfold wn8
    repeat' (first | with_reducible refine Nat.or_lt_two_pow (n := 32) ?_ ?_ | omega)
  · rw [wnF_9]; unfold wn9
    repeat' (first | with_reducible refine Nat.or_lt_two_pow (n := 32) ?_ ?_ | omega)
  · rw [wnF_16]; unfold wn16
    repeat' (first | with_reducible refine Nat.or_lt_two_pow (n := 32) ?_ ?_ | omega)
  · rw [wnF_18]; unfold wn18
    repeat' (first | with_reducible refine Nat.or_lt_two_pow (n := 32) ?_ ?_ | omega)
  · rw [wnF_20]; unfold wn20
    repeat' (first | with_reducible refine Nat.or_lt_two_pow (n := 32) ?_ ?_ | omega)
  · rw [wnF_32]; unfold wn32
    repeat' (first | with_reducible refine Nat.or_lt_two_pow (n := 32) ?_ ?_ | omega)
  · rw [wnF_33]; unfold wn33
    repeat' (first | with_reducible refine Nat.or_lt_two_pow (n := 32) ?_ ?_ | omega)
  · rw [wnF_41]; unfold wn41
    repeat' (first | with_reducible refine Nat.or_lt_two_pow (n := 32) ?_ ?_ | omega)
  · rw [wnF_80]; unfold wn80
    repeat' (first | with_reducible refine Nat.or_lt_two_pow (n := 32) ?_ ?_ | omega)
  · rw [wnF_82]; unfold wn82
    repeat' (first | with_reducible refine Nat.or_lt_two_pow (n := 32) ?_ ?_ | omega)
theorem rnF_lt (k x : Nat) (hk : k ∈ namesL) : rnF k x < 65536 := by
  rcases names_cases hk with rfl | rfl | rfl | rfl | rfl | rfl | rfl | rfl | rfl | rfl | rfl | rfl | rfl
  · rw [rnF_0]; unfold rn0
    repeat' (first | with_reducible refine Nat.or_lt_two_pow (n := 16) ?_ ?_ | omega)
  · rw [rnF_1]; unfold rn1
    repeat' (first | with_reducible refine Nat.or_lt_two_pow (n := 16) ?_ ?_ | omega)
  · rw [rnF_4]; unfold rn4
    repeat' (first | with_reducible refine Nat.or_lt_two_pow (n := 16) ?_ ?_ | omega)
  · rw [rnF_8]; unfold rn8
    repeat' (first | with_reducible refine Nat.or_lt_two_pow (n := 16) ?_ ?_ | omega)
  · rw [rnF_9]; unfold rn9
    repeat' (first | with_reducible refine Nat.or_lt_two_pow (n := 16) ?_ ?_ | omega)
  · rw [rnF_16]; unfold rn16
    repeat' (first | with_reducible refine Nat.or_lt_two_pow (n := 16) ?_ ?_ | omega)
  · rw [rnF_18]; unfold rn18
    repeat' (first | with_reducible refine Nat.or_lt_two_pow (n := 16) ?_ ?_ | omega)
  · rw [rnF_20]; unfold rn20
    repeat' (first | with_reducible refine Nat.or_lt_two_pow (n := 16) ?_ ?_ | omega)
  · rw [rnF_32]; unfold rn32
    repeat' (first | with_reducible refine Nat.or_lt_two_pow (n := 16) ?_ ?_ | omega)
  · rw [rnF_33]; unfold rn33
    repeat' (first | with_reducible refine Nat.or_lt_two_pow (n := 16) ?_ ?_ | omega)
  · rw [rnF_41]; unfold rn41
    repeat' (first | with_reducible refine Nat.or_lt_two_pow (n := 16) ?_ ?_ | omega)
  · rw [rnF_80]; unfold rn80
    repeat' (first | with_reducible refine Nat.or_lt_two_pow (n := 16) ?_ ?_ | omega)
  · rw [rnF_82]; unfold rn82
    repeat' (first | with_reducible refine Nat.or_lt_two_pow (n := 16) ?_ ?_ | omega)
theorem scaF_lt (i n : Nat) (hi : i < 13) : scaF i n < 65536 := by
  have hc : i = 0 ∨ i = 1 ∨ i = 2 ∨ i = 3 ∨ i = 4 ∨ i = 5 ∨ i = 6 ∨ i = 7 ∨ i = 8 ∨ i = 9 ∨ i = 10 ∨ i = 11 ∨ i = 12 := by omega
  rcases hc with rfl | rfl | rfl | rfl | rfl | rfl | rfl | rfl | rfl | rfl | rfl | rfl | rfl
  · rw [scaF_0]; unfold sc0
    repeat' (first | with_reducible refine Nat.or_lt_two_pow (n := 16) ?_ ?_ | omega)
  · rw [scaF_1]; unfold sc1
    repeat' (first | with_reducible refine Nat.or_lt_two_pow (n := 16) ?_ ?_ | omega)
  · rw [scaF_2]; unfold sc2
    repeat' (first | with_reducible refine Nat.or_lt_two_pow (n := 16) ?_ ?_ | omega)
  · rw [scaF_3]; unfold sc3
    repeat' (first | with_reducible refine Nat.or_lt_two_pow (n := 16) ?_ ?_ | omega)
  · rw [scaF_4]; unfold sc4
    repeat' (first | with_reducible refine Nat.or_lt_two_pow (n := 16) ?_ ?_ | omega)
  · rw [scaF_5]; unfold sc5
    repeat' (first | with_reducible refine Nat.or_lt_two_pow (n := 16) ?_ ?_ | omega)
  · rw [scaF_6]; unfold sc6
    repeat' (first | with_reducible refine Nat.or_lt_two_pow (n := 16) ?_ ?_ | omega)
  · rw [scaF_7]; unfold sc7
    repeat' (first | with_reducible refine Nat.or_lt_two_pow (n := 16) ?_ ?_ | omega)
  · rw [scaF_8]; unfold sc8
    repeat' (first | with_reducible refine Nat.or_lt_two_pow (n := 16) ?_ ?_ | omega)
  · rw [scaF_9]; unfold sc9
    repeat' (first | with_reducible refine Nat.or_lt_two_pow (n := 16) ?_ ?_ | omega)
  · rw [scaF_10]; unfold sc10
    repeat' (first | with_reducible refine Nat.or_lt_two_pow (n := 16) ?_ ?_ | omega)
  · rw [scaF_11]; unfold sc11
    repeat' (first | with_reducible refine Nat.or_lt_two_pow (n := 16) ?_ ?_ | omega)
  · rw [scaF_12]; unfold sc12
    repeat' (first | with_reducible refine Nat.or_lt_two_pow (n := 16) ?_ ?_ | omega)
theorem plF_lt (f n : Nat) (hn : n < 4294967296) (hf : f < 6) : plF f n < 4294967296 := by
  have hc : f = 0 ∨ f = 1 ∨ f = 2 ∨ f = 3 ∨ f = 4 ∨ f = 5 := by omega
  rcases hc with rfl | rfl | rfl | rfl | rfl | rfl
  · rw [plF_0]; decide
  · rw [plF_1]; unfold pl1
    repeat' (first | with_reducible refine Nat.or_lt_two_pow (n := 32) ?_ ?_ | omega)
  · rw [plF_2]; unfold pl2
    repeat' (first | with_reducible refine Nat.or_lt_two_pow (n := 32) ?_ ?_ | omega)
  · rw [plF_3]; unfold pl3
    repeat' (first | with_reducible refine Nat.or_lt_two_pow (n := 32) ?_ ?_ | omega)
  · rw [plF_4]; unfold pl4
    repeat' (first | with_reducible refine Nat.or_lt_two_pow (n := 32) ?_ ?_ | omega)
  · rw [plF_5]; unfold pl5
    repeat' (first | with_reducible refine Nat.or_lt_two_pow (n := 32) ?_ ?_ | omega)
theorem taF_lt (f n : Nat) (hn : n < 4294967296) (hf : f < 6) : taF f n < 4294967296 := by
  have hc : f = 0 ∨ f = 1 ∨ f = 2 ∨ f = 3 ∨ f = 4 ∨ f = 5 := by omega
  rcases hc with rfl | rfl | rfl | rfl | rfl | rfl
  · rw [taF_0]; decide
  · rw [taF_1]; unfold ta1
    repeat' (first | with_reducible refine Nat.or_lt_two_pow (n := 32) ?_ ?_ | omega)
  · rw [taF_2]; unfold ta2
    repeat' (first | with_reducible refine Nat.or_lt_two_pow (n := 32) ?_ ?_ | omega)
  · rw [taF_3]; unfold ta3
    repeat' (first | with_reducible refine Nat.or_lt_two_pow (n := 32) ?_ ?_ | omega)
  · rw [taF_4]; unfold ta4
    repeat' (first | with_reducible refine Nat.or_lt_two_pow (n := 32) ?_ ?_ | omega)
  · rw [taF_5]; unfold ta5
    repeat' (first | with_reducible refine Nat.or_lt_two_pow (n := 32) ?_ ?_ | omega)
end Go.Proofs.YtcfeeookjgdkmaaDoor
