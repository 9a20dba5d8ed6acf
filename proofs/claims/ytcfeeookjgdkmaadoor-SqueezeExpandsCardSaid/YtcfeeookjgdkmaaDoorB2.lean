/- The contracts of place and take. -/
import Derived.Test.YtcfeeookjgdkmaaDoorB1
import Derived.Test.YtcfeeookjgdkmaaDoorM3
namespace Go.Proofs.YtcfeeookjgdkmaaDoor
open Go.ChangeShapes Go.WideShapes Go.ChangeAt Go.RowKit
set_option linter.unusedVariables false
set_option linter.unusedSimpArgs false

/-- A word as a number. -/
def IsU (z : Int) (n : Nat) : Prop := z = (n : Int) ∧ n < 4294967296
theorem IsU.left {z : Int} {n : Nat} (h : IsU z n) : z = (n : Int) := h.1
theorem isU_or {z y : Int} {n m : Nat} (h1 : IsU z n) (h2 : IsU y m) : IsU (bits .or .u32 z y) (n ||| m) := by
  obtain ⟨rfl, h1⟩ := h1
  obtain ⟨rfl, h2⟩ := h2
  exact ⟨u32_or_nat _ _ h1 h2, Nat.or_lt_two_pow (n := 32) h1 h2⟩
def IsH (z : Int) (n : Nat) : Prop := z = (n : Int) ∧ n < 65536
theorem IsH.left {z : Int} {n : Nat} (h : IsH z n) : z = (n : Int) := h.1
theorem isH_or {z y : Int} {n m : Nat} (h1 : IsH z n) (h2 : IsH y m) : IsH (bits .or .u16 z y) (n ||| m) := by
  obtain ⟨rfl, h1⟩ := h1
  obtain ⟨rfl, h2⟩ := h2
  exact ⟨u16_or_nat _ _ h1 h2, Nat.or_lt_two_pow (n := 16) h1 h2⟩
theorem place_0 (n : Nat) (hn : Hid (n < 4294967296)) (w : World) : Calls Tryd.prog 38 #[.int .u8 0, .int .u32 n] w (RetUX (plF 0 n) w) := by
  go_enter Tryd.func38, Tryd.ntmps38
  go_wp2_with fail
  go_ret
  have hn' := hn.out
  refine retUX_mk (b := plF 0 n) ?_
  rw [plF_0]
  refine IsU.left ?_
  repeat' (first | with_reducible refine isU_or ?_ ?_ | exact ⟨by omega, by omega⟩)
theorem place_1 (n : Nat) (hn : Hid (n < 4294967296)) (w : World) : Calls Tryd.prog 38 #[.int .u8 1, .int .u32 n] w (RetUX (plF 1 n) w) := by
  go_enter Tryd.func38, Tryd.ntmps38
  go_wp2_with fail
  go_ret
  have hn' := hn.out
  refine retUX_mk (b := plF 1 n) ?_
  rw [plF_1]
  refine IsU.left ?_
  unfold pl1
  repeat' (first | with_reducible refine isU_or ?_ ?_ | exact ⟨by omega, by omega⟩)
theorem place_2 (n : Nat) (hn : Hid (n < 4294967296)) (w : World) : Calls Tryd.prog 38 #[.int .u8 2, .int .u32 n] w (RetUX (plF 2 n) w) := by
  go_enter Tryd.func38, Tryd.ntmps38
  go_wp2_with fail
  refine (field_0_5 n hn _).mono ?_; rintro e w1 ⟨rfl, rfl⟩
  go_wp2_with fail
  go_ret
  have hn' := hn.out
  refine retUX_mk (b := plF 2 n) ?_
  rw [plF_2]
  refine IsU.left ?_
  unfold pl2
  repeat' (first | with_reducible refine isU_or ?_ ?_ | exact ⟨by omega, by omega⟩)
theorem place_3 (n : Nat) (hn : Hid (n < 4294967296)) (w : World) : Calls Tryd.prog 38 #[.int .u8 3, .int .u32 n] w (RetUX (plF 3 n) w) := by
  go_enter Tryd.func38, Tryd.ntmps38
  go_wp2_with fail
  refine (field_12_1 n hn _).mono ?_; rintro e w1 ⟨rfl, rfl⟩
  go_wp2_with fail
  refine (field_5_6 n hn _).mono ?_; rintro e w2 ⟨rfl, rfl⟩
  go_wp2_with fail
  refine (field_1_4 n hn _).mono ?_; rintro e w3 ⟨rfl, rfl⟩
  go_wp2_with fail
  refine (field_11_1 n hn _).mono ?_; rintro e w4 ⟨rfl, rfl⟩
  go_wp2_with fail
  go_ret
  have hn' := hn.out
  refine retUX_mk (b := plF 3 n) ?_
  rw [plF_3]
  refine IsU.left ?_
  unfold pl3
  repeat' (first | with_reducible refine isU_or ?_ ?_ | exact ⟨by omega, by omega⟩)
theorem place_4 (n : Nat) (hn : Hid (n < 4294967296)) (w : World) : Calls Tryd.prog 38 #[.int .u8 4, .int .u32 n] w (RetUX (plF 4 n) w) := by
  go_enter Tryd.func38, Tryd.ntmps38
  go_wp2_with fail
  go_ret
  have hn' := hn.out
  refine retUX_mk (b := plF 4 n) ?_
  rw [plF_4]
  refine IsU.left ?_
  unfold pl4
  repeat' (first | with_reducible refine isU_or ?_ ?_ | exact ⟨by omega, by omega⟩)
theorem place_5 (n : Nat) (hn : Hid (n < 4294967296)) (w : World) : Calls Tryd.prog 38 #[.int .u8 5, .int .u32 n] w (RetUX (plF 5 n) w) := by
  go_enter Tryd.func38, Tryd.ntmps38
  go_wp2_with fail
  refine (field_20_1 n hn _).mono ?_; rintro e w1 ⟨rfl, rfl⟩
  go_wp2_with fail
  refine (field_1_10 n hn _).mono ?_; rintro e w2 ⟨rfl, rfl⟩
  go_wp2_with fail
  refine (field_11_1 n hn _).mono ?_; rintro e w3 ⟨rfl, rfl⟩
  go_wp2_with fail
  refine (field_12_8 n hn _).mono ?_; rintro e w4 ⟨rfl, rfl⟩
  go_wp2_with fail
  go_ret
  have hn' := hn.out
  refine retUX_mk (b := plF 5 n) ?_
  rw [plF_5]
  refine IsU.left ?_
  unfold pl5
  repeat' (first | with_reducible refine isU_or ?_ ?_ | exact ⟨by omega, by omega⟩)
theorem place_c (f n : Nat) (hf : f < 6) (hn : Hid (n < 4294967296)) (w : World) : Calls Tryd.prog 38 #[.int .u8 f, .int .u32 n] w (RetUX (plF f n) w) := by
  have h : f = 0 ∨ f = 1 ∨ f = 2 ∨ f = 3 ∨ f = 4 ∨ f = 5 := by omega
  rcases h with rfl | rfl | rfl | rfl | rfl | rfl
  · exact place_0 n hn w
  · exact place_1 n hn w
  · exact place_2 n hn w
  · exact place_3 n hn w
  · exact place_4 n hn w
  · exact place_5 n hn w
theorem take_0 (n : Nat) (hn : Hid (n < 4294967296)) (w : World) : Calls Tryd.prog 43 #[.int .u8 0, .int .u32 n] w (RetUX (taF 0 n) w) := by
  go_enter Tryd.func43, Tryd.ntmps43
  go_wp2_with fail
  go_ret
  have hn' := hn.out
  refine retUX_mk (b := taF 0 n) ?_
  rw [taF_0]
  refine IsU.left ?_
  repeat' (first | with_reducible refine isU_or ?_ ?_ | exact ⟨by omega, by omega⟩)
theorem take_1 (n : Nat) (hn : Hid (n < 4294967296)) (w : World) : Calls Tryd.prog 43 #[.int .u8 1, .int .u32 n] w (RetUX (taF 1 n) w) := by
  go_enter Tryd.func43, Tryd.ntmps43
  go_wp2_with fail
  go_ret
  have hn' := hn.out
  refine retUX_mk (b := taF 1 n) ?_
  rw [taF_1]
  refine IsU.left ?_
  unfold ta1
  repeat' (first | with_reducible refine isU_or ?_ ?_ | exact ⟨by omega, by omega⟩)
theorem take_2 (n : Nat) (hn : Hid (n < 4294967296)) (w : World) : Calls Tryd.prog 43 #[.int .u8 2, .int .u32 n] w (RetUX (taF 2 n) w) := by
  go_enter Tryd.func43, Tryd.ntmps43
  go_wp2_with fail
  refine (field_7_5 n hn _).mono ?_; rintro e w1 ⟨rfl, rfl⟩
  go_wp2_with fail
  go_ret
  have hn' := hn.out
  refine retUX_mk (b := taF 2 n) ?_
  rw [taF_2]
  refine IsU.left ?_
  unfold ta2
  repeat' (first | with_reducible refine isU_or ?_ ?_ | exact ⟨by omega, by omega⟩)
theorem take_3 (n : Nat) (hn : Hid (n < 4294967296)) (w : World) : Calls Tryd.prog 43 #[.int .u8 3, .int .u32 n] w (RetUX (taF 3 n) w) := by
  go_enter Tryd.func43, Tryd.ntmps43
  go_wp2_with fail
  refine (field_25_6 n hn _).mono ?_; rintro e w1 ⟨rfl, rfl⟩
  go_wp2_with fail
  refine (field_8_4 n hn _).mono ?_; rintro e w2 ⟨rfl, rfl⟩
  go_wp2_with fail
  go_ret
  have hn' := hn.out
  refine retUX_mk (b := taF 3 n) ?_
  rw [taF_3]
  refine IsU.left ?_
  unfold ta3
  repeat' (first | with_reducible refine isU_or ?_ ?_ | exact ⟨by omega, by omega⟩)
theorem take_4 (n : Nat) (hn : Hid (n < 4294967296)) (w : World) : Calls Tryd.prog 43 #[.int .u8 4, .int .u32 n] w (RetUX (taF 4 n) w) := by
  go_enter Tryd.func43, Tryd.ntmps43
  go_wp2_with fail
  go_ret
  have hn' := hn.out
  refine retUX_mk (b := taF 4 n) ?_
  rw [taF_4]
  refine IsU.left ?_
  unfold ta4
  repeat' (first | with_reducible refine isU_or ?_ ?_ | exact ⟨by omega, by omega⟩)
theorem take_5 (n : Nat) (hn : Hid (n < 4294967296)) (w : World) : Calls Tryd.prog 43 #[.int .u8 5, .int .u32 n] w (RetUX (taF 5 n) w) := by
  go_enter Tryd.func43, Tryd.ntmps43
  go_wp2_with fail
  refine (field_20_1 n hn _).mono ?_; rintro e w1 ⟨rfl, rfl⟩
  go_wp2_with fail
  refine (field_21_10 n hn _).mono ?_; rintro e w2 ⟨rfl, rfl⟩
  go_wp2_with fail
  go_ret
  have hn' := hn.out
  refine retUX_mk (b := taF 5 n) ?_
  rw [taF_5]
  refine IsU.left ?_
  unfold ta5
  repeat' (first | with_reducible refine isU_or ?_ ?_ | exact ⟨by omega, by omega⟩)
theorem take_c (f n : Nat) (hf : f < 6) (hn : Hid (n < 4294967296)) (w : World) : Calls Tryd.prog 43 #[.int .u8 f, .int .u32 n] w (RetUX (taF f n) w) := by
  have h : f = 0 ∨ f = 1 ∨ f = 2 ∨ f = 3 ∨ f = 4 ∨ f = 5 := by omega
  rcases h with rfl | rfl | rfl | rfl | rfl | rfl
  · exact take_0 n hn w
  · exact take_1 n hn w
  · exact take_2 n hn w
  · exact take_3 n hn w
  · exact take_4 n hn w
  · exact take_5 n hn w
end Go.Proofs.YtcfeeookjgdkmaaDoor
