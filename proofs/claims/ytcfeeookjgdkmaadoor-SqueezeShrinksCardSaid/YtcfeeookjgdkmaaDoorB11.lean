/- The table, place by place. -/
import Derived.Test.YtcfeeookjgdkmaaDoorB8
namespace Go.Proofs.YtcfeeookjgdkmaaDoor
open Go.ChangeShapes Go.WideShapes Go.ChangeAt Go.RowKit Go.Sort
set_option linter.unusedVariables false
set_option linter.unusedSimpArgs false

theorem ix_0 (w : World) : (Instr.index 35 (.agg (cellsT rowsL)) (.int .i64 0)).run Tryd.prog w = .ok (.agg #[.int .u16 57347, .int .u16 0, .int .u16 8160, .int .u32 65555, .int .u8 4, .int .u8 1, .int .u8 1]) w := by kernel_rfl
theorem ix_1 (w : World) : (Instr.index 35 (.agg (cellsT rowsL)) (.int .i64 1)).run Tryd.prog w = .ok (.agg #[.int .u16 57347, .int .u16 8192, .int .u16 0, .int .u32 12295, .int .u8 20, .int .u8 2, .int .u8 1]) w := by kernel_rfl
theorem ix_2 (w : World) : (Instr.index 35 (.agg (cellsT rowsL)) (.int .i64 2)).run Tryd.prog w = .ok (.agg #[.int .u16 57347, .int .u16 16384, .int .u16 0, .int .u32 8195, .int .u8 20, .int .u8 3, .int .u8 1]) w := by kernel_rfl
theorem ix_3 (w : World) : (Instr.index 35 (.agg (cellsT rowsL)) (.int .i64 3)).run Tryd.prog w = .ok (.agg #[.int .u16 57347, .int .u16 24576, .int .u16 0, .int .u32 12291, .int .u8 20, .int .u8 2, .int .u8 1]) w := by kernel_rfl
theorem ix_4 (w : World) : (Instr.index 35 (.agg (cellsT rowsL)) (.int .i64 4)).run Tryd.prog w = .ok (.agg #[.int .u16 57347, .int .u16 40960, .int .u16 0, .int .u32 12327, .int .u8 80, .int .u8 2, .int .u8 2]) w := by kernel_rfl
theorem ix_5 (w : World) : (Instr.index 35 (.agg (cellsT rowsL)) (.int .i64 5)).run Tryd.prog w = .ok (.agg #[.int .u16 57347, .int .u16 49152, .int .u16 0, .int .u32 8227, .int .u8 80, .int .u8 3, .int .u8 2]) w := by kernel_rfl
theorem ix_6 (w : World) : (Instr.index 35 (.agg (cellsT rowsL)) (.int .i64 6)).run Tryd.prog w = .ok (.agg #[.int .u16 57347, .int .u16 57344, .int .u16 0, .int .u32 12323, .int .u8 80, .int .u8 2, .int .u8 2]) w := by kernel_rfl
theorem ix_7 (w : World) : (Instr.index 35 (.agg (cellsT rowsL)) (.int .i64 7)).run Tryd.prog w = .ok (.agg #[.int .u16 57347, .int .u16 1, .int .u16 0, .int .u32 19, .int .u8 9, .int .u8 4, .int .u8 1]) w := by kernel_rfl
theorem ix_8 (w : World) : (Instr.index 35 (.agg (cellsT rowsL)) (.int .i64 8)).run Tryd.prog w = .ok (.agg #[.int .u16 57347, .int .u16 8193, .int .u16 3968, .int .u32 27, .int .u8 9, .int .u8 4, .int .u8 1]) w := by kernel_rfl
theorem ix_9 (w : World) : (Instr.index 35 (.agg (cellsT rowsL)) (.int .i64 9)).run Tryd.prog w = .ok (.agg #[.int .u16 57347, .int .u16 16385, .int .u16 0, .int .u32 19, .int .u8 1, .int .u8 4, .int .u8 1]) w := by kernel_rfl
theorem ix_10 (w : World) : (Instr.index 35 (.agg (cellsT rowsL)) (.int .i64 10)).run Tryd.prog w = .ok (.agg #[.int .u16 61315, .int .u16 24833, .int .u16 4220, .int .u32 65811, .int .u8 0, .int .u8 6, .int .u8 1]) w := by kernel_rfl
theorem ix_11 (w : World) : (Instr.index 35 (.agg (cellsT rowsL)) (.int .i64 11)).run Tryd.prog w = .ok (.agg #[.int .u16 57347, .int .u16 24577, .int .u16 4220, .int .u32 55, .int .u8 1, .int .u8 4, .int .u8 4]) w := by kernel_rfl
theorem ix_12 (w : World) : (Instr.index 35 (.agg (cellsT rowsL)) (.int .i64 12)).run Tryd.prog w = .ok (.agg #[.int .u16 60419, .int .u16 32769, .int .u16 0, .int .u32 20499, .int .u8 18, .int .u8 5, .int .u8 1]) w := by kernel_rfl
theorem ix_13 (w : World) : (Instr.index 35 (.agg (cellsT rowsL)) (.int .i64 13)).run Tryd.prog w = .ok (.agg #[.int .u16 60419, .int .u16 33793, .int .u16 0, .int .u32 1073762323, .int .u8 18, .int .u8 5, .int .u8 1]) w := by kernel_rfl
theorem ix_14 (w : World) : (Instr.index 35 (.agg (cellsT rowsL)) (.int .i64 14)).run Tryd.prog w = .ok (.agg #[.int .u16 60419, .int .u16 34817, .int .u16 0, .int .u32 28691, .int .u8 18, .int .u8 4, .int .u8 1]) w := by kernel_rfl
theorem ix_15 (w : World) : (Instr.index 35 (.agg (cellsT rowsL)) (.int .i64 15)).run Tryd.prog w = .ok (.agg #[.int .u16 64611, .int .u16 35841, .int .u16 0, .int .u32 1073741875, .int .u8 82, .int .u8 0, .int .u8 0]) w := by kernel_rfl
theorem ix_16 (w : World) : (Instr.index 35 (.agg (cellsT rowsL)) (.int .i64 16)).run Tryd.prog w = .ok (.agg #[.int .u16 64611, .int .u16 35873, .int .u16 0, .int .u32 16435, .int .u8 82, .int .u8 0, .int .u8 0]) w := by kernel_rfl
theorem ix_17 (w : World) : (Instr.index 35 (.agg (cellsT rowsL)) (.int .i64 17)).run Tryd.prog w = .ok (.agg #[.int .u16 64611, .int .u16 35905, .int .u16 0, .int .u32 24627, .int .u8 82, .int .u8 0, .int .u8 0]) w := by kernel_rfl
theorem ix_18 (w : World) : (Instr.index 35 (.agg (cellsT rowsL)) (.int .i64 18)).run Tryd.prog w = .ok (.agg #[.int .u16 64611, .int .u16 35937, .int .u16 0, .int .u32 28723, .int .u8 82, .int .u8 0, .int .u8 0]) w := by kernel_rfl
theorem ix_19 (w : World) : (Instr.index 35 (.agg (cellsT rowsL)) (.int .i64 19)).run Tryd.prog w = .ok (.agg #[.int .u16 64611, .int .u16 39937, .int .u16 0, .int .u32 1073741883, .int .u8 82, .int .u8 0, .int .u8 0]) w := by kernel_rfl
theorem ix_20 (w : World) : (Instr.index 35 (.agg (cellsT rowsL)) (.int .i64 20)).run Tryd.prog w = .ok (.agg #[.int .u16 64611, .int .u16 39969, .int .u16 0, .int .u32 59, .int .u8 82, .int .u8 0, .int .u8 0]) w := by kernel_rfl
theorem ix_21 (w : World) : (Instr.index 35 (.agg (cellsT rowsL)) (.int .i64 21)).run Tryd.prog w = .ok (.agg #[.int .u16 57347, .int .u16 40961, .int .u16 0, .int .u32 111, .int .u8 0, .int .u8 7, .int .u8 5]) w := by kernel_rfl
theorem ix_22 (w : World) : (Instr.index 35 (.agg (cellsT rowsL)) (.int .i64 22)).run Tryd.prog w = .ok (.agg #[.int .u16 57347, .int .u16 49153, .int .u16 0, .int .u32 99, .int .u8 16, .int .u8 8, .int .u8 3]) w := by kernel_rfl
theorem ix_23 (w : World) : (Instr.index 35 (.agg (cellsT rowsL)) (.int .i64 23)).run Tryd.prog w = .ok (.agg #[.int .u16 57347, .int .u16 57345, .int .u16 0, .int .u32 4195, .int .u8 16, .int .u8 8, .int .u8 3]) w := by kernel_rfl
theorem ix_24 (w : World) : (Instr.index 35 (.agg (cellsT rowsL)) (.int .i64 24)).run Tryd.prog w = .ok (.agg #[.int .u16 57347, .int .u16 2, .int .u16 0, .int .u32 4115, .int .u8 9, .int .u8 5, .int .u8 1]) w := by kernel_rfl
theorem ix_25 (w : World) : (Instr.index 35 (.agg (cellsT rowsL)) (.int .i64 25)).run Tryd.prog w = .ok (.agg #[.int .u16 57347, .int .u16 8194, .int .u16 0, .int .u32 77831, .int .u8 1, .int .u8 9, .int .u8 1]) w := by kernel_rfl
theorem ix_26 (w : World) : (Instr.index 35 (.agg (cellsT rowsL)) (.int .i64 26)).run Tryd.prog w = .ok (.agg #[.int .u16 57347, .int .u16 16386, .int .u16 3968, .int .u32 73731, .int .u8 1, .int .u8 10, .int .u8 1]) w := by kernel_rfl
theorem ix_27 (w : World) : (Instr.index 35 (.agg (cellsT rowsL)) (.int .i64 27)).run Tryd.prog w = .ok (.agg #[.int .u16 57347, .int .u16 24578, .int .u16 3968, .int .u32 77827, .int .u8 1, .int .u8 9, .int .u8 1]) w := by kernel_rfl
theorem ix_28 (w : World) : (Instr.index 35 (.agg (cellsT rowsL)) (.int .i64 28)).run Tryd.prog w = .ok (.agg #[.int .u16 61567, .int .u16 32770, .int .u16 3968, .int .u32 103, .int .u8 8, .int .u8 0, .int .u8 0]) w := by kernel_rfl
theorem ix_29 (w : World) : (Instr.index 35 (.agg (cellsT rowsL)) (.int .i64 29)).run Tryd.prog w = .ok (.agg #[.int .u16 61443, .int .u16 32770, .int .u16 124, .int .u32 51, .int .u8 33, .int .u8 0, .int .u8 0]) w := by kernel_rfl
theorem ix_30 (w : World) : (Instr.index 35 (.agg (cellsT rowsL)) (.int .i64 30)).run Tryd.prog w = .ok (.agg #[.int .u16 65535, .int .u16 36866, .int .u16 0, .int .u32 1048691, .int .u8 0, .int .u8 0, .int .u8 0]) w := by kernel_rfl
theorem ix_31 (w : World) : (Instr.index 35 (.agg (cellsT rowsL)) (.int .i64 31)).run Tryd.prog w = .ok (.agg #[.int .u16 61567, .int .u16 36866, .int .u16 3968, .int .u32 231, .int .u8 8, .int .u8 0, .int .u8 0]) w := by kernel_rfl
theorem ix_32 (w : World) : (Instr.index 35 (.agg (cellsT rowsL)) (.int .i64 32)).run Tryd.prog w = .ok (.agg #[.int .u16 61443, .int .u16 36866, .int .u16 124, .int .u32 51, .int .u8 41, .int .u8 0, .int .u8 0]) w := by kernel_rfl
theorem ix_33 (w : World) : (Instr.index 35 (.agg (cellsT rowsL)) (.int .i64 33)).run Tryd.prog w = .ok (.agg #[.int .u16 57347, .int .u16 40962, .int .u16 0, .int .u32 77863, .int .u8 32, .int .u8 11, .int .u8 2]) w := by kernel_rfl
theorem ix_34 (w : World) : (Instr.index 35 (.agg (cellsT rowsL)) (.int .i64 34)).run Tryd.prog w = .ok (.agg #[.int .u16 57347, .int .u16 49154, .int .u16 0, .int .u32 73763, .int .u8 32, .int .u8 12, .int .u8 2]) w := by kernel_rfl
theorem ix_35 (w : World) : (Instr.index 35 (.agg (cellsT rowsL)) (.int .i64 35)).run Tryd.prog w = .ok (.agg #[.int .u16 57347, .int .u16 57346, .int .u16 0, .int .u32 77859, .int .u8 32, .int .u8 11, .int .u8 2]) w := by kernel_rfl
theorem ix_c (k : Nat) (hk : k < 36) (r : SRow) (hr : rowsL[k]? = some r) (w : World) : (Instr.index 35 (.agg (cellsT rowsL)) (.int .i64 k)).run Tryd.prog w = .ok (.agg (cellsS r)) w := by
  have h : k = 0 ∨ k = 1 ∨ k = 2 ∨ k = 3 ∨ k = 4 ∨ k = 5 ∨ k = 6 ∨ k = 7 ∨ k = 8 ∨ k = 9 ∨ k = 10 ∨ k = 11 ∨ k = 12 ∨ k = 13 ∨ k = 14 ∨ k = 15 ∨ k = 16 ∨ k = 17 ∨ k = 18 ∨ k = 19 ∨ k = 20 ∨ k = 21 ∨ k = 22 ∨ k = 23 ∨ k = 24 ∨ k = 25 ∨ k = 26 ∨ k = 27 ∨ k = 28 ∨ k = 29 ∨ k = 30 ∨ k = 31 ∨ k = 32 ∨ k = 33 ∨ k = 34 ∨ k = 35 := by omega
  rcases h with rfl | rfl | rfl | rfl | rfl | rfl | rfl | rfl | rfl | rfl | rfl | rfl | rfl | rfl | rfl | rfl | rfl | rfl | rfl | rfl | rfl | rfl | rfl | rfl | rfl | rfl | rfl | rfl | rfl | rfl | rfl | rfl | rfl | rfl | rfl | rfl
  · obtain rfl : _ = r := Option.some.inj hr
    exact ix_0 w
  · obtain rfl : _ = r := Option.some.inj hr
    exact ix_1 w
  · obtain rfl : _ = r := Option.some.inj hr
    exact ix_2 w
  · obtain rfl : _ = r := Option.some.inj hr
    exact ix_3 w
  · obtain rfl : _ = r := Option.some.inj hr
    exact ix_4 w
  · obtain rfl : _ = r := Option.some.inj hr
    exact ix_5 w
  · obtain rfl : _ = r := Option.some.inj hr
    exact ix_6 w
  · obtain rfl : _ = r := Option.some.inj hr
    exact ix_7 w
  · obtain rfl : _ = r := Option.some.inj hr
    exact ix_8 w
  · obtain rfl : _ = r := Option.some.inj hr
    exact ix_9 w
  · obtain rfl : _ = r := Option.some.inj hr
    exact ix_10 w
  · obtain rfl : _ = r := Option.some.inj hr
    exact ix_11 w
  · obtain rfl : _ = r := Option.some.inj hr
    exact ix_12 w
  · obtain rfl : _ = r := Option.some.inj hr
    exact ix_13 w
  · obtain rfl : _ = r := Option.some.inj hr
    exact ix_14 w
  · obtain rfl : _ = r := Option.some.inj hr
    exact ix_15 w
  · obtain rfl : _ = r := Option.some.inj hr
    exact ix_16 w
  · obtain rfl : _ = r := Option.some.inj hr
    exact ix_17 w
  · obtain rfl : _ = r := Option.some.inj hr
    exact ix_18 w
  · obtain rfl : _ = r := Option.some.inj hr
    exact ix_19 w
  · obtain rfl : _ = r := Option.some.inj hr
    exact ix_20 w
  · obtain rfl : _ = r := Option.some.inj hr
    exact ix_21 w
  · obtain rfl : _ = r := Option.some.inj hr
    exact ix_22 w
  · obtain rfl : _ = r := Option.some.inj hr
    exact ix_23 w
  · obtain rfl : _ = r := Option.some.inj hr
    exact ix_24 w
  · obtain rfl : _ = r := Option.some.inj hr
    exact ix_25 w
  · obtain rfl : _ = r := Option.some.inj hr
    exact ix_26 w
  · obtain rfl : _ = r := Option.some.inj hr
    exact ix_27 w
  · obtain rfl : _ = r := Option.some.inj hr
    exact ix_28 w
  · obtain rfl : _ = r := Option.some.inj hr
    exact ix_29 w
  · obtain rfl : _ = r := Option.some.inj hr
    exact ix_30 w
  · obtain rfl : _ = r := Option.some.inj hr
    exact ix_31 w
  · obtain rfl : _ = r := Option.some.inj hr
    exact ix_32 w
  · obtain rfl : _ = r := Option.some.inj hr
    exact ix_33 w
  · obtain rfl : _ = r := Option.some.inj hr
    exact ix_34 w
  · obtain rfl : _ = r := Option.some.inj hr
    exact ix_35 w
end Go.Proofs.YtcfeeookjgdkmaaDoor
