/- The contracts of gather and scatter, for each immediate. -/
import Derived.Test.YtcfeeookjgdkmaaDoorB2
import Derived.LoopN
namespace Go.Proofs.YtcfeeookjgdkmaaDoor
open Go.ChangeShapes Go.WideShapes Go.ChangeAt Go.RowKit
set_option linter.unusedVariables false
set_option linter.unusedSimpArgs false

theorem wid_5 (n : Nat) (h : n < 64) : (wrap32 ((n : Int) * 67108864 % 4294967296) / 67108864) % 4294967296 = ((wid 5 n : Nat) : Int) := by
  unfold wid wrap32
  rw [show 2 ^ 5 = 32 from rfl, show 2 ^ (5 + 1) = 64 from rfl]
  by_cases hc : n < 32
  · rw [if_pos hc]; omega
  · rw [if_neg hc]; omega
theorem wid_8 (n : Nat) (h : n < 512) : (wrap32 ((n : Int) * 8388608 % 4294967296) / 8388608) % 4294967296 = ((wid 8 n : Nat) : Int) := by
  unfold wid wrap32
  rw [show 2 ^ 8 = 256 from rfl, show 2 ^ (8 + 1) = 512 from rfl]
  by_cases hc : n < 256
  · rw [if_pos hc]; omega
  · rw [if_neg hc]; omega
theorem wid_9 (n : Nat) (h : n < 1024) : (wrap32 ((n : Int) * 4194304 % 4294967296) / 4194304) % 4294967296 = ((wid 9 n : Nat) : Int) := by
  unfold wid wrap32
  rw [show 2 ^ 9 = 512 from rfl, show 2 ^ (9 + 1) = 1024 from rfl]
  by_cases hc : n < 512
  · rw [if_pos hc]; omega
  · rw [if_neg hc]; omega
theorem wid_11 (n : Nat) (h : n < 4096) : (wrap32 ((n : Int) * 1048576 % 4294967296) / 1048576) % 4294967296 = ((wid 11 n : Nat) : Int) := by
  unfold wid wrap32
  rw [show 2 ^ 11 = 2048 from rfl, show 2 ^ (11 + 1) = 4096 from rfl]
  by_cases hc : n < 2048
  · rw [if_pos hc]; omega
  · rw [if_neg hc]; omega
end Go.Proofs.YtcfeeookjgdkmaaDoor
