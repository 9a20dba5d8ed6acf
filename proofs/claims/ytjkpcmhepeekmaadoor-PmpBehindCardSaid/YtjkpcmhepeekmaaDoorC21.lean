/- PmpBehind for any access. -/
import Derived.Test.YtjkpcmhepeekmaaDoorC2
namespace Go.Proofs.YtjkpcmhepeekmaaDoor
open Go.ChangeShapes Go.WideShapes Go.ChangeAt Go.RowKit
set_option linter.unusedVariables false
set_option linter.unusedSimpArgs false
theorem behind_any (c a d b : Nat → Nat) (mode kind : Int) (x : Nat) (size : Int) (hc : Hid (OkC c)) (ha : Hid (OkA a)) (hd : Hid (OkC d)) (hb : Hid (OkA b)) (hx : Hid (x < 18446744073709551616)) (w : World) (hG : Hid (G w)) :
    Calls Tryd.prog 6 #[.agg (u8s c), .agg (u64s a), .agg (u8s d), .agg (u64s b), .int .i64 mode, .int .i64 kind, .int .u64 x, .int .i64 size] w (RetB true w) := by
  by_cases h0 : size < 1
  · exact behind_1 c a d b mode kind x size h0 w hG
  · by_cases h1 : size > 8
    · exact behind_2 c a d b mode kind x size h0 h1 w hG
    · by_cases h2 : x ≤ 9223372036854775808
      · have h2' : decide ((9223372036854775808 : Int) < (x : Int)) = false := by rw [decide_eq_false_iff_not]; omega
        by_cases h3 : kind < 0
        · exact behind_4 c a d b mode kind x size h0 h1 h2' h3 w hG
        · by_cases h4 : kind > 3
          · exact behind_5 c a d b mode kind x size h0 h1 h2' h3 h4 w hG
          · obtain ⟨s, rfl⟩ : ∃ s : Nat, size = s := ⟨size.toNat, by omega⟩
            exact behind_core c a d b mode kind x s (by omega) h2 (by omega) hc ha hd hb w hG
      · exact behind_3 c a d b mode kind x size h0 h1 (by rw [decide_eq_true_eq]; omega) w hG
end Go.Proofs.YtjkpcmhepeekmaaDoor
