/- AluTurns, of whatever its calls tell. -/
import Derived.Test.YtbbgcjdflcfnjaaF2
import Derived.BigGuardPart
namespace Go.Proofs.Ytbbgcjdflcfnjaa
open Go.ChangeShapes Go.WideShapes Go.ChangeAt Go.RowKit
set_option linter.unusedVariables false
set_option linter.unusedSimpArgs false
set_option maxRecDepth 100000 in
set_option maxHeartbeats 8000000 in
theorem turns_core (a b s l r sh p q n v : Nat) (x y z : Bool)
    (D1 : Hid (∀ w, Calls Try.prog 11 #[.int .i64 13, .bool false, .int .u64 a, .int .u64 b] w (RetN s true w))) (D2 : Hid (∀ w, Calls Try.prog 11 #[.int .i64 14, .bool false, .int .u64 s, .int .u64 b] w (RetN a true w))) (D3 : Hid (∀ w, Calls Try.prog 11 #[.int .i64 15, .bool false, .int .u64 a, .int .u64 b] w (RetN l true w))) (D4 : Hid (∀ w, Calls Try.prog 11 #[.int .i64 19, .bool false, .int .u64 l, .int .u64 b] w (RetN r true w))) (D5 : Hid (∀ w, Calls Try.prog 14 #[.int .i64 7, .int .u64 a, .int .u64 b] w (RetC x true w))) (D6 : Hid (∀ w, Calls Try.prog 14 #[.int .i64 8, .int .u64 a, .int .u64 b] w (RetC (!x) true w))) (D7 : Hid (∀ w, Calls Try.prog 14 #[.int .i64 5, .int .u64 a, .int .u64 b] w (RetC y true w))) (D8 : Hid (∀ w, Calls Try.prog 14 #[.int .i64 6, .int .u64 a, .int .u64 b] w (RetC (!y) true w))) (D9 : Hid (∀ w, Calls Try.prog 14 #[.int .i64 9, .int .u64 a, .int .u64 b] w (RetC z true w))) (D10 : Hid (∀ w, Calls Try.prog 14 #[.int .i64 10, .int .u64 a, .int .u64 b] w (RetC (!z) true w))) (D11 : Hid (∀ w, Calls Try.prog 16 #[.int .i64 45, .int .i64 8, .int .u64 a, .int .u64 b] w (RetN p true w))) (D12 : Hid (∀ w, Calls Try.prog 16 #[.int .i64 46, .int .i64 8, .int .u64 a, .int .u64 b] w (RetN q true w))) (D13 : Hid (∀ w, Calls Try.prog 11 #[.int .i64 16, .bool false, .int .u64 a, .int .u64 b] w (RetN n true w)))
    (e63 : bits .and .u64 (b : Int) 63 = (sh : Int)) (hsh : sh < 64)
    (el : IntKind.u64.wrap ((a : Int) * 2 ^ sh) / 2 ^ sh = (r : Int))
    (ey : ((a : Int) == (b : Int)) = y) (ey2 : ((b : Int) == (a : Int)) = y)
    (n1 : x = true → n = 1 ∧ p = a ∧ q = b) (n0 : x = false → n = 0 ∧ p = b ∧ q = a)
    (v1 : bits .xor .u64 (a : Int) (b : Int) = (v : Int)) (v2 : bits .xor .u64 (b : Int) (a : Int) = (v : Int))
    (w : World) : Calls Try.prog 10 #[.int .u64 a, .int .u64 b] w (RetB true w) := by
  cases x <;> cases y <;> cases z
  all_goals (
    first | (obtain ⟨rfl, rfl, rfl⟩ := n1 rfl) | (obtain ⟨rfl, rfl, rfl⟩ := n0 rfl)
    clear n1 n0
    go_enter Try.func10, Try.ntmps10
    go_wp2_with fail
    refine (D1.out _).mono ?_; rintro e w1 ⟨rfl, hb1⟩
    go_wp2_with fail
    refine (D2.out _).mono ?_; rintro e w2 ⟨rfl, hb2⟩
    go_wp2_with fail
    refine (D3.out _).mono ?_; rintro e w3 ⟨rfl, hb3⟩
    go_wp2_with fail
    refine (D4.out _).mono ?_; rintro e w4 ⟨rfl, hb4⟩
    go_wp2_with fail
    refine (D5.out _).mono ?_; rintro e w5 ⟨rfl, hb5⟩
    go_wp2_with fail
    refine (D6.out _).mono ?_; rintro e w6 ⟨rfl, hb6⟩
    go_wp2_with fail
    refine (D7.out _).mono ?_; rintro e w7 ⟨rfl, hb7⟩
    go_wp2_with fail
    refine (D8.out _).mono ?_; rintro e w8 ⟨rfl, hb8⟩
    go_wp2_with fail
    refine (D9.out _).mono ?_; rintro e w9 ⟨rfl, hb9⟩
    go_wp2_with fail
    refine (D10.out _).mono ?_; rintro e w10 ⟨rfl, hb10⟩
    go_wp2_with fail
    refine (D11.out _).mono ?_; rintro e w11 ⟨rfl, hb11⟩
    go_wp2_with fail
    refine (D12.out _).mono ?_; rintro e w12 ⟨rfl, hb12⟩
    go_wp2_with fail
    refine (D13.out _).mono ?_; rintro e w13 ⟨rfl, hb13⟩
    go_wp2_with fail
    refine (fixed_c _).mono ?_; rintro e w14 ⟨rfl, hb14⟩
    go_wp2_with fail
    go_ret
    exact retB_mk (by first | rfl | simp) (by repeat (first | (with_reducible first | exact Below.refl _ _ | assumption | exact Nat.le_refl _ | refine Below.drew ?_ | refine Below.alloc ?_ ?_ _ | refine below_drewN ?_ _ | refine Below.setCell ?_ ?_ _ | refine le_alloc ?_ | refine le_set ?_ | refine le_drew ?_ | refine le_drewN ?_ | refine below_step (by assumption) ?_ ?_ | refine le_below (by assumption) ?_) | (dsimp only; omega))))
end Go.Proofs.Ytbbgcjdflcfnjaa
