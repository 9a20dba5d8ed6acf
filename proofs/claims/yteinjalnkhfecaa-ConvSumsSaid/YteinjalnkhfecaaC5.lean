/- The contract of what an overflow comes to; what is kept by cut. -/
import Derived.Test.YteinjalnkhfecaaC4
import Derived.Deep.DeepCutAuto
import Derived.Deep.RegionHeld3
namespace Go.Proofs.Yteinjalnkhfecaa
open Go.ChangeShapes Go.WideShapes Go.ChangeAt Go.RowKit
set_option linter.unusedVariables false
set_option linter.unusedSimpArgs false
theorem cut_i (rm : Int) (m : Bool) (ex : Int) (x : Nat) (n : Int) (hx : Hid (x < 18446744073709551616)) (h0 : Hid (x ≠ 0)) (hn1 : 1 ≤ n) (hn2 : n ≤ 60000) (w : World) :
    Calls Try.prog 84 #[.int .i64 rm, .agg #[.bool m, .int .i64 ex, .int .u64 x], .int .i64 n] w (RetC rm m x n.toNat w) := by
  obtain ⟨n, rfl⟩ := Int.eq_ofNat_of_zero_le (by omega : 0 ≤ n)
  rw [Int.toNat_natCast]
  exact cut_c rm m ex x n hx h0 (by omega) (by omega) w
theorem cutK_le (rm : Int) (m : Bool) (x n a : Nat) (h : x < 2 ^ a) (hn : n ≤ a) : cutK rm m x n ≤ 2 ^ (a - n) := by
  unfold cutK
  have : x / 2 ^ n < 2 ^ (a - n) := by
    rw [Nat.div_lt_iff_lt_mul (Nat.two_pow_pos n), ← Nat.pow_add]
    rw [show a - n + n = a by omega]; exact h
  split <;> omega
def beyondV (d : Bool) (rm : Int) (m : Bool) : Nat := if awayV rm m 0 3 then infV d m else infV d m - 1
theorem beyond_c (d : Bool) (E F : Int) (hd : Lay d E F) (rm : Int) (m : Bool) (w : World) :
    Calls Try.prog 95 #[.agg #[.int .i64 E, .int .i64 F], .int .i64 rm, .bool m] w (RetU (beyondV d rm m) w) := by
  go_enter Try.func95, Try.ntmps95
  go_wp2_with fail
  refine (away_c rm m 0 3 (by show 0 < 18446744073709551616; decide) _).mono ?_
  rintro e w1 ⟨rfl, hb1⟩
  obtain ⟨hc1, hf1⟩ := bcell hb1; have hz1 := hb1.size; (try simp only [sz_alloc, sz_drew, sz_set] at hz1 hc1 hf1); have l1_0 : w.heap.size < w1.heap.size := (by omega); have n1_0 : ¬ w.heap.size = w1.heap.size := (by omega); have m1_0 : ¬ w1.heap.size = w.heap.size := (by omega); have k1_0 := fun o => hc1 (w.heap.size) o (by omega); have f1_0 := fun o => hf1 (w.heap.size) o (by omega); (try simp (disch := (first | rfl | omega | (simp only [sz_alloc, sz_drew, sz_set]; omega))) only [sz_alloc, sz_drew, sz_set, World.cell?_drew, World.frozen?_drew, World.cell?_alloc_at, World.cell?_alloc_past, World.frozen?_alloc_at, World.frozen?_alloc_past] at k1_0 f1_0)
  have HV : Hid (beyondV d rm m = if awayV rm m 0 3 then infV d m else infV d m - 1) := rfl
  generalize ha : awayV rm m 0 3 = a
  rw [ha] at HV; clear ha
  cases a
  · go_wp2_with fail
    refine (greatest_c d E F hd m _).mono ?_
    rintro e w2 ⟨rfl, hb2⟩
    go_wp2_with fail
    go_ret
    exact retU_mk (by rw [HV.out]; rfl) (by repeat (first | (with_reducible first | exact Below.refl _ _ | assumption | exact Nat.le_refl _ | refine Below.drew ?_ | refine Below.alloc ?_ ?_ _ | refine Below.setCell ?_ ?_ _ | refine le_alloc ?_ | refine le_set ?_ | refine le_drew ?_ | refine below_step (by assumption) ?_ ?_ | refine le_below (by assumption) ?_) | (dsimp only; omega)))
  · go_wp2_with fail
    refine (infinity_c d E F hd m _).mono ?_
    rintro e w2 ⟨rfl, hb2⟩
    go_wp2_with fail
    go_ret
    exact retU_mk (by rw [HV.out]; rfl) (by repeat (first | (with_reducible first | exact Below.refl _ _ | assumption | exact Nat.le_refl _ | refine Below.drew ?_ | refine Below.alloc ?_ ?_ _ | refine Below.setCell ?_ ?_ _ | refine le_alloc ?_ | refine le_set ?_ | refine le_drew ?_ | refine below_step (by assumption) ?_ ?_ | refine le_below (by assumption) ?_) | (dsimp only; omega)))
/-- A number of no more than 64 bits, raised so that its highest bit is the highest of 64. -/
def upV (g : Nat) : Nat := g * 2 ^ (64 - blen g)
def fracB (d : Bool) : Nat := if d then 52 else 23
/-- Rounding a number whose highest bit counts 2^top. -/
def roundY (d : Bool) (rm : Int) (m : Bool) (top : Int) (g k : Nat) (df : Bool) : Nat × Int :=
  let carry := k / 2 ^ (fracB d + 1)
  if bias d < top + carry then (beyondV d rm m, 5)
  else if top < 1 - bias d then
    let n2 := 63 - fracB d + (1 - bias d - top).toNat
    (noughtV d m + cutK rm m g n2, if restV g n2 = 0 then 0 else (if top + carry < 1 - bias d then 3 else 1))
  else (noughtV d m + ((top + (bias d - 1)).toNat * fracT d + k), if df then 1 else 0)
def roundV (d : Bool) (rm : Int) (m : Bool) (x : Int) (g : Nat) : Nat × Int :=
  if g = 0 then (noughtV d m, 0) else roundY d rm m (x + blen g - 1) (upV g) (cutK rm m (upV g) (63 - fracB d)) (diffV (upV g) (63 - fracB d))
end Go.Proofs.Yteinjalnkhfecaa
