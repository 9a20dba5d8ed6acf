/- The plain functions, and the small functions' contracts. -/
import Derived.Test.YteeifdmnagbjeaaDoorZB
namespace Go.Proofs.YteeifdmnagbjeaaDoor
open Go.ChangeShapes Go.WideShapes Go.ChangeAt Go.RowKit Y
set_option linter.unusedVariables false
set_option linter.unusedSimpArgs false

theorem e64 {x y : Nat} (hx : x < 18446744073709551616) (hy : y < 18446744073709551616) (h : ∀ i, i < 64 → x.testBit i = y.testBit i) : x = y := by
  apply Nat.eq_of_testBit_eq
  intro i
  by_cases hi : i < 64
  · exact h i hi
  · have hp : 2 ^ 64 ≤ 2 ^ i := Nat.pow_le_pow_right (by decide) (by omega)
    rw [Nat.testBit_lt_two_pow (Nat.lt_of_lt_of_le hx hp), Nat.testBit_lt_two_pow (Nat.lt_of_lt_of_le hy hp)]
theorem not_bit (m i : Nat) (hm : m < 18446744073709551616) (hi : i < 64) : (18446744073709551615 - m).testBit i = !m.testBit i := by
  have e : 18446744073709551615 - m = 2 ^ 64 - (m + 1) := by omega
  rw [e, Nat.testBit_two_pow_sub_succ hm]
  simp [hi]
/-- A mode that is none is taken for U. -/
def tkI (m : Int) : Int := if m = 3 then 3 else if m = 1 then 1 else 0
/-- A number with a bit, or without it. -/
def putN (v b : Nat) (o : Bool) : Nat := bif o then v ||| b else v &&& (18446744073709551615 - b)
theorem put_lt {v b : Nat} (o : Bool) (hv : v < 18446744073709551616) (hb : b < 18446744073709551616) : putN v b o < 18446744073709551616 := by
  unfold putN
  cases o
  · exact and_lt _ _ hv
  · exact or_lt hv hb
theorem bit_val (v n : Nat) (hv : v < 18446744073709551616) : (bits .and .u64 ((v : Int) / 2 ^ n) 1 == 1) = v.testBit n := by
  have e : (v : Int) / 2 ^ n = ((v / 2 ^ n : Nat) : Int) := by simp
  have h := u_and (v / 2 ^ n) 1 (Nat.lt_of_le_of_lt (Nat.div_le_self _ _) hv) (by decide)
  rw [e]
  have h2 : bits .and .u64 ((v / 2 ^ n : Nat) : Int) 1 = ((v / 2 ^ n % 2 : Nat) : Int) := by rw [show (1 : Int) = ((1 : Nat) : Int) from rfl, h, Nat.and_one_is_mod]
  rw [h2, Nat.testBit_eq_decide_div_mod_eq, show (1 : Int) = ((1 : Nat) : Int) from rfl, cast_beq]
  exact Bool.eq_iff_iff.2 (by simp)
theorem bit_val0 (v n : Nat) (hv : v < 18446744073709551616) : (bits .and .u64 ((v : Int) / 2 ^ n) 1 != 0) = v.testBit n := by
  have e : (v : Int) / 2 ^ n = ((v / 2 ^ n : Nat) : Int) := by simp
  have h := u_and (v / 2 ^ n) 1 (Nat.lt_of_le_of_lt (Nat.div_le_self _ _) hv) (by decide)
  rw [e]
  have h2 : bits .and .u64 ((v / 2 ^ n : Nat) : Int) 1 = ((v / 2 ^ n % 2 : Nat) : Int) := by rw [show (1 : Int) = ((1 : Nat) : Int) from rfl, h, Nat.and_one_is_mod]
  have h3 : (((v / 2 ^ n % 2 : Nat) : Int) == 0) = (v / 2 ^ n % 2 == 0) := cast_beq _ 0
  rw [h2, Nat.testBit_eq_decide_div_mod_eq, bne, h3]
  have : v / 2 ^ n % 2 < 2 := Nat.mod_lt _ (by decide)
  exact Bool.eq_iff_iff.2 (by simp)
theorem bit_mask (v n : Nat) (hv : v < 18446744073709551616) (hn : n < 64) : (bits .and .u64 (v : Int) ((2 ^ n : Nat) : Int) != 0) = v.testBit n := by
  have hp : 2 ^ n < 18446744073709551616 := Nat.pow_lt_pow_right (a := 2) (by decide) hn
  rw [u_and v (2 ^ n) hv hp]
  show (!(((v &&& 2 ^ n : Nat) : Int) == ((0 : Nat) : Int))) = _
  rw [cast_beq]
  cases hb : v.testBit n with
  | true =>
    have h : (v &&& 2 ^ n).testBit n = true := by rw [Nat.testBit_and, hb, Nat.testBit_two_pow]; simp
    cases hz : v &&& 2 ^ n == 0
    · rfl
    · rw [eq_of_beq hz, Nat.zero_testBit] at h; cases h
  | false =>
    have h : v &&& 2 ^ n = 0 := by
      apply Nat.eq_of_testBit_eq
      intro i
      rw [Nat.testBit_and, Nat.testBit_two_pow, Nat.zero_testBit]
      by_cases e : n = i
      · subst e; rw [hb]; rfl
      · simp [e]
    rw [h]; rfl
theorem shl_val (n : Nat) (hn : n < 64) : IntKind.u64.wrap ((2 : Int) ^ n) = ((2 ^ n : Nat) : Int) := by
  have hp : 2 ^ n < 18446744073709551616 := Nat.pow_lt_pow_right (a := 2) (by decide) hn
  rw [show ((2 : Int) ^ n) = ((2 ^ n : Nat) : Int) by simp]
  generalize 2 ^ n = x at hp ⊢
  rw [IntKind.wrap_u64]; omega
theorem with_or (v b : Nat) (hv : v < 18446744073709551616) (hb : b < 18446744073709551616) : (v &&& (18446744073709551615 - b)) ||| b = v ||| b := by
  refine e64 (or_lt (and_lt _ _ hv) hb) (or_lt hv hb) (fun i hi => ?_)
  simp only [Nat.testBit_and, Nat.testBit_or]
  rw [not_bit b i hb hi]
  cases v.testBit i <;> cases b.testBit i <;> rfl
theorem taken_c (m : Int) (w : World) : Calls Tryd.prog 15 #[.int .i64 m] w (RetIX (tkI m) w) := by
  by_cases h3 : m = 3
  · subst h3
    go_enter Tryd.func15, Tryd.ntmps15
    go_wp2_with fail
    go_ret
    exact retIX_mk rfl
  by_cases h1 : m = 1
  · subst h1
    go_enter Tryd.func15, Tryd.ntmps15
    go_wp2_with fail
    go_ret
    exact retIX_mk rfl
  have e3 : (m == 3) = false := by simpa using h3
  have e1 : (m == 1) = false := by simpa using h1
  have e : Hid (tkI m = 0) := by show _ = _; unfold tkI; rw [if_neg h3, if_neg h1]
  clear h3 h1
  go_enter Tryd.func15, Tryd.ntmps15
  go_wp2_with fail
  go_ret
  exact retIX_mk e.out.symm
theorem mode_c (m : Int) (w : World) : Calls Tryd.prog 20 #[.int .i64 m] w (RetIX (tkI m) w) := by
  by_cases h3 : m = 3
  · subst h3
    go_enter Tryd.func20, Tryd.ntmps20
    go_wp2_with fail
    go_ret
    exact retIX_mk rfl
  by_cases h1 : m = 1
  · subst h1
    go_enter Tryd.func20, Tryd.ntmps20
    go_wp2_with fail
    go_ret
    exact retIX_mk rfl
  have e3 : (m == 3) = false := by simpa using h3
  have e1 : (m == 1) = false := by simpa using h1
  have e : Hid (tkI m = 0) := by show _ = _; unfold tkI; rw [if_neg h3, if_neg h1]
  clear h3 h1
  go_enter Tryd.func20, Tryd.ntmps20
  go_wp2_with fail
  go_ret
  exact retIX_mk e.out.symm
theorem isInt_c (c : Nat) (hc : Hid (c < 18446744073709551616)) (w : World) : Calls Tryd.prog 29 #[.int .u64 c] w (RetBX (c.testBit 63) w) := by
  go_enter Tryd.func29, Tryd.ntmps29
  go_wp2_with fail
  go_ret
  exact retBX_mk (bit_mask c 63 hc.out (by decide))
theorem put_c (v b : Nat) (o : Bool) (hv : Hid (v < 18446744073709551616)) (hb : Hid (b < 18446744073709551616)) (w : World) : Calls Tryd.prog 30 #[.int .u64 v, .int .u64 b, .bool o] w (RetUX (putN v b o) w) := by
  cases o
  · go_enter Tryd.func30, Tryd.ntmps30
    go_wp2_with fail
    go_ret
    exact retUX_mk (u_andNot v b hv.out hb.out)
  · go_enter Tryd.func30, Tryd.ntmps30
    go_wp2_with fail
    go_ret
    exact retUX_mk (u_or v b hv.out hb.out)
theorem bit_c (v n : Nat) (hv : Hid (v < 18446744073709551616)) (hn : n < 64) (w : World) : Calls Tryd.prog 21 #[.int .u64 v, .int .i64 n] w (RetBX (v.testBit n) w) := by
  go_enter Tryd.func21, Tryd.ntmps21
  go_wp2_with fail
  go_ret
  exact retBX_mk (bit_val v n hv.out)
theorem with_c (v n : Nat) (hv : Hid (v < 18446744073709551616)) (hn : n < 64) (o : Bool) (w : World) : Calls Tryd.prog 22 #[.int .u64 v, .int .i64 n, .bool o] w (RetUX (putN v (2 ^ n) o) w) := by
  have hp : Hid (2 ^ n < 18446744073709551616) := Nat.pow_lt_pow_right (a := 2) (by decide) hn
  have hs := Lib.hid (shl_val n hn)
  cases o
  · go_enter Tryd.func22, Tryd.ntmps22
    go_wp2_with fail
    go_ret
    exact retUX_mk ((congrArg (bits .andNot .u64 (v : Int)) hs.out).trans (u_andNot v (2 ^ n) hv.out hp.out))
  · go_enter Tryd.func22, Tryd.ntmps22
    go_wp2_with fail
    go_ret
    refine retUX_mk ((show bits .or .u64 (bits .andNot .u64 (v : Int) (IntKind.u64.wrap ((2 : Int) ^ n))) (IntKind.u64.wrap ((2 : Int) ^ n)) = ((putN v (2 ^ n) true : Nat) : Int) from ?_))
    rw [hs.out, u_andNot v (2 ^ n) hv.out hp.out, u_or _ _ (and_lt _ _ hv.out) hp.out, with_or v (2 ^ n) hv.out hp.out]; rfl
end Go.Proofs.YteeifdmnagbjeaaDoor
