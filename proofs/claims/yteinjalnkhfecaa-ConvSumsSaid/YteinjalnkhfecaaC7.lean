/- whole and layout.round, each in one contract. -/
import Derived.Test.YteinjalnkhfecaaC6
namespace Go.Proofs.Yteinjalnkhfecaa
open Go.ChangeShapes Go.WideShapes Go.ChangeAt Go.RowKit
set_option linter.unusedVariables false
set_option linter.unusedSimpArgs false
theorem len_c (g : Nat) (hg : g < 18446744073709551616) (v : World) : Calls Try.prog 83 #[.int .u64 g] v (fun q v' => q = .returned (.int .i64 (blen g : Nat)) ∧ v' = v) :=
  (Try.bits_Len64 (g : Int) v (by omega) (by omega)).mono fun _ _ ⟨h1, h2⟩ => ⟨by rw [h1, Int.toNat_natCast, bitLen_eq g hg], h2⟩
theorem lz_c (g : Nat) (hg : g < 18446744073709551616) (v : World) : Calls Try.prog 94 #[.int .u64 g] v (fun q v' => q = .returned (.int .i64 ((64 - blen g : Nat) : Int)) ∧ v' = v) :=
  (Try.bits_LeadingZeros64 (g : Int) v (by omega) (by omega)).mono fun _ _ ⟨h1, h2⟩ => ⟨by
    have b := blen_le g 64 (by rw [← pow64]; exact hg)
    rw [h1, Int.toNat_natCast, bitLen_eq g hg, show (64 : Int) - (blen g : Int) = ((64 - blen g : Nat) : Int) by omega], h2⟩
theorem lift_lt (g n : Nat) (h0 : g ≠ 0) (h : blen g + n ≤ 64) : g * 2 ^ n < 18446744073709551616 := by
  obtain ⟨_, _, b⟩ := blen_bounds g h0
  calc g * 2 ^ n < 2 ^ blen g * 2 ^ n := Nat.mul_lt_mul_of_pos_right b (Nat.two_pow_pos n)
    _ = 2 ^ (blen g + n) := (Nat.pow_add _ _ _).symm
    _ ≤ 2 ^ 64 := Nat.pow_le_pow_right (by decide) h
theorem lift_wrap (g n : Nat) (h0 : g ≠ 0) (h : blen g + n ≤ 64) : IntKind.u64.wrap ((g : Int) * 2 ^ n) = ((g * 2 ^ n : Nat) : Int) := by
  have b := lift_lt g n h0 h
  have e : (g : Int) * 2 ^ n = ((g * 2 ^ n : Nat) : Int) := by rw [Int.natCast_mul, Int.natCast_pow]; rfl
  rw [e, IntKind.wrap_u64]; omega
theorem upV_bounds (g : Nat) (h0 : g ≠ 0) (hg : g < 18446744073709551616) : 2 ^ 63 ≤ upV g ∧ upV g < 2 ^ 64 := by
  have b := blen_le g 64 (by rw [← pow64]; exact hg)
  obtain ⟨b1, b2, b3⟩ := blen_bounds g h0
  refine ⟨?_, by rw [← pow64]; exact lift_lt g _ h0 (by omega)⟩
  calc 2 ^ 63 = 2 ^ (blen g - 1) * 2 ^ (64 - blen g) := by rw [← Nat.pow_add, show blen g - 1 + (64 - blen g) = 63 by omega]
    _ ≤ g * 2 ^ (64 - blen g) := Nat.mul_le_mul_right _ b2
theorem whole_c (rm : Int) (m : Bool) (e : Int) (g : Nat) (hg : g < 18446744073709551616) (a1 : -10000 ≤ e) (a2 : e ≤ 10000) (w : World) :
    Calls Try.prog 43 #[.int .i64 rm, .agg #[.bool m, .int .i64 e, .int .u64 g]] w (RetY (wholeV rm m e g) w) := by
  by_cases h0 : g = 0
  · subst h0; exact whole_0 rm m e w
  have b := blen_le g 64 (by rw [← pow64]; exact hg)
  have hz : ((g : Int) == 0) = false := by rw [beq_eq_false_iff_ne]; omega
  have hw : wrap64 ((blen g : Int) + e) = (blen g : Int) + e := IntWalk.wrap64_in _ ⟨by omega, by omega⟩
  by_cases h1 : 64 < (blen g : Int) + e
  · rw [show wholeV rm m e g = (0, false, false) by unfold wholeV; rw [if_neg h0, if_pos h1]]
    exact whole_far rm m e g hz (len_c g hg) h1 hw w
  by_cases h2 : 0 ≤ e
  · rw [show wholeV rm m e g = (g * 2 ^ e.toNat, false, true) by unfold wholeV; rw [if_neg h0, if_neg h1, if_pos h2]]
    obtain ⟨n, rfl⟩ := Int.eq_ofNat_of_zero_le h2
    rw [Int.toNat_natCast]
    exact whole_near rm m n g _ hz (len_c g hg) h1 hw (by omega) (lift_wrap g n h0 (by omega)) w
  · rw [show wholeV rm m e g = (cutK rm m g (-e).toNat, diffV g (-e).toNat, true) by unfold wholeV; rw [if_neg h0, if_neg h1, if_neg h2]]
    obtain ⟨k, hk⟩ := Int.eq_ofNat_of_zero_le (by omega : 0 ≤ -e)
    rw [hk, Int.toNat_natCast]
    exact whole_cut rm m e g k hg h0 hz (len_c g hg) h1 hw hk (IntWalk.wrap64_in _ ⟨by omega, by omega⟩) ⟨by omega, by omega⟩ h2 w
theorem roundV_up (d : Bool) (rm : Int) (m : Bool) (x : Int) (g : Nat) (h0 : g ≠ 0) (hg : g < 18446744073709551616) :
    roundV d rm m x g = roundY d rm m (x - ((64 - blen g : Nat) : Int) + 63) (upV g) (cutK rm m (upV g) (63 - fracB d)) (diffV (upV g) (63 - fracB d)) := by
  have b := blen_le g 64 (by rw [← pow64]; exact hg)
  obtain ⟨b1, _, _⟩ := blen_bounds g h0
  unfold roundV
  rw [if_neg h0, show x + (blen g : Int) - 1 = x - ((64 - blen g : Nat) : Int) + 63 by omega]
theorem round_c (d : Bool) (E F : Int) (hd : Lay d E F) (rm : Int) (m : Bool) (x : Int) (g : Nat) (hg : g < 18446744073709551616) (a1 : -10000 ≤ x) (a2 : x ≤ 10000) (w : World) :
    Calls Try.prog 55 #[.agg #[.int .i64 E, .int .i64 F], .int .i64 rm, .agg #[.bool m, .int .i64 x, .int .u64 g]] w (RetP (roundV d rm m x g) w) := by
  by_cases h0 : g = 0
  · subst h0; exact round_0 d E F hd rm m x w
  have b := blen_le g 64 (by rw [← pow64]; exact hg)
  obtain ⟨b1, _, _⟩ := blen_bounds g h0
  have hz : ((g : Int) == 0) = false := by rw [beq_eq_false_iff_ne]; omega
  have R := roundV_up d rm m x g h0 hg
  rcases hd with ⟨rfl, rfl, rfl⟩ | ⟨rfl, rfl, rfl⟩
  · exact round_f rm m x g (64 - blen g) (upV g) (by omega) (lz_c g hg) (lift_wrap g _ h0 (by omega)) R (upV_bounds g h0 hg) hz a1 a2 w
  · exact round_t rm m x g (64 - blen g) (upV g) (by omega) (lz_c g hg) (lift_wrap g _ h0 (by omega)) R (upV_bounds g h0 hg) hz a1 a2 w
end Go.Proofs.Yteinjalnkhfecaa
