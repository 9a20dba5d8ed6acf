/- The contract of immediate. -/
import Derived.Test.YtlohpakcikkdmaaB1
namespace Go.Proofs.Ytlohpakcikkdmaa
open Go.ChangeShapes Go.WideShapes Go.ChangeAt Go.RowKit
set_option linter.unusedVariables false
set_option linter.unusedSimpArgs false
theorem i32_or (x : Int) (y k : Nat) (hx : x % 2 ^ k = 0) (hk : k ≤ 32) (hy : y < 2 ^ k) (h0 : -2147483648 ≤ x) (h1 : x + y ≤ 2147483647) : bits .or .i32 x (y : Int) = x + y := by
  show IntKind.i32.wrap ((BitVec.ofInt 32 x ||| BitVec.ofInt 32 (y : Int)).toNat : Int) = _
  have hy2 : y < 4294967296 := Nat.lt_of_lt_of_le hy (by rw [show (4294967296 : Nat) = 2 ^ 32 by decide]; exact Nat.pow_le_pow_right (by decide) hk)
  rw [BitVec.toNat_or, ofInt_u32 y hy2, BitVec.toNat_ofInt]
  obtain ⟨X, hX⟩ : ∃ X : Nat, (x % ((2 ^ 32 : Nat) : Int)) = X := ⟨_, (Int.toNat_of_nonneg (Int.emod_nonneg _ (by decide))).symm⟩
  rw [hX, Int.toNat_natCast]
  have hm : X % 2 ^ k = 0 := by
    have e : ((X % 2 ^ k : Nat) : Int) = 0 := by
      rw [Int.natCast_emod, ← hX, Int.natCast_pow, Int.emod_emod_of_dvd]
      · exact hx
      · exact_mod_cast Nat.pow_dvd_pow 2 hk
    exact_mod_cast e
  rw [nat_join k X y hm hy, IntKind.wrap_i32]
  have hX' : x % 4294967296 = X := hX
  omega
theorem sgn_wrap (b : Nat) (hb : b < 4294967296) : wrap32 (b : Int) = sgn b := by
  unfold wrap32 sgn; split <;> omega
theorem fld_lt (b f c : Nat) : fld b f c < 2 ^ c := Nat.mod_lt _ (Nat.two_pow_pos c)
theorem or3 (x y z : Int) (a b c X Y Z k l : Nat) (hx : x = X) (hy : y = Y) (hz : z = Z) (h1 : X % 2 ^ k = 0) (h2 : Y < 2 ^ k) (h3 : (X + Y) % 2 ^ l = 0) (h4 : Z < 2 ^ l) (h5 : X + Y + Z < 4294967296) :
    bits .or .u32 (bits .or .u32 x y) z = ((X + Y + Z : Nat) : Int) := by
  subst hx hy hz
  rw [u32_or_nat X Y (by omega) (by omega), nat_join k X Y h1 h2, u32_or_nat (X + Y) Z (by omega) (by omega), nat_join l (X + Y) Z h3 h4]
theorem joinB (b : Nat) : bits .or .u32 (bits .or .u32 ((fld b 7 1 : Int) * 2048 % 4294967296) ((fld b 25 6 : Int) * 32 % 4294967296)) ((fld b 8 4 : Int) * 2 % 4294967296) = ((fld b 7 1 * 2048 + fld b 25 6 * 32 + fld b 8 4 * 2 : Nat) : Int) := by
  have h1 := fld_lt b 7 1; have h2 := fld_lt b 25 6; have h3 := fld_lt b 8 4
  simp only [show (2 : Nat) ^ 1 = 2 by decide, show (2 : Nat) ^ 6 = 64 by decide, show (2 : Nat) ^ 4 = 16 by decide] at h1 h2 h3
  exact or3 _ _ _ 0 0 0 (fld b 7 1 * 2048) (fld b 25 6 * 32) (fld b 8 4 * 2) 11 5 (by omega) (by omega) (by omega) (by omega) (by omega) (by omega) (by omega) (by omega)
theorem joinJ (b : Nat) : bits .or .u32 (bits .or .u32 ((fld b 12 8 : Int) * 4096 % 4294967296) ((fld b 20 1 : Int) * 2048 % 4294967296)) ((fld b 21 10 : Int) * 2 % 4294967296) = ((fld b 12 8 * 4096 + fld b 20 1 * 2048 + fld b 21 10 * 2 : Nat) : Int) := by
  have h1 := fld_lt b 12 8; have h2 := fld_lt b 20 1; have h3 := fld_lt b 21 10
  simp only [show (2 : Nat) ^ 8 = 256 by decide, show (2 : Nat) ^ 1 = 2 by decide, show (2 : Nat) ^ 10 = 1024 by decide] at h1 h2 h3
  exact or3 _ _ _ 0 0 0 (fld b 12 8 * 4096) (fld b 20 1 * 2048) (fld b 21 10 * 2) 12 11 (by omega) (by omega) (by omega) (by omega) (by omega) (by omega) (by omega) (by omega)
theorem sgn_rng (b : Nat) (hb : b < 4294967296) : -2147483648 ≤ sgn b ∧ sgn b ≤ 2147483647 := by unfold sgn; split <;> omega
theorem immS_eq (b : Nat) (hb : b < 4294967296) : wrap64 (bits .or .i32 (wrap32 (sgn b / 33554432 * 32)) (wrap32 (fld b 7 5 : Int))) = immS b := by
  have h1 := fld_lt b 7 5; have h2 := sgn_rng b hb
  simp only [show (2 : Nat) ^ 5 = 32 by decide] at h1
  rw [IntWalk.wrap32_in (sgn b / 33554432 * 32) (by omega), IntWalk.wrap32_in ((fld b 7 5 : Nat) : Int) (by omega), i32_or _ _ 5 (by omega) (by decide) h1 (by omega) (by omega), IntWalk.wrap64_in _ (by omega)]; rfl
theorem immB_eq (b : Nat) (hb : b < 4294967296) : wrap64 (bits .or .i32 (wrap32 (sgn b / 2147483648 * 4096)) (wrap32 ((fld b 7 1 * 2048 + fld b 25 6 * 32 + fld b 8 4 * 2 : Nat) : Int))) = immB b := by
  have h2 := sgn_rng b hb
  have h1 := fld_lt b 7 1; have h5 := fld_lt b 25 6; have h3 := fld_lt b 8 4
  simp only [show (2 : Nat) ^ 1 = 2 by decide, show (2 : Nat) ^ 6 = 64 by decide, show (2 : Nat) ^ 4 = 16 by decide] at h1 h5 h3
  have hl : fld b 7 1 * 2048 + fld b 25 6 * 32 + fld b 8 4 * 2 < 4096 := by omega
  unfold immB
  generalize fld b 7 1 * 2048 + fld b 25 6 * 32 + fld b 8 4 * 2 = y at *
  rw [IntWalk.wrap32_in (sgn b / 2147483648 * 4096) (by omega), IntWalk.wrap32_in (y : Int) (by omega), i32_or _ _ 12 (by omega) (by decide) hl (by omega) (by omega), IntWalk.wrap64_in _ (by omega)]
theorem immJ_eq (b : Nat) (hb : b < 4294967296) : wrap64 (bits .or .i32 (wrap32 (sgn b / 2147483648 * 1048576)) (wrap32 ((fld b 12 8 * 4096 + fld b 20 1 * 2048 + fld b 21 10 * 2 : Nat) : Int))) = immJ b := by
  have h2 := sgn_rng b hb
  have h1 := fld_lt b 12 8; have h5 := fld_lt b 20 1; have h3 := fld_lt b 21 10
  simp only [show (2 : Nat) ^ 8 = 256 by decide, show (2 : Nat) ^ 1 = 2 by decide, show (2 : Nat) ^ 10 = 1024 by decide] at h1 h5 h3
  have hl : fld b 12 8 * 4096 + fld b 20 1 * 2048 + fld b 21 10 * 2 < 1048576 := by omega
  unfold immJ
  generalize fld b 12 8 * 4096 + fld b 20 1 * 2048 + fld b 21 10 * 2 = y at *
  rw [IntWalk.wrap32_in (sgn b / 2147483648 * 1048576) (by omega), IntWalk.wrap32_in (y : Int) (by omega), i32_or _ _ 20 (by omega) (by decide) hl (by omega) (by omega), IntWalk.wrap64_in _ (by omega)]
def NoImm (p : Nat) : Prop := p &&& 8128 = 0
def OkImm (p : Nat) : Prop := p &&& 8128 = 0 ∨ p &&& 8128 = 64 ∨ p &&& 8128 = 128 ∨ p &&& 8128 = 256 ∨ p &&& 8128 = 512 ∨ p &&& 8128 = 1024 ∨ p &&& 8128 = 2048 ∨ p &&& 8128 = 4096
theorem and_parts (p q : Nat) (hp : Hid (p < 4294967296)) (h : p &&& 8128 = q) : bits .and .u32 (p : Int) 8128 = (q : Int) := by
  rw [← h]; exact u32_and_nat p 8128 hp.out (by decide)
theorem imm_0 (p b : Nat) (hp : Hid (p < 4294967296)) (hb : Hid (b < 4294967296)) (hq : p &&& 8128 = 0) (w : World) : Calls Try.prog 24 #[.int .u32 p, .int .u32 b] w (RetI (immV p b) w) := by
  have HV : Hid (immV p b = 0) := by show _ = _; unfold immV; rw [hq]; rfl
  have e0 : bits .and .u32 (p : Int) 8128 = 0 := and_parts p 0 hp hq
  have es : wrap32 (b : Int) = sgn b := sgn_wrap b hb.out
  have R := Lib.hid (sgn_rng b hb.out)
  clear hq
  go_enter Try.func24, Try.ntmps24
  go_wp2_with fail
  go_ret
  refine retI_mk ?_ (by repeat (first | (with_reducible first | exact Below.refl _ _ | assumption | exact Nat.le_refl _ | refine Below.drew ?_ | refine Below.alloc ?_ ?_ _ | refine Below.setCell ?_ ?_ _ | refine le_alloc ?_ | refine le_set ?_ | refine le_drew ?_ | refine below_step (by assumption) ?_ ?_ | refine le_below (by assumption) ?_) | (dsimp only; omega)))
  rw [HV.out]
  try rfl
theorem imm_64 (p b : Nat) (hp : Hid (p < 4294967296)) (hb : Hid (b < 4294967296)) (hq : p &&& 8128 = 64) (w : World) : Calls Try.prog 24 #[.int .u32 p, .int .u32 b] w (RetI (immV p b) w) := by
  have HV : Hid (immV p b = immI b) := by show _ = _; unfold immV; rw [hq]; rfl
  have e0 : bits .and .u32 (p : Int) 8128 = 64 := and_parts p 64 hp hq
  have es : wrap32 (b : Int) = sgn b := sgn_wrap b hb.out
  have R := Lib.hid (sgn_rng b hb.out)
  clear hq
  go_enter Try.func24, Try.ntmps24
  go_wp2_with fail
  go_ret
  refine retI_mk ?_ (by repeat (first | (with_reducible first | exact Below.refl _ _ | assumption | exact Nat.le_refl _ | refine Below.drew ?_ | refine Below.alloc ?_ ?_ _ | refine Below.setCell ?_ ?_ _ | refine le_alloc ?_ | refine le_set ?_ | refine le_drew ?_ | refine below_step (by assumption) ?_ ?_ | refine le_below (by assumption) ?_) | (dsimp only; omega)))
  rw [HV.out]
  have := R.out; unfold immI; exact IntWalk.wrap64_in _ (by omega)
theorem imm_128 (p b : Nat) (hp : Hid (p < 4294967296)) (hb : Hid (b < 4294967296)) (hq : p &&& 8128 = 128) (w : World) : Calls Try.prog 24 #[.int .u32 p, .int .u32 b] w (RetI (immV p b) w) := by
  have HV : Hid (immV p b = immS b) := by show _ = _; unfold immV; rw [hq]; rfl
  have e0 : bits .and .u32 (p : Int) 8128 = 128 := and_parts p 128 hp hq
  have es : wrap32 (b : Int) = sgn b := sgn_wrap b hb.out
  have R := Lib.hid (sgn_rng b hb.out)
  clear hq
  go_enter Try.func24, Try.ntmps24
  go_wp2_with fail
  refine (field_7_5 b hb _).mono ?_; rintro e w1 ⟨rfl, hb1⟩
  go_wp2_with fail
  go_ret
  refine retI_mk ?_ (by repeat (first | (with_reducible first | exact Below.refl _ _ | assumption | exact Nat.le_refl _ | refine Below.drew ?_ | refine Below.alloc ?_ ?_ _ | refine Below.setCell ?_ ?_ _ | refine le_alloc ?_ | refine le_set ?_ | refine le_drew ?_ | refine below_step (by assumption) ?_ ?_ | refine le_below (by assumption) ?_) | (dsimp only; omega)))
  rw [HV.out]
  exact immS_eq b hb.out
theorem imm_256 (p b : Nat) (hp : Hid (p < 4294967296)) (hb : Hid (b < 4294967296)) (hq : p &&& 8128 = 256) (w : World) : Calls Try.prog 24 #[.int .u32 p, .int .u32 b] w (RetI (immV p b) w) := by
  have HV : Hid (immV p b = immB b) := by show _ = _; unfold immV; rw [hq]; rfl
  have e0 : bits .and .u32 (p : Int) 8128 = 256 := and_parts p 256 hp hq
  have es : wrap32 (b : Int) = sgn b := sgn_wrap b hb.out
  have R := Lib.hid (sgn_rng b hb.out)
  clear hq
  go_enter Try.func24, Try.ntmps24
  go_wp2_with fail
  refine (field_7_1 b hb _).mono ?_; rintro e w1 ⟨rfl, hb1⟩
  go_wp2_with fail
  refine (field_25_6 b hb _).mono ?_; rintro e w2 ⟨rfl, hb2⟩
  go_wp2_with fail
  refine (field_8_4 b hb _).mono ?_; rintro e w3 ⟨rfl, hb3⟩
  go_wp2_with fail
  go_ret
  refine retI_mk ?_ (by repeat (first | (with_reducible first | exact Below.refl _ _ | assumption | exact Nat.le_refl _ | refine Below.drew ?_ | refine Below.alloc ?_ ?_ _ | refine Below.setCell ?_ ?_ _ | refine le_alloc ?_ | refine le_set ?_ | refine le_drew ?_ | refine below_step (by assumption) ?_ ?_ | refine le_below (by assumption) ?_) | (dsimp only; omega)))
  rw [HV.out]
  rw [joinB b]; exact immB_eq b hb.out
theorem imm_512 (p b : Nat) (hp : Hid (p < 4294967296)) (hb : Hid (b < 4294967296)) (hq : p &&& 8128 = 512) (w : World) : Calls Try.prog 24 #[.int .u32 p, .int .u32 b] w (RetI (immV p b) w) := by
  have HV : Hid (immV p b = immU b) := by show _ = _; unfold immV; rw [hq]; rfl
  have e0 : bits .and .u32 (p : Int) 8128 = 512 := and_parts p 512 hp hq
  have es : wrap32 (b : Int) = sgn b := sgn_wrap b hb.out
  have R := Lib.hid (sgn_rng b hb.out)
  clear hq
  go_enter Try.func24, Try.ntmps24
  go_wp2_with fail
  go_ret
  refine retI_mk ?_ (by repeat (first | (with_reducible first | exact Below.refl _ _ | assumption | exact Nat.le_refl _ | refine Below.drew ?_ | refine Below.alloc ?_ ?_ _ | refine Below.setCell ?_ ?_ _ | refine le_alloc ?_ | refine le_set ?_ | refine le_drew ?_ | refine below_step (by assumption) ?_ ?_ | refine le_below (by assumption) ?_) | (dsimp only; omega)))
  rw [HV.out]
  have := R.out; unfold immU; rw [IntWalk.wrap32_in _ (by omega)]; exact IntWalk.wrap64_in _ (by omega)
theorem imm_1024 (p b : Nat) (hp : Hid (p < 4294967296)) (hb : Hid (b < 4294967296)) (hq : p &&& 8128 = 1024) (w : World) : Calls Try.prog 24 #[.int .u32 p, .int .u32 b] w (RetI (immV p b) w) := by
  have HV : Hid (immV p b = immJ b) := by show _ = _; unfold immV; rw [hq]; rfl
  have e0 : bits .and .u32 (p : Int) 8128 = 1024 := and_parts p 1024 hp hq
  have es : wrap32 (b : Int) = sgn b := sgn_wrap b hb.out
  have R := Lib.hid (sgn_rng b hb.out)
  clear hq
  go_enter Try.func24, Try.ntmps24
  go_wp2_with fail
  refine (field_12_8 b hb _).mono ?_; rintro e w1 ⟨rfl, hb1⟩
  go_wp2_with fail
  refine (field_20_1 b hb _).mono ?_; rintro e w2 ⟨rfl, hb2⟩
  go_wp2_with fail
  refine (field_21_10 b hb _).mono ?_; rintro e w3 ⟨rfl, hb3⟩
  go_wp2_with fail
  go_ret
  refine retI_mk ?_ (by repeat (first | (with_reducible first | exact Below.refl _ _ | assumption | exact Nat.le_refl _ | refine Below.drew ?_ | refine Below.alloc ?_ ?_ _ | refine Below.setCell ?_ ?_ _ | refine le_alloc ?_ | refine le_set ?_ | refine le_drew ?_ | refine below_step (by assumption) ?_ ?_ | refine le_below (by assumption) ?_) | (dsimp only; omega)))
  rw [HV.out]
  rw [joinJ b]; exact immJ_eq b hb.out
theorem imm_2048 (p b : Nat) (hp : Hid (p < 4294967296)) (hb : Hid (b < 4294967296)) (hq : p &&& 8128 = 2048) (w : World) : Calls Try.prog 24 #[.int .u32 p, .int .u32 b] w (RetI (immV p b) w) := by
  have HV : Hid (immV p b = ((fld b 20 6 : Nat) : Int)) := by show _ = _; unfold immV; rw [hq]; rfl
  have e0 : bits .and .u32 (p : Int) 8128 = 2048 := and_parts p 2048 hp hq
  have es : wrap32 (b : Int) = sgn b := sgn_wrap b hb.out
  have R := Lib.hid (sgn_rng b hb.out)
  clear hq
  go_enter Try.func24, Try.ntmps24
  go_wp2_with fail
  refine (field_20_6 b hb _).mono ?_; rintro e w1 ⟨rfl, hb1⟩
  go_wp2_with fail
  go_ret
  refine retI_mk ?_ (by repeat (first | (with_reducible first | exact Below.refl _ _ | assumption | exact Nat.le_refl _ | refine Below.drew ?_ | refine Below.alloc ?_ ?_ _ | refine Below.setCell ?_ ?_ _ | refine le_alloc ?_ | refine le_set ?_ | refine le_drew ?_ | refine below_step (by assumption) ?_ ?_ | refine le_below (by assumption) ?_) | (dsimp only; omega)))
  rw [HV.out]
  have := fld_lt b 20 6; simp only [show (2 : Nat) ^ 6 = 64 by decide] at this; exact IntWalk.wrap64_in _ (by omega)
theorem imm_4096 (p b : Nat) (hp : Hid (p < 4294967296)) (hb : Hid (b < 4294967296)) (hq : p &&& 8128 = 4096) (w : World) : Calls Try.prog 24 #[.int .u32 p, .int .u32 b] w (RetI (immV p b) w) := by
  have HV : Hid (immV p b = ((fld b 15 5 : Nat) : Int)) := by show _ = _; unfold immV; rw [hq]; rfl
  have e0 : bits .and .u32 (p : Int) 8128 = 4096 := and_parts p 4096 hp hq
  have es : wrap32 (b : Int) = sgn b := sgn_wrap b hb.out
  have R := Lib.hid (sgn_rng b hb.out)
  clear hq
  go_enter Try.func24, Try.ntmps24
  go_wp2_with fail
  refine (field_15_5 b hb _).mono ?_; rintro e w1 ⟨rfl, hb1⟩
  go_wp2_with fail
  go_ret
  refine retI_mk ?_ (by repeat (first | (with_reducible first | exact Below.refl _ _ | assumption | exact Nat.le_refl _ | refine Below.drew ?_ | refine Below.alloc ?_ ?_ _ | refine Below.setCell ?_ ?_ _ | refine le_alloc ?_ | refine le_set ?_ | refine le_drew ?_ | refine below_step (by assumption) ?_ ?_ | refine le_below (by assumption) ?_) | (dsimp only; omega)))
  rw [HV.out]
  have := fld_lt b 15 5; simp only [show (2 : Nat) ^ 5 = 32 by decide] at this; exact IntWalk.wrap64_in _ (by omega)
theorem immediate_c (p b : Nat) (hp : Hid (p < 4294967296)) (hb : Hid (b < 4294967296)) (hq : Hid (OkImm p)) (w : World) : Calls Try.prog 24 #[.int .u32 p, .int .u32 b] w (RetI (immV p b) w) := by
  rcases hq.out with h | h | h | h | h | h | h | h
  · exact imm_0 p b hp hb h w
  · exact imm_64 p b hp hb h w
  · exact imm_128 p b hp hb h w
  · exact imm_256 p b hp hb h w
  · exact imm_512 p b hp hb h w
  · exact imm_1024 p b hp hb h w
  · exact imm_2048 p b hp hb h w
  · exact imm_4096 p b hp hb h w
end Go.Proofs.Ytlohpakcikkdmaa
