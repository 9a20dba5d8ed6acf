/- The mathematics of the decoder's table: there and back. No Go text is named here. -/
import Derived.Test.YtlohpakcikkdmaaM2
namespace Go.Proofs.Ytlohpakcikkdmaa
set_option linter.unusedVariables false
set_option linter.unusedSimpArgs false
/-- The bits of c places from f on. -/
def msk (f c : Nat) : Nat := (2 ^ c - 1) * 2 ^ f
theorem fld_place (b f c : Nat) : fld b f c * 2 ^ f = b &&& msk f c := by
  apply Nat.eq_of_testBit_eq; intro i
  unfold fld msk
  rw [Nat.testBit_and, ← Nat.shiftLeft_eq, ← Nat.shiftLeft_eq, Nat.testBit_shiftLeft, Nat.testBit_shiftLeft, Nat.testBit_mod_two_pow, ← Nat.shiftRight_eq_div_pow, Nat.testBit_shiftRight, Nat.testBit_two_pow_sub_one]
  by_cases h : f ≤ i
  · rw [show f + (i - f) = i by omega]; simp [h, Bool.and_comm]
  · simp [h]
theorem fld_cov {M f c : Nat} (h : M &&& msk f c = msk f c) (b : Nat) : fld (b &&& M) f c = fld b f c := by
  have e : fld (b &&& M) f c * 2 ^ f = fld b f c * 2 ^ f := by rw [fld_place, fld_place, Nat.and_assoc, h]
  exact Nat.eq_of_mul_eq_mul_right (Nat.two_pow_pos f) e
theorem plN_of {b f c : Nat} {x : Int} (h : x % ((2 ^ c : Nat) : Int) = (fld b f c : Int)) : plN x f c = b &&& msk f c := by
  unfold plN; rw [h, Int.toNat_natCast]; exact fld_place b f c
theorem plN_fld (b f c : Nat) : plN (fld b f c : Int) f c = b &&& msk f c :=
  plN_of (by rw [← Int.natCast_emod, Nat.mod_eq_of_lt (fldlt b f c)])
theorem plN_if (t : Bool) (b f c : Nat) : plN (if t then (fld b f c : Int) else 0) f c = b &&& (if t then msk f c else 0) := by
  cases t
  · simp [plN]
  · exact plN_fld b f c
def regM (p : Nat) : Nat := (if has p 1 then msk 7 5 else 0) ||| ((if has p 2 then msk 15 5 else 0) ||| (if has p 4 then msk 20 5 else 0) ||| (if has p 8 then msk 27 5 else 0)) ||| (if has p 16 then msk 12 3 else 0) ||| (if has p 32 then msk 20 12 else 0)
theorem wRegs_read (r : Row) (b : Nat) : wRegs (readF r b) = b &&& regM r.parts := by
  unfold wRegs regM
  simp only [Nat.and_or_distrib_left, ← plN_if]
  rfl
def immM (p : Nat) : Nat :=
  if p &&& 8128 = 64 then msk 20 12 else if p &&& 8128 = 128 then msk 25 7 ||| msk 7 5 else if p &&& 8128 = 256 then msk 31 1 ||| msk 7 1 ||| msk 25 6 ||| msk 8 4
  else if p &&& 8128 = 512 then msk 12 20 else if p &&& 8128 = 1024 then msk 31 1 ||| msk 12 8 ||| msk 20 1 ||| msk 21 10 else if p &&& 8128 = 2048 then msk 20 6 else if p &&& 8128 = 4096 then msk 15 5 else 0
def OkI (p : Nat) : Prop := p &&& 8128 = 0 ∨ p &&& 8128 = 64 ∨ p &&& 8128 = 128 ∨ p &&& 8128 = 256 ∨ p &&& 8128 = 512 ∨ p &&& 8128 = 1024 ∨ p &&& 8128 = 2048 ∨ p &&& 8128 = 4096
instance (p : Nat) : Decidable (OkI p) := by unfold OkI; infer_instance
theorem p2_1 : ((2 ^ 1 : Nat) : Int) = 2 := by decide
theorem p2_4 : ((2 ^ 4 : Nat) : Int) = 16 := by decide
theorem p2_5 : ((2 ^ 5 : Nat) : Int) = 32 := by decide
theorem p2_6 : ((2 ^ 6 : Nat) : Int) = 64 := by decide
theorem p2_7 : ((2 ^ 7 : Nat) : Int) = 128 := by decide
theorem p2_8 : ((2 ^ 8 : Nat) : Int) = 256 := by decide
theorem p2_10 : ((2 ^ 10 : Nat) : Int) = 1024 := by decide
theorem p2_12 : ((2 ^ 12 : Nat) : Int) = 4096 := by decide
theorem p2_20 : ((2 ^ 20 : Nat) : Int) = 1048576 := by decide
theorem fe (b f c F C : Nat) (hF : F = 2 ^ f) (hC : C = 2 ^ c) : fld b f c = b / F % C := by subst hF hC; rfl
theorem i_I (b : Nat) (hb : b < 4294967296) : immI b % ((2 ^ 12 : Nat) : Int) = (fld b 20 12 : Int) := by
  rw [p2_12, fe b 20 12 1048576 4096 (by decide) (by decide)]; unfold immI sgn; split <;> omega
theorem i_S1 (b : Nat) (hb : b < 4294967296) : immS b / 32 % ((2 ^ 7 : Nat) : Int) = (fld b 25 7 : Int) := by
  rw [p2_7, fe b 25 7 33554432 128 (by decide) (by decide)]; unfold immS sgn; rw [fe b 7 5 128 32 (by decide) (by decide)]; split <;> omega
theorem i_S2 (b : Nat) (hb : b < 4294967296) : immS b % ((2 ^ 5 : Nat) : Int) = (fld b 7 5 : Int) := by
  rw [p2_5]; unfold immS; rw [fe b 7 5 128 32 (by decide) (by decide)]; omega
theorem aB (s : Int) (x y z : Nat) (hx : x < 2) (hy : y < 64) (hz : z < 16) : (s * 4096 + ((x * 2048 + y * 32 + z * 2 : Nat) : Int)) / 4096 = s ∧ (s * 4096 + ((x * 2048 + y * 32 + z * 2 : Nat) : Int)) / 2048 % 2 = x ∧ (s * 4096 + ((x * 2048 + y * 32 + z * 2 : Nat) : Int)) / 32 % 64 = y ∧ (s * 4096 + ((x * 2048 + y * 32 + z * 2 : Nat) : Int)) / 2 % 16 = z := by
  refine ⟨by omega, by omega, by omega, by omega⟩
theorem aJ (s : Int) (x y z : Nat) (hx : x < 256) (hy : y < 2) (hz : z < 1024) : (s * 1048576 + ((x * 4096 + y * 2048 + z * 2 : Nat) : Int)) / 1048576 = s ∧ (s * 1048576 + ((x * 4096 + y * 2048 + z * 2 : Nat) : Int)) / 4096 % 256 = x ∧ (s * 1048576 + ((x * 4096 + y * 2048 + z * 2 : Nat) : Int)) / 2048 % 2 = y ∧ (s * 1048576 + ((x * 4096 + y * 2048 + z * 2 : Nat) : Int)) / 2 % 1024 = z := by
  refine ⟨by omega, by omega, by omega, by omega⟩
theorem s31 (b : Nat) (hb : b < 4294967296) : sgn b / 2147483648 % 2 = (fld b 31 1 : Int) := by
  rw [fe b 31 1 2147483648 2 (by decide) (by decide)]; unfold sgn; split <;> omega
theorem i_B1 (b : Nat) (hb : b < 4294967296) : immB b / 4096 % ((2 ^ 1 : Nat) : Int) = (fld b 31 1 : Int) := by
  unfold immB; rw [p2_1, (aB _ _ _ _ (fldlt b 7 1) (fldlt b 25 6) (fldlt b 8 4)).1]; exact s31 b hb
theorem i_B2 (b : Nat) (hb : b < 4294967296) : immB b / 2048 % ((2 ^ 1 : Nat) : Int) = (fld b 7 1 : Int) := by
  unfold immB; rw [p2_1, (aB _ _ _ _ (fldlt b 7 1) (fldlt b 25 6) (fldlt b 8 4)).2.1]
theorem i_B3 (b : Nat) (hb : b < 4294967296) : immB b / 32 % ((2 ^ 6 : Nat) : Int) = (fld b 25 6 : Int) := by
  unfold immB; rw [p2_6, (aB _ _ _ _ (fldlt b 7 1) (fldlt b 25 6) (fldlt b 8 4)).2.2.1]
theorem i_B4 (b : Nat) (hb : b < 4294967296) : immB b / 2 % ((2 ^ 4 : Nat) : Int) = (fld b 8 4 : Int) := by
  unfold immB; rw [p2_4, (aB _ _ _ _ (fldlt b 7 1) (fldlt b 25 6) (fldlt b 8 4)).2.2.2]
theorem i_U (b : Nat) (hb : b < 4294967296) : immU b / 4096 % ((2 ^ 20 : Nat) : Int) = (fld b 12 20 : Int) := by
  rw [p2_20, fe b 12 20 4096 1048576 (by decide) (by decide)]; unfold immU sgn; split <;> omega
theorem i_J1 (b : Nat) (hb : b < 4294967296) : immJ b / 1048576 % ((2 ^ 1 : Nat) : Int) = (fld b 31 1 : Int) := by
  unfold immJ; rw [p2_1, (aJ _ _ _ _ (fldlt b 12 8) (fldlt b 20 1) (fldlt b 21 10)).1]; exact s31 b hb
theorem i_J2 (b : Nat) (hb : b < 4294967296) : immJ b / 4096 % ((2 ^ 8 : Nat) : Int) = (fld b 12 8 : Int) := by
  unfold immJ; rw [p2_8, (aJ _ _ _ _ (fldlt b 12 8) (fldlt b 20 1) (fldlt b 21 10)).2.1]
theorem i_J3 (b : Nat) (hb : b < 4294967296) : immJ b / 2048 % ((2 ^ 1 : Nat) : Int) = (fld b 20 1 : Int) := by
  unfold immJ; rw [p2_1, (aJ _ _ _ _ (fldlt b 12 8) (fldlt b 20 1) (fldlt b 21 10)).2.2.1]
theorem i_J4 (b : Nat) (hb : b < 4294967296) : immJ b / 2 % ((2 ^ 10 : Nat) : Int) = (fld b 21 10 : Int) := by
  unfold immJ; rw [p2_10, (aJ _ _ _ _ (fldlt b 12 8) (fldlt b 20 1) (fldlt b 21 10)).2.2.2]
theorem wImm_read (p b : Nat) (hb : b < 4294967296) (hp : OkI p) : wImm p (immV p b) = b &&& immM p := by
  unfold wImm immV immM
  rcases hp with h | h | h | h | h | h | h | h <;> rw [h]
  · simp
  · rw [if_pos rfl, if_pos rfl, if_pos rfl]; exact plN_of (i_I b hb)
  · rw [if_neg (by decide), if_pos rfl, if_neg (by decide), if_pos rfl, if_neg (by decide), if_pos rfl, Nat.and_or_distrib_left, plN_of (i_S1 b hb), plN_of (i_S2 b hb)]
  · rw [if_neg (by decide), if_neg (by decide), if_pos rfl, if_neg (by decide), if_neg (by decide), if_pos rfl, if_neg (by decide), if_neg (by decide), if_pos rfl, Nat.and_or_distrib_left, Nat.and_or_distrib_left, Nat.and_or_distrib_left, plN_of (i_B1 b hb), plN_of (i_B2 b hb), plN_of (i_B3 b hb), plN_of (i_B4 b hb)]
  · rw [if_neg (by decide), if_neg (by decide), if_neg (by decide), if_pos rfl, if_neg (by decide), if_neg (by decide), if_neg (by decide), if_pos rfl, if_neg (by decide), if_neg (by decide), if_neg (by decide), if_pos rfl]; exact plN_of (i_U b hb)
  · rw [if_neg (by decide), if_neg (by decide), if_neg (by decide), if_neg (by decide), if_pos rfl, if_neg (by decide), if_neg (by decide), if_neg (by decide), if_neg (by decide), if_pos rfl, if_neg (by decide), if_neg (by decide), if_neg (by decide), if_neg (by decide), if_pos rfl, Nat.and_or_distrib_left, Nat.and_or_distrib_left, Nat.and_or_distrib_left, plN_of (i_J1 b hb), plN_of (i_J2 b hb), plN_of (i_J3 b hb), plN_of (i_J4 b hb)]
  · simp only [show ¬ (2048 : Nat) = 64 by decide, show ¬ (2048 : Nat) = 128 by decide, show ¬ (2048 : Nat) = 256 by decide, show ¬ (2048 : Nat) = 512 by decide, show ¬ (2048 : Nat) = 1024 by decide, if_false, if_true]; exact plN_fld b 20 6
  · simp only [show ¬ (4096 : Nat) = 64 by decide, show ¬ (4096 : Nat) = 128 by decide, show ¬ (4096 : Nat) = 256 by decide, show ¬ (4096 : Nat) = 512 by decide, show ¬ (4096 : Nat) = 1024 by decide, show ¬ (4096 : Nat) = 2048 by decide, if_false, if_true]; exact plN_fld b 15 5
def OkS (p : Nat) : Prop := (has p 8192 = false ∧ has p 16384 = false ∧ has p 32768 = false ∧ has p 65536 = false) ∨ (has p 8192 = true ∧ has p 16384 = false ∧ has p 32768 = false ∧ has p 65536 = false) ∨
  (has p 8192 = false ∧ has p 16384 = true ∧ has p 32768 = false ∧ has p 65536 = false) ∨ (has p 8192 = false ∧ has p 16384 = false ∧ has p 32768 = true ∧ has p 65536 = false) ∨ (has p 8192 = false ∧ has p 16384 = true ∧ has p 32768 = false ∧ has p 65536 = true)
instance (p : Nat) : Decidable (OkS p) := by unfold OkS; infer_instance
def szM (p : Nat) : Nat := (if has p 8192 then msk 12 2 else 0) ||| (if has p 16384 then msk 25 1 else 0) ||| (if has p 32768 then msk 3 1 else 0) ||| (if has p 65536 then msk 21 1 ||| msk 20 1 else 0)
theorem bit_if (b f F : Nat) (hF : F = 2 ^ f) : (if fld b f 1 = 1 then F else 0) = b &&& msk f 1 := by
  subst hF
  rw [← fld_place]
  have : fld b f 1 = 0 ∨ fld b f 1 = 1 := by have := fldlt b f 1; omega
  rcases this with h | h <;> rw [h] <;> simp
theorem fld1' (b f : Nat) : fld b f 1 = 0 ∨ fld b f 1 = 1 := by have := fldlt b f 1; omega
theorem wSizes_read (r : Row) (b : Nat) (hp : OkS r.parts) : wSizes r.parts (readF r b) = b &&& szM r.parts := by
  have es : (readF r b).size = if has r.parts 16384 then ((4 * 2 ^ fld b 25 1 : Nat) : Int) else if has r.parts 8192 then ((2 ^ fld b 12 2 : Nat) : Int) else 0 := rfl
  have ew : (readF r b).wo = if has r.parts 65536 then decide (fld b 21 1 = 0) else if has r.parts 32768 then decide (fld b 3 1 = 1) else false := rfl
  have eu : (readF r b).un = if has r.parts 65536 then decide (fld b 20 1 = 1) else has r.parts 262144 := rfl
  unfold wSizes wSz4 wSz3 wSz2 wSz1 szM
  rw [es, ew, eu]
  rcases hp with ⟨h1, h2, h3, h4⟩ | ⟨h1, h2, h3, h4⟩ | ⟨h1, h2, h3, h4⟩ | ⟨h1, h2, h3, h4⟩ | ⟨h1, h2, h3, h4⟩
  · simp [h1, h2, h3, h4]
  · have hn : powV ((2 ^ fld b 12 2 : Nat) : Int) = (fld b 12 2 : Int) := by
      have : fld b 12 2 = 0 ∨ fld b 12 2 = 1 ∨ fld b 12 2 = 2 ∨ fld b 12 2 = 3 := by have := fldlt b 12 2; omega
      rcases this with h | h | h | h <;> rw [h] <;> decide
    have e : plN (powV ((2 ^ fld b 12 2 : Nat) : Int)) 12 2 = b &&& msk 12 2 := by rw [hn]; exact plN_fld b 12 2
    rw [h1, h2, h3, h4]
    simp only [Bool.false_eq_true, if_false, if_true, Bool.false_and, Nat.zero_or, Nat.or_zero, e]
  · have e := bit_if b 25 33554432 (by decide)
    rcases fld1' b 25 with h | h <;> rw [h] at e <;> simp [h1, h2, h3, h4, h] <;> rw [← e] <;> rfl
  · have e := bit_if b 3 8 (by decide)
    rcases fld1' b 3 with h | h <;> rw [h] at e <;> simp [h1, h2, h3, h4, h] <;> rw [← e] <;> rfl
  · have e := bit_if b 25 33554432 (by decide)
    have e2 := bit_if b 21 2097152 (by decide)
    have e3 := bit_if b 20 1048576 (by decide)
    rcases fld1' b 25 with h | h <;> rcases fld1' b 21 with h' | h' <;> rcases fld1' b 20 with h'' | h'' <;> rw [h] at e <;> rw [h'] at e2 <;> rw [h''] at e3 <;> simp [h1, h2, h3, h4, h, h', h'', Nat.and_or_distrib_left] <;> rw [← e, ← e2, ← e3] <;> rfl
end Go.Proofs.Ytlohpakcikkdmaa
