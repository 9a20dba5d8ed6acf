/- The registers as plain functions: what a number stands for, what is read, what a write leaves. -/
import Derived.Test.YtmlbobjbkbcabaaPC
namespace Go.Proofs.Ytmlbobjbkbcabaa
open Go.ChangeShapes Go.WideShapes Go.ChangeAt Go.RowKit P
set_option linter.unusedVariables false
set_option linter.unusedSimpArgs false
/-- The registers' cells: 22 words, 8 settings, 8 addresses. -/
def cs (S : Nat → Nat) : Array Value := #[.int .u64 (S 0 : Nat), .int .u64 (S 1 : Nat), .int .u64 (S 2 : Nat), .int .u64 (S 3 : Nat), .int .u64 (S 4 : Nat), .int .u64 (S 5 : Nat), .int .u64 (S 6 : Nat), .int .u64 (S 7 : Nat), .int .u64 (S 8 : Nat), .int .u64 (S 9 : Nat), .int .u64 (S 10 : Nat), .int .u64 (S 11 : Nat), .int .u64 (S 12 : Nat), .int .u64 (S 13 : Nat), .int .u64 (S 14 : Nat), .int .u64 (S 15 : Nat), .int .u64 (S 16 : Nat), .int .u64 (S 17 : Nat), .int .u64 (S 18 : Nat), .int .u64 (S 19 : Nat), .int .u64 (S 20 : Nat), .int .u64 (S 21 : Nat),
  .int .u8 (S 22 : Nat), .int .u8 (S 23 : Nat), .int .u8 (S 24 : Nat), .int .u8 (S 25 : Nat), .int .u8 (S 26 : Nat), .int .u8 (S 27 : Nat), .int .u8 (S 28 : Nat), .int .u8 (S 29 : Nat),
  .int .u64 (S 30 : Nat), .int .u64 (S 31 : Nat), .int .u64 (S 32 : Nat), .int .u64 (S 33 : Nat), .int .u64 (S 34 : Nat), .int .u64 (S 35 : Nat), .int .u64 (S 36 : Nat), .int .u64 (S 37 : Nat)]
theorem cs_size (S : Nat → Nat) : (cs S).size = 38 := rfl
def isU (k : Nat) : Prop := k < 22 ∨ 30 ≤ k ∧ k < 38
theorem isU_cases {k : Nat} (h : isU k) : k = 0 ∨ k = 1 ∨ k = 2 ∨ k = 3 ∨ k = 4 ∨ k = 5 ∨ k = 6 ∨ k = 7 ∨ k = 8 ∨ k = 9 ∨ k = 10 ∨ k = 11 ∨ k = 12 ∨ k = 13 ∨ k = 14 ∨ k = 15 ∨ k = 16 ∨ k = 17 ∨ k = 18 ∨ k = 19 ∨ k = 20 ∨ k = 21 ∨ k = 30 ∨ k = 31 ∨ k = 32 ∨ k = 33 ∨ k = 34 ∨ k = 35 ∨ k = 36 ∨ k = 37 := by unfold isU at h; omega
theorem cs_u (S : Nat → Nat) (k : Nat) (h : isU k) : (cs S)[k]? = some (.int .u64 (S k : Nat)) := by
  rcases isU_cases h with rfl | rfl | rfl | rfl | rfl | rfl | rfl | rfl | rfl | rfl | rfl | rfl | rfl | rfl | rfl | rfl | rfl | rfl | rfl | rfl | rfl | rfl | rfl | rfl | rfl | rfl | rfl | rfl | rfl | rfl <;> rfl
theorem cs_set (S : Nat → Nat) (k v : Nat) (h : isU k) : (cs S).setIfInBounds k (.int .u64 (v : Nat)) = cs (setN S k v) := by
  rcases isU_cases h with rfl | rfl | rfl | rfl | rfl | rfl | rfl | rfl | rfl | rfl | rfl | rfl | rfl | rfl | rfl | rfl | rfl | rfl | rfl | rfl | rfl | rfl | rfl | rfl | rfl | rfl | rfl | rfl | rfl | rfl <;> rfl
theorem cs_congr {S T : Nat → Nat} (h : ∀ k, k < 38 → S k = T k) : cs S = cs T := by
  unfold cs
  rw [h 0 (by decide), h 1 (by decide), h 2 (by decide), h 3 (by decide), h 4 (by decide), h 5 (by decide), h 6 (by decide), h 7 (by decide), h 8 (by decide), h 9 (by decide), h 10 (by decide), h 11 (by decide), h 12 (by decide), h 13 (by decide), h 14 (by decide), h 15 (by decide), h 16 (by decide), h 17 (by decide), h 18 (by decide), h 19 (by decide), h 20 (by decide), h 21 (by decide), h 22 (by decide), h 23 (by decide), h 24 (by decide), h 25 (by decide), h 26 (by decide), h 27 (by decide), h 28 (by decide), h 29 (by decide), h 30 (by decide), h 31 (by decide), h 32 (by decide), h 33 (by decide), h 34 (by decide), h 35 (by decide), h 36 (by decide), h 37 (by decide)]
/-- The settings, the addresses among the cells; other ones in their place. -/
def cfO (S : Nat → Nat) (k : Nat) : Nat := S (22 + k % 8)
def adO (S : Nat → Nat) (k : Nat) : Nat := S (30 + k % 8)
def setC (S c : Nat → Nat) (k : Nat) : Nat := bif Nat.blt k 30 && !Nat.blt k 22 then c (k - 22) else S k
def setA (S a : Nat → Nat) (k : Nat) : Nat := bif !Nat.blt k 30 then a (k - 30) else S k
/-- All words are words, all settings bytes. -/
def OkS (S : Nat → Nat) : Prop := ∀ k, S k < (if 22 ≤ k ∧ k < 30 then 256 else 18446744073709551616)
theorem OkS.u {S : Nat → Nat} (h : OkS S) (k : Nat) (hk : ¬ (22 ≤ k ∧ k < 30)) : S k < 18446744073709551616 := by have := h k; rw [if_neg hk] at this; exact this
theorem OkS.c {S : Nat → Nat} (h : OkS S) : OkC (cfO S) := fun k => by
  unfold cfO
  have := h (22 + k % 8); rw [if_pos (by omega)] at this; exact this
theorem OkS.a {S : Nat → Nat} (h : OkS S) : OkA (adO S) := fun k => h.u _ (by omega)
/-- Numbers with a mask. -/
def mixN (a b m : Nat) : Nat := (a &&& (18446744073709551615 - m)) ||| (b &&& m)
def fldN (m : Nat) : Nat := (m &&& 8288682) ||| 42949672960
def stlN (m : Nat) : Nat := bif fldN m &&& 24576 == 24576 then fldN m ||| 9223372036854775808 else fldN m
def stB (old v : Nat) : Nat := stlN (bif v &&& 6144 == 4096 then mixN v old 6144 else v)
theorem and_lt (a m : Nat) (ha : a < 18446744073709551616) : a &&& m < 18446744073709551616 := Nat.lt_of_le_of_lt Nat.and_le_left ha
theorem and_lt2 (a m : Nat) (hm : m < 18446744073709551616) : a &&& m < 18446744073709551616 := Nat.lt_of_le_of_lt Nat.and_le_right hm
theorem or_lt {a b : Nat} (ha : a < 18446744073709551616) (hb : b < 18446744073709551616) : a ||| b < 18446744073709551616 := Nat.or_lt_two_pow (n := 64) ha hb
theorem mix_lt (a b m : Nat) (ha : a < 18446744073709551616) (hb : b < 18446744073709551616) : mixN a b m < 18446744073709551616 := or_lt (and_lt _ _ ha) (and_lt _ _ hb)
theorem fld_lt (m : Nat) : fldN m < 18446744073709551616 := or_lt (and_lt2 _ _ (by decide)) (by decide)
theorem stl_lt (m : Nat) : stlN m < 18446744073709551616 := by
  unfold stlN
  cases fldN m &&& 24576 == 24576
  · exact fld_lt m
  · exact or_lt (fld_lt m) (by decide)
theorem u_and (a b : Nat) (ha : a < 18446744073709551616) (hb : b < 18446744073709551616) : bits .and .u64 (a : Int) (b : Int) = ((a &&& b : Nat) : Int) := bits_and_u64_nat a b ha hb
theorem u_or (a b : Nat) (ha : a < 18446744073709551616) (hb : b < 18446744073709551616) : bits .or .u64 (a : Int) (b : Int) = ((a ||| b : Nat) : Int) := bits_or_u64_nat a b ha hb
theorem u_andNot (a b : Nat) (ha : a < 18446744073709551616) (hb : b < 18446744073709551616) : bits .andNot .u64 (a : Int) (b : Int) = ((a &&& (18446744073709551615 - b) : Nat) : Int) := u64_andNot_nat a b ha hb
theorem cast_beq (a b : Nat) : (((a : Nat) : Int) == ((b : Nat) : Int)) = (a == b) := by
  rw [Bool.eq_iff_iff]; simp; omega
end Go.Proofs.Ytmlbobjbkbcabaa
