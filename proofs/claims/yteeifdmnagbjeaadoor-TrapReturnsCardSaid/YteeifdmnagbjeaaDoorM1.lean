/- What traps and returns leave of Mstatus, bit by bit. -/
import Derived.Test.YteeifdmnagbjeaaDoorF1
namespace Go.Proofs.YteeifdmnagbjeaaDoor
open Go.ChangeShapes Go.WideShapes Go.ChangeAt Go.RowKit Y
set_option linter.unusedVariables false
set_option linter.unusedSimpArgs false
theorem tb_put (v b : Nat) (o : Bool) (i : Nat) (hb : b < 18446744073709551616) (hi : i < 64) : (putN v b o).testBit i = bif o then v.testBit i || b.testBit i else v.testBit i && !b.testBit i := by
  unfold putN
  cases o
  · simp only [cond_false, Nat.testBit_and, not_bit b i hb hi]
  · simp only [cond_true, Nat.testBit_or]
theorem and_bit {x y n : Nat} (h : x.testBit n = y.testBit n) : x &&& 2 ^ n = y &&& 2 ^ n := by
  apply Nat.eq_of_testBit_eq
  intro i
  rw [Nat.testBit_and, Nat.testBit_and, Nat.testBit_two_pow]
  by_cases e : n = i
  · subst e; rw [h]
  · simp [e]
theorem and_no {x n : Nat} (h : x.testBit n = false) : x &&& 2 ^ n = 0 := by
  have := and_bit (x := x) (y := 0) (n := n) (by rw [h, Nat.zero_testBit])
  rw [this, Nat.zero_and]
theorem eM_bit (s m i : Nat) (hi : i < 64) : (eM s m).testBit i = (((bif s.testBit 3 then s.testBit i || (128 : Nat).testBit i else s.testBit i && !(128 : Nat).testBit i) && !(8 : Nat).testBit i) && (18446744073709545471 : Nat).testBit i || (m * 2048).testBit i) := by
  unfold eM
  rw [Nat.testBit_or, Nat.testBit_and, tb_put _ _ _ _ (by decide) hi, tb_put _ _ _ _ (by decide) hi]; rfl
theorem eS_bit (s m i : Nat) (hi : i < 64) : (eS s m).testBit i = (((bif s.testBit 1 then s.testBit i || (32 : Nat).testBit i else s.testBit i && !(32 : Nat).testBit i) && !(2 : Nat).testBit i) && (18446744073709551359 : Nat).testBit i || (m * 256).testBit i) := by
  unfold eS
  rw [Nat.testBit_or, Nat.testBit_and, tb_put _ _ _ _ (by decide) hi, tb_put _ _ _ _ (by decide) hi]; rfl
theorem lM_bit3 (s : Nat) (t : Int) : (lM s t).testBit 3 = s.testBit 7 := by
  unfold lM
  by_cases h : t = 3
  · simp only [h, if_true, Nat.testBit_and, tb_put _ _ _ 3 (show (128 : Nat) < 18446744073709551616 by decide) (by decide), tb_put _ _ _ 3 (show (8 : Nat) < 18446744073709551616 by decide) (by decide)]
    generalize s.testBit 7 = a
    generalize s.testBit 3 = b
    revert a b; decide +kernel
  · simp only [h, if_false, Nat.testBit_and, tb_put _ _ _ 3 (show (131072 : Nat) < 18446744073709551616 by decide) (by decide), tb_put _ _ _ 3 (show (128 : Nat) < 18446744073709551616 by decide) (by decide), tb_put _ _ _ 3 (show (8 : Nat) < 18446744073709551616 by decide) (by decide)]
    generalize s.testBit 7 = a
    generalize s.testBit 3 = b
    revert a b; decide +kernel
theorem lS_bit1 (s : Nat) : (lS s).testBit 1 = s.testBit 5 := by
  unfold lS
  simp only [Nat.testBit_and, tb_put _ _ _ 1 (show (131072 : Nat) < 18446744073709551616 by decide) (by decide), tb_put _ _ _ 1 (show (32 : Nat) < 18446744073709551616 by decide) (by decide), tb_put _ _ _ 1 (show (2 : Nat) < 18446744073709551616 by decide) (by decide)]
  generalize s.testBit 5 = a
  generalize s.testBit 1 = b
  revert a b; decide +kernel
theorem eM_off (s m : Nat) (hm : m = 0 ∨ m = 1 ∨ m = 3) : (eM s m).testBit 3 = false := by
  rw [eM_bit s m 3 (by decide)]
  generalize s.testBit 3 = a
  rcases hm with rfl | rfl | rfl <;> (revert a; decide +kernel)
theorem eS_off (s m : Nat) (hm : m = 0 ∨ m = 1) : (eS s m).testBit 1 = false := by
  rw [eS_bit s m 1 (by decide)]
  generalize s.testBit 1 = a
  rcases hm with rfl | rfl <;> (revert a; decide +kernel)
theorem eM_did (s m : Nat) (hm : m = 0 ∨ m = 1 ∨ m = 3) : (eM s m).testBit 7 = s.testBit 3 := by
  rw [eM_bit s m 7 (by decide)]
  generalize s.testBit 3 = a
  generalize s.testBit 7 = b
  rcases hm with rfl | rfl | rfl <;> (revert a b; decide +kernel)
theorem eS_did (s m : Nat) (hm : m = 0 ∨ m = 1) : (eS s m).testBit 5 = s.testBit 1 := by
  rw [eS_bit s m 5 (by decide)]
  generalize s.testBit 1 = a
  generalize s.testBit 5 = b
  rcases hm with rfl | rfl <;> (revert a b; decide +kernel)
theorem mp_two (x : Nat) : x / 2048 % 4 = (x.testBit 11).toNat + 2 * (x.testBit 12).toNat := by
  rw [Nat.toNat_testBit, Nat.toNat_testBit]; omega
theorem sp_one (x : Nat) : x / 256 % 2 = (x.testBit 8).toNat := by rw [Nat.toNat_testBit]
theorem mp_eM (s m : Nat) (hm : m = 0 ∨ m = 1 ∨ m = 3) : mpI (eM s m) = (m : Int) := by
  unfold mpI
  rw [mp_two, eM_bit s m 11 (by decide), eM_bit s m 12 (by decide)]
  generalize s.testBit 3 = a
  generalize s.testBit 11 = b
  generalize s.testBit 12 = c
  rcases hm with rfl | rfl | rfl <;> (revert a b c; decide +kernel)
theorem sp_eS (s m : Nat) (hm : m = 0 ∨ m = 1) : spI (eS s m) = (m : Int) := by
  unfold spI
  rw [sp_one, eS_bit s m 8 (by decide)]
  generalize s.testBit 1 = a
  generalize s.testBit 8 = b
  rcases hm with rfl | rfl <;> (revert a b; decide +kernel)
theorem back_M (s m : Nat) (hm : m = 0 ∨ m = 1 ∨ m = 3) (t : Int) : lM (eM s m) t &&& 8 = s &&& 8 := and_bit (n := 3) (by rw [lM_bit3, eM_did s m hm])
theorem back_S (s m : Nat) (hm : m = 0 ∨ m = 1) : lS (eS s m) &&& 2 = s &&& 2 := and_bit (n := 1) (by rw [lS_bit1, eS_did s m hm])
theorem eM_8 (s m : Nat) (hm : m = 0 ∨ m = 1 ∨ m = 3) : eM s m &&& 8 = 0 := and_no (n := 3) (eM_off s m hm)
theorem eS_2 (s m : Nat) (hm : m = 0 ∨ m = 1) : eS s m &&& 2 = 0 := and_no (n := 1) (eS_off s m hm)
theorem eM_lt (s : Nat) (m : Nat) (hs : s < 18446744073709551616) (hm : m = 0 ∨ m = 1 ∨ m = 3) : eM s m < 18446744073709551616 := or_lt (and_lt2 _ _ (by decide)) (by omega)
theorem eS_lt (s : Nat) (m : Nat) (hs : s < 18446744073709551616) (hm : m = 0 ∨ m = 1) : eS s m < 18446744073709551616 := or_lt (and_lt2 _ _ (by decide)) (by omega)
theorem lM_lt (s : Nat) (t : Int) : lM s t < 18446744073709551616 := and_lt2 _ _ (by decide)
theorem lS_lt (s : Nat) : lS s < 18446744073709551616 := and_lt2 _ _ (by decide)
theorem toM_ok {S : Nat → Nat} (h : OkS S) (m pc c v : Nat) (hm : m = 0 ∨ m = 1 ∨ m = 3) (hc : c < 18446744073709551616) (hv : v < 18446744073709551616) : OkS (toM S m pc c v) :=
  setN_ok (setN_ok (setN_ok (setN_ok h 6 _ (and_lt2 _ _ (by decide)) (by decide)) 7 _ hc (by decide)) 8 _ hv (by decide)) 0 _ (eM_lt _ _ (h.u 0 (by decide)) hm) (by decide)
theorem toS_ok {S : Nat → Nat} (h : OkS S) (m pc c v : Nat) (hm : m = 0 ∨ m = 1) (hc : c < 18446744073709551616) (hv : v < 18446744073709551616) : OkS (toS S m pc c v) :=
  setN_ok (setN_ok (setN_ok (setN_ok h 15 _ (and_lt2 _ _ (by decide)) (by decide)) 16 _ hc (by decide)) 17 _ hv (by decide)) 0 _ (eS_lt _ _ (h.u 0 (by decide)) hm) (by decide)
end Go.Proofs.YteeifdmnagbjeaaDoor
