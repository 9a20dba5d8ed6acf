/- What S sees: its mathematics. -/
import Derived.Test.YtmlbobjbkbcabaaE0
namespace Go.Proofs.Ytmlbobjbkbcabaa
open Go.ChangeShapes Go.WideShapes Go.ChangeAt Go.RowKit P
set_option linter.unusedVariables false
set_option linter.unusedSimpArgs false
theorem nand_0 (a c : Nat) (ha : a < 18446744073709551616) : a &&& c &&& (18446744073709551615 - a) = 0 := by
  have e : a &&& (18446744073709551615 - a) = 0 := by
    refine ext64 (and_lt _ _ ha) (by decide) (fun i hi => ?_)
    rw [Nat.testBit_and, not_bit a i ha hi, Nat.zero_testBit]
    cases a.testBit i <;> rfl
  rw [Nat.and_comm a c, Nat.and_assoc, e]; exact Nat.and_zero _
theorem stl_hid (x : Nat) : stlN x &&& 9223372036853964509 = fldN x &&& 9223372036853964509 := by
  rcases stl_cases x with ⟨e, -⟩ | ⟨e, -⟩
  · rw [e]; exact or_mask _ _ (by decide +kernel) (by decide)
  · rw [e]
theorem shows_d {S : Nat → Nat} (h : Leg S) (v : Nat) : stlN (mixN (S 0) v 811298) &&& 9223372036853964509 = S 0 &&& 9223372036853964509 := by
  rw [stl_hid]
  have e : S 0 &&& 9223372036853964509 = fldN (S 0) &&& 9223372036853964509 := by
    have := stl_hid (S 0)
    rw [h.m0] at this; exact this
  rw [e]
  refine ext64 (and_lt2 _ _ (by decide)) (and_lt2 _ _ (by decide)) (fun i hi => ?_)
  simp only [fldN, mixN, Nat.testBit_and, Nat.testBit_or]
  obtain ⟨j, rfl⟩ : ∃ j : Fin 64, j.val = i := ⟨⟨i, hi⟩, rfl⟩
  generalize (S 0).testBit j.val = a
  generalize v.testBit j.val = b
  clear hi e h S v
  revert j a b
  decide +kernel
theorem mix_out (a b m : Nat) (ha : a < 18446744073709551616) (hm : m < 18446744073709551616) : mixN a b m &&& (18446744073709551615 - m) = a &&& (18446744073709551615 - m) := by
  unfold mixN
  refine ext64 (and_lt2 _ _ (by omega)) (and_lt _ _ ha) (fun i hi => ?_)
  simp only [Nat.testBit_and, Nat.testBit_or]
  rw [not_bit m i hm hi]
  cases a.testBit i <;> cases m.testBit i <;> cases b.testBit i <;> rfl
theorem shows_f {S : Nat → Nat} (h : Leg S) (v : Nat) : mixN (S 5) v (2 &&& S 3) &&& 18446744073709551613 = S 5 &&& 18446744073709551613 :=
  mix_mask _ _ _ _ (by decide) (and_lt2 _ _ (h.ok.u 3 (by decide))) (by rw [Nat.and_comm 2, Nat.and_assoc]; exact Nat.and_zero _)
theorem shows_r (a v : Nat) : stlN (mixN a v 811298) &&& 9223372045445521698 &&& 811298 = v &&& 811298 := by
  rw [Nat.and_assoc, show 9223372045445521698 &&& 811298 = 811298 by decide, stl_mask _ 811298 (by decide +kernel) (by decide +kernel) (by decide)]
  exact mix_in _ _ _ _ (by decide) (by decide) (by decide)
theorem shows_e {S : Nat → Nat} (h : Leg S) (v : Nat) : mixN (S 4) v (S 3) &&& S 3 = v &&& S 3 := mix_in _ _ _ _ (h.ok.u 3 (by decide)) (h.ok.u 3 (by decide)) (Nat.and_self _)
end Go.Proofs.Ytmlbobjbkbcabaa
