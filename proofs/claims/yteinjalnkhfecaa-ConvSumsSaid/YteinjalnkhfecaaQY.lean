/- Taken from other texts: what is needed of them besides. -/
import Derived.Test.YteinjalnkhfecaaQX
import Derived.WalkKit
import Derived.Laws.BitsAllLaws
import Derived.Laws.Bits64
import Derived.Laws.Bits64b
import Derived.Lib.ItoaNum
import Derived.ProofKit
import Derived.OpenShut
import Derived.WalkLawsBesides
import Derived.WalkSpells
import Derived.RegionTactic
import Derived.ChangeAlike
import Derived.Outline
import Derived.Laws.Externs
import Derived.Lib.Hide
import Derived.Shelf.Spec.BitsCarry
import Derived.Deep.RegionHeld3
import Derived.Laws.StructEq
import Derived.Deep.DeepCutAuto
import Derived.Deep.RegionWith
import Derived.Deep.CutBlock
import Derived.Deep.QuietTactic
import Derived.BigQuiet
import Derived.ChangeSame
import Derived.Laws.AppendOwn
import Derived.Laws.OwnMore
import Derived.Maps.AppendAt
import Derived.OwnWalk
import Derived.LoopN
import Derived.Lib.QuietBelow
import Derived.StillTailTactics
namespace Go.Proofs.Yteinjalnkhfecaa.Q
open Go.ChangeShapes Go.WideShapes Go.ChangeAt Go.RowKit
set_option linter.unusedVariables false
set_option linter.unusedSimpArgs false
theorem cutK_le (rm : Int) (m : Bool) (x n a : Nat) (h : x < 2 ^ a) (hn : n ≤ a) : cutK rm m x n ≤ 2 ^ (a - n) := by
  unfold cutK
  have : x / 2 ^ n < 2 ^ (a - n) := by
    rw [Nat.div_lt_iff_lt_mul (Nat.two_pow_pos n), ← Nat.pow_add]
    rw [show a - n + n = a by omega]; exact h
  split <;> omega
theorem cutK_le1 (rm : Int) (m : Bool) (x n : Nat) : x / 2 ^ n ≤ cutK rm m x n ∧ cutK rm m x n ≤ x / 2 ^ n + 1 := by
  unfold cutK; split <;> omega
theorem infB_pos (d : Bool) : 0 < infB d := by cases d <;> decide
theorem roundY_shape (d : Bool) (rm : Int) (m : Bool) (x : Int) (g k : Nat) (df : Bool) (hg : g < 2 ^ 128) (hk : k ≤ 2 * fracT d) :
    ∃ F, (roundY d rm m x g k df).1 = noughtV d m + F ∧ F ≤ infB d := by
  have hp := infB_pos d
  have hc : (k = 2 * fracT d ∧ k / 2 ^ (fracB d + 1) = 1) ∨ (k < 2 * fracT d ∧ k / 2 ^ (fracB d + 1) = 0) := by
    have e : 2 ^ (fracB d + 1) = 2 * fracT d := by cases d <;> decide
    rw [e]
    have hq : 0 < 2 * fracT d := by cases d <;> decide
    by_cases h : k = 2 * fracT d
    · exact .inl ⟨h, by rw [h, Nat.div_self hq]⟩
    · exact .inr ⟨by omega, Nat.div_eq_of_lt (by omega)⟩
  unfold roundY
  simp only
  generalize k / 2 ^ (fracB d + 1) = cy at hc ⊢
  split
  · unfold beyondV
    split
    · exact ⟨infB d, rfl, Nat.le_refl _⟩
    · exact ⟨infB d - 1, by unfold infV; simp only; omega, by omega⟩
  · split
    · refine ⟨_, rfl, ?_⟩
      generalize hn : (1 - bias d - (x + 127)).toNat = j
      have hj : 1 ≤ j := by omega
      have h1 := (cutK_le1 rm m g (127 - fracB d + j)).2
      have h2 : g / 2 ^ (127 - fracB d + j) ≤ g / 2 ^ (128 - fracB d) := by
        apply Nat.div_le_div_left _ (Nat.two_pow_pos _)
        exact Nat.pow_le_pow_right (by decide) (by cases d <;> simp only [fracB] <;> simp <;> omega)
      have h3 : g / 2 ^ (128 - fracB d) < infB d := by
        rw [Nat.div_lt_iff_lt_mul (Nat.two_pow_pos _)]
        exact Nat.lt_of_lt_of_le hg (by cases d <;> decide)
      omega
    · next h1 h2 =>
      refine ⟨_, rfl, ?_⟩
      cases d
      · have e1 : fracT false = 8388608 := rfl
        have e2 : infB false = 2139095040 := rfl
        have e3 : bias false = 127 := rfl
        rw [e1] at hk hc ⊢
        rw [e3] at h1 h2 ⊢
        rw [e2]
        generalize hT : (x + 127 + (127 - 1)).toNat = T
        omega
      · have e1 : fracT true = 4503599627370496 := rfl
        have e2 : infB true = 9218868437227405312 := rfl
        have e3 : bias true = 1023 := rfl
        rw [e1] at hk hc ⊢
        rw [e3] at h1 h2 ⊢
        rw [e2]
        generalize hT : (x + 127 + (1023 - 1)).toNat = T
        omega
theorem roundF_shape (d : Bool) (rm : Int) (N : Num) (h0 : N.mag ≠ 0) (hb : N.mag < 2 ^ 128) : ∃ F, (roundF d rm N).1 = noughtV d N.minus + F ∧ F ≤ infB d := by
  obtain ⟨-, r1, r2⟩ := raised_mag h0 (by decide : 127 ≤ 127) (blen_le _ _ hb)
  have k1 := cutK_le rm N.minus (raisedN N 127).mag (127 - fracB d) 128 r2 (by cases d <;> decide)
  refine roundY_shape d rm N.minus _ _ _ _ r2 (Nat.le_trans k1 ?_)
  cases d <;> decide
theorem shape_lt {d m : Bool} {F : Nat} (h : F ≤ infB d) : noughtV d m + F < 18446744073709551616 := by
  cases d <;> cases m <;> simp only [noughtV, signB, infB] at h ⊢ <;> simp at h ⊢ <;> omega
end Go.Proofs.Yteinjalnkhfecaa.Q
