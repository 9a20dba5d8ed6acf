/- Taken from other texts: what is needed of them. -/
import Derived.Test.YteinjalnkhfecaaQM
import Derived.Test.YteinjalnkhfecaaQA
import Derived.Deep.RegionHeld3
namespace Go.Proofs.Yteinjalnkhfecaa.Q
open Go.ChangeShapes Go.WideShapes Go.ChangeAt Go.RowKit
set_option linter.unusedVariables false
set_option linter.unusedSimpArgs false
/-- Is a number rounded to the next one farther from 0? -/
def awayV (rm : Int) (m : Bool) (k : Nat) (r : Int) : Bool :=
  if rm = 0 then decide (r = 3) || (decide (r = 2) && decide (k % 2 = 1))
  else if rm = 2 then decide (r ≠ 0) && m else if rm = 3 then decide (r ≠ 0) && !m else if rm = 4 then decide (2 ≤ r) else false
theorem and_mask (x k : Nat) (hx : x < 18446744073709551616) (hk : 2 ^ k ≤ 18446744073709551616) : bits .and .u64 (x : Int) ((2 ^ k - 1 : Nat) : Int) = ((x % 2 ^ k : Nat) : Int) := by
  have hp : 0 < 2 ^ k := Nat.two_pow_pos k
  rw [u64_and_nat _ _ hx (by omega), Nat.and_two_pow_sub_one_eq_mod]
theorem wrap64_nat (n : Nat) (h : n < 9223372036854775808) : wrap64 (n : Int) = n := IntWalk.wrap64_in _ ⟨by omega, by omega⟩
theorem IsW.low {h l n : Nat} (H : IsW h l n) (hn : n < 18446744073709551616) : l = n := by obtain ⟨a, b, c⟩ := H; omega
theorem cell_set_far {w : World} {b o b' o' : Nat} {v : Value} (h : b ≠ b') : (w.setCell ⟨b, o, none⟩ v).cell? ⟨b', o', none⟩ = w.cell? ⟨b', o', none⟩ :=
  World.cell?_setCell_other _ _ _ _ (by intro e; cases e; exact h rfl)
def At5 (w : World) (b : Nat) (c : Int) (m : Bool) (x : Int) (h l : Nat) : Prop :=
  w.cell? ⟨b, 0, none⟩ = some (.int .i64 c) ∧ w.cell? ⟨b, 1, none⟩ = some (.bool m) ∧ w.cell? ⟨b, 2, none⟩ = some (.int .i64 x) ∧ w.cell? ⟨b, 3, none⟩ = some (.int .u64 h) ∧ w.cell? ⟨b, 4, none⟩ = some (.int .u64 l) ∧ ∀ o, w.frozen? ⟨b, o, none⟩ = false
theorem At5.below {W w' : World} {b : Nat} {c : Int} {m : Bool} {x : Int} {h l : Nat} (H : At5 W b c m x h l) (hb : Below W.heap.size W w') (hlt : b < W.heap.size) : At5 w' b c m x h l := by
  obtain ⟨hc, hf⟩ := bcell hb
  obtain ⟨a0, a1, a2, a3, a4, a5⟩ := H
  exact ⟨by rw [hc _ _ hlt]; exact a0, by rw [hc _ _ hlt]; exact a1, by rw [hc _ _ hlt]; exact a2, by rw [hc _ _ hlt]; exact a3, by rw [hc _ _ hlt]; exact a4, fun o => by rw [hf _ _ hlt]; exact a5 o⟩
end Go.Proofs.Yteinjalnkhfecaa.Q
