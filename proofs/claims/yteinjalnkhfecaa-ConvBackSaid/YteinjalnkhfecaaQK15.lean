/- Taken from other texts: what is needed of them. -/
import Derived.Test.YteinjalnkhfecaaQM
import Derived.Test.YteinjalnkhfecaaQA
import Derived.Test.YteinjalnkhfecaaQB
import Derived.Test.YteinjalnkhfecaaQC
import Derived.Test.YteinjalnkhfecaaQK3
import Derived.Test.YteinjalnkhfecaaQL
import Derived.Test.YteinjalnkhfecaaQK12
import Derived.Test.YteinjalnkhfecaaQK13
import Derived.Test.YteinjalnkhfecaaQK14
namespace Go.Proofs.Yteinjalnkhfecaa.Q
open Go.ChangeShapes Go.WideShapes Go.ChangeAt Go.RowKit
set_option linter.unusedVariables false
set_option linter.unusedSimpArgs false
def Sz (sz : Int) (d : Bool) : Prop := sz = if d then 8 else 4
theorem infinity_s (sz : Int) (d : Bool) (hs : Hid (Sz sz d)) (m : Bool) (w : World) : Calls Try.prog 63 #[.int .i64 sz, .bool m] w (RetU (infV d m) w) := by
  have h := hs.out
  cases d
  · have e : sz = 4 := h
    rw [e]; exact infinityR_4 m w
  · have e : sz = 8 := h
    rw [e]; exact infinityR_8 m w
theorem round_s (w : World) (sz : Int) (d : Bool) (hs : Hid (Sz sz d)) (rm : Int) (m : Bool) (g n p M : Nat) (E : Int) (more : Bool) (hB : Hid (IsBig w g n p M)) (hn : n ≤ 200) (h0 : Hid (M ≠ 0)) (hm : Hid (more = true → fb d + 2 ≤ blen M)) (e1 : -5000 ≤ E) (e2 : E ≤ 5000) : Calls Try.prog 59 #[.int .i64 sz, .int .i64 rm, .agg #[.bool m, .slice (some ⟨g, 0, none⟩) n p, .int .i64 E], .bool more] w (RetP (roundR d rm m M E more) w) := by
  have h := hs.out
  cases d
  · have e : sz = 4 := h
    rw [e]; exact round_4 w rm m g n p M E more hB hn h0 hm e1 e2
  · have e : sz = 8 := h
    rw [e]; exact round_8 w rm m g n p M E more hB hn h0 hm e1 e2
theorem digits_of {A k n : Nat} (h : A < 2 ^ k) (hk : k ≤ 32 * n) : shd A n = 0 := shd_eq_zero.2 (Nat.lt_of_lt_of_le h (Nat.pow_le_pow_right (by decide) hk))
/-- A sum that is being made, at a block: its sign, its digits, its exponent. -/
def AtS (w : World) (b : Nat) (m : Bool) (v : Value) (E : Int) : Prop := b < w.heap.size ∧ w.cell? ⟨b, 0, none⟩ = some (.bool m) ∧ w.cell? ⟨b, 1, none⟩ = some v ∧ w.cell? ⟨b, 2, none⟩ = some (.int .i64 E) ∧ ∀ o, w.frozen? ⟨b, o, none⟩ = false
theorem AtS.below {W w' : World} {b : Nat} {m : Bool} {v : Value} {E : Int} (H : AtS W b m v E) (hb : Below W.heap.size W w') : AtS w' b m v E := by
  obtain ⟨h0, h1, h2, h3, h4⟩ := H
  have hc := fun o => hb.cell (p := ⟨b, o, none⟩) h0
  have hf := fun o => hb.frozen (p := ⟨b, o, none⟩) h0
  exact ⟨Nat.lt_of_lt_of_le h0 hb.size, by rw [hc]; exact h1, by rw [hc]; exact h2, by rw [hc]; exact h3, fun o => by rw [hf]; exact h4 o⟩
end Go.Proofs.Yteinjalnkhfecaa.Q
