/- The rounding of a number of 64 bits is the document's; the document's answers in plain words. -/
import Derived.Test.YteinjalnkhfecaaC10
import Derived.Test.YteinjalnkhfecaaB11
import Derived.Test.YteinjalnkhfecaaQL
namespace Go.Proofs.Yteinjalnkhfecaa.Q
set_option linter.unusedVariables false
set_option linter.unusedSimpArgs false
/-- Rounding a number whose highest bit is the highest of 64, and counts 2^top. -/
def roundZ (d : Bool) (rm : Int) (m : Bool) (top : Int) (g k : Nat) (df : Bool) : Nat × Int :=
  let carry := k / 2 ^ (fracB d + 1)
  if bias d < top + carry then (beyondV d rm m, 5)
  else if top < 1 - bias d then
    let n2 := 63 - fracB d + (1 - bias d - top).toNat
    (noughtV d m + cutK rm m g n2, if restV g n2 = 0 then 0 else (if top + carry < 1 - bias d then 3 else 1))
  else (noughtV d m + ((top + (bias d - 1)).toNat * fracT d + k), if df then 1 else 0)
theorem roundZ_rnd (d : Bool) (rm : Int) (m : Bool) (x : Int) (g : Nat) (h1 : 2 ^ 63 ≤ g) (h2 : g < 2 ^ 64) : roundZ d rm m (x + 63) g (cutK rm m g (63 - fracB d)) (diffV g (63 - fracB d)) = rnd d rm m g x := by
  have hb : blen g = 64 := blen_of g 63 (by intro e; subst e; exact absurd h1 (by decide)) h1 h2
  have ht : topB g x = x + 63 := by unfold topB; rw [hb]; omega
  obtain ⟨lf, -, -, l2, l3, l4, -, -⟩ := lay_facts d
  have l52 : fb d ≤ 52 := by cases d <;> decide
  have c1 : ∀ p : Int, x ≤ p → cutQ rm m g x p = cutK rm m g (p - x).toNat ∧ qrR g x p = restV g (p - x).toNat := fun p hp => by
    unfold cutQ cutK qrQ qrR; rw [if_pos hp, if_pos hp]; exact ⟨rfl, rfl⟩
  unfold roundZ rnd
  simp only
  rw [ht, (c1 (x + 63 - fb d) (by omega)).1, (c1 (x + 63 - fb d) (by omega)).2, show (x + 63 - (fb d : Int) - x).toNat = 63 - fracB d by omega, lf]
  by_cases hs : x + 63 < 1 - bias d
  · rw [(c1 (1 - bias d - fb d) (by omega)).1, (c1 (1 - bias d - fb d) (by omega)).2, if_pos hs, if_pos hs, show (1 - bias d - (fb d : Int) - x).toNat = 63 - fb d + (1 - bias d - (x + 63)).toNat by omega]
  · rw [if_neg hs, if_neg hs]
    unfold diffV
    by_cases hr : restV g (63 - fb d) = 0
    · simp [hr]
    · simp [hr]
/-- How the document cuts a number to a whole one. -/
def wholeR (rm : Int) (m : Bool) (e : Int) (g : Nat) : Nat × Bool := cutR rm m g (-e) false
theorem mod_half (g n : Nat) : (g % 2 ^ (n + 1) = 0) ↔ bitN g n = 0 ∧ g % 2 ^ n = 0 := by
  rw [half_split]
  have hp := Nat.two_pow_pos n
  constructor
  · intro h
    have h1 : bitN g n * 2 ^ n = 0 := by omega
    rcases Nat.mul_eq_zero.1 h1 with h2 | h2
    · exact ⟨h2, by omega⟩
    · omega
  · rintro ⟨h1, h2⟩; rw [h1, h2]; simp
end Go.Proofs.Yteinjalnkhfecaa.Q
namespace Go.Proofs.Yteinjalnkhfecaa
set_option linter.unusedVariables false
set_option linter.unusedSimpArgs false
theorem roundY_Q (d : Bool) (rm : Int) (m : Bool) (top : Int) (g k : Nat) (df : Bool) : roundY d rm m top g k df = Q.roundZ d rm m top g k df := rfl
theorem blen_Q (g : Nat) : blen g = Q.blen g := rfl
theorem roundV_R (d : Bool) (rm : Int) (m : Bool) (x : Int) (g : Nat) (h0 : g ≠ 0) (hg : g < 18446744073709551616) (hr : 0 ≤ rm ∧ rm ≤ 4) : roundV d rm m x g = Q.roundR d rm m g x false := by
  obtain ⟨u1, u2⟩ := upV_bounds g h0 hg
  have hb := Q.blen_le g 64 hg
  have hb2 := (Q.blen_bounds g h0).1
  rw [Q.roundR_rnd d rm m g x false g x (Or.inl ⟨rfl, rfl, rfl⟩) h0 (fun h => nomatch h) hr]
  unfold roundV
  rw [if_neg h0, roundY_Q, show x + (blen g : Int) - 1 = (x + (blen g : Int) - 64) + 63 by omega]
  have := Q.roundZ_rnd d rm m (x + (blen g : Int) - 64) (upV g) u1 u2
  rw [show Q.roundZ d rm m (x + (blen g : Int) - 64 + 63) (upV g) (cutK rm m (upV g) (63 - fracB d)) (diffV (upV g) (63 - fracB d)) = _ from this]
  show Q.rnd d rm m (g * 2 ^ (64 - blen g)) _ = _
  rw [Q.rnd_scale d rm m g _ _ h0]
  congr 1
  rw [blen_Q]
  omega
end Go.Proofs.Yteinjalnkhfecaa
