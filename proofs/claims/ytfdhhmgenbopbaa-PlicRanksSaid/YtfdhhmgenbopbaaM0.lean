/- The plic in plain words. -/
import Derived.Test.YtfdhhmgenbopbaaProg
namespace Go.Proofs.Ytfdhhmgenbopbaa
set_option linter.unusedVariables false
set_option linter.unusedSimpArgs false
/-- What is known of the sources (line up, state, priority) and of the contexts (enabled, threshold). -/
structure St where
  up : Nat → Bool
  st : Nat → Nat
  pr : Nat → Nat
  en : Nat → Nat
  th : Nat → Nat
def S0 : St := ⟨fun _ => false, fun _ => 0, fun _ => 0, fun _ => 0, fun _ => 0⟩
def set {α : Type} (f : Nat → α) (n : Nat) (x : α) : Nat → α := fun k => if k = n then x else f k
theorem set_same {α : Type} (f : Nat → α) (n : Nat) (x : α) : set f n x n = x := by unfold set; rw [if_pos rfl]
theorem set_ne {α : Type} (f : Nat → α) (n k : Nat) (x : α) (h : k ≠ n) : set f n x k = f k := by unfold set; rw [if_neg h]
def St.setPr (S : St) (n v : Nat) : St := { S with pr := set S.pr n v }
def St.setSt (S : St) (n v : Nat) : St := { S with st := set S.st n v }
def St.setUp (S : St) (n : Nat) (v : Bool) : St := { S with up := set S.up n v }
def St.setEn (S : St) (n v : Nat) : St := { S with en := set S.en n v }
def St.setTh (S : St) (n v : Nat) : St := { S with th := set S.th n v }
def takeB (S : St) (c n : Nat) : Bool := S.en c / 2 ^ n % 2 == 1
def hitB (S : St) (c r n : Nat) : Bool := S.pr n == r && (S.st n == 1 && takeB S c n)
def rowF (S : St) (c r : Nat) : Nat → Nat → Option Nat
  | 0, _ => none
  | g + 1, k => bif hitB S c r k then some k else rowF S c r g (k + 1)
def orF : Option Nat → Nat → Nat
  | some n, _ => n
  | none, m => m
def bestF (S : St) (c : Nat) : Nat → Nat
  | 0 => 0
  | r + 1 => orF (rowF S c (r + 1) 9 0) (bestF S c r)
theorem rowF_some {S : St} {c r n : Nat} : ∀ {g k : Nat}, rowF S c r g k = some n → k ≤ n ∧ n < k + g ∧ hitB S c r n = true ∧ ∀ j, k ≤ j → j < n → hitB S c r j = false
  | 0, k, h => by cases h
  | g + 1, k, h => by
    unfold rowF at h
    cases hh : hitB S c r k
    · rw [hh] at h
      obtain ⟨h1, h2, h3, h4⟩ := rowF_some (g := g) (k := k + 1) h
      refine ⟨by omega, by omega, h3, fun j hj hjn => ?_⟩
      by_cases e : j = k
      · rw [e]; exact hh
      · exact h4 j (by omega) hjn
    · rw [hh] at h
      obtain rfl : k = n := by simpa using h
      exact ⟨Nat.le_refl _, by omega, hh, fun j hj hjn => by omega⟩
theorem rowF_none {S : St} {c r : Nat} : ∀ {g k : Nat}, rowF S c r g k = none → ∀ j, k ≤ j → j < k + g → hitB S c r j = false
  | 0, k, _ => fun j h1 h2 => by omega
  | g + 1, k, h => by
    unfold rowF at h
    cases hh : hitB S c r k
    · rw [hh] at h
      intro j h1 h2
      by_cases e : j = k
      · rw [e]; exact hh
      · exact rowF_none (g := g) (k := k + 1) h j (by omega) (by omega)
    · rw [hh] at h; cases h
/-- What the best is: none; or the first of the greatest rank. -/
theorem best_spec (S : St) (c : Nat) : ∀ r, (bestF S c r = 0 ∧ ∀ q n, 1 ≤ q → q ≤ r → n < 9 → hitB S c q n = false) ∨
    ∃ q, 1 ≤ q ∧ q ≤ r ∧ bestF S c r < 9 ∧ hitB S c q (bestF S c r) = true ∧ (∀ n, n < bestF S c r → hitB S c q n = false) ∧ (∀ p n, q < p → p ≤ r → n < 9 → hitB S c p n = false)
  | 0 => Or.inl ⟨rfl, fun q n h1 h2 _ => by omega⟩
  | r + 1 => by
    have e : bestF S c (r + 1) = orF (rowF S c (r + 1) 9 0) (bestF S c r) := rfl
    cases hr : rowF S c (r + 1) 9 0 with
    | none =>
      rw [hr] at e
      rw [show bestF S c (r + 1) = bestF S c r from e]
      have hn := rowF_none hr
      rcases best_spec S c r with ⟨h1, h2⟩ | ⟨q, h1, h2, h3, h4, h5, h6⟩
      · refine Or.inl ⟨h1, fun q n a b d => ?_⟩
        by_cases e2 : q = r + 1
        · rw [e2]; exact hn n (by omega) (by omega)
        · exact h2 q n a (by omega) d
      · refine Or.inr ⟨q, h1, by omega, h3, h4, h5, fun p n a b d => ?_⟩
        by_cases e2 : p = r + 1
        · rw [e2]; exact hn n (by omega) (by omega)
        · exact h6 p n a (by omega) d
    | some n =>
      rw [hr] at e
      rw [show bestF S c (r + 1) = n from e]
      obtain ⟨h1, h2, h3, h4⟩ := rowF_some hr
      exact Or.inr ⟨r + 1, by omega, by omega, by omega, h3, fun j hj => h4 j (by omega) hj, fun p m a b d => by omega⟩
theorem best_lt (S : St) (c r : Nat) : bestF S c r < 9 := by
  rcases best_spec S c r with ⟨h, -⟩ | ⟨q, -, -, h, -⟩
  · rw [h]; decide
  · exact h
def best (S : St) (c : Nat) : Nat := bestF S c 7
/-- Is something above the context's threshold? -/
def aboveB (S : St) (c : Nat) : Bool := decide (S.th c < S.pr (best S c))
def pendF (S : St) : Nat := (bif aboveB S 0 then 2048 else 0) + (bif aboveB S 1 then 512 else 0)
/-- The bits of the sources that wait, from the first k. -/
def waitF (S : St) : Nat → Nat
  | 0 => 0
  | k + 1 => waitF S k + (bif S.st k == 1 then 2 ^ k else 0)
theorem waitF_lt (S : St) : ∀ k, waitF S k < 2 ^ k
  | 0 => by show 0 < 1; decide
  | k + 1 => by
    have h := waitF_lt S k
    show waitF S k + (bif S.st k == 1 then 2 ^ k else 0) < 2 ^ (k + 1)
    rw [Nat.pow_succ]
    cases S.st k == 1 <;> simp <;> omega
end Go.Proofs.Ytfdhhmgenbopbaa
