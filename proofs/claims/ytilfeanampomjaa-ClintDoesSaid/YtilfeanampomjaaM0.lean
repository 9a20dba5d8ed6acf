/- The clint in plain words: which part an access names, what is read, what stands behind a write. -/
import Derived.Test.YtilfeanampomjaaProg
namespace Go.Proofs.Ytilfeanampomjaa
set_option linter.unusedVariables false
set_option linter.unusedSimpArgs false
/-- The part that a place and a size name: 0: none. -/
def kd (at_ : Nat) (sz : Int) : Nat :=
  if at_ = 0 ∧ sz = 4 then 1 else
  if at_ = 16384 ∧ sz = 8 then 2 else
  if at_ = 16384 ∧ sz = 4 then 3 else
  if at_ = 16388 ∧ sz = 4 then 4 else
  if at_ = 49144 ∧ sz = 8 then 5 else
  if at_ = 49144 ∧ sz = 4 then 6 else
  if at_ = 49148 ∧ sz = 4 then 7 else
  0
/-- What is read of the three registers (soft, alarm, time). -/
def rdK (k s a t : Nat) : Nat := if k = 1 then s else if k = 2 then a else if k = 3 then a % 4294967296 else if k = 4 then a / 4294967296 else if k = 5 then t else if k = 6 then t % 4294967296 else if k = 7 then t / 4294967296 else 0
/-- What a register holds behind a write of a half. -/
def loW (x v : Nat) : Nat := x / 4294967296 * 4294967296 + v % 4294967296
def hiW (x v : Nat) : Nat := v % 4294967296 * 4294967296 + x % 4294967296
def wrS (k s v : Nat) : Nat := if k = 1 then v % 2 else s
def wrA (k a v : Nat) : Nat := if k = 2 then v else if k = 3 then loW a v else if k = 4 then hiW a v else a
def wrT (k t v : Nat) : Nat := if k = 5 then v else if k = 6 then loW t v else if k = 7 then hiW t v else t
def penV (s a t : Nat) : Nat := s * 8 + if a ≤ t then 128 else 0
theorem kd_cases (at_ : Nat) (sz : Int) : (at_ = 0 ∧ sz = 4 ∧ kd at_ sz = 1) ∨ (at_ = 16384 ∧ sz = 8 ∧ kd at_ sz = 2) ∨ (at_ = 16384 ∧ sz = 4 ∧ kd at_ sz = 3) ∨ (at_ = 16388 ∧ sz = 4 ∧ kd at_ sz = 4) ∨ (at_ = 49144 ∧ sz = 8 ∧ kd at_ sz = 5) ∨ (at_ = 49144 ∧ sz = 4 ∧ kd at_ sz = 6) ∨ (at_ = 49148 ∧ sz = 4 ∧ kd at_ sz = 7) ∨ (¬ (at_ = 0 ∧ sz = 4) ∧ ¬ (at_ = 16384 ∧ sz = 8) ∧ ¬ (at_ = 16384 ∧ sz = 4) ∧ ¬ (at_ = 16388 ∧ sz = 4) ∧ ¬ (at_ = 49144 ∧ sz = 8) ∧ ¬ (at_ = 49144 ∧ sz = 4) ∧ ¬ (at_ = 49148 ∧ sz = 4) ∧ kd at_ sz = 0) := by
  unfold kd
  by_cases h0 : at_ = 0 ∧ sz = 4
  · left; obtain ⟨rfl, rfl⟩ := h0; exact ⟨rfl, rfl, by decide⟩
  by_cases h1 : at_ = 16384 ∧ sz = 8
  · right; left; obtain ⟨rfl, rfl⟩ := h1; exact ⟨rfl, rfl, by decide⟩
  by_cases h2 : at_ = 16384 ∧ sz = 4
  · right; right; left; obtain ⟨rfl, rfl⟩ := h2; exact ⟨rfl, rfl, by decide⟩
  by_cases h3 : at_ = 16388 ∧ sz = 4
  · right; right; right; left; obtain ⟨rfl, rfl⟩ := h3; exact ⟨rfl, rfl, by decide⟩
  by_cases h4 : at_ = 49144 ∧ sz = 8
  · right; right; right; right; left; obtain ⟨rfl, rfl⟩ := h4; exact ⟨rfl, rfl, by decide⟩
  by_cases h5 : at_ = 49144 ∧ sz = 4
  · right; right; right; right; right; left; obtain ⟨rfl, rfl⟩ := h5; exact ⟨rfl, rfl, by decide⟩
  by_cases h6 : at_ = 49148 ∧ sz = 4
  · right; right; right; right; right; right; left; obtain ⟨rfl, rfl⟩ := h6; exact ⟨rfl, rfl, by decide⟩
  · right; right; right; right; right; right; right; exact ⟨h0, h1, h2, h3, h4, h5, h6, by rw [if_neg h0, if_neg h1, if_neg h2, if_neg h3, if_neg h4, if_neg h5, if_neg h6]⟩
theorem kd_le (at_ : Nat) (sz : Int) : kd at_ sz ≤ 7 := by
  rcases kd_cases at_ sz with ⟨-, -, h⟩ | ⟨-, -, h⟩ | ⟨-, -, h⟩ | ⟨-, -, h⟩ | ⟨-, -, h⟩ | ⟨-, -, h⟩ | ⟨-, -, h⟩ | ⟨-, -, -, -, -, -, -, h⟩ <;> omega
end Go.Proofs.Ytilfeanampomjaa
