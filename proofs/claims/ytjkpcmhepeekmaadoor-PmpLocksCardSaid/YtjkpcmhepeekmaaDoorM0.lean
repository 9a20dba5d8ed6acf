/- Entries as plain functions: what the document says of them. -/
import Derived.Test.YtjkpcmhepeekmaaDoorProg
namespace Go.Proofs.YtjkpcmhepeekmaaDoor
set_option linter.unusedVariables false
set_option linter.unusedSimpArgs false
def adr (a : Nat) : Nat := a % 18014398509481984
def wayN (c : Nat) : Nat := c / 8 % 4
def lockB (c : Nat) : Bool := decide (128 ≤ c)
/-- By how many ones a number ends, at most k. -/
def ones : Nat → Nat → Nat
  | 0, _ => 0
  | k + 1, a => bif a % 2 == 1 then ones k (a / 2) + 1 else 0
theorem ones_le : ∀ (k a : Nat), ones k a ≤ k
  | 0, _ => Nat.le_refl _
  | k + 1, a => by
    show (bif a % 2 == 1 then ones k (a / 2) + 1 else 0) ≤ k + 1
    have := ones_le k (a / 2)
    cases a % 2 == 1
    · exact Nat.zero_le _
    · exact Nat.succ_le_succ this
/-- What ones there are: a ends with them, and a nought stands ahead of them if there is room. -/
theorem ones_spec : ∀ (k a : Nat), a < 2 ^ k → a % 2 ^ ones k a = 2 ^ ones k a - 1 ∧ a / 2 ^ ones k a % 2 = 0
  | 0, a, h => by
    have : a = 0 := by omega
    subst this; exact ⟨rfl, rfl⟩
  | k + 1, a, h => by
    have e : ones (k + 1) a = bif a % 2 == 1 then ones k (a / 2) + 1 else 0 := rfl
    rw [e]
    by_cases h2 : a % 2 = 1
    · rw [show (a % 2 == 1) = true by simp [h2]]
      show a % 2 ^ (ones k (a / 2) + 1) = 2 ^ (ones k (a / 2) + 1) - 1 ∧ _
      obtain ⟨i1, i2⟩ := ones_spec k (a / 2) (by rw [Nat.pow_succ] at h; omega)
      generalize ones k (a / 2) = t at i1 i2 ⊢
      have hp : 0 < 2 ^ t := Nat.two_pow_pos t
      have h3 : a / 2 ^ (t + 1) = a / 2 / 2 ^ t := by rw [Nat.pow_succ, Nat.mul_comm, Nat.div_div_eq_div_mul]
      refine ⟨?_, by rw [show (bif true then t + 1 else 0) = t + 1 from rfl, h3]; exact i2⟩
      have h4 := Nat.div_add_mod (a / 2) (2 ^ t)
      have h5 := Nat.div_add_mod a (2 ^ (t + 1))
      rw [h3] at h5
      rw [i1] at h4
      rw [Nat.pow_succ] at h5 ⊢
      have h6 : 2 ^ t * 2 * (a / 2 / 2 ^ t) = 2 * (2 ^ t * (a / 2 / 2 ^ t)) := by rw [Nat.mul_comm (2 ^ t) 2, Nat.mul_assoc]
      omega
    · rw [show (a % 2 == 1) = false by simp [h2]]
      show a % 2 ^ 0 = _ ∧ a / 2 ^ 0 % 2 = 0
      rw [Nat.pow_zero, Nat.mod_one, Nat.div_one]
      exact ⟨rfl, by omega⟩
/-- An entry's first byte, and the first one behind it. -/
def loF (c a : Nat → Nat) (n : Nat) : Nat :=
  bif wayN (c n) == 1 then (bif n == 0 then 0 else 4 * adr (a (n - 1)))
  else bif wayN (c n) == 2 then 4 * adr (a n)
  else bif wayN (c n) == 3 then 4 * adr (a n) / 2 ^ (ones 54 (adr (a n)) + 3) * 2 ^ (ones 54 (adr (a n)) + 3)
  else 0
def hiF (c a : Nat → Nat) (n : Nat) : Nat :=
  bif wayN (c n) == 1 then 4 * adr (a n)
  else bif wayN (c n) == 2 then 4 * adr (a n) + 4
  else bif wayN (c n) == 3 then 4 * adr (a n) / 2 ^ (ones 54 (adr (a n)) + 3) * 2 ^ (ones 54 (adr (a n)) + 3) + 2 ^ (ones 54 (adr (a n)) + 3)
  else 0
def rOk (c a : Nat → Nat) (n : Nat) : Bool := decide (loF c a n < hiF c a n)
def rA (c a : Nat → Nat) (n : Nat) : Nat := bif rOk c a n then loF c a n else 0
def rB (c a : Nat → Nat) (n : Nat) : Nat := bif rOk c a n then hiF c a n - 1 else 0
theorem adr_lt (a : Nat) : adr a < 18014398509481984 := Nat.mod_lt _ (by decide)
theorem way_lt (c : Nat) : wayN c < 4 := Nat.mod_lt _ (by decide)
theorem way_cases (c : Nat) : wayN c = 0 ∨ wayN c = 1 ∨ wayN c = 2 ∨ wayN c = 3 := by have := way_lt c; omega
/-- A power of two up to 2 ^ 57, and a multiple of it below 2 ^ 57. -/
theorem pow_up (t : Nat) (ht : t ≤ 54) : 8 ≤ 2 ^ (t + 3) ∧ 2 ^ (t + 3) ≤ 144115188075855872 := by
  constructor
  · have : 2 ^ 3 ≤ 2 ^ (t + 3) := Nat.pow_le_pow_right (by decide) (by omega)
    exact this
  · have : 2 ^ (t + 3) ≤ 2 ^ 57 := Nat.pow_le_pow_right (by decide) (by omega)
    exact this
theorem hi_up (c a : Nat → Nat) (n : Nat) : hiF c a n ≤ 216172782113783808 ∧ loF c a n ≤ 216172782113783808 := by
  have h1 := adr_lt (a n); have h2 := adr_lt (a (n - 1))
  have h3 := (pow_up _ (ones_le 54 (adr (a n)))).2
  have h4 := Nat.div_mul_le_self (4 * adr (a n)) (2 ^ (ones 54 (adr (a n)) + 3))
  unfold hiF loF
  generalize ones 54 (adr (a n)) = t at h3 h4 ⊢
  rcases way_cases (c n) with h | h | h | h <;> simp only [h] <;> (first | (cases n == 0 <;> simp) | simp) <;> omega
theorem r_lt (c a : Nat → Nat) (n : Nat) : rA c a n < 18446744073709551616 ∧ rB c a n < 18446744073709551616 := by
  have := hi_up c a n
  unfold rA rB
  cases rOk c a n <;> simp <;> omega
theorem r_le {c a : Nat → Nat} {n : Nat} (h : rOk c a n = true) : rA c a n ≤ rB c a n := by
  have h' := h
  unfold rOk at h'
  have h2 := of_decide_eq_true h'
  unfold rA rB; rw [h]; simp; omega
/-- What a setting allows; whether an access is one; what the entries from n on say of it. -/
def allowB (c k : Nat) : Bool :=
  bif k == 0 then c / 4 % 2 == 1 else bif k == 1 then c % 2 == 1 else bif k == 2 then c / 2 % 2 == 1 else c % 2 == 1 && c / 2 % 2 == 1
def accB (kind : Int) (x : Nat) (size : Int) : Bool :=
  (decide (size = 1) || decide (size = 2) || decide (size = 4) || decide (size = 8)) && decide (0 ≤ kind) && decide (kind ≤ 3) && decide ((x : Int) + size - 1 < 18446744073709551616)
def missB (c a : Nat → Nat) (x y n : Nat) : Bool := !rOk c a n || decide (rB c a n < x) || decide (y < rA c a n)
def partB (c a : Nat → Nat) (x y n : Nat) : Bool := decide (x < rA c a n) || decide (rB c a n < y)
def goF (c a : Nat → Nat) (m : Bool) (k x y : Nat) : Nat → Bool
  | 0 => m
  | j + 1 => bif missB c a x y (7 - j) then goF c a m k x y j else bif partB c a x y (7 - j) then false else (m && !lockB (c (7 - j))) || allowB (c (7 - j)) k
def chkB (c a : Nat → Nat) (mode kind : Int) (x : Nat) (size : Int) : Bool :=
  bif accB kind x size then goF c a (decide (mode = 3)) kind.toNat x (x + size.toNat - 1) 8 else false
/-- Settings and addresses behind a write. -/
def byteF (v n : Nat) : Nat := v / 2 ^ (8 * n) % 256
def oddB (b : Nat) : Bool := b % 4 == 2
def cleanF (b : Nat) : Nat := b / 128 * 128 + b % 32
def cfgF (c : Nat → Nat) (v n : Nat) : Nat := bif lockB (c n) || oddB (byteF v n) then c n else cleanF (byteF v n)
def heldB (c : Nat → Nat) (n : Nat) : Bool := lockB (c n) || (decide (n < 7) && lockB (c (n + 1)) && wayN (c (n + 1)) == 1)
def adrF (c a : Nat → Nat) (n v k : Nat) : Nat := bif k == n && !heldB c n then adr v else a k
end Go.Proofs.YtjkpcmhepeekmaaDoor
