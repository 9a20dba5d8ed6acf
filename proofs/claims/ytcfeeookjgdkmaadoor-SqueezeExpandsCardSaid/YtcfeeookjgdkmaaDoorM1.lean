/- What each half is held to: both sides' answers, and the way back. -/
import Derived.Test.YtcfeeookjgdkmaaDoorM0
namespace Go.Proofs.YtcfeeookjgdkmaaDoor
set_option linter.unusedVariables false
set_option linter.unusedSimpArgs false
/-- All numbers of k bits behind the bits of a. -/
def allB (P : Nat → Bool) : Nat → Nat → Bool
  | 0, a => P a
  | k + 1, a => allB P k (2 * a) && allB P k (2 * a + 1)
theorem allB_at {P : Nat → Bool} : ∀ {k a h : Nat}, allB P k a = true → h / 2 ^ k = a → P h = true
  | 0, a, h, hp, e => by rw [Nat.pow_zero, Nat.div_one] at e; subst e; exact hp
  | k + 1, a, h, hp, e => by
    unfold allB at hp
    rw [Bool.and_eq_true] at hp
    have e2 : h / 2 ^ k / 2 = a := by rw [Nat.div_div_eq_div_mul, ← Nat.pow_succ]; exact e
    by_cases hc : h / 2 ^ k = 2 * a
    · exact allB_at hp.1 hc
    · exact allB_at hp.2 (by omega)
def regsB (h x : Nat) : Bool :=
  let k := h / 8192
  let imm := if 4 < k then x / 33554432 * 32 ||| x / 128 % 32 else x / 1048576
  let reg := if 4 < k then x / 1048576 % 32 else x / 128 % 32
  let size := if k = 2 ∨ k = 6 then 4 else 8
  let base := x / 32768 % 32
  Nat.beq (imm % size) 0 && Nat.blt imm (32 * size) && Nat.ble 8 base && Nat.blt base 16 && Nat.ble 8 reg && Nat.blt reg 16 && Nat.beq base (h / 128 % 8 + 8) && Nat.beq reg (h / 4 % 8 + 8)
/-- Is it a short load or store of the first kind? -/
def memB (h : Nat) : Bool := Nat.beq (h % 4) 0 && !Nat.beq (h / 8192) 0 && !Nat.beq (h / 8192) 4
def okB (h : Nat) : Bool :=
  match rowsL.find? (holdsB · h) with
  | some r => Nat.beq (writeF r h) (expandD h) && Nat.blt 0 (writeF r h) && Nat.blt (writeF r h) 4294967296 && Nat.beq (readF r (writeF r h)) h && Nat.beq (Nat.land (writeF r h) 127) (Nat.land r.base 127) && Nat.beq (writeF r h % 4) 3 && Nat.blt (h % 4) 3 && (!memB h || regsB h (writeF r h))
  | none => Nat.beq (expandD h) 0 && !memB h
end Go.Proofs.YtcfeeookjgdkmaaDoor
