/- The document's own answer writes as the code does. -/
import Derived.Test.YtlohpakcikkdmaaM8
import Derived.Test.YtlohpakcikkdmaaR19
namespace Go.Proofs.Ytlohpakcikkdmaa
set_option linter.unusedVariables false
set_option linter.unusedSimpArgs false
def Sub (y M : Nat) : Prop := y &&& M = y
theorem sub_bit {y M : Nat} (h : Sub y M) (i : Nat) : (y.testBit i && M.testBit i) = y.testBit i := by rw [← Nat.testBit_and, h]
theorem sub_of {y M : Nat} (h : ∀ i, (y.testBit i && M.testBit i) = y.testBit i) : Sub y M := Nat.eq_of_testBit_eq fun i => by rw [Nat.testBit_and]; exact h i
theorem sub_or {y z M L : Nat} (h : Sub y M) (g : Sub z L) : Sub (y ||| z) (M ||| L) := sub_of fun i => by
  have a := sub_bit h i; have b := sub_bit g i
  simp only [Nat.testBit_or]; revert a b; cases y.testBit i <;> cases z.testBit i <;> cases M.testBit i <;> cases L.testBit i <;> simp
theorem sub_left {y M : Nat} (h : Sub y M) (L : Nat) : Sub y (M ||| L) := sub_of fun i => by
  have a := sub_bit h i
  simp only [Nat.testBit_or]; revert a; cases y.testBit i <;> cases M.testBit i <;> cases L.testBit i <;> simp
theorem sub_trans {y M L : Nat} (h : Sub y M) (g : Sub M L) : Sub y L := sub_of fun i => by
  have a := sub_bit h i; have b := sub_bit g i
  revert a b; cases y.testBit i <;> cases M.testBit i <;> cases L.testBit i <;> simp
theorem sub_zero (M : Nat) : Sub 0 M := by unfold Sub; exact Nat.zero_and M
theorem plN_sub (x : Int) (f c : Nat) : Sub (plN x f c) (msk f c) := by
  unfold Sub
  rw [← fld_place]
  unfold plN fld
  have h0 : (x % (2 ^ c : Nat)).toNat < 2 ^ c := by
    have h1 := Int.emod_lt_of_pos x (show (0 : Int) < ((2 ^ c : Nat) : Int) by have := Nat.two_pow_pos c; omega)
    have h2 := Int.emod_nonneg x (show ((2 ^ c : Nat) : Int) ≠ 0 by have := Nat.two_pow_pos c; omega)
    omega
  rw [Nat.mul_div_cancel _ (Nat.two_pow_pos f), Nat.mod_eq_of_lt h0]
def imQ (l : Nat) : Nat := if l = 73 then msk 20 12 else if l = 83 then msk 7 5 ||| msk 25 7 else if l = 66 then msk 8 4 ||| msk 25 6 ||| msk 7 1 ||| msk 31 1 else if l = 85 then msk 12 20 else if l = 74 then msk 21 10 ||| msk 20 1 ||| msk 12 8 ||| msk 31 1 else 0
/-- The places of a form's fields. -/
def fmQ (s : ByteArray) : Nat :=
  (if hasQ s 100 then msk 7 5 else 0) ||| (if hasQ s 49 then msk 15 5 else 0) ||| (if hasQ s 50 then msk 20 5 else 0) ||| (if hasQ s 51 then msk 27 5 else 0) ||| (if hasQ s 114 then msk 12 3 else 0) ||| (if hasQ s 99 then msk 20 12 else 0)
  ||| (if hasQ s 104 then msk 20 6 else 0) ||| (if hasQ s 122 then msk 15 5 else 0) ||| imQ (letterQ s)
/-- A number with fields laid over it. -/
def Laid (bt x M : Nat) : Prop := ∃ y, x = bt ||| y ∧ Sub y M
theorem laid_or {bt x M : Nat} (h : Laid bt x M) (v : Int) (f c : Nat) : Laid bt (x ||| plN v f c) (M ||| msk f c) := by
  obtain ⟨y, rfl, hy⟩ := h
  exact ⟨y ||| plN v f c, Nat.or_assoc _ _ _, sub_or hy (plN_sub v f c)⟩
theorem laid_if {bt x M : Nat} (h : Laid bt x M) (t : Bool) (v : Int) (f c : Nat) : Laid bt (if t then x ||| plN v f c else x) (M ||| if t then msk f c else 0) := by
  cases t
  · obtain ⟨y, rfl, hy⟩ := h; exact ⟨y, rfl, sub_left hy _⟩
  · exact laid_or h v f c
theorem laid_imm {bt x A : Nat} (h : Laid bt x A) (I : Ins) (s : ByteArray) : Laid bt (immW (letterQ s) I x) (A ||| imQ (letterQ s)) := by
  rcases letterQ_cases s with e | e | e | e | e | e
  all_goals rw [e]
  · exact laid_or h _ 20 12
  · show Laid bt (x ||| plN I.imm 7 5 ||| plN (I.imm / 32) 25 7) (A ||| (msk 7 5 ||| msk 25 7))
    rw [← Nat.or_assoc A]
    exact laid_or (laid_or h I.imm 7 5) (I.imm / 32) 25 7
  · show Laid bt (x ||| plN (I.imm / 2) 8 4 ||| plN (I.imm / 32) 25 6 ||| plN (I.imm / 2048) 7 1 ||| plN (I.imm / 4096) 31 1) (A ||| (msk 8 4 ||| msk 25 6 ||| msk 7 1 ||| msk 31 1))
    rw [← Nat.or_assoc A, ← Nat.or_assoc A, ← Nat.or_assoc A]
    exact laid_or (laid_or (laid_or (laid_or h (I.imm / 2) 8 4) (I.imm / 32) 25 6) (I.imm / 2048) 7 1) (I.imm / 4096) 31 1
  · exact laid_or h _ 12 20
  · show Laid bt (x ||| plN (I.imm / 2) 21 10 ||| plN (I.imm / 2048) 20 1 ||| plN (I.imm / 4096) 12 8 ||| plN (I.imm / 1048576) 31 1) (A ||| (msk 21 10 ||| msk 20 1 ||| msk 12 8 ||| msk 31 1))
    rw [← Nat.or_assoc A, ← Nat.or_assoc A, ← Nat.or_assoc A]
    exact laid_or (laid_or (laid_or (laid_or h (I.imm / 2) 21 10) (I.imm / 2048) 20 1) (I.imm / 4096) 12 8) (I.imm / 1048576) 31 1
  · obtain ⟨y, h1, h2⟩ := h; exact ⟨y, h1, sub_left h2 _⟩
theorem laid_write (bt : Nat) (s : ByteArray) (I : Ins) : Laid bt (writeQ bt s I) (fmQ s) := by
  have h0 : Laid bt bt 0 := ⟨0, (Nat.or_zero bt).symm, sub_zero 0⟩
  have h8 := laid_if (laid_if (laid_if (laid_if (laid_if (laid_if (laid_if (laid_if h0 (hasQ s 100) I.rd 7 5) (hasQ s 49) I.rs1 15 5) (hasQ s 50) I.rs2 20 5) (hasQ s 51) I.rs3 27 5) (hasQ s 114) I.rm 12 3) (hasQ s 99) I.csr 20 12) (hasQ s 104) I.imm 20 6) (hasQ s 122) I.imm 15 5
  rw [Nat.zero_or] at h8
  exact laid_imm h8 I s
end Go.Proofs.Ytlohpakcikkdmaa
