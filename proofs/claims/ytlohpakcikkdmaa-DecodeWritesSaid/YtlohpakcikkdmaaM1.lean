/- Plain words of layer decode: how an instruction is written. No Go text is named here. -/
import Derived.Test.YtlohpakcikkdmaaM0
namespace Go.Proofs.Ytlohpakcikkdmaa
set_option linter.unusedVariables false
set_option linter.unusedSimpArgs false
/-- The lowest c bits of a number, from f on. -/
def plN (x : Int) (f c : Nat) : Nat := (x % (2 ^ c : Nat)).toNat * 2 ^ f
def powV (s : Int) : Int := if s = 2 then 1 else if s = 4 then 2 else if s = 8 then 3 else 0
def wRegs (I : Ins) : Nat := plN I.rd 7 5 ||| (plN I.rs1 15 5 ||| plN I.rs2 20 5 ||| plN I.rs3 27 5) ||| plN I.rm 12 3 ||| plN I.csr 20 12
def wSz1 (p : Nat) (I : Ins) : Nat := if has p 8192 then 0 ||| plN (powV I.size) 12 2 else 0
def wSz2 (p : Nat) (I : Ins) : Nat := if has p 16384 && decide (I.size = 8) then wSz1 p I ||| 33554432 else wSz1 p I
def wSz3 (p : Nat) (I : Ins) : Nat := if has p 32768 && I.wo then wSz2 p I ||| 8 else wSz2 p I
def wSz4 (p : Nat) (I : Ins) : Nat := if has p 65536 && !I.wo then wSz3 p I ||| 2097152 else wSz3 p I
def wSizes (p : Nat) (I : Ins) : Nat := if has p 65536 && I.un then wSz4 p I ||| 1048576 else wSz4 p I
def wImm (p : Nat) (i : Int) : Nat :=
  if p &&& 8128 = 64 then plN i 20 12 else if p &&& 8128 = 128 then plN (i / 32) 25 7 ||| plN i 7 5
  else if p &&& 8128 = 256 then plN (i / 4096) 31 1 ||| plN (i / 2048) 7 1 ||| plN (i / 32) 25 6 ||| plN (i / 2) 8 4
  else if p &&& 8128 = 512 then plN (i / 4096) 12 20
  else if p &&& 8128 = 1024 then plN (i / 1048576) 31 1 ||| plN (i / 4096) 12 8 ||| plN (i / 2048) 20 1 ||| plN (i / 2) 21 10
  else if p &&& 8128 = 2048 then plN i 20 6 else if p &&& 8128 = 4096 then plN i 15 5 else 0
/-- A row's bits with an instruction's fields in them. -/
def writeF (r : Row) (I : Ins) : Nat := r.mat ||| wRegs I ||| wSizes r.parts I ||| wImm r.parts I.imm
/-- The bits that an instruction has by a row. -/
def tryF (r : Row) (I : Ins) : Option Nat := if (r.kind : Int) = I.kind ∧ decF (writeF r I) = I then some (writeF r I) else none
/-- The bits of an instruction. -/
def encF (I : Ins) : Option Nat := tableL.findSome? (fun r => tryF r I)
theorem plN_lt (x : Int) (f c : Nat) (h : f + c ≤ 32) : plN x f c < 4294967296 := by
  unfold plN
  have h1 : (x % (2 ^ c : Nat)).toNat < 2 ^ c := by
    have := Int.emod_lt_of_pos x (show (0 : Int) < ((2 ^ c : Nat) : Int) by exact_mod_cast Nat.two_pow_pos c)
    have h0 := Int.emod_nonneg x (show ((2 ^ c : Nat) : Int) ≠ 0 by exact_mod_cast Nat.ne_of_gt (Nat.two_pow_pos c))
    omega
  have h2 : (x % (2 ^ c : Nat)).toNat * 2 ^ f < 2 ^ c * 2 ^ f := Nat.mul_lt_mul_of_pos_right h1 (Nat.two_pow_pos f)
  rw [← Nat.pow_add] at h2
  have h3 : 2 ^ (c + f) ≤ 2 ^ 32 := Nat.pow_le_pow_right (by decide) (by omega)
  omega
theorem or_lt32 (x y : Nat) (hx : x < 4294967296) (hy : y < 4294967296) : x ||| y < 4294967296 := Nat.or_lt_two_pow (n := 32) hx hy
theorem wRegs_lt (I : Ins) : wRegs I < 4294967296 :=
  or_lt32 _ _ (or_lt32 _ _ (or_lt32 _ _ (plN_lt _ _ _ (by decide)) (or_lt32 _ _ (or_lt32 _ _ (plN_lt _ _ _ (by decide)) (plN_lt _ _ _ (by decide))) (plN_lt _ _ _ (by decide)))) (plN_lt _ _ _ (by decide))) (plN_lt _ _ _ (by decide))
theorem wSz1_lt (p : Nat) (I : Ins) : wSz1 p I < 4294967296 := by
  unfold wSz1; split
  · exact or_lt32 _ _ (by decide) (plN_lt _ _ _ (by decide))
  · decide
theorem wSz2_lt (p : Nat) (I : Ins) : wSz2 p I < 4294967296 := by
  unfold wSz2; split
  · exact or_lt32 _ _ (wSz1_lt p I) (by decide)
  · exact wSz1_lt p I
theorem wSz3_lt (p : Nat) (I : Ins) : wSz3 p I < 4294967296 := by
  unfold wSz3; split
  · exact or_lt32 _ _ (wSz2_lt p I) (by decide)
  · exact wSz2_lt p I
theorem wSz4_lt (p : Nat) (I : Ins) : wSz4 p I < 4294967296 := by
  unfold wSz4; split
  · exact or_lt32 _ _ (wSz3_lt p I) (by decide)
  · exact wSz3_lt p I
theorem wSizes_lt (p : Nat) (I : Ins) : wSizes p I < 4294967296 := by
  unfold wSizes; split
  · exact or_lt32 _ _ (wSz4_lt p I) (by decide)
  · exact wSz4_lt p I
theorem wImm_lt (p : Nat) (i : Int) : wImm p i < 4294967296 := by
  unfold wImm
  (repeat' split) <;> first | decide | exact plN_lt _ _ _ (by decide) | exact or_lt32 _ _ (plN_lt _ _ _ (by decide)) (plN_lt _ _ _ (by decide)) | exact or_lt32 _ _ (or_lt32 _ _ (or_lt32 _ _ (plN_lt _ _ _ (by decide)) (plN_lt _ _ _ (by decide))) (plN_lt _ _ _ (by decide))) (plN_lt _ _ _ (by decide))
theorem writeF_lt (r : Row) (I : Ins) (h : r.mat < 4294967296) : writeF r I < 4294967296 :=
  or_lt32 _ _ (or_lt32 _ _ (or_lt32 _ _ h (wRegs_lt I)) (wSizes_lt _ I)) (wImm_lt _ _)
end Go.Proofs.Ytlohpakcikkdmaa
