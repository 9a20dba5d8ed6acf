/- Plain words of layer decode: rows, fields, immediates, instructions. No Go text is named here. -/
import Derived.WalkKit
import Derived.Laws.BitsAllLaws
namespace Go.Proofs.Ytlohpakcikkdmaa
set_option linter.unusedVariables false
set_option linter.unusedSimpArgs false

/-- A row of the table: the bits that are looked at, what they must be, the kind, and which parts there are. -/
structure Row where
  mask : Nat
  mat : Nat
  kind : Nat
  parts : Nat
deriving DecidableEq

/-- An instruction's fields. -/
structure Ins where
  kind : Int
  rd : Int
  rs1 : Int
  rs2 : Int
  rs3 : Int
  rm : Int
  csr : Int
  size : Int
  imm : Int
  ui : Bool
  un : Bool
  wo : Bool
deriving DecidableEq

def zeroI : Ins := ⟨0, 0, 0, 0, 0, 0, 0, 0, 0, false, false, false⟩

/-- The number that stands in c bits from f on. -/
def fld (b f c : Nat) : Nat := b / 2 ^ f % 2 ^ c
/-- Bits read with a sign. -/
def sgn (b : Nat) : Int := if b < 2147483648 then b else (b : Int) - 4294967296
def has (p k : Nat) : Bool := (p &&& k) != 0
def immI (b : Nat) : Int := sgn b / 1048576
def immS (b : Nat) : Int := sgn b / 33554432 * 32 + (fld b 7 5 : Int)
def immB (b : Nat) : Int := sgn b / 2147483648 * 4096 + ((fld b 7 1 * 2048 + fld b 25 6 * 32 + fld b 8 4 * 2 : Nat) : Int)
def immU (b : Nat) : Int := sgn b / 4096 * 4096
def immJ (b : Nat) : Int := sgn b / 2147483648 * 1048576 + ((fld b 12 8 * 4096 + fld b 20 1 * 2048 + fld b 21 10 * 2 : Nat) : Int)
/-- Which immediate the parts name. -/
def immV (p b : Nat) : Int :=
  if p &&& 8128 = 64 then immI b else if p &&& 8128 = 128 then immS b else if p &&& 8128 = 256 then immB b else if p &&& 8128 = 512 then immU b
  else if p &&& 8128 = 1024 then immJ b else if p &&& 8128 = 2048 then (fld b 20 6 : Int) else if p &&& 8128 = 4096 then (fld b 15 5 : Int) else 0
def regsF (p b : Nat) (I : Ins) : Ins :=
  { I with rd := if has p 1 then (fld b 7 5 : Int) else I.rd, rs1 := if has p 2 then (fld b 15 5 : Int) else I.rs1, rs2 := if has p 4 then (fld b 20 5 : Int) else I.rs2,
           rs3 := if has p 8 then (fld b 27 5 : Int) else I.rs3, rm := if has p 16 then (fld b 12 3 : Int) else I.rm, csr := if has p 32 then (fld b 20 12 : Int) else I.csr }
def sizesF (p b : Nat) (I : Ins) : Ins :=
  { I with size := if has p 16384 then (4 * 2 ^ fld b 25 1 : Nat) else if has p 8192 then (2 ^ fld b 12 2 : Nat) else I.size,
           wo := if has p 65536 then decide (fld b 21 1 = 0) else if has p 32768 then decide (fld b 3 1 = 1) else I.wo,
           un := if has p 65536 then decide (fld b 20 1 = 1) else I.un }
/-- The instruction of bits that a row holds. -/
def readF (r : Row) (b : Nat) : Ins :=
  sizesF r.parts b (regsF r.parts b { zeroI with kind := r.kind, imm := immV r.parts b, ui := has r.parts 131072, un := has r.parts 262144 })
/-- Does a row hold the bits? -/
def holdsR (r : Row) (b : Nat) : Bool := (b &&& r.mask == r.mat) && (!(has r.parts 16) || decide (fld b 12 3 ≤ 4) || decide (fld b 12 3 = 7))
/- The program's tables (decode/rows.go). -/
def wholesL : List Row := [⟨127, 55, 1, 513⟩,
  ⟨127, 23, 2, 513⟩,
  ⟨127, 111, 3, 1025⟩,
  ⟨28799, 103, 4, 67⟩,
  ⟨28799, 99, 5, 262⟩,
  ⟨28799, 4195, 6, 262⟩,
  ⟨28799, 16483, 7, 262⟩,
  ⟨28799, 20579, 8, 262⟩,
  ⟨28799, 24675, 9, 262⟩,
  ⟨28799, 28771, 10, 262⟩,
  ⟨16511, 3, 11, 8259⟩,
  ⟨24703, 16387, 11, 270403⟩,
  ⟨28799, 24579, 11, 270403⟩,
  ⟨16511, 35, 12, 8326⟩,
  ⟨28791, 19, 13, 163907⟩,
  ⟨28799, 8211, 16, 131139⟩,
  ⟨28799, 12307, 17, 131139⟩,
  ⟨28799, 16403, 18, 131139⟩,
  ⟨28799, 24595, 21, 131139⟩,
  ⟨28799, 28691, 22, 131139⟩,
  ⟨4227887231, 4115, 15, 133123⟩,
  ⟨4227887231, 20499, 19, 133123⟩,
  ⟨4227887231, 1073762323, 20, 133123⟩,
  ⟨4261441663, 4123, 15, 165891⟩,
  ⟨4261441663, 20507, 19, 165891⟩,
  ⟨4261441663, 1073762331, 20, 165891⟩,
  ⟨4261441655, 51, 13, 32775⟩,
  ⟨4261441655, 1073741875, 14, 32775⟩,
  ⟨4261441655, 4147, 15, 32775⟩,
  ⟨4261441663, 8243, 16, 7⟩,
  ⟨4261441663, 12339, 17, 7⟩,
  ⟨4261441663, 16435, 18, 7⟩,
  ⟨4261441655, 20531, 19, 32775⟩,
  ⟨4261441655, 1073762355, 20, 32775⟩,
  ⟨4261441663, 24627, 21, 7⟩,
  ⟨4261441663, 28723, 22, 7⟩,
  ⟨4261441655, 33554483, 23, 32775⟩,
  ⟨4261441663, 33558579, 24, 7⟩,
  ⟨4261441663, 33562675, 25, 7⟩,
  ⟨4261441663, 33566771, 26, 7⟩,
  ⟨4261441655, 33570867, 27, 32775⟩,
  ⟨4261441655, 33574963, 28, 32775⟩,
  ⟨4261441655, 33579059, 29, 32775⟩,
  ⟨4261441655, 33583155, 30, 32775⟩]
def systemsL : List Row := [⟨28799, 15, 31, 0⟩,
  ⟨28799, 4111, 32, 0⟩,
  ⟨4294967295, 115, 33, 0⟩,
  ⟨4294967295, 1048691, 34, 0⟩,
  ⟨4294967295, 270532723, 50, 0⟩,
  ⟨4294967295, 807403635, 49, 0⟩,
  ⟨4294967295, 273678451, 51, 0⟩,
  ⟨4261445631, 301990003, 52, 6⟩,
  ⟨28799, 4211, 35, 35⟩,
  ⟨28799, 8307, 36, 35⟩,
  ⟨28799, 12403, 37, 35⟩,
  ⟨28799, 20595, 35, 135201⟩,
  ⟨28799, 24691, 36, 135201⟩,
  ⟨28799, 28787, 37, 135201⟩,
  ⟨4193280127, 268443695, 38, 8195⟩,
  ⟨4160774271, 402661423, 39, 8199⟩,
  ⟨4160774271, 134225967, 40, 8199⟩,
  ⟨4160774271, 8239, 41, 8199⟩,
  ⟨4160774271, 536879151, 42, 8199⟩,
  ⟨4160774271, 1610620975, 43, 8199⟩,
  ⟨4160774271, 1073750063, 44, 8199⟩,
  ⟨4160774271, 2147491887, 45, 8199⟩,
  ⟨4160774271, 2684362799, 46, 8199⟩,
  ⟨4160774271, 3221233711, 47, 8199⟩,
  ⟨4160774271, 3758104623, 48, 8199⟩]
def floatsL : List Row := [⟨24703, 8199, 53, 8259⟩,
  ⟨24703, 8231, 54, 8326⟩,
  ⟨67108991, 67, 60, 16415⟩,
  ⟨67108991, 71, 61, 16415⟩,
  ⟨67108991, 75, 62, 16415⟩,
  ⟨67108991, 79, 63, 16415⟩,
  ⟨4227858559, 83, 55, 16407⟩,
  ⟨4227858559, 134217811, 56, 16407⟩,
  ⟨4227858559, 268435539, 57, 16407⟩,
  ⟨4227858559, 402653267, 58, 16407⟩,
  ⟨4260364415, 1476395091, 59, 16403⟩,
  ⟨4227887231, 536870995, 64, 16391⟩,
  ⟨4227887231, 536875091, 65, 16391⟩,
  ⟨4227887231, 536879187, 66, 16391⟩,
  ⟨4227887231, 671088723, 67, 16391⟩,
  ⟨4227887231, 671092819, 68, 16391⟩,
  ⟨4227887231, 2684362835, 69, 16391⟩,
  ⟨4227887231, 2684358739, 70, 16391⟩,
  ⟨4227887231, 2684354643, 71, 16391⟩,
  ⟨4293918847, 1074790483, 75, 16403⟩,
  ⟨4293918847, 1107296339, 75, 16403⟩,
  ⟨4257218687, 3221225555, 73, 81939⟩,
  ⟨4257218687, 3489661011, 74, 81939⟩,
  ⟨4260393087, 3758096467, 76, 16387⟩,
  ⟨4260393087, 3758100563, 72, 16387⟩,
  ⟨4260393087, 4026531923, 77, 16387⟩]
def tableL : List Row := wholesL ++ (systemsL ++ floatsL)
/-- The instruction of bits. -/
def decF (b : Nat) : Ins := match tableL.find? (fun r => holdsR r b) with | some r => readF r b | none => zeroI
end Go.Proofs.Ytlohpakcikkdmaa
