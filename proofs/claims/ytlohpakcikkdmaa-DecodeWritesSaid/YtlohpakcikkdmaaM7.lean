/- The document's own answer decodes as the code does: each of its rows is a row of the code with some bits fixed, and together they cover it. -/
import Derived.Test.YtlohpakcikkdmaaR16
import Derived.Test.YtlohpakcikkdmaaR14
import Derived.Test.YtlohpakcikkdmaaM2
import Derived.Test.YtlohpakcikkdmaaM3
namespace Go.Proofs.Ytlohpakcikkdmaa
set_option linter.unusedVariables false
set_option linter.unusedSimpArgs false
/-- Which of the code's immediates a form names. -/
def impQ (s : ByteArray) : Nat := if hasQ s 122 then 4096 else if hasQ s 104 then 2048 else if letterQ s = 73 then 64 else if letterQ s = 83 then 128 else if letterQ s = 66 then 256 else if letterQ s = 85 then 512 else if letterQ s = 74 then 1024 else 0
def covB (M f c : Nat) : Bool := Nat.beq (Nat.land M (msk f c)) (msk f c)
def sizeOk (r : Row) (q : QRow) : Bool :=
  if has r.parts 16384 then covB q.mask 25 1 && decide (q.size = ((4 * 2 ^ fld q.bits 25 1 : Nat) : Int))
  else if has r.parts 8192 then covB q.mask 12 2 && decide (q.size = ((2 ^ fld q.bits 12 2 : Nat) : Int)) else decide (q.size = 0)
def wordOk (r : Row) (q : QRow) : Bool :=
  if has r.parts 65536 then covB q.mask 21 1 && (q.word == decide (fld q.bits 21 1 = 0)) else if has r.parts 32768 then covB q.mask 3 1 && (q.word == decide (fld q.bits 3 1 = 1)) else q.word == false
def unOk (r : Row) (q : QRow) : Bool :=
  if has r.parts 65536 then covB q.mask 20 1 && (q.un == decide (fld q.bits 20 1 = 1)) else q.un == has r.parts 262144
/-- A row of the document's own answer is a row of the code with some bits fixed. -/
def refs (r : Row) (q : QRow) : Bool :=
  Nat.beq (Nat.land q.mask r.mask) r.mask && Nat.beq (Nat.land q.bits r.mask) r.mat && decide (q.kind = (r.kind : Int))
  && (hasQ q.form 100 == has r.parts 1) && (hasQ q.form 49 == has r.parts 2) && (hasQ q.form 50 == has r.parts 4) && (hasQ q.form 51 == has r.parts 8) && (hasQ q.form 114 == has r.parts 16) && (hasQ q.form 99 == has r.parts 32) && (hasQ q.form 61 == has r.parts 131072)
  && Nat.beq (r.parts &&& 8128) (impQ q.form) && sizeOk r q && wordOk r q && unOk r q
/-- All numbers whose bits below n are among those of e. -/
def subs (e : Nat) : Nat → List Nat
  | 0 => [0]
  | n + 1 => if e.testBit n then subs e n ++ (subs e n).map (fun x => x + 2 ^ n) else subs e n
theorem subs_mem (e b : Nat) : ∀ n, (b &&& e) % 2 ^ n ∈ subs e n
  | 0 => by simp [subs, Nat.mod_one]
  | n + 1 => by
    have ih := subs_mem e b n
    have h : (b &&& e) % 2 ^ (n + 1) = (b &&& e) % 2 ^ n + 2 ^ n * ((b &&& e) / 2 ^ n % 2) := by rw [Nat.pow_succ, Nat.mod_mul]
    have ht : (b &&& e).testBit n = decide ((b &&& e) / 2 ^ n % 2 = 1) := Nat.testBit_eq_decide_div_mod_eq
    rw [Nat.testBit_and] at ht
    unfold subs
    by_cases he : e.testBit n = true
    · rw [if_pos he, List.mem_append]
      rcases Nat.mod_two_eq_zero_or_one ((b &&& e) / 2 ^ n) with h0 | h1
      · left; rw [h, h0, Nat.mul_zero, Nat.add_zero]; exact ih
      · right; rw [h, h1, Nat.mul_one]; exact List.mem_map.2 ⟨_, ih, rfl⟩
    · rw [if_neg he]
      have h0 : (b &&& e) / 2 ^ n % 2 = 0 := by
        rcases Nat.mod_two_eq_zero_or_one ((b &&& e) / 2 ^ n) with h0 | h1
        · exact h0
        · rw [h1] at ht; simp at ht; exact absurd ht.2 he
      rw [h, h0, Nat.mul_zero, Nat.add_zero]; exact ih
/-- Whatever the bits are that the code's row leaves open and its rows of the document's own answer fix, one of these has them. -/
def covers (L : List QRow) (r : Row) : Bool :=
  match L.find? (fun q => refs r q) with
  | none => false
  | some q0 => (subs (q0.mask - r.mask) 32).all (fun v => L.any (fun q => Nat.beq q.mask q0.mask && Nat.beq q.bits (r.mat + v)))
theorem all_refs : allQ.all (fun q => tableL.any (fun r => refs r q)) = true := by decide +kernel
theorem all_covers : tableL.all (fun r => covers allQ r) = true := by decide +kernel
end Go.Proofs.Ytlohpakcikkdmaa
