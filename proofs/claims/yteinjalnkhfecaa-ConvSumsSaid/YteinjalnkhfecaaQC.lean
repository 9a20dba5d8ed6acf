/- Taken from other texts: what is needed of them. -/
import Derived.Test.YteinjalnkhfecaaQM
import Derived.Test.YteinjalnkhfecaaQB
import Derived.Deep.DeepCutAuto
import Derived.Deep.RegionWith
import Derived.Deep.RegionHeld3
namespace Go.Proofs.Yteinjalnkhfecaa.Q
open Go.ChangeShapes Go.WideShapes Go.ChangeAt Go.RowKit
set_option linter.unusedVariables false
set_option linter.unusedSimpArgs false
/-- Where the bits that are dropped stand. -/
def restV (x n : Nat) : Int := if x % 2 ^ n = 0 then 0 else if x % 2 ^ n = 2 ^ (n - 1) then 2 else if x % 2 ^ n < 2 ^ (n - 1) then 1 else 3
def cutK (rm : Int) (m : Bool) (x n : Nat) : Nat := x / 2 ^ n + (if awayV rm m (x / 2 ^ n) (restV x n) then 1 else 0)
def diffV (x n : Nat) : Bool := decide (restV x n ≠ 0)
def beyondV (d : Bool) (rm : Int) (m : Bool) : Nat := if awayV rm m 0 3 then infV d m else infV d m - 1
def fracB (d : Bool) : Nat := if d then 52 else 23
def roundY (d : Bool) (rm : Int) (m : Bool) (x : Int) (mg k : Nat) (df : Bool) : Nat × Int :=
  let carry := k / 2 ^ (fracB d + 1)
  if bias d < x + 127 + carry then (beyondV d rm m, 5)
  else if x + 127 < 1 - bias d then
    let n2 := 127 - fracB d + (1 - bias d - (x + 127)).toNat
    (noughtV d m + cutK rm m mg n2, if restV mg n2 = 0 then 0 else (if x + 127 + carry < 1 - bias d then 3 else 1))
  else (noughtV d m + ((x + 127 + (bias d - 1)).toNat * fracT d + k), if df then 1 else 0)
def roundX (d : Bool) (rm : Int) (m : Bool) (x : Int) (mg : Nat) : Nat × Int :=
  roundY d rm m x mg (cutK rm m mg (127 - fracB d)) (diffV mg (127 - fracB d))
def RetP (r : Nat × Int) (W : World) (e : Ending) (w' : World) : Prop := e = .returned (.tuple #[.int .u64 r.1, .int .i64 r.2]) ∧ Below W.heap.size W w'
theorem retP_mk {r : Nat × Int} {a b : Int} {W w' : World} (ha : a = r.1) (hb : b = r.2) (h : Below W.heap.size W w') : RetP r W (.returned (.tuple #[.int .u64 a, .int .i64 b])) w' := ⟨by rw [ha, hb], h⟩
end Go.Proofs.Yteinjalnkhfecaa.Q
