/- Words for what a call returns. -/
import Derived.Test.YtbbgcjdflcfnjaaProg
import Derived.Test.YtbbgcjdflcfnjaaM0
import Derived.WalkKit
import Derived.Deep.QuietTactic
import Derived.BigQuiet
import Derived.ProofKit
import Derived.OpenShut
import Derived.WalkLawsBesides
import Derived.WalkSpells
import Derived.RegionTactic
import Derived.ChangeAlike
import Derived.Outline
import Derived.Laws.Externs
import Derived.Lib.Hide
namespace Go.Proofs.Ytbbgcjdflcfnjaa
open Go.ChangeShapes Go.WideShapes Go.ChangeAt Go.RowKit
set_option linter.unusedVariables false
set_option linter.unusedSimpArgs false
theorem le_below {n B : Nat} {w w' : World} (hb : Below B w w') (h : n ≤ w.heap.size) : n ≤ w'.heap.size := Nat.le_trans h hb.size
theorem below_step {B B' : Nat} {w w1 w2 : World} (hb : Below B' w1 w2) (h : Below B w w1) (hB : B ≤ B') : Below B w w2 := h.trans (hb.mono hB)
theorem below_drewN {B : Nat} {w w' : World} (h : Below B w w') (n : Nat) : Below B w (w'.drewN n) := ⟨h.os, h.tape, h.output, h.size, h.block⟩
theorem le_drew {n : Nat} {w : World} (h : n ≤ w.heap.size) : n ≤ w.drew.heap.size := h
theorem le_drewN {n k : Nat} {w : World} (h : n ≤ w.heap.size) : n ≤ (w.drewN k).heap.size := h
theorem sz_drewN (w : World) (k : Nat) : (w.drewN k).heap.size = w.heap.size := rfl
theorem sz_drew (w : World) : w.drew.heap.size = w.heap.size := rfl

def RetB (b : Bool) (W : World) (e : Ending) (w' : World) : Prop := e = .returned (.bool b) ∧ Below W.heap.size W w'
def RetV (t : IntKind) (n : Int) (W : World) (e : Ending) (w' : World) : Prop := e = .returned (.int t n) ∧ Below W.heap.size W w'
def RetO (t : IntKind) (o : Option Nat) (W : World) (e : Ending) (w' : World) : Prop := e = .returned (.tuple #[.int t ((o.getD 0 : Nat) : Int), .bool o.isSome]) ∧ Below W.heap.size W w'
def RetD (o : Option Bool) (W : World) (e : Ending) (w' : World) : Prop := e = .returned (.tuple #[.bool (o.getD false), .bool o.isSome]) ∧ Below W.heap.size W w'
def RetP (x y : Nat) (W : World) (e : Ending) (w' : World) : Prop := e = .returned (.tuple #[.int .u64 x, .int .u64 y]) ∧ Below W.heap.size W w'
theorem retB_mk {a b : Bool} {W w' : World} (h : a = b) (hb : Below W.heap.size W w') : RetB b W (.returned (.bool a)) w' := ⟨by rw [h], hb⟩
theorem retV_mk {t : IntKind} {a b : Int} {W w' : World} (h : a = b) (hb : Below W.heap.size W w') : RetV t b W (.returned (.int t a)) w' := ⟨by rw [h], hb⟩
theorem retO_mk {t : IntKind} {o : Option Nat} {a : Int} {b : Bool} {W w' : World} (n : Nat) (ho : o = some n) (h : a = n) (hi : b = true) (hb : Below W.heap.size W w') : RetO t o W (.returned (.tuple #[.int t a, .bool b])) w' := ⟨by rw [ho, h, hi]; rfl, hb⟩
theorem retO_no {t : IntKind} {o : Option Nat} {a : Int} {b : Bool} {W w' : World} (ho : o = none) (h : a = 0) (hi : b = false) (hb : Below W.heap.size W w') : RetO t o W (.returned (.tuple #[.int t a, .bool b])) w' := ⟨by rw [ho, h, hi]; rfl, hb⟩
theorem retD_mk {o : Option Bool} {a : Bool} {b : Bool} {W w' : World} (ho : o = some a) (hi : b = true) (hb : Below W.heap.size W w') : RetD o W (.returned (.tuple #[.bool a, .bool b])) w' := ⟨by rw [ho, hi]; rfl, hb⟩
theorem retP_mk {a b : Int} {x y : Nat} {W w' : World} (h : a = x) (h' : b = y) (hb : Below W.heap.size W w') : RetP x y W (.returned (.tuple #[.int .u64 a, .int .u64 b])) w' := ⟨by rw [h, h'], hb⟩
end Go.Proofs.Ytbbgcjdflcfnjaa
