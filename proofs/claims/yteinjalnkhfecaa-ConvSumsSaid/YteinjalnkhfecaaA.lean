/- Words for what a call returns. -/
import Derived.Test.YteinjalnkhfecaaProg
import Derived.Test.YteinjalnkhfecaaM0
import Derived.Test.YteinjalnkhfecaaShelf
import Derived.WalkKit
import Derived.ProofKit
import Derived.OpenShut
import Derived.WalkLawsBesides
import Derived.WalkSpells
import Derived.RegionTactic
import Derived.ChangeAlike
import Derived.Outline
import Derived.Laws.Externs
import Derived.Lib.Hide
namespace Go.Proofs.Yteinjalnkhfecaa
open Go.ChangeShapes Go.WideShapes Go.ChangeAt Go.RowKit
set_option linter.unusedVariables false
set_option linter.unusedSimpArgs false

theorem bcell {W w1 : World} (hb : Below W.heap.size W w1) : (∀ b o, b < W.heap.size → w1.cell? ⟨b, o, none⟩ = W.cell? ⟨b, o, none⟩) ∧ (∀ b o, b < W.heap.size → w1.frozen? ⟨b, o, none⟩ = W.frozen? ⟨b, o, none⟩) :=
  ⟨fun b o h => hb.cell (p := ⟨b, o, none⟩) h, fun b o h => hb.frozen (p := ⟨b, o, none⟩) h⟩

theorem sz_alloc (w : World) (o : Obj) : (w.alloc o).heap.size = w.heap.size + 1 := by show (w.heap.push _).size = _; simp
theorem sz_set (w : World) (a : Addr) (v : Value) : (w.setCell a v).heap.size = w.heap.size := by simp [World.setCell]
theorem sz_drew (w : World) : w.drew.heap.size = w.heap.size := rfl
theorem le_alloc {n : Nat} {w : World} {o : Obj} (h : n ≤ w.heap.size) : n ≤ (w.alloc o).heap.size := by rw [sz_alloc]; omega
theorem le_set {n : Nat} {w : World} {a : Addr} {v : Value} (h : n ≤ w.heap.size) : n ≤ (w.setCell a v).heap.size := by rw [sz_set]; exact h
theorem le_drew {n : Nat} {w : World} (h : n ≤ w.heap.size) : n ≤ w.drew.heap.size := h
theorem le_below {n B : Nat} {w w' : World} (hb : Below B w w') (h : n ≤ w.heap.size) : n ≤ w'.heap.size := Nat.le_trans h hb.size
theorem below_step {B B' : Nat} {w w1 w2 : World} (hb : Below B' w1 w2) (h : Below B w w1) (hB : B ≤ B') : Below B w w2 := h.trans (hb.mono hB)

def RetW (x : Nat) (W : World) (e : Ending) (w' : World) : Prop := ∃ h l : Nat, e = .returned (.agg #[.int .u64 h, .int .u64 l]) ∧ Hid (IsW h l x) ∧ Below W.heap.size W w'
def RetN (N : Num) (W : World) (e : Ending) (w' : World) : Prop := ∃ (c : Int) (m : Bool) (x : Int) (h l : Nat), e = .returned (.agg #[.int .i64 c, .bool m, .int .i64 x, .int .u64 h, .int .u64 l]) ∧ Hid (IsN c m x h l N) ∧ Below W.heap.size W w'
def RetB (b : Bool) (W : World) (e : Ending) (w' : World) : Prop := e = .returned (.bool b) ∧ Below W.heap.size W w'
def RetI (n : Int) (W : World) (e : Ending) (w' : World) : Prop := e = .returned (.int .i64 n) ∧ Below W.heap.size W w'
def RetU (n : Nat) (W : World) (e : Ending) (w' : World) : Prop := e = .returned (.int .u64 n) ∧ Below W.heap.size W w'

theorem retW_mk {h l x : Nat} {a b : Int} {W w' : World} (hI : IsW h l x) (ha : a = h) (hl : b = l) (hb : Below W.heap.size W w') : RetW x W (.returned (.agg #[.int .u64 a, .int .u64 b])) w' :=
  ⟨h, l, by rw [ha, hl], hI, hb⟩
theorem retN_mk {h l : Nat} {N : Num} {c : Int} {m : Bool} {x : Int} {a b : Int} {W w' : World} (hI : IsN c m x h l N) (ha : a = h) (hl : b = l) (hb : Below W.heap.size W w') : RetN N W (.returned (.agg #[.int .i64 c, .bool m, .int .i64 x, .int .u64 a, .int .u64 b])) w' :=
  ⟨c, m, x, h, l, by rw [ha, hl], hI, hb⟩
theorem retB_mk {a b : Bool} {W w' : World} (h : a = b) (hb : Below W.heap.size W w') : RetB b W (.returned (.bool a)) w' := ⟨by rw [h], hb⟩
theorem retI_mk {a b : Int} {W w' : World} (h : a = b) (hb : Below W.heap.size W w') : RetI b W (.returned (.int .i64 a)) w' := ⟨by rw [h], hb⟩
theorem retU_mk {a : Int} {b : Nat} {W w' : World} (h : a = b) (hb : Below W.heap.size W w') : RetU b W (.returned (.int .u64 a)) w' := ⟨by rw [h], hb⟩

end Go.Proofs.Yteinjalnkhfecaa
