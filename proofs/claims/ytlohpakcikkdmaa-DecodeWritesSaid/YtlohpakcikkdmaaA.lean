/- Words for what a call returns. -/
import Derived.Test.YtlohpakcikkdmaaProg
import Derived.Test.YtlohpakcikkdmaaM0
import Derived.WalkKit
import Derived.ProofKit
import Derived.OpenShut
import Derived.WalkLawsBesides
import Derived.WalkSpells
import Derived.RegionTactic
import Derived.ChangeAlike
import Derived.Outline
import Derived.Laws.Externs
import Derived.Lib.Hide
namespace Go.Proofs.Ytlohpakcikkdmaa
open Go.ChangeShapes Go.WideShapes Go.ChangeAt Go.RowKit
set_option linter.unusedVariables false
set_option linter.unusedSimpArgs false

theorem bcell {W w1 : World} (hb : Below W.heap.size W w1) : (∀ b o, b < W.heap.size → w1.cell? ⟨b, o, none⟩ = W.cell? ⟨b, o, none⟩) ∧ (∀ b o, b < W.heap.size → w1.frozen? ⟨b, o, none⟩ = W.frozen? ⟨b, o, none⟩) :=
  ⟨fun b o h => hb.cell (p := ⟨b, o, none⟩) h, fun b o h => hb.frozen (p := ⟨b, o, none⟩) h⟩

theorem sz_alloc (w : World) (o : Obj) : (w.alloc o).heap.size = w.heap.size + 1 := by show (w.heap.push _).size = _; simp
theorem sz_set (w : World) (a : Addr) (v : Value) : (w.setCell a v).heap.size = w.heap.size := by simp [World.setCell]
theorem sz_drew (w : World) : w.drew.heap.size = w.heap.size := rfl
theorem le_alloc {n : Nat} {w : World} {o : Obj} (h : n ≤ w.heap.size) : n ≤ (w.alloc o).heap.size := by rw [sz_alloc]; omega
theorem le_set {n : Nat} {w : World} {a : Addr} {v : Value} (h : n ≤ w.heap.size) : n ≤ (w.setCell a v).heap.size := by rw [sz_set]; exact h
theorem le_drew {n : Nat} {w : World} (h : n ≤ w.heap.size) : n ≤ w.drew.heap.size := h
theorem le_below {n B : Nat} {w w' : World} (hb : Below B w w') (h : n ≤ w.heap.size) : n ≤ w'.heap.size := Nat.le_trans h hb.size
theorem below_step {B B' : Nat} {w w1 w2 : World} (hb : Below B' w1 w2) (h : Below B w w1) (hB : B ≤ B') : Below B w w2 := h.trans (hb.mono hB)

def RetB (b : Bool) (W : World) (e : Ending) (w' : World) : Prop := e = .returned (.bool b) ∧ Below W.heap.size W w'
def RetI (n : Int) (W : World) (e : Ending) (w' : World) : Prop := e = .returned (.int .i64 n) ∧ Below W.heap.size W w'
def RetU (n : Nat) (W : World) (e : Ending) (w' : World) : Prop := e = .returned (.int .u32 n) ∧ Below W.heap.size W w'
theorem retB_mk {a b : Bool} {W w' : World} (h : a = b) (hb : Below W.heap.size W w') : RetB b W (.returned (.bool a)) w' := ⟨by rw [h], hb⟩
theorem retI_mk {a b : Int} {W w' : World} (h : a = b) (hb : Below W.heap.size W w') : RetI b W (.returned (.int .i64 a)) w' := ⟨by rw [h], hb⟩
theorem retU_mk {a : Int} {b : Nat} {W w' : World} (h : a = b) (hb : Below W.heap.size W w') : RetU b W (.returned (.int .u32 a)) w' := ⟨by rw [h], hb⟩

/-- An instruction as a value. -/
def cellsI (I : Ins) : Array Value := #[.int .i64 I.kind, .int .i64 I.rd, .int .i64 I.rs1, .int .i64 I.rs2, .int .i64 I.rs3, .int .i64 I.rm, .int .i64 I.csr, .int .i64 I.size, .int .i64 I.imm, .bool I.ui, .bool I.un, .bool I.wo]
def RetX (I : Ins) (W : World) (e : Ending) (w' : World) : Prop := e = .returned (.agg (cellsI I)) ∧ Below W.heap.size W w'
/-- A row as a value. -/
def cellsR (r : Row) : Array Value := #[.int .u32 r.mask, .int .u32 r.mat, .int .u8 r.kind, .int .u32 r.parts]

theorem mask_low (k x : Nat) : x &&& (2 ^ k - 1) = x % 2 ^ k := Nat.and_two_pow_sub_one_eq_mod x k
theorem u32_low (x k : Nat) (hx : x < 4294967296) (hk : k < 32) : bits .and .u32 (x : Int) ((2 ^ k - 1 : Nat) : Int) = ((x % 2 ^ k : Nat) : Int) := by
  have : 2 ^ k < 2 ^ 32 := Nat.pow_lt_pow_right (by decide) hk
  rw [u32_and_nat x (2 ^ k - 1) hx (by omega), mask_low]
end Go.Proofs.Ytlohpakcikkdmaa
