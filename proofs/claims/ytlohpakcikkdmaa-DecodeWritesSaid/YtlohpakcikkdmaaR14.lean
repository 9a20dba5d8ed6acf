/- The reference's rows of whole numbers. -/
import Derived.Test.YtlohpakcikkdmaaR15
namespace Go.Proofs.Ytlohpakcikkdmaa
open Go.ChangeShapes Go.WideShapes Go.ChangeAt Go.RowKit
set_option linter.unusedVariables false
set_option linter.unusedSimpArgs false

/-- A Go call as one step of a region that draws. -/
theorem step_go {P : Program} {ops : Array Oper} {o : Oper} {a : Act} {w : World} {K : Act → World → Prop} {Q : Exit → Act → World → Prop} {E : Prop} (hgd : o.guard = none) (f : FuncId) (fn : Func) (hf : P.funcs[f]? = some fn) (hn : (fn.name == "runtime.NumGoroutine") = false) (c : Code) (hb : fn.body = some c) (args : Array Operand) (ts : Array TypeId)
    (ho : o.op = .call { callee := .value (.func f), args := args, argTypes := ts }) (vs : Array Value) (hv : args.map a.eval = vs) (v : Value) (R : World → Prop)
    (hc : Calls P f vs w (fun e w' => e = .returned v ∧ R w')) (h : ∀ w', R w' → K (a.put o.dst v) w') :
    if Region.wanted o (yielded ops a.tmps) = true then Oper.wp P o a w K Q else E := by
  have hw : Region.wanted o (yielded ops a.tmps) = true := by simp [Region.wanted, hgd]
  rw [if_pos hw]
  subst hv
  unfold Oper.wp
  have e0 : a.eval (Operand.func f) = Value.func (Fn.func f) #[] #[] := rfl
  have e : (execOp a.eval o).run P w = .ok (.enter f (args.map a.eval)) w := by
    have hn' : ¬ fn.name = "runtime.NumGoroutine" := by simpa using hn
    simp [execOp, ho, resolve, invoke, e0, Deferred.ofValue, callFunc, hf, hn', hb]
  rw [e, Oper.upon_enter]
  exact hc.mono fun e w' hh => by rw [hh.1]; exact h w' hh.2
def op3W (o f : Nat) (k : Int) (s : ByteArray) (sz : Int) (wd un : Bool) : QRow := ⟨28799, b3 o f, k, s, sz, wd, un⟩
def op7W (o f g : Nat) (k : Int) (s : ByteArray) (sz : Int) (wd un : Bool) : QRow := ⟨4261441663, b7 o f g, k, s, sz, wd, un⟩
def brF (k : Nat) : Nat := [0, 1, 4, 5, 6, 7].getD k 0
def wh0 : List QRow := [⟨127, 55, 1, ⟨#[100, 85]⟩, 0, false, false⟩, ⟨127, 23, 2, ⟨#[100, 85]⟩, 0, false, false⟩, ⟨127, 111, 3, ⟨#[100, 74]⟩, 0, false, false⟩, op3W 103 0 4 ⟨#[100, 49, 73]⟩ 0 false false]
def wh1 : Nat → List QRow
  | 0 => wh0
  | k + 1 => wh1 k ++ [op3W 99 (brF k) (5 + k) ⟨#[49, 50, 66]⟩ 0 false false]
def wh2 : Nat → List QRow
  | 0 => wh1 6
  | k + 1 => wh2 k ++ [op3W 3 k 11 ⟨#[100, 49, 73]⟩ (2 ^ k) false false, op3W 35 k 12 ⟨#[49, 50, 83]⟩ (2 ^ k) false false]
theorem wh1_len : ∀ k, k ≤ 6 → (wh1 k).length ≤ 500 := by decide
theorem wh2_len : ∀ k, k ≤ 4 → (wh2 k).length ≤ 500 := by decide +kernel
theorem brF_lt (k : Nat) (h : k < 6) : brF k < 8 := by
  have : k = 0 ∨ k = 1 ∨ k = 2 ∨ k = 3 ∨ k = 4 ∨ k = 5 := by omega
  rcases this with rfl | rfl | rfl | rfl | rfl | rfl <;> decide

def wh3 : Nat → List QRow
  | 0 => wh2 4
  | k + 1 => wh3 k ++ [op3W 3 (4 + k) 11 ⟨#[100, 49, 73]⟩ (2 ^ k) false true]
def kkF (k : Nat) : Int := [13, 15, 16, 17, 18, 19, 21, 22].getD k 0
def wh4 : Nat → List QRow
  | 0 => wh3 3
  | k + 1 => (if k = 1 ∨ k = 5 then wh4 k else wh4 k ++ [op3W 19 k (kkF k) ⟨#[100, 49, 73, 61]⟩ 0 false false]) ++ [op7W 51 k 0 (kkF k) ⟨#[100, 49, 50]⟩ 0 false false, op7W 51 k 1 (23 + k) ⟨#[100, 49, 50]⟩ 0 false false]
def wh5 : List QRow := wh4 8 ++ [op7W 51 0 32 14 ⟨#[100, 49, 50]⟩ 0 false false, op7W 51 5 32 20 ⟨#[100, 49, 50]⟩ 0 false false]
def shF (k : Nat) : Int := [15, 19, 20].getD k 0
def tfF (k : Nat) : Nat := [1, 5, 5].getD k 0
def hiF (k : Nat) : Nat := [0, 0, 32].getD k 0
def shB (k : Nat) : Nat := [4115, 20499, 1073762323].getD k 0
def wh6 : Nat → List QRow
  | 0 => wh5
  | k + 1 => (wh6 k ++ [⟨4227887231, shB k, shF k, ⟨#[100, 49, 104, 61]⟩, 0, false, false⟩]) ++ [op7W 27 (tfF k) (hiF k) (shF k) ⟨#[100, 49, 104, 61]⟩ 0 true false, op7W 59 (tfF k) (hiF k) (shF k) ⟨#[100, 49, 50]⟩ 0 true false]
def wh7 : List QRow := wh6 3 ++ [op3W 27 0 13 ⟨#[100, 49, 73, 61]⟩ 0 true false, op7W 59 0 0 13 ⟨#[100, 49, 50]⟩ 0 true false, op7W 59 0 32 14 ⟨#[100, 49, 50]⟩ 0 true false]
def wh8 : Nat → List QRow
  | 0 => wh7 ++ [op7W 59 0 1 23 ⟨#[100, 49, 50]⟩ 0 true false]
  | k + 1 => wh8 k ++ [op7W 59 (4 + k) 1 (27 + k) ⟨#[100, 49, 50]⟩ 0 true false]
theorem wh3_len : ∀ k, k ≤ 3 → (wh3 k).length ≤ 500 := by decide +kernel
theorem wh4_len : ∀ k, k ≤ 8 → (wh4 k).length ≤ 490 := by decide +kernel
theorem wh5_len : wh5.length ≤ 500 := by decide +kernel
theorem wh6_len : ∀ k, k ≤ 3 → (wh6 k).length ≤ 490 := by decide +kernel
theorem wh7_len : wh7.length ≤ 500 := by decide +kernel
theorem wh8_len : ∀ k, k ≤ 4 → (wh8 k).length ≤ 500 := by decide +kernel
theorem nums_new (w : World) (k : IntKind) (xs : List Int) (t : TypeId) : NumsAt (w.alloc (Obj.cells (xs.map fun x => Value.int k x).toArray t)) w.heap.size k xs := by
  intro o ho
  rw [World.cell?_alloc_at _ _ _ _ rfl]
  simp [List.getD_eq_getElem?_getD, List.getElem?_eq_getElem ho]
/-- All rows. -/
def allQ : List QRow := wh8 4 ++ sy4 2 ++ fl4 ++ fl8
end Go.Proofs.Ytlohpakcikkdmaa
