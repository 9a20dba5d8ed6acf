/- Words for what a call returns. -/
import Derived.Test.YtilfeanampomjaaProg
import Derived.Test.YtilfeanampomjaaM1
import Derived.WalkKit
import Derived.Deep.QuietTactic
import Derived.BigQuiet
import Derived.ProofKit
import Derived.OpenShut
import Derived.WalkLawsBesides
import Derived.WalkSpells
import Derived.RegionTactic
import Derived.ChangeAlike
import Derived.Outline
import Derived.Laws.Externs
import Derived.Lib.Hide
namespace Go.Proofs.Ytilfeanampomjaa
open Go.ChangeShapes Go.WideShapes Go.ChangeAt Go.RowKit
set_option linter.unusedVariables false
set_option linter.unusedSimpArgs false
theorem le_below {n B : Nat} {w w' : World} (hb : Below B w w') (h : n ≤ w.heap.size) : n ≤ w'.heap.size := Nat.le_trans h hb.size
theorem below_step {B B' : Nat} {w w1 w2 : World} (hb : Below B' w1 w2) (h : Below B w w1) (hB : B ≤ B') : Below B w w2 := h.trans (hb.mono hB)
theorem below_drewN {B : Nat} {w w' : World} (h : Below B w w') (n : Nat) : Below B w (w'.drewN n) := ⟨h.os, h.tape, h.output, h.size, h.block⟩
theorem le_drew {n : Nat} {w : World} (h : n ≤ w.heap.size) : n ≤ w.drew.heap.size := h
theorem le_drewN {n k : Nat} {w : World} (h : n ≤ w.heap.size) : n ≤ (w.drewN k).heap.size := h
theorem sz_drewN (w : World) (k : Nat) : (w.drewN k).heap.size = w.heap.size := rfl
theorem sz_drew (w : World) : w.drew.heap.size = w.heap.size := rfl

def RetB (b : Bool) (W : World) (e : Ending) (w' : World) : Prop := e = .returned (.bool b) ∧ Below W.heap.size W w'
theorem retB_mk {a b : Bool} {W w' : World} (h : a = b) (hb : Below W.heap.size W w') : RetB b W (.returned (.bool a)) w' := ⟨by rw [h], hb⟩
theorem wpAny_cast {P : Program} {md : Region.Mode} {ops : Array Oper} {Q : Exit → Act → World → Prop} {fuel fuel' : Nat} {listed listed' : Array Bool} {a : Act} {w : World} (hf : fuel = fuel') (hl : listed = listed') (h : wpAny P md ops Q fuel' listed' a w) : wpAny P md ops Q fuel listed a w := by subst hf; subst hl; exact h
/-- A clint in a block: its three registers. -/
def IsC (w : World) (b x y z : Nat) : Prop := b < w.heap.size ∧
  w.cell? ⟨b, 0, none⟩ = some (.int .u64 x) ∧ w.cell? ⟨b, 1, none⟩ = some (.int .u64 y) ∧ w.cell? ⟨b, 2, none⟩ = some (.int .u64 z) ∧
  w.frozen? ⟨b, 0, none⟩ = false ∧ w.frozen? ⟨b, 1, none⟩ = false ∧ w.frozen? ⟨b, 2, none⟩ = false
theorem IsC.kept {w w' : World} {b x y z : Nat} {r : Option Nat} (h : IsC w b x y z) (hg : w.grownBy w' r) (hne : some b ≠ r) : IsC w' b x y z := by
  obtain ⟨h0, c0, c1, c2, f0, f1, f2⟩ := h
  have hb := hg.block b h0 hne
  refine ⟨Nat.lt_of_lt_of_le h0 hg.size, ?_, ?_, ?_, ?_, ?_, ?_⟩
  · rw [World.cell?_of_block (w := w) (a := ⟨b, 0, none⟩) hb]; exact c0
  · rw [World.cell?_of_block (w := w) (a := ⟨b, 1, none⟩) hb]; exact c1
  · rw [World.cell?_of_block (w := w) (a := ⟨b, 2, none⟩) hb]; exact c2
  · rw [World.frozen?_of_block (w := w) (a := ⟨b, 0, none⟩) hb]; exact f0
  · rw [World.frozen?_of_block (w := w) (a := ⟨b, 1, none⟩) hb]; exact f1
  · rw [World.frozen?_of_block (w := w) (a := ⟨b, 2, none⟩) hb]; exact f2
/-- Nothing that was there is written. -/
theorem grown_below {w w' : World} (h : Below w.heap.size w w') : w.grownBy w' none := ⟨h.os, h.tape, h.output, h.size, fun k hk _ => h.block k hk⟩
theorem IsC.below {w w' : World} {b x y z : Nat} (h : IsC w b x y z) (hb : Below w.heap.size w w') : IsC w' b x y z := h.kept (grown_below hb) (by simp)
theorem grown_refl (w : World) (r : Option Nat) : w.grownBy w r := ⟨rfl, rfl, rfl, Nat.le_refl _, fun _ _ _ => rfl⟩
theorem grown_trans {a b c : World} {r : Option Nat} (h : a.grownBy b r) (k : b.grownBy c r) : a.grownBy c r :=
  ⟨k.os.trans h.os, k.tape.trans h.tape, k.output.trans h.output, Nat.le_trans h.size k.size, fun i hi hr => (k.block i (Nat.lt_of_lt_of_le hi h.size) hr).trans (h.block i hi hr)⟩
theorem grown_any {a b : World} {r : Option Nat} (h : a.grownBy b none) : a.grownBy b r := ⟨h.os, h.tape, h.output, h.size, fun i hi _ => h.block i hi (by simp)⟩
theorem grown_alloc {a b : World} {r : Option Nat} (h : a.grownBy b r) (o : Obj) : a.grownBy (b.alloc o) r := grown_trans h (World.grownBy_alloc b o r)
theorem grown_drew {a b : World} {r : Option Nat} (h : a.grownBy b r) : a.grownBy b.drew r := ⟨h.os, h.tape, h.output, h.size, h.block⟩
theorem grown_set {a b : World} {k : Nat} (h : a.grownBy b (some k)) (o : Nat) (f : Option Nat) (u : Value) (n : Option Nat) : a.grownBy (b.setCell ⟨k, o, none⟩ u) (some k) :=
  grown_trans h ⟨rfl, rfl, rfl, by simp [World.setCell], fun i _ hi => Below.heap_setCell b ⟨k, o, none⟩ u i (fun e => hi (by rw [e]))⟩
/-- A block of three numbers that is new. -/
theorem isC_new (w : World) (x y z : Nat) (t : TypeId) : IsC (w.alloc (Obj.cells #[.int .u64 x, .int .u64 y, .int .u64 z] t)) w.heap.size x y z := by
  refine ⟨by simp, ?_, ?_, ?_, ?_, ?_, ?_⟩ <;> first | (rw [World.cell?_alloc_at _ _ _ _ rfl]; rfl) | (rw [World.frozen?_alloc_at _ _ _ _ rfl])
theorem sz_alloc (w : World) (o : Obj) : (w.alloc o).heap.size = w.heap.size + 1 := by simp
theorem sz_set (w : World) (p : Addr) (u : Value) : (w.setCell p u).heap.size = w.heap.size := by simp [World.setCell]
end Go.Proofs.Ytilfeanampomjaa
