/- Words for what a call returns. -/
import Derived.Test.YtfdhhmgenbopbaaProg
import Derived.Test.YtfdhhmgenbopbaaM0
import Derived.WalkKit
import Derived.Deep.QuietTactic
import Derived.BigQuiet
import Derived.ProofKit
import Derived.OpenShut
import Derived.WalkLawsBesides
import Derived.WalkSpells
import Derived.RegionTactic
import Derived.ChangeAlike
import Derived.Outline
import Derived.Laws.Externs
import Derived.Lib.Hide
namespace Go.Proofs.Ytfdhhmgenbopbaa
open Go.ChangeShapes Go.WideShapes Go.ChangeAt Go.RowKit
set_option linter.unusedVariables false
set_option linter.unusedSimpArgs false
theorem le_below {n B : Nat} {w w' : World} (hb : Below B w w') (h : n ≤ w.heap.size) : n ≤ w'.heap.size := Nat.le_trans h hb.size
theorem below_step {B B' : Nat} {w w1 w2 : World} (hb : Below B' w1 w2) (h : Below B w w1) (hB : B ≤ B') : Below B w w2 := h.trans (hb.mono hB)
theorem below_drewN {B : Nat} {w w' : World} (h : Below B w w') (n : Nat) : Below B w (w'.drewN n) := ⟨h.os, h.tape, h.output, h.size, h.block⟩
theorem le_drew {n : Nat} {w : World} (h : n ≤ w.heap.size) : n ≤ w.drew.heap.size := h
theorem le_drewN {n k : Nat} {w : World} (h : n ≤ w.heap.size) : n ≤ (w.drewN k).heap.size := h
theorem sz_drewN (w : World) (k : Nat) : (w.drewN k).heap.size = w.heap.size := rfl
theorem sz_drew (w : World) : w.drew.heap.size = w.heap.size := rfl

def RetB (b : Bool) (W : World) (e : Ending) (w' : World) : Prop := e = .returned (.bool b) ∧ Below W.heap.size W w'
theorem retB_mk {a b : Bool} {W w' : World} (h : a = b) (hb : Below W.heap.size W w') : RetB b W (.returned (.bool a)) w' := ⟨by rw [h], hb⟩
/-- Nothing that was there is written. -/
theorem grown_below {w w' : World} (h : Below w.heap.size w w') : w.grownBy w' none := ⟨h.os, h.tape, h.output, h.size, fun k hk _ => h.block k hk⟩
theorem grown_refl (w : World) (r : Option Nat) : w.grownBy w r := ⟨rfl, rfl, rfl, Nat.le_refl _, fun _ _ _ => rfl⟩
theorem grown_trans {a b c : World} {r : Option Nat} (h : a.grownBy b r) (k : b.grownBy c r) : a.grownBy c r :=
  ⟨k.os.trans h.os, k.tape.trans h.tape, k.output.trans h.output, Nat.le_trans h.size k.size, fun i hi hr => (k.block i (Nat.lt_of_lt_of_le hi h.size) hr).trans (h.block i hi hr)⟩
theorem grown_any {a b : World} {r : Option Nat} (h : a.grownBy b none) : a.grownBy b r := ⟨h.os, h.tape, h.output, h.size, fun i hi _ => h.block i hi (by simp)⟩
theorem grown_alloc {a b : World} {r : Option Nat} (h : a.grownBy b r) (o : Obj) : a.grownBy (b.alloc o) r := grown_trans h (World.grownBy_alloc b o r)
theorem grown_drew {a b : World} {r : Option Nat} (h : a.grownBy b r) : a.grownBy b.drew r := ⟨h.os, h.tape, h.output, h.size, h.block⟩
theorem grown_set {a b : World} {k : Nat} (h : a.grownBy b (some k)) (o : Nat) (f : Option Nat) (u : Value) (n : Option Nat) : a.grownBy (b.setCell ⟨k, o, none⟩ u) (some k) :=
  grown_trans h ⟨rfl, rfl, rfl, by simp [World.setCell], fun i _ hi => Below.heap_setCell b ⟨k, o, none⟩ u i (fun e => hi (by rw [e]))⟩
theorem sz_alloc (w : World) (o : Obj) : (w.alloc o).heap.size = w.heap.size + 1 := by simp
theorem sz_set (w : World) (p : Addr) (u : Value) : (w.setCell p u).heap.size = w.heap.size := by simp [World.setCell]
/-- A plic's cells, in their order. -/
def cellsP (S : St) : Array Value := #[
  .bool (S.up 0), .int .i64 (S.st 0 : Nat), .int .u64 (S.pr 0 : Nat), .bool (S.up 1), .int .i64 (S.st 1 : Nat), .int .u64 (S.pr 1 : Nat), .bool (S.up 2), .int .i64 (S.st 2 : Nat), .int .u64 (S.pr 2 : Nat),
  .bool (S.up 3), .int .i64 (S.st 3 : Nat), .int .u64 (S.pr 3 : Nat), .bool (S.up 4), .int .i64 (S.st 4 : Nat), .int .u64 (S.pr 4 : Nat), .bool (S.up 5), .int .i64 (S.st 5 : Nat), .int .u64 (S.pr 5 : Nat),
  .bool (S.up 6), .int .i64 (S.st 6 : Nat), .int .u64 (S.pr 6 : Nat), .bool (S.up 7), .int .i64 (S.st 7 : Nat), .int .u64 (S.pr 7 : Nat), .bool (S.up 8), .int .i64 (S.st 8 : Nat), .int .u64 (S.pr 8 : Nat),
  .int .u64 (S.en 0 : Nat), .int .u64 (S.th 0 : Nat), .int .u64 (S.en 1 : Nat), .int .u64 (S.th 1 : Nat)]
theorem isSome31 (S : St) (k : Nat) (hk : k < 31) : ((cellsP S)[k]?).isSome = true := by
  have : k < (cellsP S).size := hk
  rw [Array.getElem?_eq_getElem this]; rfl
/-- A plic in a block. -/
def IsP (w : World) (b : Nat) (S : St) : Prop := b < w.heap.size ∧ ∀ o, o < 31 → w.cell? ⟨b, o, none⟩ = (cellsP S)[o]? ∧ w.frozen? ⟨b, o, none⟩ = false
theorem IsP.kept {w w' : World} {b : Nat} {S : St} {r : Option Nat} (h : IsP w b S) (hg : w.grownBy w' r) (hne : some b ≠ r) : IsP w' b S := by
  obtain ⟨h0, h1⟩ := h
  have hb := hg.block b h0 hne
  refine ⟨Nat.lt_of_lt_of_le h0 hg.size, fun o ho => ⟨?_, ?_⟩⟩
  · rw [World.cell?_of_block (w := w) (a := ⟨b, o, none⟩) hb]; exact (h1 o ho).1
  · rw [World.frozen?_of_block (w := w) (a := ⟨b, o, none⟩) hb]; exact (h1 o ho).2
theorem IsP.below {w w' : World} {b : Nat} {S : St} (h : IsP w b S) (hb : Below w.heap.size w w') : IsP w' b S := h.kept (grown_below hb) (by simp)
theorem isP_new (w : World) (S : St) (t : TypeId) : IsP (w.alloc (Obj.cells (cellsP S) t)) w.heap.size S := by
  refine ⟨by simp, fun o ho => ⟨?_, ?_⟩⟩
  · rw [World.cell?_alloc_at _ _ _ _ rfl]
  · rw [World.frozen?_alloc_at _ _ _ _ rfl]
theorem IsP.setCell {w : World} {b o : Nat} {S S' : St} {u : Value} (h : IsP w b S) (ho : o < 31) (hs : ∀ k, k < 31 → (cellsP S')[k]? = if k = o then some u else (cellsP S)[k]?) : IsP (w.setCell ⟨b, o, none⟩ u) b S' := by
  obtain ⟨h0, h1⟩ := h
  refine ⟨by rw [sz_set]; exact h0, fun k hk => ⟨?_, by rw [World.frozen?_setCell]; exact (h1 k hk).2⟩⟩
  rw [hs k hk]
  by_cases e : k = o
  · subst e
    rw [if_pos rfl, World.cell?_setCell_same _ _ _ (by rw [(h1 k hk).1]; exact Array.getElem?_eq_getElem (show k < (cellsP S).size from hk))]
  · rw [if_neg e, World.cell?_setCell_other _ _ _ _ (by intro q; injection q with q1 q2; exact e q2.symm)]
    exact (h1 k hk).1
theorem IsP.pr {w : World} {b : Nat} {S : St} (h : IsP w b S) (n : Nat) (hn : n < 9) : w.cell? ⟨b, n * 3 + 2, none⟩ = some (.int .u64 (S.pr n : Nat)) := by
  rw [(h.2 (n * 3 + 2) (by omega)).1]
  have : n = 0 ∨ n = 1 ∨ n = 2 ∨ n = 3 ∨ n = 4 ∨ n = 5 ∨ n = 6 ∨ n = 7 ∨ n = 8 := by omega
  rcases this with rfl | rfl | rfl | rfl | rfl | rfl | rfl | rfl | rfl <;> rfl
theorem IsP.st {w : World} {b : Nat} {S : St} (h : IsP w b S) (n : Nat) (hn : n < 9) : w.cell? ⟨b, n * 3 + 1, none⟩ = some (.int .i64 (S.st n : Nat)) := by
  rw [(h.2 (n * 3 + 1) (by omega)).1]
  have : n = 0 ∨ n = 1 ∨ n = 2 ∨ n = 3 ∨ n = 4 ∨ n = 5 ∨ n = 6 ∨ n = 7 ∨ n = 8 := by omega
  rcases this with rfl | rfl | rfl | rfl | rfl | rfl | rfl | rfl | rfl <;> rfl
theorem IsP.up {w : World} {b : Nat} {S : St} (h : IsP w b S) (n : Nat) (hn : n < 9) : w.cell? ⟨b, n * 3, none⟩ = some (.bool (S.up n)) := by
  rw [(h.2 (n * 3) (by omega)).1]
  have : n = 0 ∨ n = 1 ∨ n = 2 ∨ n = 3 ∨ n = 4 ∨ n = 5 ∨ n = 6 ∨ n = 7 ∨ n = 8 := by omega
  rcases this with rfl | rfl | rfl | rfl | rfl | rfl | rfl | rfl | rfl <;> rfl
theorem IsP.en {w : World} {b : Nat} {S : St} (h : IsP w b S) (c : Nat) (hn : c < 2) : w.cell? ⟨b, 27 + c * 2, none⟩ = some (.int .u64 (S.en c : Nat)) := by
  rw [(h.2 (27 + c * 2) (by omega)).1]
  have : c = 0 ∨ c = 1 := by omega
  rcases this with rfl | rfl <;> rfl
theorem IsP.th {w : World} {b : Nat} {S : St} (h : IsP w b S) (c : Nat) (hn : c < 2) : w.cell? ⟨b, 27 + c * 2 + 1, none⟩ = some (.int .u64 (S.th c : Nat)) := by
  rw [(h.2 (27 + c * 2 + 1) (by omega)).1]
  have : c = 0 ∨ c = 1 := by omega
  rcases this with rfl | rfl <;> rfl
theorem IsP.fr {w : World} {b : Nat} {S : St} (h : IsP w b S) (o : Nat) (ho : o < 31) : w.frozen? ⟨b, o, none⟩ = false := (h.2 o ho).2
end Go.Proofs.Ytfdhhmgenbopbaa
