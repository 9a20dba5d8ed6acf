/- A row as a thing beside a bus. -/
import Derived.Test.YthhlcchofilimaaDoorC2
import Derived.Test.YthhlcchofilimaaDoorM4
namespace Go.Proofs.YthhlcchofilimaaDoor
open Go.ChangeShapes Go.WideShapes Go.ChangeAt Go.RowKit Go.Sort Y
set_option linter.unusedVariables false
set_option linter.unusedSimpArgs false
def eRow (b : Nat) (t : TypeId) (ce : Array Value) : U.M.Th where
  P R W w := (∀ i j, R i j ↔ i = b) ∧ (∀ i j, ¬ W i j) ∧ b < w.heap.size ∧ Row w b t ce
  kept := fun ⟨h1, h2, h3, h4⟩ hc hd => ⟨h1, h2, Nat.lt_of_lt_of_le h3 hc.size, by
    unfold Row; rw [hc.block b h3 (fun o ht => hd b o ht ((h1 b o).2 rfl))]; exact h4⟩
  wr h := fun k j q => (h.2.1 k j q).elim
  rlt h := fun k j q => by rw [(h.1 k j).1 q]; exact h.2.2.1
theorem newRow {w0 w : World} {l : List U.M.Th} (h : U.Gr w0 l w) (t : TypeId) (ce : Array Value) : U.Gr w0 (l ++ [eRow w.heap.size t ce]) (w.alloc (Obj.cells ce t)) :=
  h.push ((Below.refl w.heap.size w).alloc (Nat.le_refl _) _) (R1 := fun i _ => i = w.heap.size) (W1 := fun _ _ => False) ⟨fun _ _ => Iff.rfl, fun _ _ h => h, by rw [sz_alloc]; exact Nat.lt_succ_self _, row_new _ _ _⟩ (fun k j hk => Nat.le_of_eq hk.symm)
theorem rowAt {w0 w : World} {l : List U.M.Th} (h : U.Gr w0 l w) (i : Nat) {b : Nat} {t : TypeId} {ce : Array Value} (hi : l[i]? = some (eRow b t ce)) : b < w.heap.size ∧ Row w b t ce := by
  obtain ⟨R, W, q⟩ := h.get i hi
  exact ⟨q.2.2.1, q.2.2.2⟩
theorem busAt {w0 w : World} {l : List U.M.Th} (h : U.Gr w0 l w) (i : Nat) {b : Nat} {B : U.Bs} (hi : l[i]? = some (U.eBus b B)) : BusAt b B w := by
  obtain ⟨R, W, q⟩ := h.get i hi
  exact ⟨R, W, q⟩
/-- A bus with other memory. -/
def BF (n : Nat) (X F : Nat → Nat) : U.Bs := { U.Bs0 n X [] with F := F }
theorem bf_wr (n : Nat) (X F : Nat → Nat) (x v : Nat) (h : U.M.hasV x 8 = true) : (BF n X F).wr x 8 v = BF n X (U.M.wrF F x 8 v) := by
  unfold U.Bs.wr
  rw [if_pos h]; rfl
theorem bf_sent (n : Nat) (X F : Nat → Nat) : (BF n X F).D.U.sent.length < 70368744177664 := by
  show (0 : Nat) < _; decide
theorem may_2 (x : Nat) (h : U.M.hasV x 8 = true) : U.mayB 2 x 8 = true := by
  unfold U.mayB
  rw [if_neg (by decide), if_pos (by decide), h]; rfl
theorem writeF {w0 w : World} {l : List U.M.Th} (h : U.Gr w0 l w) (i : Nat) {b n : Nat} {X F : Nat → Nat} (hi : l[i]? = some (U.eBus b (BF n X F))) (x v : Nat) (hx : x < 18446744073709551616) (hv : v < 18446744073709551616) (hh : U.M.hasV x 8 = true) :
    Calls Tryd.prog 15 #[.pointer (some ⟨b, 0, none⟩), .int .u64 x, .int .i64 8, .int .u64 v] w (fun e w' => e = .returned (.bool true) ∧ U.Gr w0 (l.set i (U.eBus b (BF n X (U.M.wrF F x 8 v)))) w') := by
  have := U.writeB h i hi x v 8 hx (by decide) hv (bf_sent n X F)
  rw [may_2 x hh, bf_wr n X F x v hh] at this
  exact this
theorem readF {w0 w : World} {l : List U.M.Th} (h : U.Gr w0 l w) (i : Nat) {b : Nat} {B : U.Bs} (hi : l[i]? = some (U.eBus b B)) (x : Nat) (hx : x < 18446744073709551616) (hh : U.M.hasV x 8 = true) :
    Calls Tryd.prog 14 #[.pointer (some ⟨b, 0, none⟩), .int .i64 1, .int .u64 x, .int .i64 8] w (fun e w' => e = .returned (.tuple #[.int .u64 (U.M.readV B.F x 8 : Nat), .bool true]) ∧ U.Gr w0 l w' ∧ Below w.heap.size w w') := by
  obtain ⟨R, W, q⟩ := h.get i hi
  refine (U.read_ram q 1 (Or.inl rfl) x 8 hx hh).mono ?_
  rintro e w' ⟨rfl, hb⟩
  exact ⟨rfl, h.below hb, hb⟩
end Go.Proofs.YthhlcchofilimaaDoor
