/- Taken from other texts: what is needed of them. -/
import Derived.Test.YthhlcchofilimaaDoorUA
import Derived.ChangeKeysEq
import Derived.Laws.Rows
import Derived.Deep.WholeRow
import Derived.Maps.RangeWalk
import Derived.Deep.LoopGhost
import Derived.Deep.AppendSrc
import Derived.Deep.Upon
import Derived.Laws.BytesArg
import Derived.Deep.RegionHeld3
import Derived.Laws.MakeOwn
namespace Go.Proofs.YthhlcchofilimaaDoor.U.M
set_option linter.unusedVariables false
set_option linter.unusedSimpArgs false
set_option maxRecDepth 20000
set_option maxRecDepth 20000
open Go.Maps Go.WideMaps Go.ChangeShapes Go.WideShapes Go.ChangeAt Go.RowKit
theorem PageIs.congr {w : World} {p : Nat} {f g : Nat → Nat} (h : PageIs w p f) (e : ∀ i, i < 4096 → f i = g i) : PageIs w p g :=
  ⟨h.1, fun i hi => by rw [← e i hi]; exact h.2 i hi⟩
/-- A memory is its bytes where it may have any. -/
theorem MemD.congr {S : Nat → Prop} {w : World} {m b : Nat} {D : DataW Unit} {F G : Nat → Nat} (h : MemD S w m b D F) (e : ∀ s i, s < 18446744073709551616 → s % 4096 = 0 → i < 4096 → F (s + i) = G (s + i)) : MemD S w m b D G := by
  obtain ⟨h0, hm, h1, hb, hne, h2, ⟨h3, h4, h5⟩, h6⟩ := h
  refine ⟨h0, hm, h1, hb, hne, h2, ⟨fun s hs hh => ?_, fun s hs ha hh i hi => by rw [← e s i hs ha hi]; exact h4 s hs ha hh i hi, h5⟩, h6⟩
  obtain ⟨p, q1, q2⟩ := h3 s hs hh
  exact ⟨p, q1, q2.congr (fun i hi => e s i hs (h6 s p hs hh q1).2.2.2.1 hi)⟩
def RetS (F : Nat → Nat) (W : World) (e : Ending) (w' : World) : Prop := ∃ m S, e = .returned (.pointer (some ⟨m, 0, none⟩)) ∧ MemS S w' m F ∧ (∀ i, S i → W.heap.size ≤ i ∧ i < w'.heap.size) ∧ Below W.heap.size W w'
theorem cnt_nil : cntD (.map []) = 0 := by
  unfold cntD
  rw [List.countP_eq_zero]
  intro i _
  show ¬ (Maps.has (.map [] : DataW Unit) (keyL (2147483648 + 4096 * i)) = true)
  rw [show Maps.has (.map [] : DataW Unit) (keyL (2147483648 + 4096 * i)) = false from rfl]
  decide
theorem new_s (w : World) : Calls Tryd.prog 26 #[] w (RetS (fun _ => 0) w) := by
  have hmm := @run_makeMap_plain Tryd.prog
  go_enter Tryd.func26, Tryd.ntmps26
  go_wp2_with fail
  go_ret
  refine ⟨w.heap.size + 1, fun i => i = w.heap.size ∨ i = w.heap.size + 1, rfl, ⟨w.heap.size, .map [], ?_, Or.inr rfl, ?_, Or.inl rfl, by omega, ?_, laid_nil _, fun s p _ hh _ => by cases hh⟩, fun i hi => ?_, Below.alloc (Below.alloc (Below.refl _ _) (Nat.le_refl _) _) (by simp) _⟩
  · simp
  · rw [World.cell?_alloc_at _ _ _ _ (by simp)]; rfl
  · rw [cnt_nil]; exact (World.ownsMap_made _ _ _ _).kept (World.grownBy_alloc _ _ none) (by simp)
  · simp; omega
end Go.Proofs.YthhlcchofilimaaDoor.U.M
namespace Go.Proofs.YthhlcchofilimaaDoor.U.M
set_option linter.unusedVariables false
set_option linter.unusedSimpArgs false
set_option maxRecDepth 20000
set_option maxRecDepth 20000
open Go.Maps Go.WideMaps Go.ChangeShapes Go.WideShapes Go.ChangeAt Go.RowKit
end Go.Proofs.YthhlcchofilimaaDoor.U.M
namespace Go.Proofs.YthhlcchofilimaaDoor.U.M
set_option linter.unusedVariables false
set_option linter.unusedSimpArgs false
set_option maxRecDepth 20000
set_option maxRecDepth 20000
open Go.Maps Go.WideMaps Go.ChangeShapes Go.WideShapes Go.ChangeAt Go.RowKit
/-- An image was laid. -/
def RetLay (S : Nat → Prop) (m n : Nat) (F R : Nat → Nat) (W : World) (e : Ending) (w' : World) : Prop := e = .returned (.bool true) ∧ Laying S W m 2147483648 n F R w'
set_option maxRecDepth 100000 in
theorem lay_c (S : Nat → Prop) (m g o n c : Nat) (F R : Nat → Nat) (w : World) (hM : Hid (MemS S w m F)) (hSb : Hid (∀ i, S i → i < w.heap.size)) (hg : Hid (g < w.heap.size ∧ ¬ S g)) (hn : Hid (n ≤ 1048576)) (hnc : Hid (n ≤ c)) (hr : Hid (∀ i, i < n → w.cell? ⟨g, o + i, none⟩ = some (.int .u8 (R i)))) :
    Calls Tryd.prog 27 #[.pointer (some ⟨m, 0, none⟩), .slice (some ⟨g, o, none⟩) n c] w (RetLay S m n F R w) := by
  have h1 : ¬ ((1048576 : Int) < n) := by have := hn.out; omega
  go_enter Tryd.func27, Tryd.ntmps27
  go_wp2_with fail
  refine (put_c S m g o n c 2147483648 F R w hM hSb hg (Lib.hid ⟨Nat.le_refl _, by have := hn.out; omega⟩) (Lib.hid ⟨hnc.out, by have := hn.out; omega⟩) hr).mono ?_; rintro e w1 ⟨rfl, hl⟩
  have HL := Lib.hid hl
  clear hl
  go_wp2_with fail
  go_ret
  exact ⟨rfl, HL.out⟩
theorem lay_big (m n c : Nat) (a : Option Addr) (w : World) (hn : (1048576 : Int) < n) : Calls Tryd.prog 27 #[.pointer (some ⟨m, 0, none⟩), .slice a n c] w (RetB false w) := by
  go_enter Tryd.func27, Tryd.ntmps27
  go_wp2_with fail
  go_ret
  exact retB_mk rfl (by repeat (first | (with_reducible first | exact Below.refl _ _ | assumption | exact Nat.le_refl _ | refine Below.drew ?_ | refine Below.alloc ?_ ?_ _ | refine below_drewN ?_ _ | refine Below.setCell ?_ ?_ _ | refine le_alloc ?_ | refine le_set ?_ | refine le_drew ?_ | refine le_drewN ?_ | refine below_step (by assumption) ?_ ?_ | refine le_below (by assumption) ?_) | (dsimp only; omega)))
end Go.Proofs.YthhlcchofilimaaDoor.U.M
namespace Go.Proofs.YthhlcchofilimaaDoor.U.M
set_option linter.unusedVariables false
set_option linter.unusedSimpArgs false
set_option maxRecDepth 20000
set_option maxRecDepth 20000
open Go.Maps Go.WideMaps Go.ChangeShapes Go.WideShapes Go.ChangeAt Go.RowKit
end Go.Proofs.YthhlcchofilimaaDoor.U.M
namespace Go.Proofs.YthhlcchofilimaaDoor.U.M
set_option linter.unusedVariables false
set_option linter.unusedSimpArgs false
set_option maxRecDepth 20000
set_option maxRecDepth 20000
def swp (X : Nat → Nat) (i j : Nat) : Nat → Nat := fun k => if k = i then X j else if k = j then X i else X k
/-- Reached by swaps of places from a on, below b. -/
inductive Sw (a b : Nat) (X : Nat → Nat) : (Nat → Nat) → Prop
  | refl : Sw a b X X
  | step (Y : Nat → Nat) (i j : Nat) : Sw a b X Y → a ≤ i → i < b → a ≤ j → j < b → Sw a b X (swp Y i j)
theorem Sw.trans {a b : Nat} {X Y Z : Nat → Nat} (h : Sw a b X Y) (k : Sw a b Y Z) : Sw a b X Z := by
  induction k with
  | refl => exact h
  | step Z i j _ h1 h2 h3 h4 ih => exact .step Z i j ih h1 h2 h3 h4
theorem Sw.mono {a b c d : Nat} {X Y : Nat → Nat} (h : Sw a b X Y) (h1 : c ≤ a) (h2 : b ≤ d) : Sw c d X Y := by
  induction h with
  | refl => exact .refl
  | step Z i j _ k1 k2 k3 k4 ih => exact .step Z i j ih (by omega) (by omega) (by omega) (by omega)
theorem Sw.out {a b : Nat} {X Y : Nat → Nat} (h : Sw a b X Y) : ∀ k, k < a ∨ b ≤ k → Y k = X k := by
  induction h with
  | refl => exact fun _ _ => rfl
  | step Z i j _ k1 k2 k3 k4 ih =>
    intro k hk
    unfold swp
    rw [if_neg (by omega), if_neg (by omega)]
    exact ih k hk
end Go.Proofs.YthhlcchofilimaaDoor.U.M
namespace Go.Proofs.YthhlcchofilimaaDoor.U.M
set_option linter.unusedVariables false
set_option linter.unusedSimpArgs false
set_option maxRecDepth 20000
set_option maxRecDepth 20000
open Go.Maps Go.WideMaps Go.ChangeShapes Go.WideShapes Go.ChangeAt Go.RowKit
def RowU (w : World) (g n : Nat) (X : Nat → Nat) : Prop := g < w.heap.size ∧ ∀ i, i < n → w.cell? ⟨g, i, none⟩ = some (.int .u64 (X i : Nat)) ∧ w.frozen? ⟨g, i, none⟩ = false
theorem RowU.set {w : World} {g n : Nat} {X Y : Nat → Nat} (h : RowU w g n X) (i x : Nat) (hi : i < n) (hY : ∀ k, k < n → Y k = if k = i then x else X k) : RowU (w.setCell ⟨g, i, none⟩ (.int .u64 (x : Nat))) g n Y := by
  obtain ⟨h0, h1⟩ := h
  refine ⟨by rw [sz_set]; exact h0, fun k hk => ⟨?_, by rw [World.frozen?_setCell]; exact (h1 k hk).2⟩⟩
  rw [hY k hk]
  by_cases e : k = i
  · subst e
    rw [if_pos rfl, World.cell?_setCell_same _ _ _ (h1 k hk).1]
  · rw [if_neg e, World.cell?_setCell_other _ _ _ _ (by intro q; injection q with q1 q2; exact e q2.symm)]
    exact (h1 k hk).1
end Go.Proofs.YthhlcchofilimaaDoor.U.M
namespace Go.Proofs.YthhlcchofilimaaDoor.U.M
set_option linter.unusedVariables false
set_option linter.unusedSimpArgs false
set_option maxRecDepth 20000
set_option maxRecDepth 20000
open Go.Maps Go.WideMaps Go.ChangeShapes Go.WideShapes Go.ChangeAt Go.RowKit
/-- A slice that reads as a list. -/
def IsA (w : World) (a : Option Addr) (L : List Nat) : Prop := 0 < L.length → ∃ g, a = some ⟨g, 0, none⟩ ∧ RowU w g L.length (fun i => L.getD i 0)
theorem RowU.below {w w' : World} {g n : Nat} {X : Nat → Nat} (h : RowU w g n X) (hb : Below w.heap.size w w') : RowU w' g n X :=
  ⟨Nat.lt_of_lt_of_le h.1 hb.size, fun i hi => ⟨by rw [hb.cell (p := ⟨g, i, none⟩) h.1]; exact (h.2 i hi).1, by rw [hb.frozen (p := ⟨g, i, none⟩) h.1]; exact (h.2 i hi).2⟩⟩
theorem IsA.below {w w' : World} {a : Option Addr} {L : List Nat} (h : IsA w a L) (hb : Below w.heap.size w w') : IsA w' a L := fun h0 => by
  obtain ⟨g, h1, h2⟩ := h h0
  exact ⟨g, h1, h2.below hb⟩
/-- What a write leaves. -/
def wrF (F : Nat → Nat) (a : Nat) (sz : Int) (v : Nat) : Nat → Nat := if hasV a sz = true then layF F a sz.toNat (byteV v) else F
def RetWr (S : Nat → Prop) (m : Nat) (ok : Bool) (F : Nat → Nat) (W : World) (e : Ending) (w' : World) : Prop := e = .returned (.bool ok) ∧ ∃ S', MemS S' w' m F ∧ Own S W w' ∧ ∀ i, S' i → i < w'.heap.size ∧ (S i ∨ W.heap.size ≤ i)
theorem write_c (S : Nat → Prop) (m a v : Nat) (sz : Int) (F : Nat → Nat) (w : World) (hM : Hid (MemS S w m F)) (hSb : Hid (∀ i, S i → i < w.heap.size)) (ha : Hid (a < 18446744073709551616)) (hv : Hid (v < 18446744073709551616)) :
    Calls Tryd.prog 46 #[.pointer (some ⟨m, 0, none⟩), .int .u64 a, .int .i64 sz, .int .u64 v] w (RetWr S m (hasV a sz) (wrF F a sz v) w) := by
  unfold wrF
  cases hh : hasV a sz
  · refine (write_n m a sz v w ha hh).mono (fun e w' h => ?_)
    obtain ⟨h1, h2⟩ := h
    rw [if_neg (by decide)]
    exact ⟨h1, S, hM.out.kept (T := fun _ => False) (Own.below h2) (fun _ _ h => h), Own.below h2, fun i hi => ⟨Nat.lt_of_lt_of_le (hSb.out i hi) h2.size, Or.inl hi⟩⟩
  · have h := hh
    unfold hasV at h
    have h2 := (of_decide_eq_true h).1
    obtain ⟨n, rfl⟩ : ∃ n : Nat, sz = n := ⟨sz.toNat, by omega⟩
    rw [if_pos rfl, Int.toNat_natCast]
    refine (write_y S m a n v F w hM hSb (by show _ ∨ _; omega) ha hv hh).mono (fun e w' h => ?_)
    obtain ⟨h1, S', q1, q2, q3⟩ := h
    exact ⟨h1, S', q1, q2, q3⟩
end Go.Proofs.YthhlcchofilimaaDoor.U.M
namespace Go.Proofs.YthhlcchofilimaaDoor.U.M
set_option linter.unusedVariables false
set_option linter.unusedSimpArgs false
set_option maxRecDepth 20000
set_option maxRecDepth 20000
open Go.Maps Go.WideMaps Go.ChangeShapes Go.WideShapes Go.ChangeAt Go.RowKit
theorem put_zero (m a c : Nat) (s : Option Addr) (w : World) : Calls Tryd.prog 51 #[.pointer (some ⟨m, 0, none⟩), .int .u64 a, .slice s 0 c] w (fun e w' => e = .returned (.tuple #[]) ∧ w' = w) := by
  go_enter Tryd.func51, Tryd.ntmps51
  go_wp2_with fail
  refine wp_loop_rounds 1 ?_
  rw [rounds_succ]
  go_wp2_with fail
  go_end0
  exact ⟨rfl, rfl⟩
theorem lay_zero (m c : Nat) (s : Option Addr) (w : World) : Calls Tryd.prog 27 #[.pointer (some ⟨m, 0, none⟩), .slice s 0 c] w (fun e w' => e = .returned (.bool true) ∧ w' = w) := by
  go_enter Tryd.func27, Tryd.ntmps27
  go_wp2_with fail
  refine (put_zero m 2147483648 c s w).mono ?_; rintro e w1 ⟨rfl, hb⟩
  go_wp2_with fail
  go_ret
  exact ⟨rfl, rfl⟩
end Go.Proofs.YthhlcchofilimaaDoor.U.M
namespace Go.Proofs.YthhlcchofilimaaDoor.U.M
set_option linter.unusedVariables false
set_option linter.unusedSimpArgs false
set_option maxRecDepth 20000
set_option maxRecDepth 20000
open Go.ChangeShapes Go.WideShapes Go.ChangeAt Go.RowKit
/-- Of what was there only the cells of T may have changed. -/
structure Ch (T : Nat → Nat → Prop) (w w' : World) : Prop where
  os : w'.os = w.os
  tape : w'.tape = w.tape
  output : w'.output = w.output
  size : w.heap.size ≤ w'.heap.size
  block : ∀ k, k < w.heap.size → (∀ o, ¬ T k o) → w'.heap[k]? = w.heap[k]?
  cell : ∀ k o, k < w.heap.size → ¬ T k o → w'.cell? ⟨k, o, none⟩ = w.cell? ⟨k, o, none⟩
  frozen : ∀ k o, k < w.heap.size → w'.frozen? ⟨k, o, none⟩ = w.frozen? ⟨k, o, none⟩
  there : ∀ k o, k < w.heap.size → (w.cell? ⟨k, o, none⟩).isSome = true → (w'.cell? ⟨k, o, none⟩).isSome = true
variable {T T2 R : Nat → Nat → Prop} {w w' : World}
theorem Ch.refl (T : Nat → Nat → Prop) (w : World) : Ch T w w := ⟨rfl, rfl, rfl, Nat.le_refl _, fun _ _ _ => rfl, fun _ _ _ _ => rfl, fun _ _ _ => rfl, fun _ _ _ h => h⟩
theorem Ch.trans {a b c : World} (h : Ch T a b) (k : Ch T2 b c) (hT : ∀ i j, T2 i j → T i j ∨ a.heap.size ≤ i) : Ch T a c := by
  have no : ∀ i j, i < a.heap.size → ¬ T i j → ¬ T2 i j := fun i j hi hn h2 => by
    rcases hT i j h2 with h3 | h3
    · exact hn h3
    · omega
  have lt : ∀ i, i < a.heap.size → i < b.heap.size := fun i hi => Nat.lt_of_lt_of_le hi h.size
  exact ⟨k.os.trans h.os, k.tape.trans h.tape, k.output.trans h.output, Nat.le_trans h.size k.size,
    fun i hi hn => (k.block i (lt i hi) (fun o => no i o hi (hn o))).trans (h.block i hi hn),
    fun i o hi hn => (k.cell i o (lt i hi) (no i o hi hn)).trans (h.cell i o hi hn),
    fun i o hi => (k.frozen i o (lt i hi)).trans (h.frozen i o hi),
    fun i o hi hs => k.there i o (lt i hi) (h.there i o hi hs)⟩
theorem Ch.mono (h : Ch T w w') (hT : ∀ i j, T i j → T2 i j) : Ch T2 w w' :=
  ⟨h.os, h.tape, h.output, h.size, fun k hk hn => h.block k hk (fun o ht => hn o (hT _ _ ht)), fun k o hk hn => h.cell k o hk (fun ht => hn (hT _ _ ht)), h.frozen, h.there⟩
theorem Ch.of_below (T : Nat → Nat → Prop) (h : Below w.heap.size w w') : Ch T w w' :=
  ⟨h.os, h.tape, h.output, h.size, fun k hk _ => h.block k hk, fun k o hk _ => World.cell?_of_block (w := w) (a := ⟨k, o, none⟩) (h.block k hk), fun k o hk => World.frozen?_of_block (w := w) (a := ⟨k, o, none⟩) (h.block k hk),
    fun k o hk hs => by rw [World.cell?_of_block (w := w) (a := ⟨k, o, none⟩) (h.block k hk)]; exact hs⟩
theorem Ch.below {B : Nat} {w0 : World} (h : Ch T w w') (hT : ∀ i j, T i j → B ≤ i) (h0 : Below B w0 w) (hB : B ≤ w.heap.size) : Below B w0 w' :=
  h0.trans ⟨h.os, h.tape, h.output, h.size, fun k hk => h.block k (Nat.lt_of_lt_of_le hk hB) (fun o ht => by have := hT k o ht; omega)⟩
theorem Ch.set (T : Nat → Nat → Prop) (w : World) (b o : Nat) (v : Value) (hT : T b o) (hs : (w.cell? ⟨b, o, none⟩).isSome = true) : Ch T w (w.setCell ⟨b, o, none⟩ v) := by
  refine ⟨rfl, rfl, rfl, by rw [sz_set]; exact Nat.le_refl _, fun k hk hn => ?_, fun k p hk hn => ?_, fun k p hk => World.frozen?_setCell _ _ _ _, fun k p hk h => ?_⟩
  · exact Below.heap_setCell w ⟨b, o, none⟩ v k (fun e => hn o (by rw [show k = b from e]; exact hT))
  · exact World.cell?_setCell_other _ _ _ _ (fun e => by injection e with e1 e2; subst e1 e2; exact hn hT)
  · by_cases e : (⟨b, o, none⟩ : Addr) = ⟨k, p, none⟩
    · rw [← e]
      obtain ⟨u, hu⟩ := Option.isSome_iff_exists.1 hs
      rw [World.cell?_setCell_same _ _ _ hu]; rfl
    · rw [World.cell?_setCell_other _ _ _ _ e]; exact h
/-- A slice of bytes in memory. -/
structure SlA (w : World) (a : Option Addr) (n c g o : Nat) (L : List Nat) : Prop where
  len : L.length = n
  le : n ≤ c
  addr : 0 < c → a = some ⟨g, o, none⟩ ∧ g < w.heap.size
  cell : ∀ i, i < n → w.cell? ⟨g, o + i, none⟩ = some (.int .u8 (L.getD i 0 : Nat))
  there : ∀ i, i < c → (w.cell? ⟨g, o + i, none⟩).isSome = true ∧ w.frozen? ⟨g, o + i, none⟩ = false
variable {a : Option Addr} {n c g o : Nat} {L : List Nat}
theorem SlA.kept (h : SlA w a n c g o L) (hc : Ch T w w') (hn : ∀ i, i < n → ¬ T g (o + i)) : SlA w' a n c g o L :=
  ⟨h.len, h.le, fun h0 => ⟨(h.addr h0).1, Nat.lt_of_lt_of_le (h.addr h0).2 hc.size⟩,
    fun i hi => by rw [hc.cell g (o + i) (h.addr (by have := h.le; omega)).2 (hn i hi)]; exact h.cell i hi,
    fun i hi => ⟨hc.there g (o + i) (h.addr (by omega)).2 (h.there i hi).1, by rw [hc.frozen g (o + i) (h.addr (by omega)).2]; exact (h.there i hi).2⟩⟩
theorem SlA.below (h : SlA w a n c g o L) (hb : Below w.heap.size w w') : SlA w' a n c g o L := h.kept (Ch.of_below (fun _ _ => False) hb) (fun _ _ h => h)
def cel8 (L : List Nat) : List Value := L.map fun (n : Nat) => Value.int .u8 (n : Int)
theorem cel8_get (L : List Nat) (i : Nat) (hi : i < L.length) : (cel8 L)[i]? = some (.int .u8 (L.getD i 0 : Nat)) := by
  simp [cel8, hi]
theorem SlA.first (h : SlA w a n c g o L) : (Builtin.firstCells 1 n (.slice a n c)).run Tryd.prog w = .ok (cel8 L).toArray w := by
  by_cases hn : n = 0
  · subst hn
    have : L = [] := List.length_eq_zero_iff.1 h.len
    subst this
    cases a with
    | none => exact run_firstCells_none w 1 0 0 c
    | some ad => exact run_firstCells_some w 1 0 ad 0 c [] rfl (fun j v hj => by cases hj)
  · obtain ⟨h1, h2⟩ := h.addr (by have := h.le; omega)
    rw [h1]
    refine run_firstCells_some w 1 n _ n c (cel8 L) (by simp [cel8, h.len]) (fun j v hj => ?_)
    have hj2 : j < L.length := by
      have := (List.getElem?_eq_some_iff.1 hj).1
      simpa [cel8] using this
    rw [cel8_get L j hj2] at hj
    have := h.cell j (by have := h.len; omega)
    rw [Go.WideShapes.add_plain, this]; exact hj
section
variable {T T2 : Nat → Nat → Prop} {w w' : World} {a : Option Addr} {n c g o : Nat} {L : List Nat}
theorem SlA.src (h : SlA w a n c g o L) : Src Tryd.prog 1 33 (.slice a n c) n (cel8 L) w :=
  ⟨.inl ⟨_, Tryd.underlying33⟩, fun _ => rfl, h.first, (h.below (below_drewN (Below.refl _ _) 1)).first, by simp [cel8, h.len], fun u hu => by
    obtain ⟨_, _, rfl⟩ := List.mem_map.1 hu
    rfl⟩
end
/-- A set of cells and all that is new. -/
def Up (R : Nat → Nat → Prop) (w w' : World) : Nat → Nat → Prop := fun k j => R k j ∨ (w.heap.size ≤ k ∧ k < w'.heap.size)
theorem le_alloc {n : Nat} {w : World} {o : Obj} (h : n ≤ w.heap.size) : n ≤ (w.alloc o).heap.size := by rw [sz_alloc]; omega
theorem le_set {n : Nat} {w : World} {p : Addr} {u : Value} (h : n ≤ w.heap.size) : n ≤ (w.setCell p u).heap.size := by rw [sz_set]; exact h
end Go.Proofs.YthhlcchofilimaaDoor.U.M
namespace Go.Proofs.YthhlcchofilimaaDoor.U.M
set_option linter.unusedVariables false
set_option linter.unusedSimpArgs false
set_option maxRecDepth 20000
set_option maxRecDepth 20000
open Go.ChangeShapes Go.WideShapes Go.ChangeAt Go.RowKit
abbrev Fp := Nat → Nat → Prop
def Dj (T R : Fp) : Prop := ∀ k j, T k j → ¬ R k j
/-- A thing in memory: what it reads lies in R, what it may write in W. -/
structure Ent where
  P : Fp → Fp → World → Prop
  kept : ∀ {T R W : Fp} {w w' : World}, P R W w → Ch T w w' → Dj T R → P R W w'
  wr : ∀ {R W : Fp} {w : World}, P R W w → ∀ k j, W k j → R k j
  rlt : ∀ {R W : Fp} {w : World}, P R W w → ∀ k j, R k j → k < w.heap.size
/-- Several things, none of which writes what another one reads; all of them are newer than w0. -/
structure AllAt (w0 : World) (l : List Ent) (R W : Nat → Fp) (w : World) : Prop where
  each : ∀ (i : Nat) (E : Ent), l[i]? = some E → E.P (R i) (W i) w
  dj : ∀ i j, i < l.length → j < l.length → i ≠ j → Dj (W i) (R j)
  new : ∀ i, i < l.length → ∀ k j, R i k j → w0.heap.size ≤ k
  out : Below w0.heap.size w0 w
def All (w0 : World) (l : List Ent) (w : World) : Prop := ∃ R W : Nat → Fp, AllAt w0 l R W w
section
variable {w0 w w' : World} {l : List Ent} {E E' : Ent}
theorem All.out (h : All w0 l w) : Below w0.heap.size w0 w := h.choose_spec.choose_spec.out
theorem All.get (h : All w0 l w) (i : Nat) (hi : l[i]? = some E) : ∃ R W, E.P R W w := by
  obtain ⟨R, W, h⟩ := h
  exact ⟨_, _, h.each i E hi⟩
theorem len_of {i : Nat} (hi : l[i]? = some E) : i < l.length := (List.getElem?_eq_some_iff.1 hi).1
theorem All.below (h : All w0 l w) (hb : Below w.heap.size w w') : All w0 l w' := by
  obtain ⟨R, W, h1, h2, h3, h4⟩ := h
  exact ⟨R, W, ⟨fun i E hi => E.kept (h1 i E hi) (Ch.of_below (fun _ _ => False) hb) (fun _ _ h => h.elim), h2, h3, h4.trans (hb.mono h4.size)⟩⟩
theorem AllAt.set {R W : Nat → Fp} (h : AllAt w0 l R W w) (i : Nat) (hi : l[i]? = some E) (c1 : E'.P (Up (R i) w w') (Up (W i) w w') w') (c2 : Ch (W i) w w') : All w0 (l.set i E') w' := by
  obtain ⟨h1, h2, h3, h4⟩ := h
  have il := len_of hi
  refine ⟨fun k => if k = i then Up (R i) w w' else R k, fun k => if k = i then Up (W i) w w' else W k, ⟨fun k F hk => ?_, fun a b ha hb hne => ?_, fun k hk => ?_, c2.below (fun k j hk => h3 i il k j (E.wr (h1 i E hi) k j hk)) h4 h4.size⟩⟩
  · by_cases e : k = i
    · subst e
      rw [List.getElem?_set_self il] at hk
      obtain rfl : E' = F := by simpa using hk
      show E'.P (if k = k then _ else _) (if k = k then _ else _) w'
      rw [if_pos rfl, if_pos rfl]; exact c1
    · rw [List.getElem?_set_ne (fun q => e q.symm)] at hk
      show F.P (if k = i then _ else _) (if k = i then _ else _) w'
      rw [if_neg e, if_neg e]
      exact F.kept (h1 k F hk) c2 (h2 i k il (len_of hk) (fun q => e q.symm))
  · rw [List.length_set] at ha hb
    show Dj (if a = i then _ else _) (if b = i then _ else _)
    have lt : ∀ k, k < l.length → ∀ x y, R k x y → x < w.heap.size := fun k hk => by
      obtain ⟨F, hF⟩ : ∃ F, l[k]? = some F := ⟨_, List.getElem?_eq_getElem hk⟩
      exact F.rlt (h1 k F hF)
    have wl : ∀ k, k < l.length → ∀ x y, W k x y → x < w.heap.size := fun k hk => by
      obtain ⟨F, hF⟩ : ∃ F, l[k]? = some F := ⟨_, List.getElem?_eq_getElem hk⟩
      exact fun x y q => F.rlt (h1 k F hF) x y (F.wr (h1 k F hF) x y q)
    by_cases ea : a = i
    · subst ea
      have eb : ¬ b = a := fun q => hne q.symm
      rw [if_pos rfl, if_neg eb]
      intro x y hx hy
      rcases hx with hx | hx
      · exact h2 a b ha hb hne x y hx hy
      · have := lt b hb x y hy; omega
    · rw [if_neg ea]
      by_cases eb : b = i
      · subst eb
        rw [if_pos rfl]
        intro x y hx hy
        rcases hy with hy | hy
        · exact h2 a b ha hb hne x y hx hy
        · have := wl a ha x y hx; omega
      · rw [if_neg eb]; exact h2 a b ha hb hne
  · rw [List.length_set] at hk
    show ∀ x y, (if k = i then _ else _ : Fp) x y → _
    by_cases e : k = i
    · subst e
      rw [if_pos rfl]
      intro x y hx
      rcases hx with hx | hx
      · exact h3 k hk x y hx
      · exact Nat.le_trans h4.size hx.1
    · rw [if_neg e]; exact h3 k hk
/-- One of them has done something. -/
theorem All.set (h : All w0 l w) (i : Nat) (hi : l[i]? = some E) (hc : ∀ R W, E.P R W w → E'.P (Up R w w') (Up W w w') w' ∧ Ch W w w') : All w0 (l.set i E') w' := by
  obtain ⟨R, W, h⟩ := h
  obtain ⟨c1, c2⟩ := hc _ _ (h.each i E hi)
  exact h.set i hi c1 c2
/-- A call that is made upon one of them. -/
theorem All.step (h : All w0 l w) (i : Nat) (hi : l[i]? = some E) (E' : Ent) {f : FuncId} {args : Array Value} {v : Value} (hc : ∀ R W, E.P R W w → Calls Tryd.prog f args w (fun e w' => e = .returned v ∧ E'.P (Up R w w') (Up W w w') w' ∧ Ch W w w')) :
    Calls Tryd.prog f args w (fun e w' => e = .returned v ∧ All w0 (l.set i E') w') := by
  obtain ⟨R, W, h⟩ := h
  refine (hc _ _ (h.each i E hi)).mono ?_
  rintro e w' ⟨rfl, c1, c2⟩
  exact ⟨rfl, h.set i hi c1 c2⟩
/-- A new one. -/
theorem All.push (h : All w0 l w) (hb : Below w.heap.size w w') {R1 W1 : Fp} (hE : E.P R1 W1 w') (hn : ∀ k j, R1 k j → w.heap.size ≤ k) : All w0 (l ++ [E]) w' := by
  obtain ⟨R, W, h1, h2, h3, h4⟩ := h
  have lt : ∀ k, k < l.length → ∀ x y, R k x y → x < w.heap.size := fun k hk => by
    obtain ⟨F, hF⟩ : ∃ F, l[k]? = some F := ⟨_, List.getElem?_eq_getElem hk⟩
    exact F.rlt (h1 k F hF)
  have wl : ∀ k, k < l.length → ∀ x y, W k x y → x < w.heap.size := fun k hk => by
    obtain ⟨F, hF⟩ : ∃ F, l[k]? = some F := ⟨_, List.getElem?_eq_getElem hk⟩
    exact fun x y q => F.rlt (h1 k F hF) x y (F.wr (h1 k F hF) x y q)
  refine ⟨fun k => if k = l.length then R1 else R k, fun k => if k = l.length then W1 else W k, ⟨fun k F hk => ?_, fun a b ha hb' hne => ?_, fun k hk => ?_, h4.trans (hb.mono h4.size)⟩⟩
  · by_cases e : k = l.length
    · subst e
      rw [List.getElem?_append_right (Nat.le_refl _), Nat.sub_self] at hk
      obtain rfl : E = F := by simpa using hk
      show E.P (if _ then _ else _) (if _ then _ else _) w'
      rw [if_pos rfl, if_pos rfl]; exact hE
    · have hk2 : k < l.length := by
        have := len_of hk
        rw [List.length_append] at this
        have : k < l.length + 1 := this
        omega
      rw [List.getElem?_append_left hk2] at hk
      show F.P (if _ then _ else _) (if _ then _ else _) w'
      rw [if_neg e, if_neg e]
      exact F.kept (h1 k F hk) (Ch.of_below (fun _ _ => False) hb) (fun _ _ h => h.elim)
  · rw [List.length_append] at ha hb'
    have ha2 : a < l.length + 1 := ha
    have hb2 : b < l.length + 1 := hb'
    show Dj (if a = l.length then _ else _) (if b = l.length then _ else _)
    by_cases ea : a = l.length
    · have eb : ¬ b = l.length := fun q => hne (ea.trans q.symm)
      rw [if_pos ea, if_neg eb]
      intro x y hx hy
      have := hn x y (E.wr hE x y hx)
      have := lt b (by omega) x y hy
      omega
    · rw [if_neg ea]
      by_cases eb : b = l.length
      · rw [if_pos eb]
        intro x y hx hy
        have := hn x y hy
        have := wl a (by omega) x y hx
        omega
      · rw [if_neg eb]; exact h2 a b (by omega) (by omega) hne
  · rw [List.length_append] at hk
    have hk2 : k < l.length + 1 := hk
    show ∀ x y, (if k = l.length then _ else _ : Fp) x y → _
    by_cases e : k = l.length
    · rw [if_pos e]
      intro x y hx
      exact Nat.le_trans h4.size (hn x y hx)
    · rw [if_neg e]; exact h3 k (by omega)
end
/-- A slice of bytes. -/
def IsS (R : Fp) (w : World) (v : Value) (L : List Nat) : Prop := ∃ a n c g o, v = .slice a n c ∧ SlA w a n c g o L ∧ (∀ i, i < c → R g (o + i)) ∧ ∀ k j, R k j → k < w.heap.size
def eS (v : Value) (L : List Nat) : Ent where
  P R W w := R = W ∧ IsS W w v L
  kept := fun h hc hd => by
    obtain ⟨e, a, n, c, g, o, h1, h2, h3, h4⟩ := h
    exact ⟨e, a, n, c, g, o, h1, h2.kept hc (fun i hi ht => hd _ _ ht (by rw [e]; exact h3 i (Nat.lt_of_lt_of_le hi h2.le))), h3, fun k j hk => Nat.lt_of_lt_of_le (h4 k j hk) hc.size⟩
  wr h := by rw [h.1]; exact fun _ _ h => h
  rlt h := by obtain ⟨e, a, n, c, g, o, h1, h2, h3, h4⟩ := h; rw [e]; exact h4
section
variable {w0 w w' : World} {l : List Ent}
theorem All.slice (h : All w0 l w) (i : Nat) {v : Value} {L : List Nat} (hi : l[i]? = some (eS v L)) : ∃ a n c g o, v = .slice a n c ∧ SlA w a n c g o L := by
  obtain ⟨R, W, e, a, n, c, g, o, h1, h2, -⟩ := h.get i hi
  exact ⟨a, n, c, g, o, h1, h2⟩
end
theorem All.addr (w0 w : World) {l : List Ent} (h : All w0 l w) (i : Nat) {a : Option Addr} {n c : Nat} {L : List Nat} (hi : l[i]? = some (eS (.slice a n c) L)) (hn : 0 < n) : ∃ g o, a = some ⟨g, o, none⟩ := by
  obtain ⟨a9, n9, c9, g9, o9, e9, s9⟩ := h.slice i hi
  injection e9 with e91 e92 e93
  subst e91 e92 e93
  exact ⟨g9, o9, (s9.addr (by have := s9.le; omega)).1⟩
end Go.Proofs.YthhlcchofilimaaDoor.U.M
namespace Go.Proofs.YthhlcchofilimaaDoor.U.M
set_option linter.unusedVariables false
set_option linter.unusedSimpArgs false
set_option maxRecDepth 20000
set_option maxRecDepth 20000
open Go.ChangeShapes Go.WideShapes Go.ChangeAt Go.RowKit
/-- A place within the RAM. -/
def atP (k i : Nat) : Nat := 2147483648 + 4096 * k + i
/-- The document's memory in a block: 256 pages, each empty or of 4096 bytes. -/
structure Rm (R : Fp) (w : World) (r : Nat) (F : Nat → Nat) (pb : Nat) (A : Nat → Option Addr) (n c g : Nat → Nat) : Prop where
  lt : r < w.heap.size
  c0 : w.cell? ⟨r, 0, none⟩ = some (.slice (some ⟨pb, 0, none⟩) 256 256)
  f0 : w.frozen? ⟨r, 0, none⟩ = false
  pl : pb < w.heap.size
  pc : ∀ k, k < 256 → w.cell? ⟨pb, k, none⟩ = some (.slice (A k) (n k) (c k)) ∧ w.frozen? ⟨pb, k, none⟩ = false
  pg : ∀ k, k < 256 → (n k = 0 ∧ ∀ i, i < 4096 → F (atP k i) = 0) ∨ (n k = 4096 ∧ 4096 ≤ c k ∧ A k = some ⟨g k, 0, none⟩ ∧ PageIs w (g k) (fun i => F (atP k i)))
  f8 : ∀ x, F x < 256
  rr : ∀ j, R r j
  rp : ∀ j, R pb j
  rg : ∀ k j, k < 256 → n k = 4096 → R (g k) j
  rlt : ∀ k j, R k j → k < w.heap.size
  pr : pb ≠ r
  gr : ∀ k, k < 256 → n k = 4096 → g k ≠ r ∧ g k ≠ pb
  gg : ∀ k l, k < 256 → l < 256 → k ≠ l → n k = 4096 → n l = 4096 → g k ≠ g l
def IsRm (R : Fp) (w : World) (r : Nat) (F : Nat → Nat) : Prop := ∃ pb A n c g, Rm R w r F pb A n c g
section
variable {R T R2 : Fp} {w w' : World} {r : Nat} {F : Nat → Nat} {pb : Nat} {A : Nat → Option Addr} {n c g : Nat → Nat}
theorem page_ch {p : Nat} {f : Nat → Nat} (h : PageIs w p f) (hc : Ch T w w') (hn : ∀ j, ¬ T p j) : PageIs w' p f :=
  ⟨Nat.lt_of_lt_of_le h.1 hc.size, fun i hi => ⟨(hc.cell p i h.1 (hn i)).trans (h.2 i hi).1, (hc.frozen p i h.1).trans (h.2 i hi).2⟩⟩
theorem Rm.kept (x : Rm R w r F pb A n c g) (hc : Ch T w w') (hd : Dj T R) : Rm R w' r F pb A n c g :=
  { x with
    lt := Nat.lt_of_lt_of_le x.lt hc.size
    c0 := (hc.cell r 0 x.lt (fun ht => hd _ _ ht (x.rr 0))).trans x.c0
    f0 := (hc.frozen r 0 x.lt).trans x.f0
    pl := Nat.lt_of_lt_of_le x.pl hc.size
    pc := fun k hk => ⟨(hc.cell pb k x.pl (fun ht => hd _ _ ht (x.rp k))).trans (x.pc k hk).1, (hc.frozen pb k x.pl).trans (x.pc k hk).2⟩
    pg := fun k hk => (x.pg k hk).imp id (fun ⟨h1, h2, h3, h4⟩ => ⟨h1, h2, h3, page_ch h4 hc (fun j ht => hd _ _ ht (x.rg k j hk h1))⟩)
    rlt := fun k j hk => Nat.lt_of_lt_of_le (x.rlt k j hk) hc.size }
theorem Rm.mono (x : Rm R w r F pb A n c g) (hR : ∀ k j, R k j → R2 k j) (hlt : ∀ k j, R2 k j → k < w.heap.size) : Rm R2 w r F pb A n c g :=
  { x with rr := fun j => hR _ _ (x.rr j), rp := fun j => hR _ _ (x.rp j), rg := fun k j hk hn => hR _ _ (x.rg k j hk hn), rlt := hlt }
theorem Rm.up (x : Rm R w' r F pb A n c g) (w : World) : Rm (Up R w w') w' r F pb A n c g := x.mono (fun _ _ => .inl) (fun k j hk => hk.elim (x.rlt k j) (·.2))
end
end Go.Proofs.YthhlcchofilimaaDoor.U.M
namespace Go.Proofs.YthhlcchofilimaaDoor.U.M
set_option linter.unusedVariables false
set_option linter.unusedSimpArgs false
set_option maxRecDepth 20000
set_option maxRecDepth 20000
open Go.ChangeShapes Go.WideShapes Go.ChangeAt Go.RowKit
section
variable {R : Fp} {w w' : World} {r : Nat} {F : Nat → Nat} {pb : Nat} {A : Nat → Option Addr} {n c g : Nat → Nat}
end
end Go.Proofs.YthhlcchofilimaaDoor.U.M
namespace Go.Proofs.YthhlcchofilimaaDoor.U.M
set_option linter.unusedVariables false
set_option linter.unusedSimpArgs false
set_option maxRecDepth 20000
set_option maxRecDepth 20000
open Go.ChangeShapes Go.WideShapes Go.ChangeAt Go.RowKit
end Go.Proofs.YthhlcchofilimaaDoor.U.M
namespace Go.Proofs.YthhlcchofilimaaDoor.U.M
set_option linter.unusedVariables false
set_option linter.unusedSimpArgs false
set_option maxRecDepth 20000
set_option maxRecDepth 20000
open Go.ChangeShapes Go.WideShapes Go.ChangeAt Go.RowKit
section
variable {R : Fp} {w w1 w2 : World} {r : Nat} {F : Nat → Nat}
theorem IsRm.kept {T : Fp} (h : IsRm R w r F) (hc : Ch T w w1) (hd : Dj T R) : IsRm R w1 r F := by
  obtain ⟨pb, A, n, c, g, x⟩ := h
  exact ⟨pb, A, n, c, g, x.kept hc hd⟩
theorem IsRm.below (h : IsRm R w r F) (hb : Below w.heap.size w w1) : IsRm (Up R w w1) w1 r F := by
  obtain ⟨pb, A, n, c, g, x⟩ := h
  exact ⟨pb, A, n, c, g, (x.kept (Ch.of_below (fun _ _ => False) hb) (fun _ _ h => h.elim)).up w⟩
end
end Go.Proofs.YthhlcchofilimaaDoor.U.M
