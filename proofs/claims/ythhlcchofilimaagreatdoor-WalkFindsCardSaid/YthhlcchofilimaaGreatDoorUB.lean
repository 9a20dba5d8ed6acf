/- Taken from other texts: what is needed of them. -/
import Derived.Test.YthhlcchofilimaaGreatDoorUA
import Derived.ChangeKeysEq
import Derived.Laws.Rows
import Derived.Deep.WholeRow
import Derived.Maps.RangeWalk
import Derived.Deep.LoopGhost
import Derived.Laws.Bits64b
import Derived.Deep.AppendSrc
import Derived.Deep.Upon
import Derived.Laws.BytesArg
import Derived.Deep.RegionHeld3
import Derived.Laws.MakeOwn
namespace Go.Proofs.YthhlcchofilimaaGreatDoor.U.M
set_option linter.unusedVariables false
set_option linter.unusedSimpArgs false
set_option maxRecDepth 20000
set_option maxRecDepth 20000
open Go.Maps Go.WideMaps Go.ChangeShapes Go.WideShapes Go.ChangeAt Go.RowKit
theorem PageIs.congr {w : World} {p : Nat} {f g : Nat → Nat} (h : PageIs w p f) (e : ∀ i, i < 4096 → f i = g i) : PageIs w p g :=
  ⟨h.1, fun i hi => by rw [← e i hi]; exact h.2 i hi⟩
/-- A memory is its bytes where it may have any. -/
theorem MemD.congr {S : Nat → Prop} {w : World} {m b : Nat} {D : DataW Unit} {F G : Nat → Nat} (h : MemD S w m b D F) (e : ∀ s i, s < 18446744073709551616 → s % 4096 = 0 → i < 4096 → F (s + i) = G (s + i)) : MemD S w m b D G := by
  obtain ⟨h0, hm, h1, hb, hne, h2, ⟨h3, h4, h5⟩, h6⟩ := h
  refine ⟨h0, hm, h1, hb, hne, h2, ⟨fun s hs hh => ?_, fun s hs ha hh i hi => by rw [← e s i hs ha hi]; exact h4 s hs ha hh i hi, h5⟩, h6⟩
  obtain ⟨p, q1, q2⟩ := h3 s hs hh
  exact ⟨p, q1, q2.congr (fun i hi => e s i hs (h6 s p hs hh q1).2.2.2.1 hi)⟩
def RetS (F : Nat → Nat) (W : World) (e : Ending) (w' : World) : Prop := ∃ m S, e = .returned (.pointer (some ⟨m, 0, none⟩)) ∧ MemS S w' m F ∧ (∀ i, S i → W.heap.size ≤ i ∧ i < w'.heap.size) ∧ Below W.heap.size W w'
theorem cnt_nil : cntD (.map []) = 0 := by
  unfold cntD
  rw [List.countP_eq_zero]
  intro i _
  show ¬ (Maps.has (.map [] : DataW Unit) (keyL (2147483648 + 4096 * i)) = true)
  rw [show Maps.has (.map [] : DataW Unit) (keyL (2147483648 + 4096 * i)) = false from rfl]
  decide
theorem new_s (w : World) : Calls Tryz.prog 14 #[] w (RetS (fun _ => 0) w) := by
  have hmm := @run_makeMap_plain Tryz.prog
  go_enter Tryz.func14, Tryz.ntmps14
  go_wp2_with fail
  go_ret
  refine ⟨w.heap.size + 1, fun i => i = w.heap.size ∨ i = w.heap.size + 1, rfl, ⟨w.heap.size, .map [], ?_, Or.inr rfl, ?_, Or.inl rfl, by omega, ?_, laid_nil _, fun s p _ hh _ => by cases hh⟩, fun i hi => ?_, Below.alloc (Below.alloc (Below.refl _ _) (Nat.le_refl _) _) (by simp) _⟩
  · simp
  · rw [World.cell?_alloc_at _ _ _ _ (by simp)]; rfl
  · rw [cnt_nil]; exact (World.ownsMap_made _ _ _ _).kept (World.grownBy_alloc _ _ none) (by simp)
  · simp; omega
end Go.Proofs.YthhlcchofilimaaGreatDoor.U.M
namespace Go.Proofs.YthhlcchofilimaaGreatDoor.U.M
set_option linter.unusedVariables false
set_option linter.unusedSimpArgs false
set_option maxRecDepth 20000
set_option maxRecDepth 20000
open Go.Maps Go.WideMaps Go.ChangeShapes Go.WideShapes Go.ChangeAt Go.RowKit
end Go.Proofs.YthhlcchofilimaaGreatDoor.U.M
namespace Go.Proofs.YthhlcchofilimaaGreatDoor.U.M
set_option linter.unusedVariables false
set_option linter.unusedSimpArgs false
set_option maxRecDepth 20000
set_option maxRecDepth 20000
open Go.Maps Go.WideMaps Go.ChangeShapes Go.WideShapes Go.ChangeAt Go.RowKit
/-- An image was laid. -/
def RetLay (S : Nat → Prop) (m n : Nat) (F R : Nat → Nat) (W : World) (e : Ending) (w' : World) : Prop := e = .returned (.bool true) ∧ Laying S W m 2147483648 n F R w'
set_option maxRecDepth 100000 in
theorem lay_c (S : Nat → Prop) (m g o n c : Nat) (F R : Nat → Nat) (w : World) (hM : Hid (MemS S w m F)) (hSb : Hid (∀ i, S i → i < w.heap.size)) (hg : Hid (g < w.heap.size ∧ ¬ S g)) (hn : Hid (n ≤ 1048576)) (hnc : Hid (n ≤ c)) (hr : Hid (∀ i, i < n → w.cell? ⟨g, o + i, none⟩ = some (.int .u8 (R i)))) :
    Calls Tryz.prog 15 #[.pointer (some ⟨m, 0, none⟩), .slice (some ⟨g, o, none⟩) n c] w (RetLay S m n F R w) := by
  have h1 : ¬ ((1048576 : Int) < n) := by have := hn.out; omega
  go_enter Tryz.func15, Tryz.ntmps15
  go_wp2_with fail
  refine (put_c S m g o n c 2147483648 F R w hM hSb hg (Lib.hid ⟨Nat.le_refl _, by have := hn.out; omega⟩) (Lib.hid ⟨hnc.out, by have := hn.out; omega⟩) hr).mono ?_; rintro e w1 ⟨rfl, hl⟩
  have HL := Lib.hid hl
  clear hl
  go_wp2_with fail
  go_ret
  exact ⟨rfl, HL.out⟩
theorem lay_big (m n c : Nat) (a : Option Addr) (w : World) (hn : (1048576 : Int) < n) : Calls Tryz.prog 15 #[.pointer (some ⟨m, 0, none⟩), .slice a n c] w (RetB false w) := by
  go_enter Tryz.func15, Tryz.ntmps15
  go_wp2_with fail
  go_ret
  exact retB_mk rfl (by repeat (first | (with_reducible first | exact Below.refl _ _ | assumption | exact Nat.le_refl _ | refine Below.drew ?_ | refine Below.alloc ?_ ?_ _ | refine below_drewN ?_ _ | refine Below.setCell ?_ ?_ _ | refine le_alloc ?_ | refine le_set ?_ | refine le_drew ?_ | refine le_drewN ?_ | refine below_step (by assumption) ?_ ?_ | refine le_below (by assumption) ?_) | (dsimp only; omega)))
end Go.Proofs.YthhlcchofilimaaGreatDoor.U.M
namespace Go.Proofs.YthhlcchofilimaaGreatDoor.U.M
set_option linter.unusedVariables false
set_option linter.unusedSimpArgs false
set_option maxRecDepth 20000
set_option maxRecDepth 20000
open Go.Maps Go.WideMaps Go.ChangeShapes Go.WideShapes Go.ChangeAt Go.RowKit
end Go.Proofs.YthhlcchofilimaaGreatDoor.U.M
namespace Go.Proofs.YthhlcchofilimaaGreatDoor.U.M
set_option linter.unusedVariables false
set_option linter.unusedSimpArgs false
set_option maxRecDepth 20000
set_option maxRecDepth 20000
def swp (X : Nat → Nat) (i j : Nat) : Nat → Nat := fun k => if k = i then X j else if k = j then X i else X k
/-- Reached by swaps of places from a on, below b. -/
inductive Sw (a b : Nat) (X : Nat → Nat) : (Nat → Nat) → Prop
  | refl : Sw a b X X
  | step (Y : Nat → Nat) (i j : Nat) : Sw a b X Y → a ≤ i → i < b → a ≤ j → j < b → Sw a b X (swp Y i j)
theorem Sw.trans {a b : Nat} {X Y Z : Nat → Nat} (h : Sw a b X Y) (k : Sw a b Y Z) : Sw a b X Z := by
  induction k with
  | refl => exact h
  | step Z i j _ h1 h2 h3 h4 ih => exact .step Z i j ih h1 h2 h3 h4
theorem Sw.mono {a b c d : Nat} {X Y : Nat → Nat} (h : Sw a b X Y) (h1 : c ≤ a) (h2 : b ≤ d) : Sw c d X Y := by
  induction h with
  | refl => exact .refl
  | step Z i j _ k1 k2 k3 k4 ih => exact .step Z i j ih (by omega) (by omega) (by omega) (by omega)
theorem Sw.out {a b : Nat} {X Y : Nat → Nat} (h : Sw a b X Y) : ∀ k, k < a ∨ b ≤ k → Y k = X k := by
  induction h with
  | refl => exact fun _ _ => rfl
  | step Z i j _ k1 k2 k3 k4 ih =>
    intro k hk
    unfold swp
    rw [if_neg (by omega), if_neg (by omega)]
    exact ih k hk
def Srt (X : Nat → Nat) (a b : Nat) : Prop := ∀ k l, a ≤ k → k < l → l < b → X k ≤ X l
/-- While one number goes down: all stand right but it. -/
def Down (X : Nat → Nat) (a i j : Nat) : Prop := ∀ k l, a ≤ k → k < l → l ≤ i → l ≠ j → X k ≤ X l
theorem Down.start {X : Nat → Nat} {a i : Nat} (h : Srt X a i) : Down X a i i := fun k l h1 h2 h3 h4 => h k l h1 h2 (by omega)
end Go.Proofs.YthhlcchofilimaaGreatDoor.U.M
namespace Go.Proofs.YthhlcchofilimaaGreatDoor.U.M
set_option linter.unusedVariables false
set_option linter.unusedSimpArgs false
set_option maxRecDepth 20000
set_option maxRecDepth 20000
open Go.Maps Go.WideMaps Go.ChangeShapes Go.WideShapes Go.ChangeAt Go.RowKit
def RowU (w : World) (g n : Nat) (X : Nat → Nat) : Prop := g < w.heap.size ∧ ∀ i, i < n → w.cell? ⟨g, i, none⟩ = some (.int .u64 (X i : Nat)) ∧ w.frozen? ⟨g, i, none⟩ = false
theorem RowU.drewN {w : World} {g n : Nat} {X : Nat → Nat} (h : RowU w g n X) (k : Nat) : RowU (w.drewN k) g n X := h
theorem RowU.set {w : World} {g n : Nat} {X Y : Nat → Nat} (h : RowU w g n X) (i x : Nat) (hi : i < n) (hY : ∀ k, k < n → Y k = if k = i then x else X k) : RowU (w.setCell ⟨g, i, none⟩ (.int .u64 (x : Nat))) g n Y := by
  obtain ⟨h0, h1⟩ := h
  refine ⟨by rw [sz_set]; exact h0, fun k hk => ⟨?_, by rw [World.frozen?_setCell]; exact (h1 k hk).2⟩⟩
  rw [hY k hk]
  by_cases e : k = i
  · subst e
    rw [if_pos rfl, World.cell?_setCell_same _ _ _ (h1 k hk).1]
  · rw [if_neg e, World.cell?_setCell_other _ _ _ _ (by intro q; injection q with q1 q2; exact e q2.symm)]
    exact (h1 k hk).1
end Go.Proofs.YthhlcchofilimaaGreatDoor.U.M
namespace Go.Proofs.YthhlcchofilimaaGreatDoor.U.M
set_option linter.unusedVariables false
set_option linter.unusedSimpArgs false
set_option maxRecDepth 20000
set_option maxRecDepth 20000
open Go.Maps Go.WideMaps Go.ChangeShapes Go.WideShapes Go.ChangeAt Go.RowKit
/-- A slice that reads as a list. -/
def IsA (w : World) (a : Option Addr) (L : List Nat) : Prop := 0 < L.length → ∃ g, a = some ⟨g, 0, none⟩ ∧ RowU w g L.length (fun i => L.getD i 0)
theorem RowU.below {w w' : World} {g n : Nat} {X : Nat → Nat} (h : RowU w g n X) (hb : Below w.heap.size w w') : RowU w' g n X :=
  ⟨Nat.lt_of_lt_of_le h.1 hb.size, fun i hi => ⟨by rw [hb.cell (p := ⟨g, i, none⟩) h.1]; exact (h.2 i hi).1, by rw [hb.frozen (p := ⟨g, i, none⟩) h.1]; exact (h.2 i hi).2⟩⟩
theorem IsA.below {w w' : World} {a : Option Addr} {L : List Nat} (h : IsA w a L) (hb : Below w.heap.size w w') : IsA w' a L := fun h0 => by
  obtain ⟨g, h1, h2⟩ := h h0
  exact ⟨g, h1, h2.below hb⟩
/-- What a write leaves. -/
def wrF (F : Nat → Nat) (a : Nat) (sz : Int) (v : Nat) : Nat → Nat := if hasV a sz = true then layF F a sz.toNat (byteV v) else F
end Go.Proofs.YthhlcchofilimaaGreatDoor.U.M
namespace Go.Proofs.YthhlcchofilimaaGreatDoor.U.M
set_option linter.unusedVariables false
set_option linter.unusedSimpArgs false
set_option maxRecDepth 20000
set_option maxRecDepth 20000
theorem numR_congr {R T : Nat → Nat} : ∀ k, (∀ i, i < k → R i = T i) → numR R k = numR T k
  | 0, _ => rfl
  | k + 1, h => by
    show numR R k + R k * 256 ^ k = numR T k + T k * 256 ^ k
    rw [numR_congr k (fun i hi => h i (by omega)), h k (by omega)]
theorem numR_zero (R : Nat → Nat) (n : Nat) : ∀ k, (∀ i, n ≤ i → R i = 0) → numR R (n + k) = numR R n
  | 0, _ => rfl
  | k + 1, h => by
    show numR R (n + k) + R (n + k) * 256 ^ (n + k) = _
    rw [numR_zero R n k h, h (n + k) (by omega), Nat.zero_mul, Nat.add_zero]
end Go.Proofs.YthhlcchofilimaaGreatDoor.U.M
namespace Go.Proofs.YthhlcchofilimaaGreatDoor.U.M
set_option linter.unusedVariables false
set_option linter.unusedSimpArgs false
set_option maxRecDepth 20000
set_option maxRecDepth 20000
open Go.Maps Go.WideMaps Go.ChangeShapes Go.WideShapes Go.ChangeAt Go.RowKit
theorem pow8 (d : Nat) : (2 : Nat) ^ (8 * d) = 256 ^ d := by rw [Nat.pow_mul]
end Go.Proofs.YthhlcchofilimaaGreatDoor.U.M
namespace Go.Proofs.YthhlcchofilimaaGreatDoor.U.M
set_option linter.unusedVariables false
set_option linter.unusedSimpArgs false
set_option maxRecDepth 20000
set_option maxRecDepth 20000
open Go.Maps Go.WideMaps Go.ChangeShapes Go.WideShapes Go.ChangeAt Go.RowKit
theorem put_zero (m a c : Nat) (s : Option Addr) (w : World) : Calls Tryz.prog 51 #[.pointer (some ⟨m, 0, none⟩), .int .u64 a, .slice s 0 c] w (fun e w' => e = .returned (.tuple #[]) ∧ w' = w) := by
  go_enter Tryz.func51, Tryz.ntmps51
  go_wp2_with fail
  refine wp_loop_rounds 1 ?_
  rw [rounds_succ]
  go_wp2_with fail
  go_end0
  exact ⟨rfl, rfl⟩
theorem lay_zero (m c : Nat) (s : Option Addr) (w : World) : Calls Tryz.prog 15 #[.pointer (some ⟨m, 0, none⟩), .slice s 0 c] w (fun e w' => e = .returned (.bool true) ∧ w' = w) := by
  go_enter Tryz.func15, Tryz.ntmps15
  go_wp2_with fail
  refine (put_zero m 2147483648 c s w).mono ?_; rintro e w1 ⟨rfl, hb⟩
  go_wp2_with fail
  go_ret
  exact ⟨rfl, rfl⟩
end Go.Proofs.YthhlcchofilimaaGreatDoor.U.M
namespace Go.Proofs.YthhlcchofilimaaGreatDoor.U.M
set_option linter.unusedVariables false
set_option linter.unusedSimpArgs false
set_option maxRecDepth 20000
set_option maxRecDepth 20000
open Go.ChangeShapes Go.WideShapes Go.ChangeAt Go.RowKit
/-- Of what was there only the cells of T may have changed. -/
structure Ch (T : Nat → Nat → Prop) (w w' : World) : Prop where
  os : w'.os = w.os
  tape : w'.tape = w.tape
  output : w'.output = w.output
  size : w.heap.size ≤ w'.heap.size
  block : ∀ k, k < w.heap.size → (∀ o, ¬ T k o) → w'.heap[k]? = w.heap[k]?
  cell : ∀ k o, k < w.heap.size → ¬ T k o → w'.cell? ⟨k, o, none⟩ = w.cell? ⟨k, o, none⟩
  frozen : ∀ k o, k < w.heap.size → w'.frozen? ⟨k, o, none⟩ = w.frozen? ⟨k, o, none⟩
  there : ∀ k o, k < w.heap.size → (w.cell? ⟨k, o, none⟩).isSome = true → (w'.cell? ⟨k, o, none⟩).isSome = true
variable {T T2 R : Nat → Nat → Prop} {w w' : World}
theorem Ch.refl (T : Nat → Nat → Prop) (w : World) : Ch T w w := ⟨rfl, rfl, rfl, Nat.le_refl _, fun _ _ _ => rfl, fun _ _ _ _ => rfl, fun _ _ _ => rfl, fun _ _ _ h => h⟩
theorem Ch.trans {a b c : World} (h : Ch T a b) (k : Ch T2 b c) (hT : ∀ i j, T2 i j → T i j ∨ a.heap.size ≤ i) : Ch T a c := by
  have no : ∀ i j, i < a.heap.size → ¬ T i j → ¬ T2 i j := fun i j hi hn h2 => by
    rcases hT i j h2 with h3 | h3
    · exact hn h3
    · omega
  have lt : ∀ i, i < a.heap.size → i < b.heap.size := fun i hi => Nat.lt_of_lt_of_le hi h.size
  exact ⟨k.os.trans h.os, k.tape.trans h.tape, k.output.trans h.output, Nat.le_trans h.size k.size,
    fun i hi hn => (k.block i (lt i hi) (fun o => no i o hi (hn o))).trans (h.block i hi hn),
    fun i o hi hn => (k.cell i o (lt i hi) (no i o hi hn)).trans (h.cell i o hi hn),
    fun i o hi => (k.frozen i o (lt i hi)).trans (h.frozen i o hi),
    fun i o hi hs => k.there i o (lt i hi) (h.there i o hi hs)⟩
theorem Ch.mono (h : Ch T w w') (hT : ∀ i j, T i j → T2 i j) : Ch T2 w w' :=
  ⟨h.os, h.tape, h.output, h.size, fun k hk hn => h.block k hk (fun o ht => hn o (hT _ _ ht)), fun k o hk hn => h.cell k o hk (fun ht => hn (hT _ _ ht)), h.frozen, h.there⟩
theorem Ch.of_below (T : Nat → Nat → Prop) (h : Below w.heap.size w w') : Ch T w w' :=
  ⟨h.os, h.tape, h.output, h.size, fun k hk _ => h.block k hk, fun k o hk _ => World.cell?_of_block (w := w) (a := ⟨k, o, none⟩) (h.block k hk), fun k o hk => World.frozen?_of_block (w := w) (a := ⟨k, o, none⟩) (h.block k hk),
    fun k o hk hs => by rw [World.cell?_of_block (w := w) (a := ⟨k, o, none⟩) (h.block k hk)]; exact hs⟩
theorem Ch.below {B : Nat} {w0 : World} (h : Ch T w w') (hT : ∀ i j, T i j → B ≤ i) (h0 : Below B w0 w) (hB : B ≤ w.heap.size) : Below B w0 w' :=
  h0.trans ⟨h.os, h.tape, h.output, h.size, fun k hk => h.block k (Nat.lt_of_lt_of_le hk hB) (fun o ht => by have := hT k o ht; omega)⟩
theorem Ch.set (T : Nat → Nat → Prop) (w : World) (b o : Nat) (v : Value) (hT : T b o) (hs : (w.cell? ⟨b, o, none⟩).isSome = true) : Ch T w (w.setCell ⟨b, o, none⟩ v) := by
  refine ⟨rfl, rfl, rfl, by rw [sz_set]; exact Nat.le_refl _, fun k hk hn => ?_, fun k p hk hn => ?_, fun k p hk => World.frozen?_setCell _ _ _ _, fun k p hk h => ?_⟩
  · exact Below.heap_setCell w ⟨b, o, none⟩ v k (fun e => hn o (by rw [show k = b from e]; exact hT))
  · exact World.cell?_setCell_other _ _ _ _ (fun e => by injection e with e1 e2; subst e1 e2; exact hn hT)
  · by_cases e : (⟨b, o, none⟩ : Addr) = ⟨k, p, none⟩
    · rw [← e]
      obtain ⟨u, hu⟩ := Option.isSome_iff_exists.1 hs
      rw [World.cell?_setCell_same _ _ _ hu]; rfl
    · rw [World.cell?_setCell_other _ _ _ _ e]; exact h
/-- A slice of bytes in memory. -/
structure SlA (w : World) (a : Option Addr) (n c g o : Nat) (L : List Nat) : Prop where
  len : L.length = n
  le : n ≤ c
  addr : 0 < c → a = some ⟨g, o, none⟩ ∧ g < w.heap.size
  cell : ∀ i, i < n → w.cell? ⟨g, o + i, none⟩ = some (.int .u8 (L.getD i 0 : Nat))
  there : ∀ i, i < c → (w.cell? ⟨g, o + i, none⟩).isSome = true ∧ w.frozen? ⟨g, o + i, none⟩ = false
variable {a : Option Addr} {n c g o : Nat} {L : List Nat}
theorem SlA.kept (h : SlA w a n c g o L) (hc : Ch T w w') (hn : ∀ i, i < n → ¬ T g (o + i)) : SlA w' a n c g o L :=
  ⟨h.len, h.le, fun h0 => ⟨(h.addr h0).1, Nat.lt_of_lt_of_le (h.addr h0).2 hc.size⟩,
    fun i hi => by rw [hc.cell g (o + i) (h.addr (by have := h.le; omega)).2 (hn i hi)]; exact h.cell i hi,
    fun i hi => ⟨hc.there g (o + i) (h.addr (by omega)).2 (h.there i hi).1, by rw [hc.frozen g (o + i) (h.addr (by omega)).2]; exact (h.there i hi).2⟩⟩
theorem SlA.below (h : SlA w a n c g o L) (hb : Below w.heap.size w w') : SlA w' a n c g o L := h.kept (Ch.of_below (fun _ _ => False) hb) (fun _ _ h => h)
theorem slA_nil (w : World) (a : Option Addr) (g o : Nat) : SlA w a 0 0 g o [] := ⟨rfl, Nat.le_refl _, fun h => absurd h (Nat.lt_irrefl _), fun i h => absurd h (Nat.not_lt_zero i), fun i h => absurd h (Nat.not_lt_zero i)⟩
def cel8 (L : List Nat) : List Value := L.map fun (n : Nat) => Value.int .u8 (n : Int)
theorem cel8_get (L : List Nat) (i : Nat) (hi : i < L.length) : (cel8 L)[i]? = some (.int .u8 (L.getD i 0 : Nat)) := by
  simp [cel8, hi]
theorem inf8 : (Tryz.prog.info? 5).map (fun i => (i.size, i.bytes, i.zero)) = some (1, 1, some (.int .u8 0)) := by kernel_rfl
theorem inf8' : ∃ i, Tryz.prog.info? 5 = some i ∧ i.size = 1 ∧ i.bytes = 1 ∧ i.zero = some (.int .u8 0) := by
  have h := inf8
  cases hi : Tryz.prog.info? 5 with
  | none => rw [hi] at h; exact absurd h (by simp)
  | some i =>
    rw [hi] at h
    simp only [Option.map_some, Option.some.injEq, Prod.mk.injEq] at h
    exact ⟨i, rfl, h.1, h.2.1, h.2.2⟩
theorem SlA.first (h : SlA w a n c g o L) : (Builtin.firstCells 1 n (.slice a n c)).run Tryz.prog w = .ok (cel8 L).toArray w := by
  by_cases hn : n = 0
  · subst hn
    have : L = [] := List.length_eq_zero_iff.1 h.len
    subst this
    cases a with
    | none => exact run_firstCells_none w 1 0 0 c
    | some ad => exact run_firstCells_some w 1 0 ad 0 c [] rfl (fun j v hj => by cases hj)
  · obtain ⟨h1, h2⟩ := h.addr (by have := h.le; omega)
    rw [h1]
    refine run_firstCells_some w 1 n _ n c (cel8 L) (by simp [cel8, h.len]) (fun j v hj => ?_)
    have hj2 : j < L.length := by
      have := (List.getElem?_eq_some_iff.1 hj).1
      simpa [cel8] using this
    rw [cel8_get L j hj2] at hj
    have := h.cell j (by have := h.len; omega)
    rw [Go.WideShapes.add_plain, this]; exact hj
section
variable {T T2 : Nat → Nat → Prop} {w w' : World} {a : Option Addr} {n c g o : Nat} {L : List Nat}
theorem SlA.src (h : SlA w a n c g o L) : Src Tryz.prog 1 22 (.slice a n c) n (cel8 L) w :=
  ⟨.inl ⟨_, Tryz.underlying22⟩, fun _ => rfl, h.first, (h.below (below_drewN (Below.refl _ _) 1)).first, by simp [cel8, h.len], fun u hu => by
    obtain ⟨_, _, rfl⟩ := List.mem_map.1 hu
    rfl⟩
end
/-- A set of cells and all that is new. -/
def Up (R : Nat → Nat → Prop) (w w' : World) : Nat → Nat → Prop := fun k j => R k j ∨ (w.heap.size ≤ k ∧ k < w'.heap.size)
theorem cell_ne (w : World) (b i j : Nat) (v : Value) (h : i ≠ j) : (w.setCell ⟨b, i, none⟩ v).cell? ⟨b, j, none⟩ = w.cell? ⟨b, j, none⟩ := World.cell?_setCell_other _ _ _ _ (fun e => by injection e with e1 e2; exact h e2)
theorem cell_eq (w : World) (b i : Nat) (v : Value) (h : (w.cell? ⟨b, i, none⟩).isSome = true) : (w.setCell ⟨b, i, none⟩ v).cell? ⟨b, i, none⟩ = some v := by
  obtain ⟨u, hu⟩ := Option.isSome_iff_exists.1 h
  exact World.cell?_setCell_same _ _ _ hu
theorem below_one (w : World) (o : Obj) : Below w.heap.size w (w.alloc o) := (Below.refl _ _).alloc (Nat.le_refl _) o
theorem le_alloc {n : Nat} {w : World} {o : Obj} (h : n ≤ w.heap.size) : n ≤ (w.alloc o).heap.size := by rw [sz_alloc]; omega
theorem le_set {n : Nat} {w : World} {p : Addr} {u : Value} (h : n ≤ w.heap.size) : n ≤ (w.setCell p u).heap.size := by rw [sz_set]; exact h
end Go.Proofs.YthhlcchofilimaaGreatDoor.U.M
namespace Go.Proofs.YthhlcchofilimaaGreatDoor.U.M
set_option linter.unusedVariables false
set_option linter.unusedSimpArgs false
set_option maxRecDepth 20000
set_option maxRecDepth 20000
open Go.ChangeShapes Go.WideShapes Go.ChangeAt Go.RowKit
abbrev Fp := Nat → Nat → Prop
def Dj (T R : Fp) : Prop := ∀ k j, T k j → ¬ R k j
/-- A thing in memory: what it reads lies in R, what it may write in W. -/
structure Ent where
  P : Fp → Fp → World → Prop
  kept : ∀ {T R W : Fp} {w w' : World}, P R W w → Ch T w w' → Dj T R → P R W w'
  wr : ∀ {R W : Fp} {w : World}, P R W w → ∀ k j, W k j → R k j
  rlt : ∀ {R W : Fp} {w : World}, P R W w → ∀ k j, R k j → k < w.heap.size
/-- Several things, none of which writes what another one reads; all of them are newer than w0. -/
structure AllAt (w0 : World) (l : List Ent) (R W : Nat → Fp) (w : World) : Prop where
  each : ∀ (i : Nat) (E : Ent), l[i]? = some E → E.P (R i) (W i) w
  dj : ∀ i j, i < l.length → j < l.length → i ≠ j → Dj (W i) (R j)
  new : ∀ i, i < l.length → ∀ k j, R i k j → w0.heap.size ≤ k
  out : Below w0.heap.size w0 w
def All (w0 : World) (l : List Ent) (w : World) : Prop := ∃ R W : Nat → Fp, AllAt w0 l R W w
section
variable {w0 w w' : World} {l : List Ent} {E E' : Ent}
theorem All.out (h : All w0 l w) : Below w0.heap.size w0 w := h.choose_spec.choose_spec.out
theorem All.get (h : All w0 l w) (i : Nat) (hi : l[i]? = some E) : ∃ R W, E.P R W w := by
  obtain ⟨R, W, h⟩ := h
  exact ⟨_, _, h.each i E hi⟩
theorem len_of {i : Nat} (hi : l[i]? = some E) : i < l.length := (List.getElem?_eq_some_iff.1 hi).1
theorem All.below (h : All w0 l w) (hb : Below w.heap.size w w') : All w0 l w' := by
  obtain ⟨R, W, h1, h2, h3, h4⟩ := h
  exact ⟨R, W, ⟨fun i E hi => E.kept (h1 i E hi) (Ch.of_below (fun _ _ => False) hb) (fun _ _ h => h.elim), h2, h3, h4.trans (hb.mono h4.size)⟩⟩
theorem AllAt.set {R W : Nat → Fp} (h : AllAt w0 l R W w) (i : Nat) (hi : l[i]? = some E) (c1 : E'.P (Up (R i) w w') (Up (W i) w w') w') (c2 : Ch (W i) w w') : All w0 (l.set i E') w' := by
  obtain ⟨h1, h2, h3, h4⟩ := h
  have il := len_of hi
  refine ⟨fun k => if k = i then Up (R i) w w' else R k, fun k => if k = i then Up (W i) w w' else W k, ⟨fun k F hk => ?_, fun a b ha hb hne => ?_, fun k hk => ?_, c2.below (fun k j hk => h3 i il k j (E.wr (h1 i E hi) k j hk)) h4 h4.size⟩⟩
  · by_cases e : k = i
    · subst e
      rw [List.getElem?_set_self il] at hk
      obtain rfl : E' = F := by simpa using hk
      show E'.P (if k = k then _ else _) (if k = k then _ else _) w'
      rw [if_pos rfl, if_pos rfl]; exact c1
    · rw [List.getElem?_set_ne (fun q => e q.symm)] at hk
      show F.P (if k = i then _ else _) (if k = i then _ else _) w'
      rw [if_neg e, if_neg e]
      exact F.kept (h1 k F hk) c2 (h2 i k il (len_of hk) (fun q => e q.symm))
  · rw [List.length_set] at ha hb
    show Dj (if a = i then _ else _) (if b = i then _ else _)
    have lt : ∀ k, k < l.length → ∀ x y, R k x y → x < w.heap.size := fun k hk => by
      obtain ⟨F, hF⟩ : ∃ F, l[k]? = some F := ⟨_, List.getElem?_eq_getElem hk⟩
      exact F.rlt (h1 k F hF)
    have wl : ∀ k, k < l.length → ∀ x y, W k x y → x < w.heap.size := fun k hk => by
      obtain ⟨F, hF⟩ : ∃ F, l[k]? = some F := ⟨_, List.getElem?_eq_getElem hk⟩
      exact fun x y q => F.rlt (h1 k F hF) x y (F.wr (h1 k F hF) x y q)
    by_cases ea : a = i
    · subst ea
      have eb : ¬ b = a := fun q => hne q.symm
      rw [if_pos rfl, if_neg eb]
      intro x y hx hy
      rcases hx with hx | hx
      · exact h2 a b ha hb hne x y hx hy
      · have := lt b hb x y hy; omega
    · rw [if_neg ea]
      by_cases eb : b = i
      · subst eb
        rw [if_pos rfl]
        intro x y hx hy
        rcases hy with hy | hy
        · exact h2 a b ha hb hne x y hx hy
        · have := wl a ha x y hx; omega
      · rw [if_neg eb]; exact h2 a b ha hb hne
  · rw [List.length_set] at hk
    show ∀ x y, (if k = i then _ else _ : Fp) x y → _
    by_cases e : k = i
    · subst e
      rw [if_pos rfl]
      intro x y hx
      rcases hx with hx | hx
      · exact h3 k hk x y hx
      · exact Nat.le_trans h4.size hx.1
    · rw [if_neg e]; exact h3 k hk
/-- One of them has done something. -/
theorem All.set (h : All w0 l w) (i : Nat) (hi : l[i]? = some E) (hc : ∀ R W, E.P R W w → E'.P (Up R w w') (Up W w w') w' ∧ Ch W w w') : All w0 (l.set i E') w' := by
  obtain ⟨R, W, h⟩ := h
  obtain ⟨c1, c2⟩ := hc _ _ (h.each i E hi)
  exact h.set i hi c1 c2
/-- A call that is made upon one of them. -/
theorem All.step (h : All w0 l w) (i : Nat) (hi : l[i]? = some E) (E' : Ent) {f : FuncId} {args : Array Value} {v : Value} (hc : ∀ R W, E.P R W w → Calls Tryz.prog f args w (fun e w' => e = .returned v ∧ E'.P (Up R w w') (Up W w w') w' ∧ Ch W w w')) :
    Calls Tryz.prog f args w (fun e w' => e = .returned v ∧ All w0 (l.set i E') w') := by
  obtain ⟨R, W, h⟩ := h
  refine (hc _ _ (h.each i E hi)).mono ?_
  rintro e w' ⟨rfl, c1, c2⟩
  exact ⟨rfl, h.set i hi c1 c2⟩
/-- A new one. -/
theorem All.push (h : All w0 l w) (hb : Below w.heap.size w w') {R1 W1 : Fp} (hE : E.P R1 W1 w') (hn : ∀ k j, R1 k j → w.heap.size ≤ k) : All w0 (l ++ [E]) w' := by
  obtain ⟨R, W, h1, h2, h3, h4⟩ := h
  have lt : ∀ k, k < l.length → ∀ x y, R k x y → x < w.heap.size := fun k hk => by
    obtain ⟨F, hF⟩ : ∃ F, l[k]? = some F := ⟨_, List.getElem?_eq_getElem hk⟩
    exact F.rlt (h1 k F hF)
  have wl : ∀ k, k < l.length → ∀ x y, W k x y → x < w.heap.size := fun k hk => by
    obtain ⟨F, hF⟩ : ∃ F, l[k]? = some F := ⟨_, List.getElem?_eq_getElem hk⟩
    exact fun x y q => F.rlt (h1 k F hF) x y (F.wr (h1 k F hF) x y q)
  refine ⟨fun k => if k = l.length then R1 else R k, fun k => if k = l.length then W1 else W k, ⟨fun k F hk => ?_, fun a b ha hb' hne => ?_, fun k hk => ?_, h4.trans (hb.mono h4.size)⟩⟩
  · by_cases e : k = l.length
    · subst e
      rw [List.getElem?_append_right (Nat.le_refl _), Nat.sub_self] at hk
      obtain rfl : E = F := by simpa using hk
      show E.P (if _ then _ else _) (if _ then _ else _) w'
      rw [if_pos rfl, if_pos rfl]; exact hE
    · have hk2 : k < l.length := by
        have := len_of hk
        rw [List.length_append] at this
        have : k < l.length + 1 := this
        omega
      rw [List.getElem?_append_left hk2] at hk
      show F.P (if _ then _ else _) (if _ then _ else _) w'
      rw [if_neg e, if_neg e]
      exact F.kept (h1 k F hk) (Ch.of_below (fun _ _ => False) hb) (fun _ _ h => h.elim)
  · rw [List.length_append] at ha hb'
    have ha2 : a < l.length + 1 := ha
    have hb2 : b < l.length + 1 := hb'
    show Dj (if a = l.length then _ else _) (if b = l.length then _ else _)
    by_cases ea : a = l.length
    · have eb : ¬ b = l.length := fun q => hne (ea.trans q.symm)
      rw [if_pos ea, if_neg eb]
      intro x y hx hy
      have := hn x y (E.wr hE x y hx)
      have := lt b (by omega) x y hy
      omega
    · rw [if_neg ea]
      by_cases eb : b = l.length
      · rw [if_pos eb]
        intro x y hx hy
        have := hn x y hy
        have := wl a (by omega) x y hx
        omega
      · rw [if_neg eb]; exact h2 a b (by omega) (by omega) hne
  · rw [List.length_append] at hk
    have hk2 : k < l.length + 1 := hk
    show ∀ x y, (if k = l.length then _ else _ : Fp) x y → _
    by_cases e : k = l.length
    · rw [if_pos e]
      intro x y hx
      exact Nat.le_trans h4.size (hn x y hx)
    · rw [if_neg e]; exact h3 k (by omega)
end
/-- A slice of bytes. -/
def IsS (R : Fp) (w : World) (v : Value) (L : List Nat) : Prop := ∃ a n c g o, v = .slice a n c ∧ SlA w a n c g o L ∧ (∀ i, i < c → R g (o + i)) ∧ ∀ k j, R k j → k < w.heap.size
def eS (v : Value) (L : List Nat) : Ent where
  P R W w := R = W ∧ IsS W w v L
  kept := fun h hc hd => by
    obtain ⟨e, a, n, c, g, o, h1, h2, h3, h4⟩ := h
    exact ⟨e, a, n, c, g, o, h1, h2.kept hc (fun i hi ht => hd _ _ ht (by rw [e]; exact h3 i (Nat.lt_of_lt_of_le hi h2.le))), h3, fun k j hk => Nat.lt_of_lt_of_le (h4 k j hk) hc.size⟩
  wr h := by rw [h.1]; exact fun _ _ h => h
  rlt h := by obtain ⟨e, a, n, c, g, o, h1, h2, h3, h4⟩ := h; rw [e]; exact h4
section
variable {w0 w w' : World} {l : List Ent}
theorem All.slice (h : All w0 l w) (i : Nat) {v : Value} {L : List Nat} (hi : l[i]? = some (eS v L)) : ∃ a n c g o, v = .slice a n c ∧ SlA w a n c g o L := by
  obtain ⟨R, W, e, a, n, c, g, o, h1, h2, -⟩ := h.get i hi
  exact ⟨a, n, c, g, o, h1, h2⟩
end
theorem All.addr (w0 w : World) {l : List Ent} (h : All w0 l w) (i : Nat) {a : Option Addr} {n c : Nat} {L : List Nat} (hi : l[i]? = some (eS (.slice a n c) L)) (hn : 0 < n) : ∃ g o, a = some ⟨g, o, none⟩ := by
  obtain ⟨a9, n9, c9, g9, o9, e9, s9⟩ := h.slice i hi
  injection e9 with e91 e92 e93
  subst e91 e92 e93
  exact ⟨g9, o9, (s9.addr (by have := s9.le; omega)).1⟩
end Go.Proofs.YthhlcchofilimaaGreatDoor.U.M
namespace Go.Proofs.YthhlcchofilimaaGreatDoor.U.M
set_option linter.unusedVariables false
set_option linter.unusedSimpArgs false
set_option maxRecDepth 20000
set_option maxRecDepth 20000
open Go.ChangeShapes Go.WideShapes Go.ChangeAt Go.RowKit
/-- A place within the RAM. -/
def atP (k i : Nat) : Nat := 2147483648 + 4096 * k + i
/-- The document's memory in a block: 256 pages, each empty or of 4096 bytes. -/
structure Rm (R : Fp) (w : World) (r : Nat) (F : Nat → Nat) (pb : Nat) (A : Nat → Option Addr) (n c g : Nat → Nat) : Prop where
  lt : r < w.heap.size
  c0 : w.cell? ⟨r, 0, none⟩ = some (.slice (some ⟨pb, 0, none⟩) 256 256)
  f0 : w.frozen? ⟨r, 0, none⟩ = false
  pl : pb < w.heap.size
  pc : ∀ k, k < 256 → w.cell? ⟨pb, k, none⟩ = some (.slice (A k) (n k) (c k)) ∧ w.frozen? ⟨pb, k, none⟩ = false
  pg : ∀ k, k < 256 → (n k = 0 ∧ ∀ i, i < 4096 → F (atP k i) = 0) ∨ (n k = 4096 ∧ 4096 ≤ c k ∧ A k = some ⟨g k, 0, none⟩ ∧ PageIs w (g k) (fun i => F (atP k i)))
  f8 : ∀ x, F x < 256
  rr : ∀ j, R r j
  rp : ∀ j, R pb j
  rg : ∀ k j, k < 256 → n k = 4096 → R (g k) j
  rlt : ∀ k j, R k j → k < w.heap.size
  pr : pb ≠ r
  gr : ∀ k, k < 256 → n k = 4096 → g k ≠ r ∧ g k ≠ pb
  gg : ∀ k l, k < 256 → l < 256 → k ≠ l → n k = 4096 → n l = 4096 → g k ≠ g l
def IsRm (R : Fp) (w : World) (r : Nat) (F : Nat → Nat) : Prop := ∃ pb A n c g, Rm R w r F pb A n c g
section
variable {R T R2 : Fp} {w w' : World} {r : Nat} {F : Nat → Nat} {pb : Nat} {A : Nat → Option Addr} {n c g : Nat → Nat}
theorem page_ch {p : Nat} {f : Nat → Nat} (h : PageIs w p f) (hc : Ch T w w') (hn : ∀ j, ¬ T p j) : PageIs w' p f :=
  ⟨Nat.lt_of_lt_of_le h.1 hc.size, fun i hi => ⟨(hc.cell p i h.1 (hn i)).trans (h.2 i hi).1, (hc.frozen p i h.1).trans (h.2 i hi).2⟩⟩
theorem Rm.kept (x : Rm R w r F pb A n c g) (hc : Ch T w w') (hd : Dj T R) : Rm R w' r F pb A n c g :=
  { x with
    lt := Nat.lt_of_lt_of_le x.lt hc.size
    c0 := (hc.cell r 0 x.lt (fun ht => hd _ _ ht (x.rr 0))).trans x.c0
    f0 := (hc.frozen r 0 x.lt).trans x.f0
    pl := Nat.lt_of_lt_of_le x.pl hc.size
    pc := fun k hk => ⟨(hc.cell pb k x.pl (fun ht => hd _ _ ht (x.rp k))).trans (x.pc k hk).1, (hc.frozen pb k x.pl).trans (x.pc k hk).2⟩
    pg := fun k hk => (x.pg k hk).imp id (fun ⟨h1, h2, h3, h4⟩ => ⟨h1, h2, h3, page_ch h4 hc (fun j ht => hd _ _ ht (x.rg k j hk h1))⟩)
    rlt := fun k j hk => Nat.lt_of_lt_of_le (x.rlt k j hk) hc.size }
theorem Rm.mono (x : Rm R w r F pb A n c g) (hR : ∀ k j, R k j → R2 k j) (hlt : ∀ k j, R2 k j → k < w.heap.size) : Rm R2 w r F pb A n c g :=
  { x with rr := fun j => hR _ _ (x.rr j), rp := fun j => hR _ _ (x.rp j), rg := fun k j hk hn => hR _ _ (x.rg k j hk hn), rlt := hlt }
theorem Rm.up (x : Rm R w' r F pb A n c g) (w : World) : Rm (Up R w w') w' r F pb A n c g := x.mono (fun _ _ => .inl) (fun k j hk => hk.elim (x.rlt k j) (·.2))
end
theorem info22 : (Tryz.prog.info? 22).map (fun i => (i.size, i.bytes, i.zero)) = some (1, 24, some (.slice none 0 0)) := by kernel_rfl
theorem inf22' : ∃ i, Tryz.prog.info? 22 = some i ∧ i.size = 1 ∧ i.bytes = 24 ∧ i.zero = some (.slice none 0 0) := by
  have h := info22
  cases hi : Tryz.prog.info? 22 with
  | none => rw [hi] at h; exact absurd h (by simp)
  | some i =>
    rw [hi] at h
    simp only [Option.map_some, Option.some.injEq, Prod.mk.injEq] at h
    exact ⟨i, rfl, h.1, h.2.1, h.2.2⟩
theorem made_get (v : Value) (hv : v.cells = #[v]) (n j : Nat) (hj : j < n) : (madeCells v.cells n)[j]? = some v := by
  simp [madeCells, hv, hj, Nat.mod_one]
/-- make of 256 pages. -/
theorem make_pages {ops : Array Oper} {rest : List Oper} {o : Oper} {a : Act} {w : World} {Q : Exit → Act → World → Prop} (hgd : o.guard = none) (l c : Operand)
    (ho : o.op = .makeSlice 105 l c) (hl : a.eval l = .int .i64 256) (hc : a.eval c = .int .i64 256)
    (h : wpList Tryz.prog ops Q rest (a.put o.dst (.slice (some ⟨w.heap.size, 0, none⟩) 256 256)) (w.alloc (.cells (madeCells (Value.slice none 0 0).cells 256) 22))) : wpList Tryz.prog ops Q (o :: rest) a w := by
  obtain ⟨i, hi, h1, h2, h3⟩ := inf22'
  refine wpList_plain hgd fun K hK => ?_
  have hr := run_make (P := Tryz.prog) w 105 22 i (.slice none 0 0) Tryz.underlying105 hi h3 .i64 .i64 256 256 (by omega) (by omega) (by rw [h2]; omega) (by omega)
  rw [h1] at hr
  have hr' : (Instr.makeSlice 105 (.int .i64 256) (.int .i64 256)).run Tryz.prog w = .ok (.slice (some ⟨w.heap.size, 0, none⟩) 256 256) (w.alloc (.cells (madeCells (Value.slice none 0 0).cells 256) 22)) := hr
  unfold Oper.wp
  simp only [execOp, ho, hl, hc, Sem.run_bind, hr', Result.andThen_ok, Sem.run_pure]
  exact hK _ _ h
def RetNr (F : Nat → Nat) (W : World) (e : Ending) (w' : World) : Prop := ∃ r R pb A c g, e = .returned (.pointer (some ⟨r, 0, none⟩)) ∧ Rm R w' r F pb A (fun _ => 0) c g ∧ (∀ k j, R k j → W.heap.size ≤ k) ∧ Below W.heap.size W w'
theorem newr_c (w : World) : Calls Tryz.prog 20 #[] w (RetNr (fun _ => 0) w) := by
  go_enter Tryz.func20, Tryz.ntmps20
  go_wp2_with (refine make_pages rfl _ _ rfl rfl rfl ?_)
  go_ret
  have hz : ∀ k, k < 256 → ((w.alloc (.cells (madeCells (Value.slice none 0 0).cells 256) 22)).alloc (.cells #[.slice (some ⟨w.heap.size, 0, none⟩) 256 256] 107)).cell? ⟨w.heap.size, k, none⟩ = some (.slice none 0 0) := fun k hk => by
    rw [(below_one (w.alloc (.cells (madeCells (Value.slice none 0 0).cells 256) 22)) _).cell (p := ⟨w.heap.size, k, none⟩) (by show w.heap.size < _; rw [sz_alloc]; omega), World.cell?_alloc_new]
    exact made_get (.slice none 0 0) rfl 256 k hk
  have hf : ∀ k, ((w.alloc (.cells (madeCells (Value.slice none 0 0).cells 256) 22)).alloc (.cells #[.slice (some ⟨w.heap.size, 0, none⟩) 256 256] 107)).frozen? ⟨w.heap.size, k, none⟩ = false := fun k => by
    rw [(below_one (w.alloc (.cells (madeCells (Value.slice none 0 0).cells 256) 22)) _).frozen (p := ⟨w.heap.size, k, none⟩) (by show w.heap.size < _; rw [sz_alloc]; omega), World.frozen?_alloc_at _ _ _ _ rfl]
  refine ⟨w.heap.size + 1, fun k _ => k = w.heap.size ∨ k = w.heap.size + 1, w.heap.size, fun _ => none, fun _ => 0, fun _ => 0, rfl, ?_, fun k j hk => by rcases hk with rfl | rfl <;> omega, (below_one _ _).trans ((below_one _ _).mono (by rw [sz_alloc]; omega))⟩
  exact ⟨by rw [sz_alloc, sz_alloc]; omega, by rw [World.cell?_alloc_at _ _ _ _ (sz_alloc _ _).symm]; rfl, by rw [World.frozen?_alloc_at _ _ _ _ (sz_alloc _ _).symm], by rw [sz_alloc, sz_alloc]; omega, fun k hk => ⟨hz k hk, hf k⟩, fun k hk => .inl ⟨rfl, fun _ _ => rfl⟩, fun _ => (by decide : (0 : Nat) < 256), fun _ => .inr rfl, fun _ => .inl rfl, fun k j _ h => absurd h (by decide), fun k j hk => by rw [sz_alloc, sz_alloc]; rcases hk with rfl | rfl <;> omega, by omega, fun k _ h => absurd h (by decide), fun k l _ _ _ h => absurd h (by decide)⟩
end Go.Proofs.YthhlcchofilimaaGreatDoor.U.M
namespace Go.Proofs.YthhlcchofilimaaGreatDoor.U.M
set_option linter.unusedVariables false
set_option linter.unusedSimpArgs false
set_option maxRecDepth 20000
set_option maxRecDepth 20000
open Go.ChangeShapes Go.WideShapes Go.ChangeAt Go.RowKit
theorem hasr_1 (m : Value) (a : Nat) (ha : Hid (a < 18446744073709551616)) (w : World) : Calls Tryz.prog 64 #[m, .int .u64 a, .int .i64 1] w (RetB (hasV a 1) w) := by
  have HV : Hid (hasV a 1 = decide (2147483648 ≤ a ∧ (a : Int) - 2147483648 + 1 ≤ 1048576)) := hasV_yes a 1 (by decide)
  by_cases h1 : 2147483648 ≤ a
  · by_cases h2 : a < 2148532224
    · have d1 : decide ((2147483648 : Int) ≤ a) = true := decide_eq_true (by omega)
      have d2 : decide ((a : Int) < 2148532224) = true := decide_eq_true (by omega)
      have d1' : decide (2147483648 ≤ a) = true := decide_eq_true h1
      have d2' : decide (a < 2148532224) = true := decide_eq_true h2
      obtain ⟨t, ht⟩ : ∃ t, a + 1 = t := ⟨_, rfl⟩
      have et : IntKind.u64.wrap ((a : Int) + 1) = (t : Int) := by rw [IntKind.wrap_u64]; omega
      by_cases h3 : t ≤ 2148532224
      · have d3 : decide ((t : Int) ≤ 2148532224) = true := decide_eq_true (by omega)
        have d3' : decide (t ≤ 2148532224) = true := decide_eq_true h3
        have HB : Hid (hasV a 1 = true) := by show _ = _; rw [HV.out]; exact decide_eq_true (by omega)
        clear h1 h2 h3 ht
        go_enter Tryz.func64, Tryz.ntmps64
        go_wp2_with fail
        go_ret
        exact retB_mk (by rw [HB.out]) (Below.refl _ _)
      · have d3 : decide ((t : Int) ≤ 2148532224) = false := decide_eq_false (by omega)
        have d3' : decide (t ≤ 2148532224) = false := decide_eq_false h3
        have HB : Hid (hasV a 1 = false) := by show _ = _; rw [HV.out]; exact decide_eq_false (by omega)
        clear h1 h2 h3 ht
        go_enter Tryz.func64, Tryz.ntmps64
        go_wp2_with fail
        go_ret
        exact retB_mk (by rw [HB.out]) (Below.refl _ _)
    · have d1 : decide ((2147483648 : Int) ≤ a) = true := decide_eq_true (by omega)
      have d2 : decide ((a : Int) < 2148532224) = false := decide_eq_false (by omega)
      have d1' : decide (2147483648 ≤ a) = true := decide_eq_true h1
      have d2' : decide (a < 2148532224) = false := decide_eq_false h2
      have HB : Hid (hasV a 1 = false) := by show _ = _; rw [HV.out]; exact decide_eq_false (by omega)
      clear h1 h2
      go_enter Tryz.func64, Tryz.ntmps64
      go_wp2_with fail
      go_ret
      exact retB_mk (by rw [HB.out]) (Below.refl _ _)
  · have d1 : decide ((2147483648 : Int) ≤ a) = false := decide_eq_false (by omega)
    have d1' : decide (2147483648 ≤ a) = false := decide_eq_false h1
    have HB : Hid (hasV a 1 = false) := by show _ = _; rw [HV.out]; exact decide_eq_false (by omega)
    clear h1
    go_enter Tryz.func64, Tryz.ntmps64
    go_wp2_with fail
    go_ret
    exact retB_mk (by rw [HB.out]) (Below.refl _ _)
theorem hasr_2 (m : Value) (a : Nat) (ha : Hid (a < 18446744073709551616)) (w : World) : Calls Tryz.prog 64 #[m, .int .u64 a, .int .i64 2] w (RetB (hasV a 2) w) := by
  have HV : Hid (hasV a 2 = decide (2147483648 ≤ a ∧ (a : Int) - 2147483648 + 2 ≤ 1048576)) := hasV_yes a 2 (by decide)
  by_cases h1 : 2147483648 ≤ a
  · by_cases h2 : a < 2148532224
    · have d1 : decide ((2147483648 : Int) ≤ a) = true := decide_eq_true (by omega)
      have d2 : decide ((a : Int) < 2148532224) = true := decide_eq_true (by omega)
      have d1' : decide (2147483648 ≤ a) = true := decide_eq_true h1
      have d2' : decide (a < 2148532224) = true := decide_eq_true h2
      obtain ⟨t, ht⟩ : ∃ t, a + 2 = t := ⟨_, rfl⟩
      have et : IntKind.u64.wrap ((a : Int) + 2) = (t : Int) := by rw [IntKind.wrap_u64]; omega
      by_cases h3 : t ≤ 2148532224
      · have d3 : decide ((t : Int) ≤ 2148532224) = true := decide_eq_true (by omega)
        have d3' : decide (t ≤ 2148532224) = true := decide_eq_true h3
        have HB : Hid (hasV a 2 = true) := by show _ = _; rw [HV.out]; exact decide_eq_true (by omega)
        clear h1 h2 h3 ht
        go_enter Tryz.func64, Tryz.ntmps64
        go_wp2_with fail
        go_ret
        exact retB_mk (by rw [HB.out]) (Below.refl _ _)
      · have d3 : decide ((t : Int) ≤ 2148532224) = false := decide_eq_false (by omega)
        have d3' : decide (t ≤ 2148532224) = false := decide_eq_false h3
        have HB : Hid (hasV a 2 = false) := by show _ = _; rw [HV.out]; exact decide_eq_false (by omega)
        clear h1 h2 h3 ht
        go_enter Tryz.func64, Tryz.ntmps64
        go_wp2_with fail
        go_ret
        exact retB_mk (by rw [HB.out]) (Below.refl _ _)
    · have d1 : decide ((2147483648 : Int) ≤ a) = true := decide_eq_true (by omega)
      have d2 : decide ((a : Int) < 2148532224) = false := decide_eq_false (by omega)
      have d1' : decide (2147483648 ≤ a) = true := decide_eq_true h1
      have d2' : decide (a < 2148532224) = false := decide_eq_false h2
      have HB : Hid (hasV a 2 = false) := by show _ = _; rw [HV.out]; exact decide_eq_false (by omega)
      clear h1 h2
      go_enter Tryz.func64, Tryz.ntmps64
      go_wp2_with fail
      go_ret
      exact retB_mk (by rw [HB.out]) (Below.refl _ _)
  · have d1 : decide ((2147483648 : Int) ≤ a) = false := decide_eq_false (by omega)
    have d1' : decide (2147483648 ≤ a) = false := decide_eq_false h1
    have HB : Hid (hasV a 2 = false) := by show _ = _; rw [HV.out]; exact decide_eq_false (by omega)
    clear h1
    go_enter Tryz.func64, Tryz.ntmps64
    go_wp2_with fail
    go_ret
    exact retB_mk (by rw [HB.out]) (Below.refl _ _)
theorem hasr_4 (m : Value) (a : Nat) (ha : Hid (a < 18446744073709551616)) (w : World) : Calls Tryz.prog 64 #[m, .int .u64 a, .int .i64 4] w (RetB (hasV a 4) w) := by
  have HV : Hid (hasV a 4 = decide (2147483648 ≤ a ∧ (a : Int) - 2147483648 + 4 ≤ 1048576)) := hasV_yes a 4 (by decide)
  by_cases h1 : 2147483648 ≤ a
  · by_cases h2 : a < 2148532224
    · have d1 : decide ((2147483648 : Int) ≤ a) = true := decide_eq_true (by omega)
      have d2 : decide ((a : Int) < 2148532224) = true := decide_eq_true (by omega)
      have d1' : decide (2147483648 ≤ a) = true := decide_eq_true h1
      have d2' : decide (a < 2148532224) = true := decide_eq_true h2
      obtain ⟨t, ht⟩ : ∃ t, a + 4 = t := ⟨_, rfl⟩
      have et : IntKind.u64.wrap ((a : Int) + 4) = (t : Int) := by rw [IntKind.wrap_u64]; omega
      by_cases h3 : t ≤ 2148532224
      · have d3 : decide ((t : Int) ≤ 2148532224) = true := decide_eq_true (by omega)
        have d3' : decide (t ≤ 2148532224) = true := decide_eq_true h3
        have HB : Hid (hasV a 4 = true) := by show _ = _; rw [HV.out]; exact decide_eq_true (by omega)
        clear h1 h2 h3 ht
        go_enter Tryz.func64, Tryz.ntmps64
        go_wp2_with fail
        go_ret
        exact retB_mk (by rw [HB.out]) (Below.refl _ _)
      · have d3 : decide ((t : Int) ≤ 2148532224) = false := decide_eq_false (by omega)
        have d3' : decide (t ≤ 2148532224) = false := decide_eq_false h3
        have HB : Hid (hasV a 4 = false) := by show _ = _; rw [HV.out]; exact decide_eq_false (by omega)
        clear h1 h2 h3 ht
        go_enter Tryz.func64, Tryz.ntmps64
        go_wp2_with fail
        go_ret
        exact retB_mk (by rw [HB.out]) (Below.refl _ _)
    · have d1 : decide ((2147483648 : Int) ≤ a) = true := decide_eq_true (by omega)
      have d2 : decide ((a : Int) < 2148532224) = false := decide_eq_false (by omega)
      have d1' : decide (2147483648 ≤ a) = true := decide_eq_true h1
      have d2' : decide (a < 2148532224) = false := decide_eq_false h2
      have HB : Hid (hasV a 4 = false) := by show _ = _; rw [HV.out]; exact decide_eq_false (by omega)
      clear h1 h2
      go_enter Tryz.func64, Tryz.ntmps64
      go_wp2_with fail
      go_ret
      exact retB_mk (by rw [HB.out]) (Below.refl _ _)
  · have d1 : decide ((2147483648 : Int) ≤ a) = false := decide_eq_false (by omega)
    have d1' : decide (2147483648 ≤ a) = false := decide_eq_false h1
    have HB : Hid (hasV a 4 = false) := by show _ = _; rw [HV.out]; exact decide_eq_false (by omega)
    clear h1
    go_enter Tryz.func64, Tryz.ntmps64
    go_wp2_with fail
    go_ret
    exact retB_mk (by rw [HB.out]) (Below.refl _ _)
theorem hasr_8 (m : Value) (a : Nat) (ha : Hid (a < 18446744073709551616)) (w : World) : Calls Tryz.prog 64 #[m, .int .u64 a, .int .i64 8] w (RetB (hasV a 8) w) := by
  have HV : Hid (hasV a 8 = decide (2147483648 ≤ a ∧ (a : Int) - 2147483648 + 8 ≤ 1048576)) := hasV_yes a 8 (by decide)
  by_cases h1 : 2147483648 ≤ a
  · by_cases h2 : a < 2148532224
    · have d1 : decide ((2147483648 : Int) ≤ a) = true := decide_eq_true (by omega)
      have d2 : decide ((a : Int) < 2148532224) = true := decide_eq_true (by omega)
      have d1' : decide (2147483648 ≤ a) = true := decide_eq_true h1
      have d2' : decide (a < 2148532224) = true := decide_eq_true h2
      obtain ⟨t, ht⟩ : ∃ t, a + 8 = t := ⟨_, rfl⟩
      have et : IntKind.u64.wrap ((a : Int) + 8) = (t : Int) := by rw [IntKind.wrap_u64]; omega
      by_cases h3 : t ≤ 2148532224
      · have d3 : decide ((t : Int) ≤ 2148532224) = true := decide_eq_true (by omega)
        have d3' : decide (t ≤ 2148532224) = true := decide_eq_true h3
        have HB : Hid (hasV a 8 = true) := by show _ = _; rw [HV.out]; exact decide_eq_true (by omega)
        clear h1 h2 h3 ht
        go_enter Tryz.func64, Tryz.ntmps64
        go_wp2_with fail
        go_ret
        exact retB_mk (by rw [HB.out]) (Below.refl _ _)
      · have d3 : decide ((t : Int) ≤ 2148532224) = false := decide_eq_false (by omega)
        have d3' : decide (t ≤ 2148532224) = false := decide_eq_false h3
        have HB : Hid (hasV a 8 = false) := by show _ = _; rw [HV.out]; exact decide_eq_false (by omega)
        clear h1 h2 h3 ht
        go_enter Tryz.func64, Tryz.ntmps64
        go_wp2_with fail
        go_ret
        exact retB_mk (by rw [HB.out]) (Below.refl _ _)
    · have d1 : decide ((2147483648 : Int) ≤ a) = true := decide_eq_true (by omega)
      have d2 : decide ((a : Int) < 2148532224) = false := decide_eq_false (by omega)
      have d1' : decide (2147483648 ≤ a) = true := decide_eq_true h1
      have d2' : decide (a < 2148532224) = false := decide_eq_false h2
      have HB : Hid (hasV a 8 = false) := by show _ = _; rw [HV.out]; exact decide_eq_false (by omega)
      clear h1 h2
      go_enter Tryz.func64, Tryz.ntmps64
      go_wp2_with fail
      go_ret
      exact retB_mk (by rw [HB.out]) (Below.refl _ _)
  · have d1 : decide ((2147483648 : Int) ≤ a) = false := decide_eq_false (by omega)
    have d1' : decide (2147483648 ≤ a) = false := decide_eq_false h1
    have HB : Hid (hasV a 8 = false) := by show _ = _; rw [HV.out]; exact decide_eq_false (by omega)
    clear h1
    go_enter Tryz.func64, Tryz.ntmps64
    go_wp2_with fail
    go_ret
    exact retB_mk (by rw [HB.out]) (Below.refl _ _)
set_option maxRecDepth 100000 in
theorem hasr_no (m : Value) (a : Nat) (z : Int) (h1 : (z == 1) = false) (h2 : (z == 2) = false) (h4 : (z == 4) = false) (h8 : (z == 8) = false) (w : World) : Calls Tryz.prog 64 #[m, .int .u64 a, .int .i64 z] w (RetB (hasV a z) w) := by
  have HV : Hid (hasV a z = false) := hasV_no a z (by simp at h1 h2 h4 h8; omega)
  have n1 : (z != 1) = true := by simp [bne, h1]
  have n2 : (z != 2) = true := by simp [bne, h2]
  have n4 : (z != 4) = true := by simp [bne, h4]
  have n8 : (z != 8) = true := by simp [bne, h8]
  go_enter Tryz.func64, Tryz.ntmps64
  go_wp2_with fail
  go_ret
  exact retB_mk (by rw [HV.out]) (Below.refl _ _)
theorem hasr_c (m : Value) (a : Nat) (z : Int) (ha : Hid (a < 18446744073709551616)) (w : World) : Calls Tryz.prog 64 #[m, .int .u64 a, .int .i64 z] w (RetB (hasV a z) w) := by
  by_cases e1 : z = 1
  · subst e1; exact hasr_1 m a ha w
  · by_cases e2 : z = 2
    · subst e2; exact hasr_2 m a ha w
    · by_cases e4 : z = 4
      · subst e4; exact hasr_4 m a ha w
      · by_cases e8 : z = 8
        · subst e8; exact hasr_8 m a ha w
        · exact hasr_no m a z (by simpa using e1) (by simpa using e2) (by simpa using e4) (by simpa using e8) w
set_option maxRecDepth 100000 in
theorem byter_c (R : Fp) (r k i a : Nat) (F : Nat → Nat) (w : World) (hM : Hid (IsRm R w r F)) (hk : Hid (k < 256)) (hi : Hid (i < 4096)) (ha : Hid (a = atP k i)) : Calls Tryz.prog 65 #[.pointer (some ⟨r, 0, none⟩), .int .u64 a] w (fun e w' => e = .returned (.int .u8 (F a : Nat)) ∧ w' = w) := by
  obtain ⟨pb, A, n, c, g, x⟩ := hM.out
  have c0 := x.c0
  have c1 := (x.pc k hk.out).1
  obtain ⟨d, hd⟩ : ∃ d, 4096 * k + i = d := ⟨_, rfl⟩
  have e1 : (a : Int) - 2147483648 = (d : Nat) := by have := ha.out; unfold atP at this; omega
  have e2 : IntKind.u64.wrap ((a : Int) - 2147483648) = (d : Nat) := by rw [e1, IntKind.wrap_u64]; have := hk.out; have := hi.out; omega
  have e3 : (d : Int) / 4096 = (k : Nat) := by have := hi.out; omega
  have e4 : (d : Int).tdiv 4096 = (k : Nat) := by rw [Int.tdiv_eq_ediv_of_nonneg (by omega)]; exact e3
  have e5 : (d : Int) % 4096 = (i : Nat) := by have := hi.out; omega
  have e6 : (d : Int).tmod 4096 = (i : Nat) := by rw [Int.tmod_eq_emod_of_nonneg (by omega)]; exact e5
  have k256 : (k : Int) < 256 := by have := hk.out; omega
  have i4096 : (i : Int) < 4096 := by have := hi.out; omega
  clear hd
  rcases x.pg k hk.out with ⟨hn, hz⟩ | ⟨hn, hc, hA, hP⟩
  · rw [hn] at c1
    have HV : Hid (F a = 0) := by show _ = _; rw [ha.out]; exact hz i hi.out
    clear x hn hz
    go_enter Tryz.func65, Tryz.ntmps65
    go_wp2_with fail
    go_ret
    exact ⟨by rw [HV.out]; rfl, rfl⟩
  · rw [hn, hA] at c1
    have cx : w.cell? ⟨g k, i, none⟩ = some (.int .u8 (F a : Nat)) := by rw [ha.out]; exact (hP.2 i hi.out).1
    obtain ⟨y, hy⟩ : ∃ y, F a = y := ⟨_, rfl⟩
    rw [hy] at cx ⊢
    clear x hn hA hP hc hy
    go_enter Tryz.func65, Tryz.ntmps65
    go_wp2_with fail
    go_ret
    exact ⟨rfl, rfl⟩
def RetPt (r : Nat) (F : Nat → Nat) (R : Fp) (w : World) (e : Ending) (w' : World) : Prop := e = .returned (.tuple #[]) ∧ IsRm (Up R w w') w' r F ∧ Ch R w w'
def putF (F : Nat → Nat) (a y : Nat) : Nat → Nat := fun x => if x = a then y else F x
section
variable {R : Fp} {w w' : World} {r : Nat} {F : Nat → Nat} {pb : Nat} {A : Nat → Option Addr} {n c g : Nat → Nat}
theorem atP_inj {k i l j : Nat} (hi : i < 4096) (hj : j < 4096) : atP k i = atP l j ↔ k = l ∧ i = j := by unfold atP; omega
/-- A byte is written into a page that is there. -/
theorem Rm.put (x : Rm R w r F pb A n c g) {k i y : Nat} (hk : k < 256) (hi : i < 4096) (hn : n k = 4096) (hy : y < 256) :
    Rm R (w.setCell ⟨g k, i, none⟩ (.int .u8 (y : Nat))) r (putF F (atP k i) y) pb A n c g ∧ Ch R w (w.setCell ⟨g k, i, none⟩ (.int .u8 (y : Nat))) := by
  have hP : PageIs w (g k) (fun i => F (atP k i)) := by
    rcases x.pg k hk with ⟨h0, -⟩ | ⟨-, -, -, h⟩
    · omega
    · exact h
  have hs : (w.cell? ⟨g k, i, none⟩).isSome = true := by rw [(hP.2 i hi).1]; rfl
  have hc : Ch (fun a _ => a = g k) w (w.setCell ⟨g k, i, none⟩ (.int .u8 (y : Nat))) := Ch.set _ _ _ _ _ rfl hs
  have g1 := (x.gr k hk hn).1
  have g2 := (x.gr k hk hn).2
  refine ⟨?_, hc.mono (fun a j e => by rw [e]; exact x.rg k j hk hn)⟩
  exact { x with
    lt := by rw [sz_set]; exact x.lt
    c0 := (hc.cell r 0 x.lt (fun e => g1 e.symm)).trans x.c0
    f0 := (hc.frozen r 0 x.lt).trans x.f0
    pl := by rw [sz_set]; exact x.pl
    pc := fun l hl => ⟨(hc.cell pb l x.pl (fun e => g2 e.symm)).trans (x.pc l hl).1, (hc.frozen pb l x.pl).trans (x.pc l hl).2⟩
    pg := fun l hl => by
      by_cases e : l = k
      · subst e
        rcases x.pg l hl with ⟨h0, -⟩ | ⟨h1, h2, h3, -⟩
        · omega
        · refine .inr ⟨h1, h2, h3, by rw [sz_set]; exact hP.1, fun j hj => ⟨?_, by rw [World.frozen?_setCell]; exact (hP.2 j hj).2⟩⟩
          by_cases ej : j = i
          · subst ej
            rw [cell_eq _ _ _ _ hs]
            show _ = some (Value.int .u8 ((putF F (atP l j) y (atP l j) : Nat) : Int))
            unfold putF; rw [if_pos rfl]
          · rw [cell_ne _ _ _ _ _ (fun e => ej e.symm), (hP.2 j hj).1]
            show _ = some (Value.int .u8 ((putF F (atP l i) y (atP l j) : Nat) : Int))
            unfold putF; rw [if_neg (fun e => ej ((atP_inj hj hi).1 e).2)]
      · have same : ∀ j, j < 4096 → putF F (atP k i) y (atP l j) = F (atP l j) := fun j hj => by unfold putF; rw [if_neg (fun q => e ((atP_inj hj hi).1 q).1)]
        rcases x.pg l hl with ⟨h0, h1⟩ | ⟨h1, h2, h3, h4⟩
        · exact .inl ⟨h0, fun j hj => by rw [same j hj]; exact h1 j hj⟩
        · refine .inr ⟨h1, h2, h3, by rw [sz_set]; exact h4.1, fun j hj => ?_⟩
          show _ = some (Value.int .u8 ((putF F (atP k i) y (atP l j) : Nat) : Int)) ∧ _
          rw [same j hj, hc.cell (g l) j h4.1 (x.gg l k hl hk e h1 hn), hc.frozen (g l) j h4.1]
          exact h4.2 j hj
    f8 := fun z => by unfold putF; split; exact hy; exact x.f8 z
    rlt := fun l j hl => by rw [sz_set]; exact x.rlt l j hl }
def setN {α : Type} (f : Nat → α) (k : Nat) (v : α) : Nat → α := fun l => if l = k then v else f l
theorem setN_eq {α : Type} (f : Nat → α) (k : Nat) (v : α) : setN f k v k = v := by unfold setN; rw [if_pos rfl]
theorem setN_ne {α : Type} (f : Nat → α) (k l : Nat) (v : α) (h : l ≠ k) : setN f k v l = f l := by unfold setN; rw [if_neg h]
/-- A new page is named. -/
theorem Rm.page (x : Rm R w r F pb A n c g) {k p cp : Nat} (hb : Below w.heap.size w w') (hk : k < 256) (hn : n k = 0) (hp : w.heap.size ≤ p) (hP : PageIs w' p (fun _ => 0)) (hc : 4096 ≤ cp) :
    Rm (Up R w w') (w'.setCell ⟨pb, k, none⟩ (.slice (some ⟨p, 0, none⟩) 4096 cp)) r F pb (setN A k (some ⟨p, 0, none⟩)) (setN n k 4096) (setN c k cp) (setN g k p) ∧ Ch R w (w'.setCell ⟨pb, k, none⟩ (.slice (some ⟨p, 0, none⟩) 4096 cp)) := by
  have y := (x.kept (Ch.of_below (fun _ _ => False) hb) (fun _ _ h => h.elim)).up w
  have hs : (w'.cell? ⟨pb, k, none⟩).isSome = true := by rw [(y.pc k hk).1]; rfl
  have hset : Ch (fun a _ => a = pb) w' (w'.setCell ⟨pb, k, none⟩ (.slice (some ⟨p, 0, none⟩) 4096 cp)) := Ch.set _ _ _ _ _ rfl hs
  have hz : ∀ i, i < 4096 → F (atP k i) = 0 := by
    rcases x.pg k hk with ⟨-, h⟩ | ⟨h, -⟩
    · exact h
    · omega
  have pr := y.pr
  have hpl : p < w'.heap.size := hP.1
  have nlt : ∀ l, l < 256 → n l = 4096 → g l < w.heap.size := fun l hl h => x.rlt (g l) 0 (x.rg l 0 hl h)
  refine ⟨?_, (Ch.of_below R hb).trans ((hset.mono (T2 := R) (fun a j e => by rw [e]; exact x.rp j))) (fun _ _ h => .inl h)⟩
  exact
  { lt := by rw [sz_set]; exact y.lt
    c0 := (hset.cell r 0 y.lt (fun e => pr e.symm)).trans y.c0
    f0 := (hset.frozen r 0 y.lt).trans y.f0
    pl := by rw [sz_set]; exact y.pl
    pc := fun l hl => by
      refine ⟨?_, by rw [World.frozen?_setCell]; exact (y.pc l hl).2⟩
      by_cases e : l = k
      · subst e; rw [cell_eq _ _ _ _ hs, setN_eq, setN_eq, setN_eq]
      · rw [cell_ne _ _ _ _ _ (fun q => e q.symm), setN_ne _ _ _ _ e, setN_ne _ _ _ _ e, setN_ne _ _ _ _ e]; exact (y.pc l hl).1
    pg := fun l hl => by
      by_cases e : l = k
      · subst e
        refine .inr ⟨setN_eq _ _ _, by rw [setN_eq]; exact hc, by rw [setN_eq, setN_eq], ?_⟩
        rw [setN_eq]
        refine page_ch ⟨hP.1, fun j hj => ?_⟩ hset (fun j q => by have := x.pl; omega)
        show _ = some (Value.int .u8 ((F (atP l j) : Nat) : Int)) ∧ _
        rw [hz j hj]; exact hP.2 j hj
      · rcases y.pg l hl with h | ⟨h1, h2, h3, h4⟩
        · exact .inl (by rw [setN_ne _ _ _ _ e]; exact h)
        · refine .inr ⟨by rw [setN_ne _ _ _ _ e]; exact h1, by rw [setN_ne _ _ _ _ e]; exact h2, by rw [setN_ne _ _ _ _ e, setN_ne _ _ _ _ e]; exact h3, ?_⟩
          rw [setN_ne _ _ _ _ e]
          exact page_ch h4 hset (fun j q => (y.gr l hl h1).2 q)
    f8 := y.f8
    rr := y.rr
    rp := y.rp
    rg := fun l j hl hn2 => by
      by_cases e : l = k
      · subst e; rw [setN_eq]; exact .inr ⟨hp, hpl⟩
      · rw [setN_ne _ _ _ _ e] at hn2 ⊢; exact y.rg l j hl hn2
    rlt := fun l j hl => by rw [sz_set]; exact y.rlt l j hl
    pr := y.pr
    gr := fun l hl hn2 => by
      by_cases e : l = k
      · subst e; rw [setN_eq]; have := x.lt; have := x.pl; exact ⟨by omega, by omega⟩
      · rw [setN_ne _ _ _ _ e] at hn2 ⊢; exact y.gr l hl hn2
    gg := fun l m hl hm hne hn1 hn2 => by
      by_cases e : l = k
      · subst e
        have e2 : ¬ m = l := fun q => hne q.symm
        rw [setN_ne _ _ _ _ e2] at hn2
        rw [setN_eq, setN_ne _ _ _ _ e2]
        have := nlt m hm hn2; omega
      · rw [setN_ne _ _ _ _ e] at hn1 ⊢
        by_cases e2 : m = k
        · subst e2; rw [setN_eq]; have := nlt l hl hn1; omega
        · rw [setN_ne _ _ _ _ e2] at hn2 ⊢; exact y.gg l m hl hm hne hn1 hn2 }
end
end Go.Proofs.YthhlcchofilimaaGreatDoor.U.M
namespace Go.Proofs.YthhlcchofilimaaGreatDoor.U.M
set_option linter.unusedVariables false
set_option linter.unusedSimpArgs false
set_option maxRecDepth 20000
set_option maxRecDepth 20000
open Go.ChangeShapes Go.WideShapes Go.ChangeAt Go.RowKit
theorem Rm.upTo {R : Fp} {w wa w4 : World} {r : Nat} {F : Nat → Nat} {pb : Nat} {A : Nat → Option Addr} {n c g : Nat → Nat} (x : Rm (Up R w wa) w4 r F pb A n c g) (h : wa.heap.size ≤ w4.heap.size) : IsRm (Up R w w4) w4 r F :=
  ⟨pb, A, n, c, g, x.mono (fun k j hk => hk.imp id (fun q => ⟨q.1, Nat.lt_of_lt_of_le q.2 h⟩)) (fun k j hk => hk.elim (fun q => x.rlt k j (.inl q)) (·.2))⟩
theorem make_page : ∃ ZP : Array Value, (∀ w, (Instr.makeSlice 22 (.int .i64 4096) (.int .i64 4096)).run Tryz.prog w = .ok (.slice (some ⟨w.heap.size, 0, none⟩) 4096 4096) (w.alloc (.cells ZP 5))) ∧ ∀ j, j < 4096 → ZP[j]? = some (.int .u8 0) := by
  obtain ⟨i, hi, h1, h2, h3⟩ := inf8'
  refine ⟨madeCells (Value.int .u8 0).cells 4096, fun w => ?_, fun j hj => made_get (.int .u8 0) rfl 4096 j hj⟩
  have hr := run_make (P := Tryz.prog) w 22 5 i (.int .u8 0) Tryz.underlying22 hi h3 .i64 .i64 4096 4096 (by omega) (by omega) (by rw [h2]; omega) (by omega)
  rw [h1] at hr
  exact hr
theorem page_made (w : World) (ZP : Array Value) (h : ∀ j, j < 4096 → ZP[j]? = some (.int .u8 0)) (t : TypeId) : PageIs (w.alloc (.cells ZP t)) w.heap.size (fun _ => 0) :=
  ⟨by rw [sz_alloc]; omega, fun i hi => ⟨by rw [World.cell?_alloc_new]; exact h i hi, by rw [World.frozen?_alloc_at _ _ _ _ rfl]⟩⟩
set_option maxRecDepth 100000 in
set_option maxHeartbeats 4000000 in
theorem putr_c (R : Fp) (r k i a y : Nat) (F : Nat → Nat) (w : World) (hM : Hid (IsRm R w r F)) (hk : Hid (k < 256)) (hi : Hid (i < 4096)) (ha : Hid (a = atP k i)) (hy : Hid (y < 256)) : Calls Tryz.prog 56 #[.pointer (some ⟨r, 0, none⟩), .int .u64 a, .int .u8 y] w (RetPt r (putF F a y) R w) := by
  obtain ⟨pb, A, n, c, g, x⟩ := hM.out
  have c0 := x.c0
  have c1 := (x.pc k hk.out).1
  have f1 := (x.pc k hk.out).2
  obtain ⟨d, hd⟩ : ∃ d, 4096 * k + i = d := ⟨_, rfl⟩
  have e1 : (a : Int) - 2147483648 = (d : Nat) := by have := ha.out; unfold atP at this; omega
  have e2 : IntKind.u64.wrap ((a : Int) - 2147483648) = (d : Nat) := by rw [e1, IntKind.wrap_u64]; have := hk.out; have := hi.out; omega
  have e3 : (d : Int) / 4096 = (k : Nat) := by have := hi.out; omega
  have e4 : (d : Int).tdiv 4096 = (k : Nat) := by rw [Int.tdiv_eq_ediv_of_nonneg (by omega)]; exact e3
  have e5 : (d : Int) % 4096 = (i : Nat) := by have := hi.out; omega
  have e6 : (d : Int).tmod 4096 = (i : Nat) := by rw [Int.tmod_eq_emod_of_nonneg (by omega)]; exact e5
  have k256 : (k : Int) < 256 := by have := hk.out; omega
  have i4096 : (i : Int) < 4096 := by have := hi.out; omega
  clear hd
  rcases x.pg k hk.out with ⟨hn, hz⟩ | ⟨hn, hc, hA, hP⟩
  · rw [hn] at c1
    have HX := Lib.hid x
    have HN := Lib.hid hn
    clear x hn hz
    go_enter Tryz.func56, Tryz.ntmps56
    have hpn : ¬ pb = w.heap.size := by have := HX.out.pl; omega
    have hrn : ¬ r = w.heap.size := by have := HX.out.lt; omega
    obtain ⟨ZP, hmk, hZP⟩ := make_page
    have HZ := Lib.hid hZP
    clear hZP
    have k0 : (w.alloc (Obj.cells ZP 5)).cell? ⟨pb, k, none⟩ = some (.slice (A k) 0 (c k)) := ((below_one w _).cell (p := ⟨pb, k, none⟩) HX.out.pl).trans c1
    have k1 : (w.alloc (Obj.cells ZP 5)).frozen? ⟨pb, k, none⟩ = false := ((below_one w _).frozen (p := ⟨pb, k, none⟩) HX.out.pl).trans f1
    have k2 : (w.alloc (Obj.cells ZP 5)).cell? ⟨r, 0, none⟩ = some (.slice (some ⟨pb, 0, none⟩) 256 256) := ((below_one w _).cell (p := ⟨r, 0, none⟩) HX.out.lt).trans c0
    have HPR : Hid (pb ≠ r) := HX.out.pr
    go_wp2_with fail
    go_region_held3 (fun w' => w'.cell? ⟨r, 0, none⟩ = some (.slice (some ⟨pb, 0, none⟩) 256 256)) (first | exact c0 | exact (World.cell?_setCell_other _ _ _ _ (fun q => by injection q with q1 q2; exact HPR.out q1)).trans k2 | go_keep) (fail)
    have hp := HX.out.page (cp := 4096) (below_one w (Obj.cells ZP 5)) hk.out HN.out (Nat.le_refl _) (page_made w ZP HZ.out 5) (Nat.le_refl _)
    have hb := below_drewN (Below.refl ((w.alloc (Obj.cells ZP 5)).setCell ⟨pb, k, none⟩ (.slice (some ⟨w.heap.size, 0, none⟩) 4096 4096)).heap.size ((w.alloc (Obj.cells ZP 5)).setCell ⟨pb, k, none⟩ (.slice (some ⟨w.heap.size, 0, none⟩) 4096 4096))) 1
    have hx3 := Lib.hid (hp.1.kept (Ch.of_below (fun _ _ => False) hb) (fun _ _ h => h.elim))
    have hc3 := Lib.hid (hp.2.trans (Ch.of_below R hb) (fun _ _ h => .inl h))
    have hz3 : Hid ((w.alloc (Obj.cells ZP 5)).heap.size ≤ (((w.alloc (Obj.cells ZP 5)).setCell ⟨pb, k, none⟩ (.slice (some ⟨w.heap.size, 0, none⟩) 4096 4096)).drewN 1).heap.size) := by show _ ≤ _; rw [sz_drewN, sz_set]; exact Nat.le_refl _
    clear hp hb c0 c1 f1 k0 k1 k2 hmk
    have hw9 : ((w.alloc (Obj.cells ZP 5)).setCell ⟨pb, k, none⟩ (.slice (some ⟨w.heap.size, 0, none⟩) 4096 4096)).drew = ((w.alloc (Obj.cells ZP 5)).setCell ⟨pb, k, none⟩ (.slice (some ⟨w.heap.size, 0, none⟩) 4096 4096)).drewN 1 := rfl
    rw [hw9]; clear hw9
    generalize ((w.alloc (Obj.cells ZP 5)).setCell ⟨pb, k, none⟩ (.slice (some ⟨w.heap.size, 0, none⟩) 4096 4096)).drewN 1 = w3 at hx3 hc3 hz3 ⊢
    have c0 := hx3.out.c0
    have c1 := (hx3.out.pc k hk.out).1
    rw [setN_eq, setN_eq, setN_eq] at c1
    have hput := hx3.out.put (i := i) (y := y) hk.out hi.out (setN_eq _ _ _) hy.out
    rw [setN_eq] at hput
    rw [← ha.out] at hput
    have HPut := Lib.hid hput
    have hP9 : PageIs w3 w.heap.size (fun j => F (atP k j)) := by
      rcases hx3.out.pg k hk.out with ⟨h0, -⟩ | ⟨-, -, -, h⟩
      · rw [setN_eq] at h0; omega
      · rw [setN_eq] at h; exact h
    have cx := (hP9.2 i hi.out).1
    have fx := (hP9.2 i hi.out).2
    clear hput hP9
    go_wp2_with fail
    go_end0
    refine ⟨rfl, HPut.out.1.upTo (by rw [sz_set]; exact hz3.out), hc3.out.trans HPut.out.2 (fun a j h => h.imp id (·.1))⟩
  · rw [hn, hA] at c1
    have HX := Lib.hid x
    have cx := (hP.2 i hi.out).1
    have fx := (hP.2 i hi.out).2
    have HPut := Lib.hid (x.put hk.out hi.out hn hy.out)
    clear x hn hA hP hc f1
    go_enter Tryz.func56, Tryz.ntmps56
    go_wp2_with fail
    go_end0
    have h1 := HPut.out.1
    rw [← ha.out] at h1
    exact ⟨rfl, ⟨_, _, _, _, _, h1.up w⟩, HPut.out.2⟩
end Go.Proofs.YthhlcchofilimaaGreatDoor.U.M
namespace Go.Proofs.YthhlcchofilimaaGreatDoor.U.M
set_option linter.unusedVariables false
set_option linter.unusedSimpArgs false
set_option maxRecDepth 20000
set_option maxRecDepth 20000
open Go.ChangeShapes Go.WideShapes Go.ChangeAt Go.RowKit
def RetL (ok : Bool) (r : Nat) (F : Nat → Nat) (R : Fp) (w : World) (e : Ending) (w' : World) : Prop := e = .returned (.bool ok) ∧ IsRm (Up R w w') w' r F ∧ Ch R w w'
section
variable {R : Fp} {w w1 w2 : World} {r : Nat} {F : Nat → Nat}
theorem IsRm.flat (h : IsRm (Up (Up R w w1) w1 w2) w2 r F) (h1 : w.heap.size ≤ w1.heap.size) (h2 : w1.heap.size ≤ w2.heap.size) : IsRm (Up R w w2) w2 r F := by
  obtain ⟨pb, A, n, c, g, x⟩ := h
  refine ⟨pb, A, n, c, g, x.mono (fun k j hk => ?_) (fun k j hk => ?_)⟩
  · rcases hk with (hk | hk) | hk
    · exact .inl hk
    · exact .inr ⟨hk.1, Nat.lt_of_lt_of_le hk.2 h2⟩
    · exact .inr ⟨Nat.le_trans h1 hk.1, hk.2⟩
  · rcases hk with hk | hk
    · exact x.rlt k j (.inl (.inl hk))
    · exact hk.2
theorem ch_flat (h : Ch R w w1) (k : Ch (Up R w w1) w1 w2) : Ch R w w2 := h.trans k (fun _ _ q => q.imp id (·.1))
theorem IsRm.start (h : IsRm R w r F) : IsRm (Up R w w) w r F := by
  obtain ⟨pb, A, n, c, g, x⟩ := h
  exact ⟨pb, A, n, c, g, x.up w⟩
theorem IsRm.kept {T : Fp} (h : IsRm R w r F) (hc : Ch T w w1) (hd : Dj T R) : IsRm R w1 r F := by
  obtain ⟨pb, A, n, c, g, x⟩ := h
  exact ⟨pb, A, n, c, g, x.kept hc hd⟩
theorem IsRm.below (h : IsRm R w r F) (hb : Below w.heap.size w w1) : IsRm (Up R w w1) w1 r F := by
  obtain ⟨pb, A, n, c, g, x⟩ := h
  exact ⟨pb, A, n, c, g, (x.kept (Ch.of_below (fun _ _ => False) hb) (fun _ _ h => h.elim)).up w⟩
theorem IsRm.f8 (h : IsRm R w r F) : ∀ x, F x < 256 := by
  obtain ⟨pb, A, n, c, g, x⟩ := h
  exact x.f8
end
theorem lay_put (F : Nat → Nat) (a i : Nat) (X : Nat → Nat) : putF (layF F a i X) (a + i) (X i) = layF F a (i + 1) X := by
  funext x
  unfold putF layF
  by_cases e : x = a + i
  · rw [if_pos e, if_pos (by omega), e, Nat.add_sub_cancel_left]
  · rw [if_neg e]
    by_cases h : a ≤ x ∧ x < a + i
    · rw [if_pos h, if_pos (by omega)]
    · rw [if_neg h, if_neg (by omega)]
theorem at_split (a : Nat) (h1 : 2147483648 ≤ a) (h2 : a < 2148532224) : a = atP ((a - 2147483648) / 4096) ((a - 2147483648) % 4096) ∧ (a - 2147483648) / 4096 < 256 ∧ (a - 2147483648) % 4096 < 4096 := by
  unfold atP; omega
theorem put_at (R : Fp) (r a y : Nat) (F : Nat → Nat) (w : World) (hM : Hid (IsRm R w r F)) (ha : Hid (2147483648 ≤ a ∧ a < 2148532224)) (hy : Hid (y < 256)) : Calls Tryz.prog 56 #[.pointer (some ⟨r, 0, none⟩), .int .u64 a, .int .u8 y] w (RetPt r (putF F a y) R w) :=
  have h := at_split a ha.out.1 ha.out.2
  putr_c R r _ _ a y F w hM h.2.1 h.2.2 h.1 hy
theorem byte_at (R : Fp) (r a : Nat) (F : Nat → Nat) (w : World) (hM : Hid (IsRm R w r F)) (ha : Hid (2147483648 ≤ a ∧ a < 2148532224)) : Calls Tryz.prog 65 #[.pointer (some ⟨r, 0, none⟩), .int .u64 a] w (fun e w' => e = .returned (.int .u8 (F a : Nat)) ∧ w' = w) :=
  have h := at_split a ha.out.1 ha.out.2
  byter_c R r _ _ a F w hM h.2.1 h.2.2 h.1
theorem layr_big (m n c : Nat) (a : Option Addr) (w : World) (hn : (1048576 : Int) < n) : Calls Tryz.prog 24 #[.pointer (some ⟨m, 0, none⟩), .slice a n c] w (fun e w' => e = .returned (.bool false) ∧ w' = w) := by
  go_enter Tryz.func24, Tryz.ntmps24
  go_wp2_with fail
  go_ret
  exact ⟨rfl, rfl⟩
set_option maxRecDepth 100000 in
set_option maxHeartbeats 4000000 in
theorem layr_c (R : Fp) (r g o n c : Nat) (sa : Option Addr) (F X : Nat → Nat) (w : World) (hM : Hid (IsRm R w r F)) (hsa : Hid (0 < n → sa = some ⟨g, o, none⟩ ∧ g < w.heap.size ∧ ∀ j, ¬ R g j)) (hn : Hid (n ≤ 1048576)) (hX : Hid (∀ i, X i < 256)) (hr : Hid (∀ i, i < n → w.cell? ⟨g, o + i, none⟩ = some (.int .u8 (X i : Nat)))) :
    Calls Tryz.prog 24 #[.pointer (some ⟨r, 0, none⟩), .slice sa n c] w (RetL true r (layF F 2147483648 n X) R w) := by
  have d0 : decide ((1048576 : Int) < n) = false := decide_eq_false (by have := hn.out; omega)
  have d0' : decide (1048576 < n) = false := decide_eq_false (by have := hn.out; omega)
  have d1 : ¬ (1048576 : Int) < n := by have := hn.out; omega
  go_enter Tryz.func24, Tryz.ntmps24
  go_wp2_with fail
  go_loopw [5] (fun iv wr => ∃ i : Nat, i ≤ n ∧ iv = .int .i64 i ∧ Hid (IsRm (Up R w wr) wr r (layF F 2147483648 i X)) ∧ Hid (Ch R w wr)) (fun iv _ => n - (intOf iv).toNat)
  case atStart => exact ⟨0, Nat.zero_le _, rfl, by rw [layF_zero]; exact hM.out.start, Ch.refl _ _⟩
  case round =>
    obtain ⟨i, hi, rfl, HM, HC⟩ := hrel
    by_cases hlt : i < n
    · have hlt' : (i : Int) < n := by omega
      obtain ⟨rfl, hg, hd⟩ := hsa.out (by omega)
      have cx : wr.cell? ⟨g, o + i, none⟩ = some (.int .u8 (X i : Nat)) := (HC.out.cell g (o + i) hg (hd _)).trans (hr.out i hlt)
      obtain ⟨x, hx⟩ : ∃ x, X i = x := ⟨_, rfl⟩
      rw [hx] at cx
      have X8 : Hid (x < 256) := by show _ < _; rw [← hx]; exact hX.out i
      have HP : Hid (putF (layF F 2147483648 i X) (2147483648 + i) x = layF F 2147483648 (i + 1) X) := by show _ = _; rw [← hx]; exact lay_put F 2147483648 i X
      have HI : Hid (2147483648 ≤ 2147483648 + i ∧ 2147483648 + i < 2148532224) := by have := hn.out; show _ ∧ _; omega
      have ew : IntKind.u64.wrap (i : Int) = i := by rw [IntKind.wrap_u64]; have := hn.out; omega
      have ew2 : IntKind.u64.wrap (2147483648 + (i : Int)) = ((2147483648 + i : Nat) : Int) := by rw [IntKind.wrap_u64]; have := hn.out; omega
      have kk1 : IntKind.i64.wrap ((i : Int) + 1) = (i : Int) + 1 := IntWalk.i64_in _ (by have := hn.out; omega)
      obtain ⟨t, ht⟩ : ∃ t, 2147483648 + i = t := ⟨_, rfl⟩
      rw [ht] at HP HI ew2
      clear hx hg hd ht d1
      go_wp2_with fail
      refine (put_at _ r t x _ wr HM HI X8).mono ?_; rintro e w2 ⟨rfl, h1, h2⟩
      rw [HP.out] at h1
      have HM2 := Lib.hid (h1.flat HC.out.size h2.size)
      have HC2 := Lib.hid (ch_flat HC.out h2)
      clear h1 h2
      go_wp2_with fail
      go_roundw
      case rel => exact ⟨i + 1, by omega, by go_num, HM2, HC2⟩
      case measure => simp [intOf]; omega
    · obtain rfl : i = n := by omega
      go_wp2_with fail
      go_ret
      exact ⟨rfl, HM.out, HC.out⟩
theorem add8 (R : Nat → Nat) (hR : ∀ i, R i < 256) (i : Nat) (hi : i < 8) (x : Nat) (hx : x = R i) : IntKind.u64.wrap (((numR R i : Nat) : Int) + IntKind.u64.wrap ((x : Int) * 2 ^ (8 * i))) = ((numR R (i + 1) : Nat) : Int) := by
  subst hx
  have e : (2 : Int) ^ (8 * i) = ((256 ^ i : Nat) : Int) := by rw [← pow8]; simp
  have hp : 256 ^ i ≤ 72057594037927936 := Nat.le_trans (Nat.pow_le_pow_right (by decide) (show i ≤ 7 by omega)) (by decide)
  have hrp : R i * 256 ^ i ≤ 255 * 256 ^ i := Nat.mul_le_mul_right _ (by have := hR i; omega)
  have hl := numR_lt R hR i
  have w2 : IntKind.u64.wrap ((R i : Int) * ((256 ^ i : Nat) : Int)) = ((R i * 256 ^ i : Nat) : Int) := by
    rw [← Int.natCast_mul, IntKind.wrap_u64]
    omega
  rw [e, w2, IntKind.wrap_u64]
  show _ = ((numR R i + R i * 256 ^ i : Nat) : Int)
  omega
set_option maxRecDepth 100000 in
set_option maxHeartbeats 4000000 in
theorem readr_y (R : Fp) (r a n : Nat) (F : Nat → Nat) (w : World) (hM : Hid (IsRm R w r F)) (hn : Hid (n = 1 ∨ n = 2 ∨ n = 4 ∨ n = 8)) (ha : Hid (2147483648 ≤ a ∧ a + n ≤ 2148532224)) (hv : Hid (hasV a n = true)) :
    Calls Tryz.prog 42 #[.pointer (some ⟨r, 0, none⟩), .int .u64 a, .int .i64 n] w (RetR (numR (fun i => F (a + i)) n) true w) := by
  have n8 : (n : Int) ≤ 8 := by have := hn.out; omega
  have HH : Hid (Calls Tryz.prog 64 #[.pointer (some ⟨r, 0, none⟩), .int .u64 a, .int .i64 n] w (RetB true w)) := by rw [← hv.out]; exact hasr_c _ a n (by have := ha.out; show _ < _; omega) w
  have HF : Hid (∀ i, (fun i => F (a + i)) i < 256) := fun i => hM.out.f8 (a + i)
  go_enter Tryz.func42, Tryz.ntmps42
  go_wp2_with fail
  refine HH.out.mono ?_; rintro e w1 ⟨rfl, hb⟩
  have HB := Lib.hid hb; clear hb
  have HM : Hid (IsRm (Up R w w1) w1 r F) := hM.out.below HB.out
  go_wp2_with fail
  go_loopw [9, 10] (fun vv iv wr => ∃ i : Nat, i ≤ n ∧ iv = .int .i64 i ∧ vv = .int .u64 (numR (fun i => F (a + i)) i : Nat) ∧ wr = w1) (fun _ iv _ => n - (intOf iv).toNat)
  case atStart => exact ⟨0, Nat.zero_le _, rfl, rfl, rfl⟩
  case round =>
    obtain ⟨i, hi, rfl, rfl, rfl⟩ := hrel
    by_cases hlt : i < n
    · have hlt' : (i : Int) < n := by omega
      have i8 : (i : Int) < 8 := by omega
      obtain ⟨t, ht⟩ : ∃ t, a + i = t := ⟨_, rfl⟩
      have ew : IntKind.u64.wrap (i : Int) = i := by rw [IntKind.wrap_u64]; omega
      have ew2 : IntKind.u64.wrap ((a : Int) + (i : Int)) = (t : Nat) := by rw [IntKind.wrap_u64]; have := ha.out; omega
      have ew3 : IntKind.i64.wrap (8 * (i : Int)) = 8 * (i : Int) := IntWalk.i64_in _ (by omega)
      have kk1 : IntKind.i64.wrap ((i : Int) + 1) = (i : Int) + 1 := IntWalk.i64_in _ (by omega)
      have HI : Hid (2147483648 ≤ t ∧ t < 2148532224) := by have := ha.out; show _ ∧ _; omega
      obtain ⟨x, hx⟩ : ∃ x, F t = x := ⟨_, rfl⟩
      have X8 : x < 256 := by rw [← hx]; exact hM.out.f8 t
      have ex : IntKind.u64.wrap (x : Int) = x := by rw [IntKind.wrap_u64]; omega
      have HX := Lib.hid hx
      have H8 := Lib.hid X8
      have HT := Lib.hid ht
      clear hx X8 ht
      go_wp2_with fail
      refine (byte_at _ r t F wr HM HI).mono ?_; rintro e w2 ⟨rfl, h1⟩
      subst h1
      rw [HX.out]
      have HA8 : Hid (IntKind.u64.wrap (((numR (fun i => F (a + i)) i : Nat) : Int) + IntKind.u64.wrap ((x : Int) * 2 ^ (8 * i))) = ((numR (fun i => F (a + i)) (i + 1) : Nat) : Int)) := add8 _ HF.out i (by omega) x (by show x = F (a + i); rw [HT.out]; exact HX.out.symm)
      go_wp2_with fail
      rw [HA8.out]
      go_roundw
      case rel => exact ⟨i + 1, by omega, by go_num, rfl, trivial⟩
      case measure => simp [intOf]; omega
    · obtain rfl : i = n := by omega
      go_wp2_with fail
      go_ret2
      exact ⟨rfl, HB.out⟩
theorem readr_n (R : Fp) (r a : Nat) (z : Int) (F : Nat → Nat) (w : World) (ha : Hid (a < 18446744073709551616)) (hv : Hid (hasV a z = false)) :
    Calls Tryz.prog 42 #[.pointer (some ⟨r, 0, none⟩), .int .u64 a, .int .i64 z] w (RetR 0 false w) := by
  have HH : Hid (Calls Tryz.prog 64 #[.pointer (some ⟨r, 0, none⟩), .int .u64 a, .int .i64 z] w (RetB false w)) := by rw [← hv.out]; exact hasr_c _ a z ha w
  go_enter Tryz.func42, Tryz.ntmps42
  go_wp2_with fail
  refine HH.out.mono ?_; rintro e w1 ⟨rfl, hb⟩
  have HB := Lib.hid hb; clear hb
  go_wp2_with fail
  go_ret2
  exact ⟨rfl, HB.out⟩
theorem readr_c (R : Fp) (r a : Nat) (z : Int) (F : Nat → Nat) (w : World) (hM : Hid (IsRm R w r F)) (ha : Hid (a < 18446744073709551616)) :
    Calls Tryz.prog 42 #[.pointer (some ⟨r, 0, none⟩), .int .u64 a, .int .i64 z] w (RetR (readV F a z) (hasV a z) w) := by
  cases hv : hasV a z
  · have : readV F a z = 0 := by unfold readV; rw [hv]; rfl
    rw [this]
    exact readr_n R r a z F w ha hv
  · have h := hv
    unfold hasV at h
    have h := of_decide_eq_true h
    obtain ⟨n, rfl⟩ : ∃ n : Nat, z = n := ⟨z.toNat, by omega⟩
    have hn : n = 1 ∨ n = 2 ∨ n = 4 ∨ n = 8 := by omega
    have : readV F a n = numR (fun i => F (a + i)) n := by
      unfold readV
      rw [if_pos hv, show ((n : Nat) : Int).toNat = n from rfl]
      have h8 := numR_zero (rB F a n) n (8 - n) (fun i hi => by unfold rB; rw [if_neg (by omega)])
      rw [show n + (8 - n) = 8 by omega] at h8
      rw [h8]
      exact numR_congr n (fun i hi => by unfold rB; rw [if_pos hi])
    rw [this]
    exact readr_y R r a n F w hM hn (by show _ ∧ _; omega) hv
theorem mreadr : True := (fun _ => trivial) @readr_c
end Go.Proofs.YthhlcchofilimaaGreatDoor.U.M
