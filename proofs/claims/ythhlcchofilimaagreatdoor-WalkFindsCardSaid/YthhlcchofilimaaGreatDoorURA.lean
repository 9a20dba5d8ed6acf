/- Taken from other texts: what is needed of them. -/
import Derived.Test.YthhlcchofilimaaGreatDoorUA
import Derived.Test.YthhlcchofilimaaGreatDoorUB
import Derived.Test.YthhlcchofilimaaGreatDoorUC
import Derived.Test.YthhlcchofilimaaGreatDoorUD
import Derived.Test.YthhlcchofilimaaGreatDoorUE
import Derived.Test.YthhlcchofilimaaGreatDoorUG
import Derived.Test.YthhlcchofilimaaGreatDoorUH
import Derived.Test.YthhlcchofilimaaGreatDoorUI
import Derived.Test.YthhlcchofilimaaGreatDoorUJ
import Derived.Test.YthhlcchofilimaaGreatDoorUO
import Derived.Laws.Bits64
import Derived.Laws.Bits64b
import Derived.RegionTactic
import Derived.Deep.AppendSrc
namespace Go.Proofs.YthhlcchofilimaaGreatDoor.U.P
set_option linter.unusedVariables false
set_option linter.unusedSimpArgs false
set_option maxRecDepth 20000
open Go.ChangeShapes Go.WideShapes Go.ChangeAt Go.RowKit
open M (Fp Dj Cw Up Th)
set_option maxRecDepth 20000
/-- A set of sources as bits. -/
def Bits (x : Nat) (f : Nat → Bool) : Prop := ∀ i, x.testBit i = (decide (i < 9) && f i)
section
variable {x y n : Nat} {f g : Nat → Bool}
theorem Bits.lt (h : Bits x f) : x < 512 := Nat.lt_pow_two_of_testBit (n := 9) x (fun i hi => by rw [h i, decide_eq_false (by omega)]; rfl)
theorem bits_zero : Bits 0 (fun _ => false) := fun i => by rw [Nat.zero_testBit, Bool.and_false]
theorem Bits.at (h : Bits x f) (hn : n < 9) : x.testBit n = f n := by rw [h n, decide_eq_true hn, Bool.true_and]
end
/-- What holds of a plic on its ways. -/
def InvS (S : St) : Prop := (∀ k, S.up k = true → S.st k ≠ 0) ∧ S.pr 0 = 0 ∧ S.st 0 = 0 ∧ S.up 0 = false
/-- The document's plic in its four blocks. -/
structure Raw (w : World) (b e p t ce cp ct : Nat) (u v s : Nat) (S : St) : Prop where
  lb : b < w.heap.size
  le : e < w.heap.size
  lp : p < w.heap.size
  lt : t < w.heap.size
  be : b ≠ e
  bp : b ≠ p
  bt : b ≠ t
  ep : e ≠ p
  et : e ≠ t
  pt : p ≠ t
  c0 : w.cell? ⟨b, 0, none⟩ = some (.int .u64 (u : Nat))
  c1 : w.cell? ⟨b, 1, none⟩ = some (.int .u64 (v : Nat))
  c2 : w.cell? ⟨b, 2, none⟩ = some (.int .u64 (s : Nat))
  c3 : w.cell? ⟨b, 3, none⟩ = some (.slice (some ⟨e, 0, none⟩) 2 ce)
  c4 : w.cell? ⟨b, 4, none⟩ = some (.slice (some ⟨p, 0, none⟩) 9 cp)
  c5 : w.cell? ⟨b, 5, none⟩ = some (.slice (some ⟨t, 0, none⟩) 2 ct)
  fb : ∀ j, w.frozen? ⟨b, j, none⟩ = false
  en : ∀ i, i < 2 → w.cell? ⟨e, i, none⟩ = some (.int .u64 (S.en i : Nat)) ∧ w.frozen? ⟨e, i, none⟩ = false
  pr : ∀ i, i < 9 → w.cell? ⟨p, i, none⟩ = some (.int .u64 (S.pr i : Nat)) ∧ w.frozen? ⟨p, i, none⟩ = false
  th : ∀ i, i < 2 → w.cell? ⟨t, i, none⟩ = some (.int .u64 (S.th i : Nat)) ∧ w.frozen? ⟨t, i, none⟩ = false
  hce : 2 ≤ ce
  hcp : 9 ≤ cp
  hct : 2 ≤ ct
structure IsRP (w : World) (b e p t ce cp ct u v s : Nat) (S : St) : Prop where
  raw : Raw w b e p t ce cp ct u v s S
  bu : Bits u S.up
  bv : Bits v (fun k => S.st k == 1)
  bs : Bits s (fun k => S.st k == 2)
  ok : OkS S
  inv : InvS S
section
variable {w w' : World} {b e p t ce cp ct u v s : Nat} {S : St}
/-- Blocks that are as they were. -/
theorem Raw.same (h : Raw w b e p t ce cp ct u v s S) (hs : w.heap.size ≤ w'.heap.size) (hc : ∀ k, (k = b ∨ k = e ∨ k = p ∨ k = t) → ∀ o, w'.cell? ⟨k, o, none⟩ = w.cell? ⟨k, o, none⟩ ∧ w'.frozen? ⟨k, o, none⟩ = w.frozen? ⟨k, o, none⟩) : Raw w' b e p t ce cp ct u v s S := by
  have hb := hc b (.inl rfl); have he := hc e (.inr (.inl rfl)); have hp := hc p (.inr (.inr (.inl rfl))); have ht := hc t (.inr (.inr (.inr rfl)))
  exact { h with
    lb := Nat.lt_of_lt_of_le h.lb hs, le := Nat.lt_of_lt_of_le h.le hs, lp := Nat.lt_of_lt_of_le h.lp hs, lt := Nat.lt_of_lt_of_le h.lt hs
    c0 := (hb 0).1.trans h.c0, c1 := (hb 1).1.trans h.c1, c2 := (hb 2).1.trans h.c2, c3 := (hb 3).1.trans h.c3, c4 := (hb 4).1.trans h.c4, c5 := (hb 5).1.trans h.c5
    fb := fun j => (hb j).2.trans (h.fb j)
    en := fun i hi => ⟨(he i).1.trans (h.en i hi).1, (he i).2.trans (h.en i hi).2⟩
    pr := fun i hi => ⟨(hp i).1.trans (h.pr i hi).1, (hp i).2.trans (h.pr i hi).2⟩
    th := fun i hi => ⟨(ht i).1.trans (h.th i hi).1, (ht i).2.trans (h.th i hi).2⟩ }
theorem Raw.below (h : Raw w b e p t ce cp ct u v s S) (hb : Below w.heap.size w w') : Raw w' b e p t ce cp ct u v s S :=
  h.same hb.size (fun k hk o => by
    have : k < w.heap.size := by rcases hk with e | e | e | e <;> rw [e] <;> first | exact h.lb | exact h.le | exact h.lp | exact h.lt
    exact ⟨hb.cell (p := ⟨k, o, none⟩) this, hb.frozen (p := ⟨k, o, none⟩) this⟩)
theorem IsRP.below (h : IsRP w b e p t ce cp ct u v s S) (hb : Below w.heap.size w w') : IsRP w' b e p t ce cp ct u v s S := { h with raw := h.raw.below hb }
theorem cell_far {k k' o o' : Nat} {x : Value} (h : k' ≠ k ∨ o' ≠ o) : (w.setCell ⟨k', o', none⟩ x).cell? ⟨k, o, none⟩ = w.cell? ⟨k, o, none⟩ := World.cell?_setCell_other _ _ _ _ (by rintro q; injection q with q1 q2; rcases h with h | h; exact h q1; exact h q2)
/-- Its four blocks, all cells. -/
def own4 (b e p t : Nat) : Fp := fun k _ => k = b ∨ k = e ∨ k = p ∨ k = t
end
end Go.Proofs.YthhlcchofilimaaGreatDoor.U.P
namespace Go.Proofs.YthhlcchofilimaaGreatDoor.U.P
set_option linter.unusedVariables false
set_option linter.unusedSimpArgs false
set_option maxRecDepth 20000
open Go.ChangeShapes Go.WideShapes Go.ChangeAt Go.RowKit Go.Sort
open M (Fp Dj Cw Up Th)
set_option maxRecDepth 20000
/-- One of its own. -/
def RetRPN (S : St) (W : World) (e0 : Ending) (w' : World) : Prop := ∃ b e p t ce cp ct, e0 = .returned (.pointer (some ⟨b, 0, none⟩)) ∧ (∃ u v s, IsRP w' b e p t ce cp ct u v s S) ∧ (∀ k o, own4 b e p t k o → W.heap.size ≤ k) ∧ Below W.heap.size W w'
theorem okS0r : OkS S0 := ⟨fun _ => (by decide : 0 < 8), fun _ => (by decide : 0 < 512), fun _ => (by decide : 0 < 8), fun _ => (by decide : 0 < 3)⟩
theorem raw_new {w' : World} {b e p t : Nat} (hb : b < w'.heap.size) (he : e < b) (hp : p < b) (ht : t < b) (h1 : e ≠ p) (h2 : e ≠ t) (h3 : p ≠ t)
    (B : ∀ j, w'.cell? ⟨b, j, none⟩ = #[.int .u64 0, .int .u64 0, .int .u64 0, .slice (some ⟨e, 0, none⟩) 2 2, .slice (some ⟨p, 0, none⟩) 9 9, .slice (some ⟨t, 0, none⟩) 2 2][j]?) (fb : ∀ j, w'.frozen? ⟨b, j, none⟩ = false)
    (E : ∀ j, w'.cell? ⟨e, j, none⟩ = #[.int .u64 0, .int .u64 0][j]?) (fe : ∀ j, w'.frozen? ⟨e, j, none⟩ = false)
    (Pp : ∀ j, w'.cell? ⟨p, j, none⟩ = #[.int .u64 0, .int .u64 0, .int .u64 0, .int .u64 0, .int .u64 0, .int .u64 0, .int .u64 0, .int .u64 0, .int .u64 0][j]?) (fp : ∀ j, w'.frozen? ⟨p, j, none⟩ = false)
    (T : ∀ j, w'.cell? ⟨t, j, none⟩ = #[.int .u64 0, .int .u64 0][j]?) (ft : ∀ j, w'.frozen? ⟨t, j, none⟩ = false) : IsRP w' b e p t 2 9 2 0 0 0 S0 := by
  refine ⟨⟨hb, by omega, by omega, by omega, by omega, by omega, by omega, h1, h2, h3, by rw [B]; rfl, by rw [B]; rfl, by rw [B]; rfl, by rw [B]; rfl, by rw [B]; rfl, by rw [B]; rfl, fb, fun i hi => ⟨?_, fe i⟩, fun i hi => ⟨?_, fp i⟩, fun i hi => ⟨?_, ft i⟩, by omega, by omega, by omega⟩, bits_zero, bits_zero, bits_zero, okS0r, ⟨fun k (hk : false = true) => (by exact absurd hk (by decide)), rfl, rfl, rfl⟩⟩
  · rw [E]; have : i = 0 ∨ i = 1 := by omega
    rcases this with rfl | rfl <;> rfl
  · rw [Pp]; have : i = 0 ∨ i = 1 ∨ i = 2 ∨ i = 3 ∨ i = 4 ∨ i = 5 ∨ i = 6 ∨ i = 7 ∨ i = 8 := by omega
    rcases this with rfl | rfl | rfl | rfl | rfl | rfl | rfl | rfl | rfl <;> rfl
  · rw [T]; have : i = 0 ∨ i = 1 := by omega
    rcases this with rfl | rfl <;> rfl
set_option maxRecDepth 100000 in
theorem newr_c (w : World) : Calls Tryz.prog 22 #[] w (RetRPN S0 w) := by
  have m2 : ∀ w, (Instr.makeSlice 110 (.int .i64 2) (.int .i64 2)).run Tryz.prog w = .ok (.slice (some ⟨w.heap.size, 0, none⟩) 2 2) (w.alloc (.cells #[.int .u64 0, .int .u64 0] 23)) := fun w => by kernel_rfl
  have m9 : ∀ w, (Instr.makeSlice 110 (.int .i64 9) (.int .i64 9)).run Tryz.prog w = .ok (.slice (some ⟨w.heap.size, 0, none⟩) 9 9) (w.alloc (.cells #[.int .u64 0, .int .u64 0, .int .u64 0, .int .u64 0, .int .u64 0, .int .u64 0, .int .u64 0, .int .u64 0, .int .u64 0] 23)) := fun w => by kernel_rfl
  go_enter Tryz.func22, Tryz.ntmps22
  go_wp2_with fail
  go_region
  · go_wp2_with fail
    go_ret
    refine ⟨w.heap.size + 1 + 1 + 1, w.heap.size, w.heap.size + 1, w.heap.size + 1 + 1, 2, 9, 2, rfl, ⟨0, 0, 0, raw_new ?_ ?_ ?_ ?_ ?_ ?_ ?_ ?_ ?_ ?_ ?_ ?_ ?_ ?_ ?_⟩, fun k o hk => ?_, ?_⟩
    all_goals (first
      | omega
      | (rcases hk with q | q | q | q <;> rw [q] <;> omega)
      | (simp only [sz_alloc, sz_drew]; done)
      | (simp only [sz_alloc, sz_drew]; omega)
      | (intro j; simp (disch := (first | rfl | omega | (simp only [sz_alloc, sz_drew, sz_set]; done) | (simp only [sz_alloc, sz_drew, sz_set]; omega))) only [sz_alloc, sz_drew, World.cell?_drew, World.frozen?_drew, World.cell?_alloc_at, World.cell?_alloc_past, World.frozen?_alloc_at, World.frozen?_alloc_past]; done)
      | exact (by repeat (first | (with_reducible first | exact Below.refl _ _ | assumption | exact Nat.le_refl _ | refine Below.drew ?_ | refine Below.alloc ?_ ?_ _ | refine Below.setCell ?_ ?_ _ | refine le_alloc ?_ | refine le_set ?_ | refine le_drew ?_ | refine below_step (by assumption) ?_ ?_ | refine le_below (by assumption) ?_) | (dsimp only; omega))))
  · go_wp2_with fail
    go_ret
    refine ⟨w.heap.size + 1 + 1 + 1, w.heap.size, w.heap.size + 1 + 1, w.heap.size + 1, 2, 9, 2, rfl, ⟨0, 0, 0, raw_new ?_ ?_ ?_ ?_ ?_ ?_ ?_ ?_ ?_ ?_ ?_ ?_ ?_ ?_ ?_⟩, fun k o hk => ?_, ?_⟩
    all_goals (first
      | omega
      | (rcases hk with q | q | q | q <;> rw [q] <;> omega)
      | (simp only [sz_alloc, sz_drew]; done)
      | (simp only [sz_alloc, sz_drew]; omega)
      | (intro j; simp (disch := (first | rfl | omega | (simp only [sz_alloc, sz_drew, sz_set]; done) | (simp only [sz_alloc, sz_drew, sz_set]; omega))) only [sz_alloc, sz_drew, World.cell?_drew, World.frozen?_drew, World.cell?_alloc_at, World.cell?_alloc_past, World.frozen?_alloc_at, World.frozen?_alloc_past]; done)
      | exact (by repeat (first | (with_reducible first | exact Below.refl _ _ | assumption | exact Nat.le_refl _ | refine Below.drew ?_ | refine Below.alloc ?_ ?_ _ | refine Below.setCell ?_ ?_ _ | refine le_alloc ?_ | refine le_set ?_ | refine le_drew ?_ | refine below_step (by assumption) ?_ ?_ | refine le_below (by assumption) ?_) | (dsimp only; omega))))
  · go_wp2_with fail
    go_ret
    refine ⟨w.heap.size + 1 + 1 + 1, w.heap.size + 1, w.heap.size, w.heap.size + 1 + 1, 2, 9, 2, rfl, ⟨0, 0, 0, raw_new ?_ ?_ ?_ ?_ ?_ ?_ ?_ ?_ ?_ ?_ ?_ ?_ ?_ ?_ ?_⟩, fun k o hk => ?_, ?_⟩
    all_goals (first
      | omega
      | (rcases hk with q | q | q | q <;> rw [q] <;> omega)
      | (simp only [sz_alloc, sz_drew]; done)
      | (simp only [sz_alloc, sz_drew]; omega)
      | (intro j; simp (disch := (first | rfl | omega | (simp only [sz_alloc, sz_drew, sz_set]; done) | (simp only [sz_alloc, sz_drew, sz_set]; omega))) only [sz_alloc, sz_drew, World.cell?_drew, World.frozen?_drew, World.cell?_alloc_at, World.cell?_alloc_past, World.frozen?_alloc_at, World.frozen?_alloc_past]; done)
      | exact (by repeat (first | (with_reducible first | exact Below.refl _ _ | assumption | exact Nat.le_refl _ | refine Below.drew ?_ | refine Below.alloc ?_ ?_ _ | refine Below.setCell ?_ ?_ _ | refine le_alloc ?_ | refine le_set ?_ | refine le_drew ?_ | refine below_step (by assumption) ?_ ?_ | refine le_below (by assumption) ?_) | (dsimp only; omega))))
  · go_wp2_with fail
    go_ret
    refine ⟨w.heap.size + 1 + 1 + 1, w.heap.size + 1 + 1, w.heap.size, w.heap.size + 1, 2, 9, 2, rfl, ⟨0, 0, 0, raw_new ?_ ?_ ?_ ?_ ?_ ?_ ?_ ?_ ?_ ?_ ?_ ?_ ?_ ?_ ?_⟩, fun k o hk => ?_, ?_⟩
    all_goals (first
      | omega
      | (rcases hk with q | q | q | q <;> rw [q] <;> omega)
      | (simp only [sz_alloc, sz_drew]; done)
      | (simp only [sz_alloc, sz_drew]; omega)
      | (intro j; simp (disch := (first | rfl | omega | (simp only [sz_alloc, sz_drew, sz_set]; done) | (simp only [sz_alloc, sz_drew, sz_set]; omega))) only [sz_alloc, sz_drew, World.cell?_drew, World.frozen?_drew, World.cell?_alloc_at, World.cell?_alloc_past, World.frozen?_alloc_at, World.frozen?_alloc_past]; done)
      | exact (by repeat (first | (with_reducible first | exact Below.refl _ _ | assumption | exact Nat.le_refl _ | refine Below.drew ?_ | refine Below.alloc ?_ ?_ _ | refine Below.setCell ?_ ?_ _ | refine le_alloc ?_ | refine le_set ?_ | refine le_drew ?_ | refine below_step (by assumption) ?_ ?_ | refine le_below (by assumption) ?_) | (dsimp only; omega))))
  · go_wp2_with fail
    go_ret
    refine ⟨w.heap.size + 1 + 1 + 1, w.heap.size + 1, w.heap.size + 1 + 1, w.heap.size, 2, 9, 2, rfl, ⟨0, 0, 0, raw_new ?_ ?_ ?_ ?_ ?_ ?_ ?_ ?_ ?_ ?_ ?_ ?_ ?_ ?_ ?_⟩, fun k o hk => ?_, ?_⟩
    all_goals (first
      | omega
      | (rcases hk with q | q | q | q <;> rw [q] <;> omega)
      | (simp only [sz_alloc, sz_drew]; done)
      | (simp only [sz_alloc, sz_drew]; omega)
      | (intro j; simp (disch := (first | rfl | omega | (simp only [sz_alloc, sz_drew, sz_set]; done) | (simp only [sz_alloc, sz_drew, sz_set]; omega))) only [sz_alloc, sz_drew, World.cell?_drew, World.frozen?_drew, World.cell?_alloc_at, World.cell?_alloc_past, World.frozen?_alloc_at, World.frozen?_alloc_past]; done)
      | exact (by repeat (first | (with_reducible first | exact Below.refl _ _ | assumption | exact Nat.le_refl _ | refine Below.drew ?_ | refine Below.alloc ?_ ?_ _ | refine Below.setCell ?_ ?_ _ | refine le_alloc ?_ | refine le_set ?_ | refine le_drew ?_ | refine below_step (by assumption) ?_ ?_ | refine le_below (by assumption) ?_) | (dsimp only; omega))))
  · go_wp2_with fail
    go_ret
    refine ⟨w.heap.size + 1 + 1 + 1, w.heap.size + 1 + 1, w.heap.size + 1, w.heap.size, 2, 9, 2, rfl, ⟨0, 0, 0, raw_new ?_ ?_ ?_ ?_ ?_ ?_ ?_ ?_ ?_ ?_ ?_ ?_ ?_ ?_ ?_⟩, fun k o hk => ?_, ?_⟩
    all_goals (first
      | omega
      | (rcases hk with q | q | q | q <;> rw [q] <;> omega)
      | (simp only [sz_alloc, sz_drew]; done)
      | (simp only [sz_alloc, sz_drew]; omega)
      | (intro j; simp (disch := (first | rfl | omega | (simp only [sz_alloc, sz_drew, sz_set]; done) | (simp only [sz_alloc, sz_drew, sz_set]; omega))) only [sz_alloc, sz_drew, World.cell?_drew, World.frozen?_drew, World.cell?_alloc_at, World.cell?_alloc_past, World.frozen?_alloc_at, World.frozen?_alloc_past]; done)
      | exact (by repeat (first | (with_reducible first | exact Below.refl _ _ | assumption | exact Nat.le_refl _ | refine Below.drew ?_ | refine Below.alloc ?_ ?_ _ | refine Below.setCell ?_ ?_ _ | refine le_alloc ?_ | refine le_set ?_ | refine le_drew ?_ | refine below_step (by assumption) ?_ ?_ | refine le_below (by assumption) ?_) | (dsimp only; omega))))
end Go.Proofs.YthhlcchofilimaaGreatDoor.U.P
namespace Go.Proofs.YthhlcchofilimaaGreatDoor.U.P
set_option linter.unusedVariables false
set_option linter.unusedSimpArgs false
set_option maxRecDepth 20000
open Go.ChangeShapes Go.WideShapes Go.ChangeAt Go.RowKit Go.Sort
open M (Fp Dj Cw Up Th)
set_option maxRecDepth 20000
/-- The new block's cells. -/
structure Box (w : World) (o u v s : Nat) (x3 x4 x5 : Value) : Prop where
  lo : o < w.heap.size
  c0 : w.cell? ⟨o, 0, none⟩ = some (.int .u64 (u : Nat))
  c1 : w.cell? ⟨o, 1, none⟩ = some (.int .u64 (v : Nat))
  c2 : w.cell? ⟨o, 2, none⟩ = some (.int .u64 (s : Nat))
  c3 : w.cell? ⟨o, 3, none⟩ = some x3
  c4 : w.cell? ⟨o, 4, none⟩ = some x4
  c5 : w.cell? ⟨o, 5, none⟩ = some x5
  fo : ∀ j, w.frozen? ⟨o, j, none⟩ = false
theorem Box.below {w w' : World} {o u v s : Nat} {x3 x4 x5 : Value} (h : Box w o u v s x3 x4 x5) (hb : Below w.heap.size w w') : Box w' o u v s x3 x4 x5 := by
  have c := fun j => hb.cell (p := ⟨o, j, none⟩) h.lo
  exact ⟨Nat.lt_of_lt_of_le h.lo hb.size, (c 0).trans h.c0, (c 1).trans h.c1, (c 2).trans h.c2, (c 3).trans h.c3, (c 4).trans h.c4, (c 5).trans h.c5, fun j => (hb.frozen (p := ⟨o, j, none⟩) h.lo).trans (h.fo j)⟩
theorem Box.set {w : World} {o u v s : Nat} {x3 x4 x5 : Value} (h : Box w o u v s x3 x4 x5) (y : Value) :
    Box (w.setCell ⟨o, 3, none⟩ y) o u v s y x4 x5 ∧ Box (w.setCell ⟨o, 4, none⟩ y) o u v s x3 y x5 ∧ Box (w.setCell ⟨o, 5, none⟩ y) o u v s x3 x4 y := by
  have q : ∀ i j x, w.cell? ⟨o, i, none⟩ = some x → j ≠ i → (w.setCell ⟨o, j, none⟩ y).cell? ⟨o, i, none⟩ = some x := fun i j x hx hn => by rw [cell_far (.inr hn)]; exact hx
  have z : ∀ i x, w.cell? ⟨o, i, none⟩ = some x → (w.setCell ⟨o, i, none⟩ y).cell? ⟨o, i, none⟩ = some y := fun i x hx => World.cell?_setCell_same _ _ _ hx
  have f : ∀ i j, (w.setCell ⟨o, i, none⟩ y).frozen? ⟨o, j, none⟩ = false := fun i j => (World.frozen?_setCell _ _ _ _).trans (h.fo j)
  have l : ∀ i, o < (w.setCell ⟨o, i, none⟩ y).heap.size := fun i => by rw [sz_set]; exact h.lo
  exact ⟨⟨l 3, q 0 3 _ h.c0 (by decide), q 1 3 _ h.c1 (by decide), q 2 3 _ h.c2 (by decide), z 3 _ h.c3, q 4 3 _ h.c4 (by decide), q 5 3 _ h.c5 (by decide), f 3⟩,
    ⟨l 4, q 0 4 _ h.c0 (by decide), q 1 4 _ h.c1 (by decide), q 2 4 _ h.c2 (by decide), q 3 4 _ h.c3 (by decide), z 4 _ h.c4, q 5 4 _ h.c5 (by decide), f 4⟩,
    ⟨l 5, q 0 5 _ h.c0 (by decide), q 1 5 _ h.c1 (by decide), q 2 5 _ h.c2 (by decide), q 3 5 _ h.c3 (by decide), q 4 5 _ h.c4 (by decide), z 5 _ h.c5, f 5⟩⟩
end Go.Proofs.YthhlcchofilimaaGreatDoor.U.P
