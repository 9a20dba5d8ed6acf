/- Taken from other texts: what is needed of them. -/
import Derived.Test.YthhlcchofilimaaGreatDoorYA
import Derived.Test.YthhlcchofilimaaGreatDoorYB
import Derived.Test.YthhlcchofilimaaGreatDoorYC
import Derived.Laws.BytesArg
import Derived.Deep.SlicePairs
import Derived.Deep.LoopGhost
import Derived.Deep.RegionWith
import Derived.Deep.Cut
import Derived.Deep.CutRange
import Derived.Deep.DeepCutAuto
import Derived.Deep.CutBlock
import Derived.Deep.RegionHeld
namespace Go.Proofs.YthhlcchofilimaaGreatDoor.Y
set_option linter.unusedVariables false
set_option linter.unusedSimpArgs false
set_option maxRecDepth 20000
open Go.ChangeShapes Go.WideShapes Go.ChangeAt Go.RowKit Go.Sort
/-- The writes in memory. -/
def Lays (w : World) (p : Option Addr) (b o N : Nat) (K : Nat → Int) (V : Nat → Nat) : Prop := (0 < N → p = some ⟨b, o, none⟩ ∧ b < w.heap.size) ∧ (∀ i, i < N → w.cell? ⟨b, o + i * 2, none⟩ = some (.int .i64 (K i)) ∧ w.cell? ⟨b, o + i * 2 + 1, none⟩ = some (.int .u64 (V i : Nat)) ∧ V i < 18446744073709551616) ∧ N ≤ 9223372036854775807
theorem Lays.below {W w : World} {p : Option Addr} {b o n : Nat} {K : Nat → Int} {V : Nat → Nat} (h : Lays W p b o n K V) (hb : Below W.heap.size W w) : Lays w p b o n K V := by
  obtain ⟨h1, h2, h3⟩ := h
  exact ⟨fun hn => ⟨(h1 hn).1, Nat.lt_of_lt_of_le (h1 hn).2 hb.size⟩, fun i hi => by
    have hn : 0 < n := by omega
    rw [hb.cell (p := ⟨b, o + i * 2, none⟩) (h1 hn).2, hb.cell (p := ⟨b, o + i * 2 + 1, none⟩) (h1 hn).2]; exact h2 i hi, h3⟩
end Go.Proofs.YthhlcchofilimaaGreatDoor.Y
namespace Go.Proofs.YthhlcchofilimaaGreatDoor.Y
set_option linter.unusedVariables false
set_option linter.unusedSimpArgs false
set_option maxRecDepth 20000
open Go.ChangeShapes Go.WideShapes Go.ChangeAt Go.RowKit Go.Sort
/-- A row is stored; of the world behind, what is to be kept. -/
theorem wpList_store_rowP {P : Program} {ops : Array Oper} {rest : List Oper} {o : Oper} {a : Act} {w : World} {Q : Exit → Act → World → Prop} (p : World → Prop) (hgd : o.guard = none) (ty : TypeId) (x y : Operand) (ho : o.op = .store ty x y)
    (g : Nat) (cells : Array Value) (hx : a.eval x = .pointer (some ⟨g, 0, none⟩)) (hy : a.eval y = .agg cells)
    (t : TypeId) (old : Array Value) (hg : w.heap[g]? = some (.cells old t (0, 0))) (hi : (P.info? ty).map (·.size) = some cells.size)
    (hold : old.size = cells.size) (h1 : cells.all (·.oneCell') = true) (hp : p (w.setRow g cells))
    (h : ∀ w', p w' → wpList P ops Q rest (a.put o.dst undef) w') : wpList P ops Q (o :: rest) a w := wpList_store_row hgd ty x y ho g cells hx hy t old hg hi hold h1 (h _ hp)
/-- What is known behind 'c := held(l)'. -/
def Had (w : World) (cb : Nat) (S : Nat → Nat) (wx : World) : Prop := Row wx cb 27 (cs S) ∧ Below w.heap.size w wx ∧ w.heap.size ≤ cb ∧ cb < wx.heap.size
theorem Had.below {w : World} {cb : Nat} {S : Nat → Nat} {w1 w2 : World} (h : Had w cb S w1) (hb : Below w1.heap.size w1 w2) : Had w cb S w2 := by
  obtain ⟨h1, h2, h3, h4⟩ := h
  exact ⟨h1.below hb h4, below_step hb h2 h2.size, h3, Nat.lt_of_lt_of_le h4 hb.size⟩
theorem Had.u {w : World} {cb : Nat} {S : Nat → Nat} {wx : World} (h : Had w cb S wx) (k : Nat) (hk : isU k) : wx.cell? ⟨cb, k, none⟩ = some (.int .u64 (S k : Nat)) := by rw [h.1.cell k]; exact cs_u S k hk
end Go.Proofs.YthhlcchofilimaaGreatDoor.Y
namespace Go.Proofs.YthhlcchofilimaaGreatDoor.Y
set_option linter.unusedVariables false
set_option linter.unusedSimpArgs false
set_option maxRecDepth 20000
open Go.ChangeShapes Go.WideShapes Go.ChangeAt Go.RowKit Go.Sort
/-- The variables that stand: their blocks, what they hold. -/
def Gs (w : World) (L : List (Nat × (Nat → Nat))) (wx : World) : Prop := Below w.heap.size w wx ∧ ∀ p ∈ L, w.heap.size ≤ p.1 ∧ p.1 < wx.heap.size ∧ Row wx p.1 27 (cs p.2)
theorem Gs.below {w : World} {L : List (Nat × (Nat → Nat))} {w1 w2 : World} (h : Gs w L w1) (hb : Below w1.heap.size w1 w2) : Gs w L w2 :=
  ⟨below_step hb h.1 h.1.size, fun p hp => ⟨(h.2 p hp).1, Nat.lt_of_lt_of_le (h.2 p hp).2.1 hb.size, (h.2 p hp).2.2.below hb (h.2 p hp).2.1⟩⟩
theorem Gs.drew {w : World} {L : List (Nat × (Nat → Nat))} {w1 : World} (h : Gs w L w1) : Gs w L w1.drew := h.below (Below.drew (Below.refl _ _))
theorem Gs.tail {w : World} {p : Nat × (Nat → Nat)} {L : List (Nat × (Nat → Nat))} {w1 : World} (h : Gs w (p :: L) w1) : Gs w L w1 := ⟨h.1, fun q hq => h.2 q (List.mem_cons_of_mem _ hq)⟩
theorem Gs.alloc {w : World} {L : List (Nat × (Nat → Nat))} {w1 : World} (h : Gs w L w1) : Gs w ((w1.heap.size, Z38) :: L) (w1.alloc (Obj.cells (cs Z38) 27)) := by
  have h2 := h.below ((Below.refl w1.heap.size w1).alloc (Nat.le_refl _) (Obj.cells (cs Z38) 27))
  refine ⟨h2.1, fun p hp => ?_⟩
  rcases List.mem_cons.1 hp with rfl | hp
  · exact ⟨h.1.size, by rw [sz_alloc]; exact Nat.lt_succ_self _, row_new _ _ _⟩
  · exact h2.2 p hp
theorem Gs.set {w : World} {L : List (Nat × (Nat → Nat))} {db : Nat} {S0 T : Nat → Nat} {w1 : World} (h : Gs w ((db, S0) :: L) w1) (hl : ∀ p ∈ L, p.1 < db) : Gs w ((db, T) :: L) (w1.setRow db (cs T)) := by
  have h0 := h.2 (db, S0) (List.mem_cons_self ..)
  refine ⟨below_setRow h.1 h0.1 _, fun p hp => ?_⟩
  rcases List.mem_cons.1 hp with rfl | hp
  · exact ⟨h0.1, by rw [sz_setRow]; exact h0.2.1, h0.2.2.setRow _⟩
  · have hq := h.2 p (List.mem_cons_of_mem _ hp)
    exact ⟨hq.1, by rw [sz_setRow]; exact hq.2.1, hq.2.2.setRow_ne (by have := hl p hp; omega) _⟩
theorem Gs.row {w : World} {L : List (Nat × (Nat → Nat))} {wx : World} (h : Gs w L wx) (b : Nat) (S : Nat → Nat) (hm : (b, S) ∈ L) : Row wx b 27 (cs S) := (h.2 (b, S) hm).2.2
theorem Gs.u {w : World} {L : List (Nat × (Nat → Nat))} {wx : World} (h : Gs w L wx) (b : Nat) (S : Nat → Nat) (hm : (b, S) ∈ L) (k : Nat) (hk : isU k) : wx.cell? ⟨b, k, none⟩ = some (.int .u64 (S k : Nat)) := by rw [(h.row b S hm).cell k]; exact cs_u S k hk
theorem on_to {S : World → Prop} {G K : Act → World → Prop} (hK : Shut (∀ a w, S w → (S w → G a w) → K a w)) (p : World → Prop) (a : Act) (W : World) (hp : p W) (hS : ∀ w, p w → S w) (h : ∀ w, p w → G a w) : K a W := hK.out a W (hS W hp) (fun _ => h W hp)
end Go.Proofs.YthhlcchofilimaaGreatDoor.Y
