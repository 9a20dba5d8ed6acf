/- Taken from other texts: what is needed of them. -/
import Derived.Test.YthhlcchofilimaaGreatDoorUA
import Derived.Test.YthhlcchofilimaaGreatDoorUB
import Derived.Test.YthhlcchofilimaaGreatDoorUC
import Derived.Test.YthhlcchofilimaaGreatDoorUD
import Derived.Test.YthhlcchofilimaaGreatDoorUE
import Derived.Test.YthhlcchofilimaaGreatDoorUG
import Derived.Test.YthhlcchofilimaaGreatDoorUI
import Derived.Test.YthhlcchofilimaaGreatDoorUJ
import Derived.Test.YthhlcchofilimaaGreatDoorUK
import Derived.Test.YthhlcchofilimaaGreatDoorUL
namespace Go.Proofs.YthhlcchofilimaaGreatDoor.U
set_option linter.unusedVariables false
set_option linter.unusedSimpArgs false
set_option maxRecDepth 20000
open Go.ChangeShapes Go.WideShapes Go.ChangeAt Go.RowKit
open M (Fp Dj Cw Up Th Grp GrpAt jn exT)
set_option maxRecDepth 20000
/-- The memory, of bytes. -/
def eMb (m : Nat) (F : Nat → Nat) : Th where
  P R W w := (M.eM m F).P R W w ∧ ∀ x, F x < 256
  kept := fun h hc hd => ⟨(M.eM m F).kept h.1 hc hd, h.2⟩
  wr h := (M.eM m F).wr h.1
  rlt h := (M.eM m F).rlt h.1
/-- The bus' own cells, but the devices'. -/
def eBc (b m : Nat) (v : Value) (cyc : Int) : Th where
  P R W w := (W b 0 ∧ W b 5 ∧ W b 6) ∧ (∀ k j, W k j → R k j) ∧ (∀ k j, R k j → k < w.heap.size) ∧ b < w.heap.size ∧
    w.cell? ⟨b, 0, none⟩ = some (.pointer (some ⟨m, 0, none⟩)) ∧ w.cell? ⟨b, 5, none⟩ = some v ∧ w.cell? ⟨b, 6, none⟩ = some (.int .i64 cyc) ∧
    w.frozen? ⟨b, 0, none⟩ = false ∧ w.frozen? ⟨b, 5, none⟩ = false ∧ w.frozen? ⟨b, 6, none⟩ = false
  kept := fun ⟨h1, h2, h3, h4, c0, c1, c2, f0, f1, f2⟩ hc hd => by
    have n0 := fun q => hd b 0 q (h2 _ _ h1.1)
    have n5 := fun q => hd b 5 q (h2 _ _ h1.2.1)
    have n6 := fun q => hd b 6 q (h2 _ _ h1.2.2)
    exact ⟨h1, h2, fun k j q => Nat.lt_of_lt_of_le (h3 k j q) hc.size, Nat.lt_of_lt_of_le h4 hc.size,
      (hc.cell b 0 h4 n0).trans c0, (hc.cell b 5 h4 n5).trans c1, (hc.cell b 6 h4 n6).trans c2, (hc.frozen b 0 h4 n0).trans f0, (hc.frozen b 5 h4 n5).trans f1, (hc.frozen b 6 h4 n6).trans f2⟩
  wr h := h.2.1
  rlt h := h.2.2.1
def evCells (e : Ev) : List Value := [.int .i64 e.cyc, .int .i64 e.kind, .int .i64 e.n, .int .u64 (e.v : Nat)]
def evsCells : List Ev → List Value
  | [] => []
  | e :: r => evCells e ++ evsCells r
/-- Inputs in memory. -/
structure IsE (w : World) (a : Option Addr) (n c g o : Nat) (L : List Ev) : Prop where
  len : L.length = n
  le : n ≤ c
  addr : 0 < n → a = some ⟨g, o, none⟩ ∧ g < w.heap.size
  cell : ∀ i, i < 4 * n → w.cell? ⟨g, o + i, none⟩ = (evsCells L)[i]?
theorem IsE.keptW {V : Fp} {w w' : World} {a : Option Addr} {n c g o : Nat} {L : List Ev} (h : IsE w a n c g o L) (hc : Cw V w w') (hn : ∀ i, i < 4 * n → ¬ V g (o + i)) : IsE w' a n c g o L :=
  ⟨h.len, h.le, fun h0 => ⟨(h.addr h0).1, Nat.lt_of_lt_of_le (h.addr h0).2 hc.size⟩, fun i hi => (hc.cell g (o + i) (h.addr (by omega)).2 (hn i hi)).trans (h.cell i hi)⟩
/-- Inputs that nobody writes. -/
def eEv (v : Value) (L : List Ev) : Th where
  P R W w := (∀ k j, ¬ W k j) ∧ (∀ k j, R k j → k < w.heap.size) ∧ ∃ a n c g o, v = .slice a n c ∧ IsE w a n c g o L ∧ ∀ i, i < 4 * n → R g (o + i)
  kept := fun ⟨h1, h2, a, n, c, g, o, h3, h4, h5⟩ hc hd => ⟨h1, fun k j q => Nat.lt_of_lt_of_le (h2 k j q) hc.size, a, n, c, g, o, h3, h4.keptW hc (fun i hi q => hd _ _ q (h5 i hi)), h5⟩
  wr h := fun k j q => (h.1 k j q).elim
  rlt h := h.2.1
/-- What a bus is. -/
structure Bs where
  F : Nat → Nat
  D : Dv
  ahead : List Ev
  cyc : Int
abbrev bl (b m c p u : Nat) (v : Value) (S : Bs) : List Th := [eBc b m v S.cyc, eDs b 1 c p u S.D, eMb m S.F, eEv v S.ahead]
def eBus (b : Nat) (S : Bs) : Th := exT fun q : Nat × Nat × Nat × Nat × Value => jn (bl b q.1 q.2.1 q.2.2.1 q.2.2.2.1 q.2.2.2.2 S)
/-- The calls upon the devices, of the whole. -/
theorem upon_dl {R W : Fp} {w : World} {b o c p u : Nat} {D D' : Dv} {f : FuncId} {args : Array Value} {v : Value} (q : (eDs b o c p u D).P R W w) (h : Hid (Grp R W w (dl b o c p u D) w) → Calls Tryz.prog f args w (fun e w' => e = .returned v ∧ Grp R W w (dl b o c p u D') w')) : Calls Tryz.prog f args w (Upon v (eDs b o c p u D') R W w) := by
  refine (h (M.jn_open q)).mono ?_
  rintro e w' ⟨rfl, g⟩
  exact ⟨rfl, M.jn_close g q.2.1 q.2.2⟩
section
variable {R W : Fp} {w : World} {b o c p u : Nat} {D : Dv}
theorem readD (q : (eDs b o c p u D).P R W w) (x : Nat) (z : Int) (hx : x < W64) (hz : (Lit.int .i64 z).wf = true) : Calls Tryz.prog 74 #[.pointer (some ⟨b, o, none⟩), .int .u64 x, .int .i64 z] w (Upon (.tuple #[.int .u64 (D.val x z : Nat), .bool (okD x z)]) (eDs b o c p u (D.rd x z).fol) R W w) :=
  upon_dl q (fun h => dread_g b o c p u D R W w w h x z (Lib.hid hx) (Lib.hid hz))
theorem haveD (q : (eDs b o c p u D).P R W w) (x : Nat) (z : Int) (hx : x < W64) (hz : (Lit.int .i64 z).wf = true) : Calls Tryz.prog 70 #[.pointer (some ⟨b, o, none⟩), .int .u64 x, .int .i64 z] w (RetB (okD x z) w) :=
  (have_r b o c p u D R (fun _ _ => False) w w (Lib.hid (grp_ro (M.jn_open q) rfl)) x z (Lib.hid hx) (Lib.hid hz)).mono fun e w' h => ⟨h.1, h.2.out.nothing (fun _ _ q => q.elim)⟩
/-- The four cells that a bus' devices are found by. -/
theorem cellsD (q : (eDs b o c p u D).P R W w) : b < w.heap.size ∧ w.cell? ⟨b, o, none⟩ = some (.pointer (some ⟨c, 0, none⟩)) ∧ w.cell? ⟨b, o + 1, none⟩ = some (.pointer (some ⟨p, 0, none⟩)) ∧ w.cell? ⟨b, o + 2, none⟩ = some (.pointer (some ⟨u, 0, none⟩)) ∧ w.cell? ⟨b, o + 3, none⟩ = some (.bool D.one) := by
  obtain ⟨R1, W1, -, -, -, h4, c0, c1, c2, c3, -⟩ := dl_cells (M.jn_open q)
  exact ⟨h4, c0, c1, c2, c3⟩
end
theorem bus_open {R W : Fp} {w : World} {b : Nat} {S : Bs} (q : (eBus b S).P R W w) : ∃ m c p u v, Grp R W w (bl b m c p u v S) w ∧ (∀ k j, W k j → R k j) ∧ ∀ k j, R k j → k < w.heap.size := by
  obtain ⟨⟨m, c, p, u, v⟩, q⟩ := q
  exact ⟨m, c, p, u, v, M.jn_open q, q.2.1, q.2.2⟩
theorem bus_close {R W : Fp} {w w' : World} {b m c p u : Nat} {v : Value} {S : Bs} (h : Grp R W w (bl b m c p u v S) w') (h5 : ∀ k j, W k j → R k j) (h6 : ∀ k j, R k j → k < w.heap.size) : (eBus b S).P (Up R w w') (Up W w w') w' ∧ Cw W w w' := by
  obtain ⟨c1, c2⟩ := M.jn_close h h5 h6
  exact ⟨⟨(m, c, p, u, v), c1⟩, c2⟩
/-- The cells that a bus is found by. -/
structure BCell (w : World) (b m c p u : Nat) (v : Value) (one : Bool) (cyc : Int) : Prop where
  lt : b < w.heap.size
  c0 : w.cell? ⟨b, 0, none⟩ = some (.pointer (some ⟨m, 0, none⟩))
  c1 : w.cell? ⟨b, 1, none⟩ = some (.pointer (some ⟨c, 0, none⟩))
  c2 : w.cell? ⟨b, 2, none⟩ = some (.pointer (some ⟨p, 0, none⟩))
  c3 : w.cell? ⟨b, 3, none⟩ = some (.pointer (some ⟨u, 0, none⟩))
  c4 : w.cell? ⟨b, 4, none⟩ = some (.bool one)
  c5 : w.cell? ⟨b, 5, none⟩ = some v
  c6 : w.cell? ⟨b, 6, none⟩ = some (.int .i64 cyc)
  f5 : w.frozen? ⟨b, 5, none⟩ = false
  f6 : w.frozen? ⟨b, 6, none⟩ = false
theorem bus_cells {R0 W0 : Fp} {w0 w : World} {b m c p u : Nat} {v : Value} {S : Bs} (h : Grp R0 W0 w0 (bl b m c p u v S) w) : BCell w b m c p u v S.D.one S.cyc := by
  obtain ⟨_, _, -, -, -, h4, c0, c5, c6, -, f5, f6⟩ := h.get 0 rfl
  obtain ⟨_, _, q⟩ := h.get 1 rfl
  obtain ⟨-, c1, c2, c3, c4⟩ := cellsD q
  exact ⟨h4, c0, c1, c2, c3, c4, c5, c6, f5, f6⟩
/-- A call that only reads. -/
theorem upon_read {R W : Fp} {w : World} {b : Nat} {S : Bs} {f : FuncId} {args : Array Value} {v : Value} (q : (eBus b S).P R W w) (h : Calls Tryz.prog f args w (fun e w' => e = .returned v ∧ Below w.heap.size w w')) : Calls Tryz.prog f args w (Upon v (eBus b S) R W w) := by
  obtain ⟨m, c, p, u, sv, g, h5, h6⟩ := bus_open q
  refine h.mono ?_
  rintro e w' ⟨rfl, hb⟩
  exact ⟨rfl, bus_close (g.below hb) h5 h6⟩
section
variable {R W : Fp} {w : World} {b : Nat} {S : Bs}
theorem plain_q (q : (eBus b S).P R W w) (x : Nat) (z : Int) (hx : x < W64) : Calls Tryz.prog 59 #[.pointer (some ⟨b, 0, none⟩), .int .u64 x, .int .i64 z] w (RetB (M.hasV x z) w) := by
  obtain ⟨m, c, p, u, sv, g, h5, h6⟩ := bus_open q
  obtain ⟨h4, c0, c1, c2, c3, c4, c5, c6, f5, f6⟩ := bus_cells g
  have hc := Lib.hid (M.has_c (.pointer (some ⟨m, 0, none⟩)) x (Lib.hid hx) z w)
  clear g h5 h6 q hx
  generalize M.hasV x z = bb at *
  go_enter Tryz.func59, Tryz.ntmps59
  go_wp2_with fail
  refine hc.out.mono ?_; rintro e w1 ⟨rfl, hb1⟩
  go_wp2_with fail
  go_ret
  exact ⟨rfl, hb1⟩
end
end Go.Proofs.YthhlcchofilimaaGreatDoor.U
