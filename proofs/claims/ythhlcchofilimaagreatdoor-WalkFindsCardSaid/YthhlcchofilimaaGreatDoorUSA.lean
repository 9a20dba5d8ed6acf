/- Taken from other texts: what is needed of them. -/
import Derived.Test.YthhlcchofilimaaGreatDoorUA
import Derived.Test.YthhlcchofilimaaGreatDoorUB
import Derived.Test.YthhlcchofilimaaGreatDoorUC
import Derived.Test.YthhlcchofilimaaGreatDoorUD
import Derived.Test.YthhlcchofilimaaGreatDoorUE
import Derived.Test.YthhlcchofilimaaGreatDoorUG
import Derived.Test.YthhlcchofilimaaGreatDoorUH
import Derived.Test.YthhlcchofilimaaGreatDoorUI
import Derived.Test.YthhlcchofilimaaGreatDoorUJ
import Derived.Test.YthhlcchofilimaaGreatDoorUK
import Derived.Test.YthhlcchofilimaaGreatDoorUL
import Derived.Test.YthhlcchofilimaaGreatDoorUM
import Derived.Test.YthhlcchofilimaaGreatDoorUN
import Derived.Test.YthhlcchofilimaaGreatDoorUO
import Derived.Test.YthhlcchofilimaaGreatDoorUS
import Derived.Test.YthhlcchofilimaaGreatDoorURA
import Derived.Test.YthhlcchofilimaaGreatDoorUTZ
import Derived.StillTailTactics
namespace Go.Proofs.YthhlcchofilimaaGreatDoor.U
set_option linter.unusedVariables false
set_option linter.unusedSimpArgs false
set_option maxRecDepth 20000
open Go.ChangeShapes Go.WideShapes Go.ChangeAt Go.RowKit
open M (Fp Dj Cw Up Th Grp GrpAt jn exT)
set_option maxRecDepth 20000
/-- The document's plic. -/
def eZ (b : Nat) (S : P.St) : Th where
  P R W w := (∀ k j, W k j → R k j) ∧ (∀ k j, R k j → k < w.heap.size) ∧ ∃ e p t ce cp ct u v s, (∀ k j, P.own4 b e p t k j → W k j) ∧ P.IsRP w b e p t ce cp ct u v s S
  kept := fun ⟨h1, h2, e, p, t, ce, cp, ct, u, v, s, h3, h4⟩ hc hd => ⟨h1, fun k j q => Nat.lt_of_lt_of_le (h2 k j q) hc.size, e, p, t, ce, cp, ct, u, v, s, h3, { h4 with
    raw := h4.raw.same hc.size (fun k hk o => ⟨hc.cell k o (h2 k o (h1 k o (h3 k o hk))) (fun q => hd k o q (h1 _ _ (h3 k o hk))), hc.frozen k o (h2 k o (h1 k o (h3 k o hk))) (fun q => hd k o q (h1 _ _ (h3 k o hk)))⟩) }⟩
  wr h := h.1
  rlt h := h.2.1
theorem af_kept {R V : Fp} {N : Nat} {w w' : World} {b : Nat} {U : T.Ur} {K : List Nat} {r : Nat} {sa : Option Addr} {n c g o : Nat} {ta : Option Addr} {m d h p : Nat} (x : T.Af R N w b U K r sa n c g o ta m d h p) (hc : Cw V w w') (hd : Dj V R) : T.Af R N w' b U K r sa n c g o ta m d h p :=
  have nb : ∀ j, ¬ V b j := fun j q => hd b j q (x.rb j)
  have q := cw_block hc x.lt nb
  have sl : ∀ {a : Option Addr} {n c g o : Nat} {L : List Nat}, T.SlA w a n c g o L → (∀ i, i < c → ¬ V g (o + i)) → T.SlA w' a n c g o L := fun h hn =>
    ⟨h.len, h.le, fun h0 => ⟨(h.addr h0).1, Nat.lt_of_lt_of_le (h.addr h0).2 hc.size⟩,
      fun i hi => by rw [hc.cell _ _ (h.addr (by have := h.le; omega)).2 (hn i (by have := h.le; omega))]; exact h.cell i hi,
      fun i hi => ⟨by rw [hc.cell _ _ (h.addr (by omega)).2 (hn i hi)]; exact (h.there i hi).1, by rw [hc.frozen _ _ (h.addr (by omega)).2 (hn i hi)]; exact (h.there i hi).2⟩⟩
  { x with
    lt := Nat.lt_of_lt_of_le x.lt hc.size
    c0 := (q 0).1.trans x.c0, c1 := (q 1).1.trans x.c1, c2 := (q 2).1.trans x.c2, c3 := (q 3).1.trans x.c3, c4 := (q 4).1.trans x.c4, c5 := (q 5).1.trans x.c5
    fz := fun j hj => (q j).2.trans (x.fz j hj)
    q := sl x.q (fun i hi ht => hd _ _ ht (x.rq i hi))
    s := sl x.s (fun i hi ht => hd _ _ ht (x.rs i hi))
    rlt := fun k j h => Nat.lt_of_lt_of_le (x.rlt k j h) hc.size }
/-- The document's uart, into which no more than N bytes have come. -/
def eV (b N : Nat) (U : T.Ur) : Th where
  P R W w := R = W ∧ T.IsR W N w b U
  kept := fun ⟨e, K, r, sa, n, c, g, o, ta, m, d, h, p, x⟩ hc hd => by subst e; exact ⟨rfl, K, r, sa, n, c, g, o, ta, m, d, h, p, af_kept x hc hd⟩
  wr h := by rw [h.1]; exact fun _ _ h => h
  rlt h := by
    obtain ⟨e, K, r, sa, n, c, g, o, ta, m, d, h, p, x⟩ := h
    subst e
    exact x.rlt
/-- The document's clint holds its numbers in another order. -/
abbrev eK (b s a t : Nat) : Th := eC b s t a
section
variable {R W : Fp} {w : World} {b s a t v N : Nat} {S : P.St} {U : T.Ur} {r : Nat} {F : Nat → Nat}
end
end Go.Proofs.YthhlcchofilimaaGreatDoor.U
namespace Go.Proofs.YthhlcchofilimaaGreatDoor.U
set_option linter.unusedVariables false
set_option linter.unusedSimpArgs false
set_option maxRecDepth 20000
open Go.ChangeShapes Go.WideShapes Go.ChangeAt Go.RowKit Go.Sort
open M (Fp Dj Cw Up Th Grp GrpAt jn exT)
set_option maxRecDepth 20000
/-- The three devices, behind something and before something. -/
abbrev dz (A : Th) (c p u N : Nat) (D : Dv) (l : List Th) : List Th := A :: eK c D.s D.a D.t :: eZ p D.S :: eV u N D.U :: l
/-- The bus' own cells. -/
structure RCell (w : World) (r m c p u : Nat) (v : Value) (cyc : Int) (came : Nat) (one : Bool) : Prop where
  lt : r < w.heap.size
  c0 : w.cell? ⟨r, 0, none⟩ = some (.pointer (some ⟨m, 0, none⟩))
  c1 : w.cell? ⟨r, 1, none⟩ = some (.pointer (some ⟨c, 0, none⟩))
  c2 : w.cell? ⟨r, 2, none⟩ = some (.pointer (some ⟨p, 0, none⟩))
  c3 : w.cell? ⟨r, 3, none⟩ = some (.pointer (some ⟨u, 0, none⟩))
  c4 : w.cell? ⟨r, 4, none⟩ = some (.int .i64 cyc)
  c5 : w.cell? ⟨r, 5, none⟩ = some v
  c6 : w.cell? ⟨r, 6, none⟩ = some (.int .i64 (came : Nat))
  c7 : w.cell? ⟨r, 7, none⟩ = some (.bool one)
  fz : ∀ j, w.frozen? ⟨r, j, none⟩ = false
def eBR (r m c p u : Nat) (v : Value) (cyc : Int) (came : Nat) (one : Bool) : Th where
  P R W w := (∀ j, W r j) ∧ (∀ k j, W k j → R k j) ∧ (∀ k j, R k j → k < w.heap.size) ∧ RCell w r m c p u v cyc came one
  kept := fun ⟨h1, h2, h3, h4⟩ hc hd => by
    have q := fun j => cw_block hc h4.lt (fun j q => hd r j q (h2 _ _ (h1 j))) j
    exact ⟨h1, h2, fun k j q => Nat.lt_of_lt_of_le (h3 k j q) hc.size, Nat.lt_of_lt_of_le h4.lt hc.size, (q 0).1.trans h4.c0, (q 1).1.trans h4.c1, (q 2).1.trans h4.c2, (q 3).1.trans h4.c3, (q 4).1.trans h4.c4, (q 5).1.trans h4.c5, (q 6).1.trans h4.c6, (q 7).1.trans h4.c7, fun j => (q j).2.trans (h4.fz j)⟩
  wr h := h.2.1
  rlt h := h.2.2.1
theorem rcells {R0 W0 : Fp} {w0 w : World} {r m c p u : Nat} {v : Value} {cyc : Int} {came : Nat} {one : Bool} {l : List Th} (h : Grp R0 W0 w0 (eBR r m c p u v cyc came one :: l) w) : RCell w r m c p u v cyc came one := by
  obtain ⟨_, _, q⟩ := h.get 0 rfl
  exact q.2.2.2
end Go.Proofs.YthhlcchofilimaaGreatDoor.U
namespace Go.Proofs.YthhlcchofilimaaGreatDoor.U
set_option linter.unusedVariables false
set_option linter.unusedSimpArgs false
set_option maxRecDepth 20000
open Go.ChangeShapes Go.WideShapes Go.ChangeAt Go.RowKit Go.Sort
open M (Fp Dj Cw Up Th Grp GrpAt jn exT)
set_option maxRecDepth 20000
/-- What holds of it besides: the inputs, how many came, and the line of the first source. -/
structure RCo (L : List Ev) (came : Nat) (S : Bs) : Prop where
  ahead : L.drop came = S.ahead
  le : came ≤ L.length
  few : L.length ≤ 1024
  up : S.D.S.up 1 = (S.D.one || T.upF S.D.U)
  ok : ∀ e ∈ L, OkE e
abbrev rl (r m c p u : Nat) (v : Value) (L : List Ev) (came : Nat) (S : Bs) : List Th := dz (eBR r m c p u v S.cyc came S.D.one) c p u came S.D [M.eR m S.F, eEv v L]
/-- The document's bus. -/
def eRB (r : Nat) (S : Bs) : Th := exT fun q : { q : Nat × Nat × Nat × Nat × Value × List Ev × Nat // RCo q.2.2.2.2.2.1 q.2.2.2.2.2.2 S } => jn (rl r q.1.1 q.1.2.1 q.1.2.2.1 q.1.2.2.2.1 q.1.2.2.2.2.1 q.1.2.2.2.2.2.1 q.1.2.2.2.2.2.2 S)
theorem rb_open {R W : Fp} {w : World} {r : Nat} {S : Bs} (q : (eRB r S).P R W w) : ∃ m c p u v L came, RCo L came S ∧ Grp R W w (rl r m c p u v L came S) w ∧ (∀ k j, W k j → R k j) ∧ ∀ k j, R k j → k < w.heap.size := by
  obtain ⟨⟨⟨m, c, p, u, v, L, came⟩, hc⟩, q⟩ := q
  exact ⟨m, c, p, u, v, L, came, hc, M.jn_open q, q.2.1, q.2.2⟩
theorem rb_close {R W : Fp} {w w' : World} {r m c p u : Nat} {v : Value} {L : List Ev} {came : Nat} {S : Bs} (h : Grp R W w (rl r m c p u v L came S) w') (hc : RCo L came S) (h5 : ∀ k j, W k j → R k j) (h6 : ∀ k j, R k j → k < w.heap.size) : (eRB r S).P (Up R w w') (Up W w w') w' ∧ Cw W w w' := by
  obtain ⟨c1, c2⟩ := M.jn_close h h5 h6
  exact ⟨⟨⟨(m, c, p, u, v, L, came), hc⟩, c1⟩, c2⟩
theorem RCo.lt {L : List Ev} {came : Nat} {S : Bs} (h : RCo L came S) : came < 70368744177664 := by have := h.le; have := h.few; omega
section
variable {R W : Fp} {w : World} {r : Nat} {S : Bs}
theorem rplain_q (q : (eRB r S).P R W w) (x : Nat) (z : Int) (hx : x < W64) : Calls Tryz.prog 40 #[.pointer (some ⟨r, 0, none⟩), .int .u64 x, .int .i64 z] w (RetB (M.hasV x z) w) := by
  obtain ⟨m, c, p, u, sv, L, came, hc, g, h5, h6⟩ := rb_open q
  have c0 := (rcells g).c0
  have hh := Lib.hid (M.hasr_c (.pointer (some ⟨m, 0, none⟩)) x z (Lib.hid hx) w)
  clear g h5 h6 q hx hc
  generalize M.hasV x z = bb at *
  go_enter Tryz.func40, Tryz.ntmps40
  go_wp2_with fail
  refine hh.out.mono ?_; rintro e w1 ⟨rfl, hb1⟩
  go_wp2_with fail
  go_ret
  exact ⟨rfl, hb1⟩
end
end Go.Proofs.YthhlcchofilimaaGreatDoor.U
