/- Taken from other texts: what is needed of them. -/
import Derived.Test.YthhlcchofilimaaGreatDoorUA
import Derived.Test.YthhlcchofilimaaGreatDoorUB
import Derived.Test.YthhlcchofilimaaGreatDoorUC
import Derived.Test.YthhlcchofilimaaGreatDoorUD
import Derived.Test.YthhlcchofilimaaGreatDoorUE
import Derived.Test.YthhlcchofilimaaGreatDoorProg
import Derived.WalkKit
import Derived.Deep.QuietTactic
import Derived.BigQuiet
import Derived.ProofKit
import Derived.OpenShut
import Derived.WalkLawsBesides
import Derived.WalkSpells
import Derived.RegionTactic
import Derived.ChangeAlike
import Derived.Outline
import Derived.Laws.Externs
import Derived.Lib.Hide
import Derived.Deep.AppendSrc
import Derived.Laws.BytesArg
import Derived.Deep.Upon
namespace Go.Proofs.YthhlcchofilimaaGreatDoor.U.T
set_option linter.unusedVariables false
set_option linter.unusedSimpArgs false
set_option maxRecDepth 20000
set_option maxRecDepth 20000
/-- What a uart holds: the queue, whether a byte was lost, the setting, what was written to the last register, what went out. -/
structure Ur where
  q : List Nat
  lost : Bool
  want : Nat
  scr : Nat
  sent : List Nat
def U0 : Ur := ⟨[], false, 0, 0, []⟩
def b2n (b : Bool) : Nat := bif b then 1 else 0
def upF (U : Ur) : Bool := U.want == 1 && decide (0 < U.q.length)
/-- Which register: 0: none; else its place and 1. -/
def kd (a : Nat) (z : Int) : Nat := if z = 1 ∧ a < 8 then a + 1 else 0
def stF (U : Ur) : Nat := 96 + b2n (decide (0 < U.q.length)) + 2 * b2n U.lost
def valK (k : Nat) (U : Ur) : Nat := if k = 1 then U.q.headD 0 else if k = 2 then U.want else if k = 3 then (bif upF U then 4 else 1) else if k = 6 then stF U else if k = 8 then U.scr else 0
def nextK (k : Nat) (U : Ur) : Ur := if k = 1 then { U with q := U.q.tail } else if k = 6 then { U with lost := false } else U
def wrK (k : Nat) (U : Ur) (v : Nat) : Ur := if k = 1 then { U with sent := U.sent ++ [v % 256] } else if k = 2 then { U with want := v % 2 } else if k = 8 then { U with scr := v % 256 } else U
def okK (k : Nat) : Bool := k != 0
structure OkU (U : Ur) : Prop where
  q : ∀ x ∈ U.q, x < 256
  len : U.q.length ≤ 16
  want : U.want < 2
  scr : U.scr < 256
theorem okU0 : OkU U0 := ⟨fun _ h => (List.not_mem_nil h).elim, (by decide : (0:Nat) ≤ 16), (by decide : (0:Nat) < 2), (by decide : (0:Nat) < 256)⟩
theorem OkU.tail {U : Ur} (h : OkU U) : OkU { U with q := U.q.tail } :=
  ⟨fun y hy => h.q y (List.mem_of_mem_tail hy), by have := h.len; show U.q.tail.length ≤ 16; rw [List.length_tail]; omega, h.want, h.scr⟩
theorem OkU.wr {U : Ur} (h : OkU U) (k v : Nat) : OkU (wrK k U v) := by
  unfold wrK
  split
  · exact ⟨h.q, h.len, h.want, h.scr⟩
  · split
    · exact ⟨h.q, h.len, Nat.mod_lt _ (by decide), h.scr⟩
    · split
      · exact ⟨h.q, h.len, h.want, Nat.mod_lt _ (by decide)⟩
      · exact h
theorem head_lt {U : Ur} (h : OkU U) : U.q.headD 0 < 256 := by
  cases hq : U.q with
  | nil => decide
  | cons x l => exact h.q x (by rw [hq]; exact List.mem_cons_self)
end Go.Proofs.YthhlcchofilimaaGreatDoor.U.T
namespace Go.Proofs.YthhlcchofilimaaGreatDoor.U.T
set_option linter.unusedVariables false
set_option linter.unusedSimpArgs false
set_option maxRecDepth 20000
set_option maxRecDepth 20000
open Go.ChangeShapes Go.WideShapes Go.ChangeAt Go.RowKit
theorem le_below {n B : Nat} {w w' : World} (hb : Below B w w') (h : n ≤ w.heap.size) : n ≤ w'.heap.size := Nat.le_trans h hb.size
theorem below_step {B B' : Nat} {w w1 w2 : World} (hb : Below B' w1 w2) (h : Below B w w1) (hB : B ≤ B') : Below B w w2 := h.trans (hb.mono hB)
theorem below_drewN {B : Nat} {w w' : World} (h : Below B w w') (n : Nat) : Below B w (w'.drewN n) := ⟨h.os, h.tape, h.output, h.size, h.block⟩
theorem le_drew {n : Nat} {w : World} (h : n ≤ w.heap.size) : n ≤ w.drew.heap.size := h
theorem le_drewN {n k : Nat} {w : World} (h : n ≤ w.heap.size) : n ≤ (w.drewN k).heap.size := h
theorem sz_drewN (w : World) (k : Nat) : (w.drewN k).heap.size = w.heap.size := rfl
theorem sz_drew (w : World) : w.drew.heap.size = w.heap.size := rfl
theorem sz_alloc (w : World) (o : Obj) : (w.alloc o).heap.size = w.heap.size + 1 := by simp
theorem sz_set (w : World) (p : Addr) (u : Value) : (w.setCell p u).heap.size = w.heap.size := by simp [World.setCell]
def RetB (b : Bool) (W : World) (e : Ending) (w' : World) : Prop := e = .returned (.bool b) ∧ Below W.heap.size W w'
/-- Of what was there only the cells of T may have changed. -/
structure Ch (T : Nat → Nat → Prop) (w w' : World) : Prop where
  os : w'.os = w.os
  tape : w'.tape = w.tape
  output : w'.output = w.output
  size : w.heap.size ≤ w'.heap.size
  block : ∀ k, k < w.heap.size → (∀ o, ¬ T k o) → w'.heap[k]? = w.heap[k]?
  cell : ∀ k o, k < w.heap.size → ¬ T k o → w'.cell? ⟨k, o, none⟩ = w.cell? ⟨k, o, none⟩
  frozen : ∀ k o, k < w.heap.size → w'.frozen? ⟨k, o, none⟩ = w.frozen? ⟨k, o, none⟩
  there : ∀ k o, k < w.heap.size → (w.cell? ⟨k, o, none⟩).isSome = true → (w'.cell? ⟨k, o, none⟩).isSome = true
variable {T T2 R : Nat → Nat → Prop} {w w' : World}
theorem Ch.refl (T : Nat → Nat → Prop) (w : World) : Ch T w w := ⟨rfl, rfl, rfl, Nat.le_refl _, fun _ _ _ => rfl, fun _ _ _ _ => rfl, fun _ _ _ => rfl, fun _ _ _ h => h⟩
theorem Ch.trans {a b c : World} (h : Ch T a b) (k : Ch T2 b c) (hT : ∀ i j, T2 i j → T i j ∨ a.heap.size ≤ i) : Ch T a c := by
  have no : ∀ i j, i < a.heap.size → ¬ T i j → ¬ T2 i j := fun i j hi hn h2 => by
    rcases hT i j h2 with h3 | h3
    · exact hn h3
    · omega
  have lt : ∀ i, i < a.heap.size → i < b.heap.size := fun i hi => Nat.lt_of_lt_of_le hi h.size
  exact ⟨k.os.trans h.os, k.tape.trans h.tape, k.output.trans h.output, Nat.le_trans h.size k.size,
    fun i hi hn => (k.block i (lt i hi) (fun o => no i o hi (hn o))).trans (h.block i hi hn),
    fun i o hi hn => (k.cell i o (lt i hi) (no i o hi hn)).trans (h.cell i o hi hn),
    fun i o hi => (k.frozen i o (lt i hi)).trans (h.frozen i o hi),
    fun i o hi hs => k.there i o (lt i hi) (h.there i o hi hs)⟩
theorem Ch.mono (h : Ch T w w') (hT : ∀ i j, T i j → T2 i j) : Ch T2 w w' :=
  ⟨h.os, h.tape, h.output, h.size, fun k hk hn => h.block k hk (fun o ht => hn o (hT _ _ ht)), fun k o hk hn => h.cell k o hk (fun ht => hn (hT _ _ ht)), h.frozen, h.there⟩
theorem Ch.of_below (T : Nat → Nat → Prop) (h : Below w.heap.size w w') : Ch T w w' :=
  ⟨h.os, h.tape, h.output, h.size, fun k hk _ => h.block k hk, fun k o hk _ => World.cell?_of_block (w := w) (a := ⟨k, o, none⟩) (h.block k hk), fun k o hk => World.frozen?_of_block (w := w) (a := ⟨k, o, none⟩) (h.block k hk),
    fun k o hk hs => by rw [World.cell?_of_block (w := w) (a := ⟨k, o, none⟩) (h.block k hk)]; exact hs⟩
theorem Ch.below {B : Nat} {w0 : World} (h : Ch T w w') (hT : ∀ i j, T i j → B ≤ i) (h0 : Below B w0 w) (hB : B ≤ w.heap.size) : Below B w0 w' :=
  h0.trans ⟨h.os, h.tape, h.output, h.size, fun k hk => h.block k (Nat.lt_of_lt_of_le hk hB) (fun o ht => by have := hT k o ht; omega)⟩
theorem Ch.set (T : Nat → Nat → Prop) (w : World) (b o : Nat) (v : Value) (hT : T b o) (hs : (w.cell? ⟨b, o, none⟩).isSome = true) : Ch T w (w.setCell ⟨b, o, none⟩ v) := by
  refine ⟨rfl, rfl, rfl, by rw [sz_set]; exact Nat.le_refl _, fun k hk hn => ?_, fun k p hk hn => ?_, fun k p hk => World.frozen?_setCell _ _ _ _, fun k p hk h => ?_⟩
  · exact Below.heap_setCell w ⟨b, o, none⟩ v k (fun e => hn o (by rw [show k = b from e]; exact hT))
  · exact World.cell?_setCell_other _ _ _ _ (fun e => by injection e with e1 e2; subst e1 e2; exact hn hT)
  · by_cases e : (⟨b, o, none⟩ : Addr) = ⟨k, p, none⟩
    · rw [← e]
      obtain ⟨u, hu⟩ := Option.isSome_iff_exists.1 hs
      rw [World.cell?_setCell_same _ _ _ hu]; rfl
    · rw [World.cell?_setCell_other _ _ _ _ e]; exact h
/-- A slice of bytes in memory. -/
structure SlA (w : World) (a : Option Addr) (n c g o : Nat) (L : List Nat) : Prop where
  len : L.length = n
  le : n ≤ c
  addr : 0 < c → a = some ⟨g, o, none⟩ ∧ g < w.heap.size
  cell : ∀ i, i < n → w.cell? ⟨g, o + i, none⟩ = some (.int .u8 (L.getD i 0 : Nat))
  there : ∀ i, i < c → (w.cell? ⟨g, o + i, none⟩).isSome = true ∧ w.frozen? ⟨g, o + i, none⟩ = false
variable {a : Option Addr} {n c g o : Nat} {L : List Nat}
theorem SlA.kept (h : SlA w a n c g o L) (hc : Ch T w w') (hn : ∀ i, i < n → ¬ T g (o + i)) : SlA w' a n c g o L :=
  ⟨h.len, h.le, fun h0 => ⟨(h.addr h0).1, Nat.lt_of_lt_of_le (h.addr h0).2 hc.size⟩,
    fun i hi => by rw [hc.cell g (o + i) (h.addr (by have := h.le; omega)).2 (hn i hi)]; exact h.cell i hi,
    fun i hi => ⟨hc.there g (o + i) (h.addr (by omega)).2 (h.there i hi).1, by rw [hc.frozen g (o + i) (h.addr (by omega)).2]; exact (h.there i hi).2⟩⟩
theorem SlA.below (h : SlA w a n c g o L) (hb : Below w.heap.size w w') : SlA w' a n c g o L := h.kept (Ch.of_below (fun _ _ => False) hb) (fun _ _ h => h)
theorem slA_nil (w : World) (a : Option Addr) (g o : Nat) : SlA w a 0 0 g o [] := ⟨rfl, Nat.le_refl _, fun h => absurd h (Nat.lt_irrefl _), fun i h => absurd h (Nat.not_lt_zero i), fun i h => absurd h (Nat.not_lt_zero i)⟩
/-- The front cut off. -/
theorem SlA.cut (h : SlA w a (n + 1) c g o L) : SlA w (if c = 1 then a else a.map (·.add 1)) n (c - 1) g (o + 1) L.tail := by
  have hle := h.le
  refine ⟨by rw [List.length_tail, h.len]; rfl, by omega, fun h0 => ?_, fun i hi => ?_, fun i hi => ?_⟩
  · rw [if_neg (by omega)]
    obtain ⟨h1, h2⟩ := h.addr (by omega)
    exact ⟨by rw [h1]; rfl, h2⟩
  · have := h.cell (i + 1) (by omega)
    rw [show o + 1 + i = o + (i + 1) by omega, this]
    cases hL : L with
    | nil => have := h.len; rw [hL] at this; simp at this
    | cons x l => simp
  · have := h.there (i + 1) (by omega)
    rw [show o + 1 + i = o + (i + 1) by omega]; exact this
/-- No room behind it. -/
theorem SlA.full (h : SlA w a n c g o L) : SlA w (if n = 0 then a else a.map (·.add 0)) n n g o L := by
  refine ⟨h.len, Nat.le_refl _, fun h0 => ?_, h.cell, fun i hi => h.there i (by have := h.le; omega)⟩
  rw [if_neg (by omega)]
  obtain ⟨h1, h2⟩ := h.addr (by have := h.le; omega)
  exact ⟨by rw [h1]; rfl, h2⟩
/-- Where an append may write. -/
def Spare (g o n c : Nat) : Nat → Nat → Prop := fun k j => k = g ∧ ∃ i, n ≤ i ∧ i < c ∧ j = o + i
/-- Where the slice lies behind an append. -/
def Mv (w : World) (g o c g' o' c' : Nat) : Prop := (g' = g ∧ o' = o ∧ c' = c) ∨ w.heap.size ≤ g'
def cells8 (L : List Nat) : List Value := L.map fun (n : Nat) => Value.int .u8 (n : Int)
theorem cells8_get (L : List Nat) (i : Nat) (hi : i < L.length) : (cells8 L)[i]? = some (.int .u8 (L.getD i 0 : Nat)) := by
  simp [cells8, hi]
theorem SlA.first (h : SlA w a n c g o L) : (Builtin.firstCells 1 n (.slice a n c)).run Tryz.prog w = .ok (cells8 L).toArray w := by
  by_cases hn : n = 0
  · subst hn
    have : L = [] := List.length_eq_zero_iff.1 h.len
    subst this
    cases a with
    | none => exact run_firstCells_none w 1 0 0 c
    | some ad => exact run_firstCells_some w 1 0 ad 0 c [] rfl (fun j v hj => by cases hj)
  · obtain ⟨h1, h2⟩ := h.addr (by have := h.le; omega)
    rw [h1]
    refine run_firstCells_some w 1 n _ n c (cells8 L) (by simp [cells8, h.len]) (fun j v hj => ?_)
    have hj2 : j < L.length := by
      have := (List.getElem?_eq_some_iff.1 hj).1
      simpa [cells8] using this
    rw [cells8_get L j hj2] at hj
    have := h.cell j (by have := h.len; omega)
    rw [Go.WideShapes.add_plain, this]; exact hj
end Go.Proofs.YthhlcchofilimaaGreatDoor.U.T
namespace Go.Proofs.YthhlcchofilimaaGreatDoor.U.T
set_option linter.unusedVariables false
set_option linter.unusedSimpArgs false
set_option maxRecDepth 20000
set_option maxRecDepth 20000
open Go.ChangeShapes Go.WideShapes Go.ChangeAt Go.RowKit
section
variable {T T2 : Nat → Nat → Prop} {w w' : World} {a : Option Addr} {n c g o : Nat} {L : List Nat}
theorem SlA.src (h : SlA w a n c g o L) : Src Tryz.prog 1 22 (.slice a n c) n (cells8 L) w :=
  ⟨.inl ⟨_, Tryz.underlying22⟩, fun _ => rfl, h.first, (h.below (below_drewN (Below.refl _ _) 1)).first, by simp [cells8, h.len], fun u hu => by
    obtain ⟨_, _, rfl⟩ := List.mem_map.1 hu
    rfl⟩
end
/-- A set of cells and all that is new. -/
def Up (R : Nat → Nat → Prop) (w w' : World) : Nat → Nat → Prop := fun k j => R k j ∨ (w.heap.size ≤ k ∧ k < w'.heap.size)
/-- A uart in a block: what it may read lies in R, what it may write in W. -/
structure At (R W : Nat → Nat → Prop) (w : World) (b : Nat) (U : Ur) (sa : Option Addr) (n c g o : Nat) (ta : Option Addr) (m d h p : Nat) : Prop where
  lt : b < w.heap.size
  c0 : w.cell? ⟨b, 0, none⟩ = some (.slice sa n c)
  c1 : w.cell? ⟨b, 1, none⟩ = some (.bool U.lost)
  c2 : w.cell? ⟨b, 2, none⟩ = some (.int .u64 (U.want : Nat))
  c3 : w.cell? ⟨b, 3, none⟩ = some (.int .u8 (U.scr : Nat))
  c4 : w.cell? ⟨b, 4, none⟩ = some (.slice ta m d)
  fz : ∀ j, j < 5 → w.frozen? ⟨b, j, none⟩ = false
  q : SlA w sa n c g o U.q
  s : SlA w ta m d h p U.sent
  ok : OkU U
  rb : ∀ j, R b j
  wb : ∀ j, W b j
  rq : ∀ i, i < c → R g (o + i)
  wq : ∀ i, n ≤ i → i < c → W g (o + i)
  rs : ∀ i, i < d → R h (p + i)
  ws : ∀ i, m ≤ i → i < d → W h (p + i)
  wr : ∀ k j, W k j → R k j
  rlt : ∀ k j, R k j → k < w.heap.size
  qb : 0 < c → g ≠ b
  sb : 0 < d → h ≠ b
  qs : 0 < c → 0 < d → g ≠ h
def IsU (R W : Nat → Nat → Prop) (w : World) (b : Nat) (U : Ur) : Prop := ∃ sa n c g o ta m d h p, At R W w b U sa n c g o ta m d h p
section
variable {R W T R2 W2 : Nat → Nat → Prop} {w w' : World} {b : Nat} {U : Ur} {sa : Option Addr} {n c g o : Nat} {ta : Option Addr} {m d h p : Nat}
theorem At.cells (x : At R W w b U sa n c g o ta m d h p) : ∀ j, j < 5 → (w.cell? ⟨b, j, none⟩).isSome = true := fun j hj => by
  have : j = 0 ∨ j = 1 ∨ j = 2 ∨ j = 3 ∨ j = 4 := by omega
  rcases this with rfl | rfl | rfl | rfl | rfl
  · rw [x.c0]; rfl
  · rw [x.c1]; rfl
  · rw [x.c2]; rfl
  · rw [x.c3]; rfl
  · rw [x.c4]; rfl
theorem At.kept (x : At R W w b U sa n c g o ta m d h p) (hc : Ch T w w') (hn : ∀ k j, T k j → ¬ R k j) : At R W w' b U sa n c g o ta m d h p :=
  have nb : ∀ j, ¬ T b j := fun j ht => hn _ _ ht (x.rb j)
  ⟨Nat.lt_of_lt_of_le x.lt hc.size, (hc.cell b 0 x.lt (nb 0)).trans x.c0, (hc.cell b 1 x.lt (nb 1)).trans x.c1, (hc.cell b 2 x.lt (nb 2)).trans x.c2, (hc.cell b 3 x.lt (nb 3)).trans x.c3, (hc.cell b 4 x.lt (nb 4)).trans x.c4,
    fun j hj => (hc.frozen b j x.lt).trans (x.fz j hj), x.q.kept hc (fun i hi ht => hn _ _ ht (x.rq i (Nat.lt_of_lt_of_le hi x.q.le))), x.s.kept hc (fun i hi ht => hn _ _ ht (x.rs i (Nat.lt_of_lt_of_le hi x.s.le))), x.ok, x.rb, x.wb, x.rq, x.wq, x.rs, x.ws, x.wr,
    fun k j hk => Nat.lt_of_lt_of_le (x.rlt k j hk) hc.size, x.qb, x.sb, x.qs⟩
theorem At.mono (x : At R W w b U sa n c g o ta m d h p) (hR : ∀ k j, R k j → R2 k j) (hW : ∀ k j, W k j → W2 k j) (hWR : ∀ k j, W2 k j → R2 k j) (hlt : ∀ k j, R2 k j → k < w.heap.size) : At R2 W2 w b U sa n c g o ta m d h p :=
  { x with rb := fun j => hR _ _ (x.rb j), wb := fun j => hW _ _ (x.wb j), rq := fun i hi => hR _ _ (x.rq i hi), wq := fun i h1 h2 => hW _ _ (x.wq i h1 h2), rs := fun i hi => hR _ _ (x.rs i hi), ws := fun i h1 h2 => hW _ _ (x.ws i h1 h2), wr := hWR, rlt := hlt }
theorem up_wr (x : At R W w b U sa n c g o ta m d h p) (w1 w2 : World) : ∀ k j, Up W w1 w2 k j → Up R w1 w2 k j := fun k j hk => hk.imp (x.wr k j) id
/-- One cell of its block is written. -/
theorem At.slices (x : At R W w b U sa n c g o ta m d h p) (j : Nat) (v : Value) (hj : j < 5) : SlA (w.setCell ⟨b, j, none⟩ v) sa n c g o U.q ∧ SlA (w.setCell ⟨b, j, none⟩ v) ta m d h p U.sent := by
  have hc : Ch (fun k _ => k = b) w (w.setCell ⟨b, j, none⟩ v) := Ch.set _ _ _ _ _ rfl (x.cells j hj)
  exact ⟨x.q.kept hc (fun i hi e => x.qb (by have := x.q.le; omega) e), x.s.kept hc (fun i hi e => x.sb (by have := x.s.le; omega) e)⟩
theorem cell_ne (w : World) (b i j : Nat) (v : Value) (h : i ≠ j) : (w.setCell ⟨b, i, none⟩ v).cell? ⟨b, j, none⟩ = w.cell? ⟨b, j, none⟩ := World.cell?_setCell_other _ _ _ _ (fun e => by injection e with e1 e2; exact h e2)
theorem cell_eq (w : World) (b i : Nat) (v : Value) (h : (w.cell? ⟨b, i, none⟩).isSome = true) : (w.setCell ⟨b, i, none⟩ v).cell? ⟨b, i, none⟩ = some v := by
  obtain ⟨u, hu⟩ := Option.isSome_iff_exists.1 h
  exact World.cell?_setCell_same _ _ _ hu
theorem At.lost (x : At R W w b U sa n c g o ta m d h p) (v : Bool) : At R W (w.setCell ⟨b, 1, none⟩ (.bool v)) b { U with lost := v } sa n c g o ta m d h p :=
  { x with
    lt := by rw [sz_set]; exact x.lt
    c0 := (cell_ne _ _ _ _ _ (by decide)).trans x.c0
    c1 := cell_eq _ _ _ _ (x.cells 1 (by decide))
    c2 := (cell_ne _ _ _ _ _ (by decide)).trans x.c2
    c3 := (cell_ne _ _ _ _ _ (by decide)).trans x.c3
    c4 := (cell_ne _ _ _ _ _ (by decide)).trans x.c4
    fz := fun j hj => by rw [World.frozen?_setCell]; exact x.fz j hj
    q := (x.slices 1 _ (by decide)).1
    s := (x.slices 1 _ (by decide)).2
    ok := ⟨x.ok.q, x.ok.len, x.ok.want, x.ok.scr⟩
    rlt := fun k j hk => by rw [sz_set]; exact x.rlt k j hk }
theorem At.want (x : At R W w b U sa n c g o ta m d h p) (v : Nat) (hv : v < 2) : At R W (w.setCell ⟨b, 2, none⟩ (.int .u64 (v : Nat))) b { U with want := v } sa n c g o ta m d h p :=
  { x with
    lt := by rw [sz_set]; exact x.lt
    c0 := (cell_ne _ _ _ _ _ (by decide)).trans x.c0
    c1 := (cell_ne _ _ _ _ _ (by decide)).trans x.c1
    c2 := cell_eq _ _ _ _ (x.cells 2 (by decide))
    c3 := (cell_ne _ _ _ _ _ (by decide)).trans x.c3
    c4 := (cell_ne _ _ _ _ _ (by decide)).trans x.c4
    fz := fun j hj => by rw [World.frozen?_setCell]; exact x.fz j hj
    q := (x.slices 2 _ (by decide)).1
    s := (x.slices 2 _ (by decide)).2
    ok := ⟨x.ok.q, x.ok.len, hv, x.ok.scr⟩
    rlt := fun k j hk => by rw [sz_set]; exact x.rlt k j hk }
theorem At.scr (x : At R W w b U sa n c g o ta m d h p) (v : Nat) (hv : v < 256) : At R W (w.setCell ⟨b, 3, none⟩ (.int .u8 (v : Nat))) b { U with scr := v } sa n c g o ta m d h p :=
  { x with
    lt := by rw [sz_set]; exact x.lt
    c0 := (cell_ne _ _ _ _ _ (by decide)).trans x.c0
    c1 := (cell_ne _ _ _ _ _ (by decide)).trans x.c1
    c2 := (cell_ne _ _ _ _ _ (by decide)).trans x.c2
    c3 := cell_eq _ _ _ _ (x.cells 3 (by decide))
    c4 := (cell_ne _ _ _ _ _ (by decide)).trans x.c4
    fz := fun j hj => by rw [World.frozen?_setCell]; exact x.fz j hj
    q := (x.slices 3 _ (by decide)).1
    s := (x.slices 3 _ (by decide)).2
    ok := ⟨x.ok.q, x.ok.len, x.ok.want, hv⟩
    rlt := fun k j hk => by rw [sz_set]; exact x.rlt k j hk }
/-- The queue's front is cut off. -/
theorem At.cut (x : At R W w b U sa (n + 1) c g o ta m d h p) (sa' : Option Addr) (hsa : sa' = if c = 1 then sa else sa.map (·.add 1)) : At R W (w.setCell ⟨b, 0, none⟩ (.slice sa' n (c - 1))) b { U with q := U.q.tail } sa' n (c - 1) g (o + 1) ta m d h p := by
  have hle := x.q.le
  subst hsa
  exact
  { x with
    lt := by rw [sz_set]; exact x.lt
    c0 := cell_eq _ _ _ _ (x.cells 0 (by decide))
    c1 := (cell_ne _ _ _ _ _ (by decide)).trans x.c1
    c2 := (cell_ne _ _ _ _ _ (by decide)).trans x.c2
    c3 := (cell_ne _ _ _ _ _ (by decide)).trans x.c3
    c4 := (cell_ne _ _ _ _ _ (by decide)).trans x.c4
    fz := fun j hj => by rw [World.frozen?_setCell]; exact x.fz j hj
    q := (x.slices 0 _ (by decide)).1.cut
    s := (x.slices 0 _ (by decide)).2
    ok := x.ok.tail
    rq := fun i hi => by rw [show o + 1 + i = o + (i + 1) by omega]; exact x.rq (i + 1) (by omega)
    wq := fun i h1 h2 => by rw [show o + 1 + i = o + (i + 1) by omega]; exact x.wq (i + 1) (by omega) (by omega)
    qb := fun _ => x.qb (by omega)
    qs := fun _ h2 => x.qs (by omega) h2
    rlt := fun k j hk => by rw [sz_set]; exact x.rlt k j hk }
/-- A byte has come into the queue. -/
theorem At.came (x : At R W w b U sa n c g o ta m d h p) {w2 : World} {a' : Option Addr} {n' c' g' o' : Nat} {L' : List Nat} (hc : Ch (Spare g o n c) w w2) (hs : SlA w2 a' n' c' g' o' L') (hn : n ≤ n') (hm : Mv w g o c g' o' c') (hok : OkU { U with q := L' }) :
    At (Up R w w2) (Up W w w2) (w2.setCell ⟨b, 0, none⟩ (.slice a' n' c')) b { U with q := L' } a' n' c' g' o' ta m d h p := by
  have nb : ∀ j, ¬ Spare g o n c b j := fun j ⟨e, i, _, hi, _⟩ => x.qb (by omega) e.symm
  have hs0 : SlA w2 ta m d h p U.sent := x.s.kept hc (fun i hi ⟨e, j, _, hj, _⟩ => x.qs (by omega) (by have := x.s.le; omega) e.symm)
  have hlt : b < w2.heap.size := Nat.lt_of_lt_of_le x.lt hc.size
  have is0 : (w2.cell? ⟨b, 0, none⟩).isSome = true := hc.there b 0 x.lt (x.cells 0 (by decide))
  have hset : Ch (fun k _ => k = b) w2 (w2.setCell ⟨b, 0, none⟩ (.slice a' n' c')) := Ch.set _ _ _ _ _ rfl is0
  have ng : 0 < c' → g' ≠ b := fun h0 => by
    rcases hm with ⟨rfl, -, rfl⟩ | hm
    · exact x.qb h0
    · have := x.lt; omega
  refine ⟨by rw [sz_set]; exact hlt, cell_eq _ _ _ _ is0, (cell_ne _ _ _ _ _ (by decide)).trans ((hc.cell b 1 x.lt (nb 1)).trans x.c1), (cell_ne _ _ _ _ _ (by decide)).trans ((hc.cell b 2 x.lt (nb 2)).trans x.c2), (cell_ne _ _ _ _ _ (by decide)).trans ((hc.cell b 3 x.lt (nb 3)).trans x.c3), (cell_ne _ _ _ _ _ (by decide)).trans ((hc.cell b 4 x.lt (nb 4)).trans x.c4),
    fun j hj => by rw [World.frozen?_setCell]; exact (hc.frozen b j x.lt).trans (x.fz j hj), hs.kept hset (fun i hi e => ng (by have := hs.le; omega) e), hs0.kept hset (fun i hi e => x.sb (by have := x.s.le; omega) e), hok, fun j => .inl (x.rb j), fun j => .inl (x.wb j), fun i hi => ?_, fun i h1 h2 => ?_, fun i hi => .inl (x.rs i hi), fun i h1 h2 => .inl (x.ws i h1 h2), up_wr x _ _, fun k j hk => ?_, ng, x.sb, fun h1 h2 => ?_⟩
  · rcases hm with ⟨rfl, rfl, rfl⟩ | hm
    · exact .inl (x.rq i hi)
    · exact .inr ⟨hm, (hs.addr (by omega)).2⟩
  · rcases hm with ⟨rfl, rfl, rfl⟩ | hm
    · exact .inl (x.wq i (by omega) h2)
    · exact .inr ⟨hm, (hs.addr (by omega)).2⟩
  · rw [sz_set]
    rcases hk with hk | hk
    · exact Nat.lt_of_lt_of_le (x.rlt k j hk) hc.size
    · exact hk.2
  · rcases hm with ⟨rfl, -, rfl⟩ | hm
    · exact x.qs h1 h2
    · have := (x.s.addr h2).2; omega
theorem IsU.kept (x : IsU R W w b U) (hc : Ch T w w') (hn : ∀ k j, T k j → ¬ R k j) : IsU R W w' b U := by
  obtain ⟨sa, n, c, g, o, ta, m, d, h, p, x⟩ := x
  exact ⟨sa, n, c, g, o, ta, m, d, h, p, x.kept hc hn⟩
theorem IsU.below (x : IsU R W w b U) (hb : Below w.heap.size w w') : IsU R W w' b U := x.kept (Ch.of_below (fun _ _ => False) hb) (fun _ _ h => h.elim)
end
end Go.Proofs.YthhlcchofilimaaGreatDoor.U.T
