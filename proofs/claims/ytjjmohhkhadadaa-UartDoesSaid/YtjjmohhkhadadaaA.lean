/- Words: what may have changed, slices of bytes in memory. -/
import Derived.Test.YtjjmohhkhadadaaProg
import Derived.Test.YtjjmohhkhadadaaM0
import Derived.WalkKit
import Derived.Deep.QuietTactic
import Derived.BigQuiet
import Derived.ProofKit
import Derived.OpenShut
import Derived.WalkLawsBesides
import Derived.WalkSpells
import Derived.RegionTactic
import Derived.ChangeAlike
import Derived.Outline
import Derived.Laws.Externs
import Derived.Lib.Hide
import Derived.Deep.AppendSrc
import Derived.Laws.BytesArg
namespace Go.Proofs.Ytjjmohhkhadadaa
open Go.ChangeShapes Go.WideShapes Go.ChangeAt Go.RowKit
set_option linter.unusedVariables false
set_option linter.unusedSimpArgs false
theorem le_below {n B : Nat} {w w' : World} (hb : Below B w w') (h : n ≤ w.heap.size) : n ≤ w'.heap.size := Nat.le_trans h hb.size
theorem below_step {B B' : Nat} {w w1 w2 : World} (hb : Below B' w1 w2) (h : Below B w w1) (hB : B ≤ B') : Below B w w2 := h.trans (hb.mono hB)
theorem below_drewN {B : Nat} {w w' : World} (h : Below B w w') (n : Nat) : Below B w (w'.drewN n) := ⟨h.os, h.tape, h.output, h.size, h.block⟩
theorem le_drew {n : Nat} {w : World} (h : n ≤ w.heap.size) : n ≤ w.drew.heap.size := h
theorem le_drewN {n k : Nat} {w : World} (h : n ≤ w.heap.size) : n ≤ (w.drewN k).heap.size := h
theorem sz_drewN (w : World) (k : Nat) : (w.drewN k).heap.size = w.heap.size := rfl
theorem sz_drew (w : World) : w.drew.heap.size = w.heap.size := rfl
theorem sz_alloc (w : World) (o : Obj) : (w.alloc o).heap.size = w.heap.size + 1 := by simp
theorem sz_set (w : World) (p : Addr) (u : Value) : (w.setCell p u).heap.size = w.heap.size := by simp [World.setCell]
def RetB (b : Bool) (W : World) (e : Ending) (w' : World) : Prop := e = .returned (.bool b) ∧ Below W.heap.size W w'
theorem retB_mk {a b : Bool} {W w' : World} (h : a = b) (hb : Below W.heap.size W w') : RetB b W (.returned (.bool a)) w' := ⟨by rw [h], hb⟩
/-- Of what was there only the cells of T may have changed. -/
structure Ch (T : Nat → Nat → Prop) (w w' : World) : Prop where
  os : w'.os = w.os
  tape : w'.tape = w.tape
  output : w'.output = w.output
  size : w.heap.size ≤ w'.heap.size
  block : ∀ k, k < w.heap.size → (∀ o, ¬ T k o) → w'.heap[k]? = w.heap[k]?
  cell : ∀ k o, k < w.heap.size → ¬ T k o → w'.cell? ⟨k, o, none⟩ = w.cell? ⟨k, o, none⟩
  frozen : ∀ k o, k < w.heap.size → w'.frozen? ⟨k, o, none⟩ = w.frozen? ⟨k, o, none⟩
  there : ∀ k o, k < w.heap.size → (w.cell? ⟨k, o, none⟩).isSome = true → (w'.cell? ⟨k, o, none⟩).isSome = true
variable {T T2 R : Nat → Nat → Prop} {w w' : World}
theorem Ch.refl (T : Nat → Nat → Prop) (w : World) : Ch T w w := ⟨rfl, rfl, rfl, Nat.le_refl _, fun _ _ _ => rfl, fun _ _ _ _ => rfl, fun _ _ _ => rfl, fun _ _ _ h => h⟩
theorem Ch.trans {a b c : World} (h : Ch T a b) (k : Ch T2 b c) (hT : ∀ i j, T2 i j → T i j ∨ a.heap.size ≤ i) : Ch T a c := by
  have no : ∀ i j, i < a.heap.size → ¬ T i j → ¬ T2 i j := fun i j hi hn h2 => by
    rcases hT i j h2 with h3 | h3
    · exact hn h3
    · omega
  have lt : ∀ i, i < a.heap.size → i < b.heap.size := fun i hi => Nat.lt_of_lt_of_le hi h.size
  exact ⟨k.os.trans h.os, k.tape.trans h.tape, k.output.trans h.output, Nat.le_trans h.size k.size,
    fun i hi hn => (k.block i (lt i hi) (fun o => no i o hi (hn o))).trans (h.block i hi hn),
    fun i o hi hn => (k.cell i o (lt i hi) (no i o hi hn)).trans (h.cell i o hi hn),
    fun i o hi => (k.frozen i o (lt i hi)).trans (h.frozen i o hi),
    fun i o hi hs => k.there i o (lt i hi) (h.there i o hi hs)⟩
theorem Ch.mono (h : Ch T w w') (hT : ∀ i j, T i j → T2 i j) : Ch T2 w w' :=
  ⟨h.os, h.tape, h.output, h.size, fun k hk hn => h.block k hk (fun o ht => hn o (hT _ _ ht)), fun k o hk hn => h.cell k o hk (fun ht => hn (hT _ _ ht)), h.frozen, h.there⟩
theorem Ch.of_below (T : Nat → Nat → Prop) (h : Below w.heap.size w w') : Ch T w w' :=
  ⟨h.os, h.tape, h.output, h.size, fun k hk _ => h.block k hk, fun k o hk _ => World.cell?_of_block (w := w) (a := ⟨k, o, none⟩) (h.block k hk), fun k o hk => World.frozen?_of_block (w := w) (a := ⟨k, o, none⟩) (h.block k hk),
    fun k o hk hs => by rw [World.cell?_of_block (w := w) (a := ⟨k, o, none⟩) (h.block k hk)]; exact hs⟩
theorem Ch.below {B : Nat} {w0 : World} (h : Ch T w w') (hT : ∀ i j, T i j → B ≤ i) (h0 : Below B w0 w) (hB : B ≤ w.heap.size) : Below B w0 w' :=
  h0.trans ⟨h.os, h.tape, h.output, h.size, fun k hk => h.block k (Nat.lt_of_lt_of_le hk hB) (fun o ht => by have := hT k o ht; omega)⟩
theorem Ch.set (T : Nat → Nat → Prop) (w : World) (b o : Nat) (v : Value) (hT : T b o) (hs : (w.cell? ⟨b, o, none⟩).isSome = true) : Ch T w (w.setCell ⟨b, o, none⟩ v) := by
  refine ⟨rfl, rfl, rfl, by rw [sz_set]; exact Nat.le_refl _, fun k hk hn => ?_, fun k p hk hn => ?_, fun k p hk => World.frozen?_setCell _ _ _ _, fun k p hk h => ?_⟩
  · exact Below.heap_setCell w ⟨b, o, none⟩ v k (fun e => hn o (by rw [show k = b from e]; exact hT))
  · exact World.cell?_setCell_other _ _ _ _ (fun e => by injection e with e1 e2; subst e1 e2; exact hn hT)
  · by_cases e : (⟨b, o, none⟩ : Addr) = ⟨k, p, none⟩
    · rw [← e]
      obtain ⟨u, hu⟩ := Option.isSome_iff_exists.1 hs
      rw [World.cell?_setCell_same _ _ _ hu]; rfl
    · rw [World.cell?_setCell_other _ _ _ _ e]; exact h
/-- A slice of bytes in memory. -/
structure SlA (w : World) (a : Option Addr) (n c g o : Nat) (L : List Nat) : Prop where
  len : L.length = n
  le : n ≤ c
  addr : 0 < c → a = some ⟨g, o, none⟩ ∧ g < w.heap.size
  cell : ∀ i, i < n → w.cell? ⟨g, o + i, none⟩ = some (.int .u8 (L.getD i 0 : Nat))
  there : ∀ i, i < c → (w.cell? ⟨g, o + i, none⟩).isSome = true ∧ w.frozen? ⟨g, o + i, none⟩ = false
variable {a : Option Addr} {n c g o : Nat} {L : List Nat}
theorem SlA.kept (h : SlA w a n c g o L) (hc : Ch T w w') (hn : ∀ i, i < n → ¬ T g (o + i)) : SlA w' a n c g o L :=
  ⟨h.len, h.le, fun h0 => ⟨(h.addr h0).1, Nat.lt_of_lt_of_le (h.addr h0).2 hc.size⟩,
    fun i hi => by rw [hc.cell g (o + i) (h.addr (by have := h.le; omega)).2 (hn i hi)]; exact h.cell i hi,
    fun i hi => ⟨hc.there g (o + i) (h.addr (by omega)).2 (h.there i hi).1, by rw [hc.frozen g (o + i) (h.addr (by omega)).2]; exact (h.there i hi).2⟩⟩
theorem SlA.below (h : SlA w a n c g o L) (hb : Below w.heap.size w w') : SlA w' a n c g o L := h.kept (Ch.of_below (fun _ _ => False) hb) (fun _ _ h => h)
theorem slA_nil (w : World) (a : Option Addr) (g o : Nat) : SlA w a 0 0 g o [] := ⟨rfl, Nat.le_refl _, fun h => absurd h (Nat.lt_irrefl _), fun i h => absurd h (Nat.not_lt_zero i), fun i h => absurd h (Nat.not_lt_zero i)⟩
/-- The front cut off. -/
theorem SlA.cut (h : SlA w a (n + 1) c g o L) : SlA w (if c = 1 then a else a.map (·.add 1)) n (c - 1) g (o + 1) L.tail := by
  have hle := h.le
  refine ⟨by rw [List.length_tail, h.len]; rfl, by omega, fun h0 => ?_, fun i hi => ?_, fun i hi => ?_⟩
  · rw [if_neg (by omega)]
    obtain ⟨h1, h2⟩ := h.addr (by omega)
    exact ⟨by rw [h1]; rfl, h2⟩
  · have := h.cell (i + 1) (by omega)
    rw [show o + 1 + i = o + (i + 1) by omega, this]
    cases hL : L with
    | nil => have := h.len; rw [hL] at this; simp at this
    | cons x l => simp
  · have := h.there (i + 1) (by omega)
    rw [show o + 1 + i = o + (i + 1) by omega]; exact this
/-- No room behind it. -/
theorem SlA.full (h : SlA w a n c g o L) : SlA w (if n = 0 then a else a.map (·.add 0)) n n g o L := by
  refine ⟨h.len, Nat.le_refl _, fun h0 => ?_, h.cell, fun i hi => h.there i (by have := h.le; omega)⟩
  rw [if_neg (by omega)]
  obtain ⟨h1, h2⟩ := h.addr (by have := h.le; omega)
  exact ⟨by rw [h1]; rfl, h2⟩
/-- Where an append may write. -/
def Spare (g o n c : Nat) : Nat → Nat → Prop := fun k j => k = g ∧ ∃ i, n ≤ i ∧ i < c ∧ j = o + i
/-- Where the slice lies behind an append. -/
def Mv (w : World) (g o c g' o' c' : Nat) : Prop := (g' = g ∧ o' = o ∧ c' = c) ∨ w.heap.size ≤ g'
def cells8 (L : List Nat) : List Value := L.map fun (n : Nat) => Value.int .u8 (n : Int)
theorem cells8_get (L : List Nat) (i : Nat) (hi : i < L.length) : (cells8 L)[i]? = some (.int .u8 (L.getD i 0 : Nat)) := by
  simp [cells8, hi]
theorem info8 : (Try.prog.info? 5).map (fun i => (i.size, i.bytes, i.zero)) = some (1, 1, some (.int .u8 0)) := by kernel_rfl
theorem i8' : ∃ i, Try.prog.info? 5 = some i ∧ i.size = 1 ∧ i.bytes = 1 ∧ i.zero = some (.int .u8 0) := by
  have h := info8
  cases hi : Try.prog.info? 5 with
  | none => rw [hi] at h; exact absurd h (by simp)
  | some i =>
    rw [hi] at h
    simp only [Option.map_some, Option.some.injEq, Prod.mk.injEq] at h
    exact ⟨i, rfl, h.1, h.2.1, h.2.2⟩
theorem SlA.first (h : SlA w a n c g o L) : (Builtin.firstCells 1 n (.slice a n c)).run Try.prog w = .ok (cells8 L).toArray w := by
  by_cases hn : n = 0
  · subst hn
    have : L = [] := List.length_eq_zero_iff.1 h.len
    subst this
    cases a with
    | none => exact run_firstCells_none w 1 0 0 c
    | some ad => exact run_firstCells_some w 1 0 ad 0 c [] rfl (fun j v hj => by cases hj)
  · obtain ⟨h1, h2⟩ := h.addr (by have := h.le; omega)
    rw [h1]
    refine run_firstCells_some w 1 n _ n c (cells8 L) (by simp [cells8, h.len]) (fun j v hj => ?_)
    have hj2 : j < L.length := by
      have := (List.getElem?_eq_some_iff.1 hj).1
      simpa [cells8] using this
    rw [cells8_get L j hj2] at hj
    have := h.cell j (by have := h.len; omega)
    rw [Go.WideShapes.add_plain, this]; exact hj
theorem zero8_size (k : Nat) : (Builtin.zeroCells (Value.int .u8 0).cells k).size = k := by
  have : (Value.int .u8 0).cells.size = 1 := rfl
  simp [Builtin.zeroCells, this]
theorem slA_new (w : World) (L : List Nat) (k C : Nat) (t : TypeId) (hC : C = L.length + k) : SlA (w.alloc (.cells ((cells8 L).toArray ++ Builtin.zeroCells (Value.int .u8 0).cells k) t)) (some ⟨w.heap.size, 0, none⟩) L.length C w.heap.size 0 L := by
  subst hC
  refine ⟨rfl, Nat.le_add_right _ _, fun _ => ⟨rfl, by rw [sz_alloc]; omega⟩, fun i hi => ?_, fun i hi => ⟨?_, ?_⟩⟩
  · rw [World.cell?_alloc_new, Nat.zero_add, Array.getElem?_append_left (by simpa [cells8] using hi)]
    simpa using cells8_get L i hi
  · rw [World.cell?_alloc_new, Nat.zero_add]
    have : i < ((cells8 L).toArray ++ Builtin.zeroCells (Value.int .u8 0).cells k).size := by
      rw [Array.size_append, zero8_size]; simpa [cells8] using hi
    rw [Array.getElem?_eq_getElem this]; rfl
  · rw [World.frozen?_alloc_at _ _ _ _ rfl]
/-- One byte more. -/
theorem append_b {ops : Array Oper} {rest : List Oper} {op : Oper} {A : Act} {Q : Exit → Act → World → Prop} (hgd : op.guard = none) (s x : Operand)
    (ho : op.op = .call { callee := .builtin .append, args := #[s, x], argTypes := #[35, 35] })
    (h : SlA w a n c g o L) (hs : A.eval s = .slice a n c) (hn : n < 70368744177664)
    (y g1 : Nat) (hx : A.eval x = .slice (some ⟨g1, 0, none⟩) 1 1) (hc : w.cell? ⟨g1, 0, none⟩ = some (.int .u8 y))
    (k : ∀ a' c' g' o' w', SlA w' a' (n + 1) c' g' o' (L ++ [y]) → Ch (Spare g o n c) w w' → Mv w g o c g' o' c' → wpList Try.prog ops Q rest (A.put op.dst (.slice a' (n + 1) c')) w') : wpList Try.prog ops Q (op :: rest) A w := by
  obtain ⟨i, hi, h1, h2, h3⟩ := i8'
  have hsrc : Src Try.prog i.size 35 (.slice (some ⟨g1, 0, none⟩) 1 1) 1 [.int .u8 y] w := by
    rw [h1]
    exact Src.ofSlice w Try.underlying35 ⟨g1, 0, none⟩ 1 1 [.int .u8 y] rfl (fun j u hj => by
      match j, hj with
      | 0, hj => simp at hj; subst hj; simpa [Addr.add] using hc) (fun u hu => by simp at hu; subst hu; rfl)
  refine wpList_plain hgd fun K hK => ?_
  unfold Oper.wp execOp
  simp only [ho, resolve, invoke, builtin, Sem.run_bind, Sem.run_pure, Result.andThen_ok, List.map_toArray, List.map_cons, List.map_nil, hs, hx]
  by_cases hroom : n + 1 ≤ c
  · obtain ⟨e1, e2⟩ := h.addr (by omega)
    subst e1
    have hr := run_append_room_src (P := Try.prog) w 35 35 op.type 5 i Try.underlying35 hi g o n c _ 1 _ hsrc hroom
      (fun j hj => by have : j = 0 := by simpa using hj
                      subst this; rw [h1, Nat.mul_one]; exact (h.there n (by omega)).1)
      (fun j hj => by have : j = 0 := by simpa using hj
                      subst this; rw [h1, Nat.mul_one]; exact (h.there n (by omega)).2)
    rw [hr]
    rw [h1, Nat.mul_one]
    have hset : w.setCells g (o + n) [.int .u8 (y : Nat)] = w.setCell ⟨g, o + n, none⟩ (.int .u8 (y : Nat)) := rfl
    rw [hset]
    have hch : Ch (Spare g o n c) w (w.setCell ⟨g, o + n, none⟩ (.int .u8 (y : Nat))) := Ch.set _ _ _ _ _ ⟨rfl, n, Nat.le_refl _, by omega, rfl⟩ (h.there n (by omega)).1
    refine hK _ _ (k _ _ g o _ ?_ hch (.inl ⟨rfl, rfl, rfl⟩))
    refine ⟨by rw [List.length_append, h.len]; rfl, hroom, fun _ => ⟨rfl, by rw [sz_set]; exact e2⟩, fun i hi2 => ?_, fun i hi2 => ⟨hch.there _ _ e2 (h.there i hi2).1, by rw [World.frozen?_setCell]; exact (h.there i hi2).2⟩⟩
    by_cases e : i = n
    · subst e
      obtain ⟨u, hu⟩ := Option.isSome_iff_exists.1 (h.there i (by omega)).1
      rw [World.cell?_setCell_same _ _ _ hu]
      have hl := h.len
      rw [List.getD_eq_getElem?_getD, List.getElem?_append_right (by omega), hl, Nat.sub_self]; rfl
    · rw [World.cell?_setCell_other _ _ _ _ (by intro q; injection q with q1 q2; omega), h.cell i (by omega)]
      have hl := h.len
      rw [List.getD_eq_getElem?_getD, List.getD_eq_getElem?_getD, List.getElem?_append_left (by omega)]
  · have hg := run_append_grow_src (P := Try.prog) w 35 35 op.type 5 i (.int .u8 0) Try.underlying35 hi h3 a n c (cells8 L)
      (by rw [h1]; exact (h.below (below_drewN (Below.refl _ _) 1)).first) _ 1 _ hsrc (by omega) (by omega) (growslice_fits (by omega) (by rw [h2]; omega))
    rw [hg]
    have hge := grownCap_ge w (n + 1) c 5
    have hl : (L ++ [y]).length = n + 1 := by rw [List.length_append, h.len]; rfl
    have hnew := slA_new w.drew (L ++ [y]) (grownCap w (n + 1) c 5 - (n + 1)) (grownCap w (n + 1) c 5) 5 (by rw [hl]; omega)
    rw [hl, show cells8 (L ++ [y]) = cells8 L ++ [Value.int .u8 (y : Nat)] by simp [cells8]] at hnew
    exact hK _ _ (k _ _ w.heap.size 0 _ hnew (Ch.of_below _ (Below.alloc (below_drewN (Below.refl _ _) 1) (Nat.le_refl _) _)) (.inr (Nat.le_refl _)))
end Go.Proofs.Ytjjmohhkhadadaa
