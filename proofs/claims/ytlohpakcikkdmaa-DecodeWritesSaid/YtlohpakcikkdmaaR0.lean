/- The reference's rows: what a row is, a slice of rows, append. -/
import Derived.Test.YtlohpakcikkdmaaF2
import Derived.Laws.AppendOwn
import Derived.Maps.AppendAt
import Derived.OwnWalk
import Derived.Deep.RegionLaw
import Derived.LoopTactic
namespace Go.Proofs.Ytlohpakcikkdmaa
open Go.ChangeShapes Go.WideShapes Go.ChangeAt Go.RowKit
set_option linter.unusedVariables false
set_option linter.unusedSimpArgs false
structure QRow where
  mask : Nat
  bits : Nat
  kind : Int
  form : ByteArray
  size : Int
  word : Bool
  un : Bool
def cellsQ (r : QRow) : List Value := [.int .u32 r.mask, .int .u32 r.bits, .int .i64 r.kind, .string r.form, .int .i64 r.size, .bool r.word, .bool r.un]
def cellsQs (L : List QRow) : List Value := L.flatMap cellsQ
theorem cellsQs_len (L : List QRow) : (cellsQs L).length = L.length * 7 := by
  unfold cellsQs
  induction L with
  | nil => rfl
  | cons a L ih => rw [List.flatMap_cons, List.length_append, ih]; show 7 + _ = (L.length + 1) * 7; omega
theorem cellsQs_append (L M : List QRow) : cellsQs (L ++ M) = cellsQs L ++ cellsQs M := List.flatMap_append
theorem cellsQ_one (r : QRow) : ∀ u ∈ cellsQ r, u.oneCell' = true := by
  intro u hu; simp [cellsQ] at hu
  rcases hu with h | h | h | h | h | h | h <;> subst h <;> rfl
theorem cellsQs_one (L : List QRow) : ∀ u ∈ cellsQs L, u.oneCell' = true := by
  intro u hu
  unfold cellsQs at hu
  rw [List.mem_flatMap] at hu
  obtain ⟨r, _, h⟩ := hu
  exact cellsQ_one r u h
/-- A slice of the call's own holds the rows. -/
def OwnT (w : World) (base : Nat) (v : Value) (L : List QRow) : Prop := w.ownsRow base 50 7 v L.length (cellsQs L)
theorem own_lt {w : World} {base : Nat} {v : Value} {L : List QRow} (h : OwnT w base v L) : ∀ k, v.ownBlock = some k → base ≤ k ∧ k < w.heap.size := World.ownsRow.lt (w := w) h
theorem own_below {w w' : World} {base : Nat} {v : Value} {L : List QRow} (h : OwnT w base v L) (hb : Below w.heap.size w w') : OwnT w' base v L := by
  refine World.ownsRow.kept (w := w) h (w' := w') (row := none) ⟨hb.os, hb.tape, hb.output, hb.size, fun k hk _ => hb.block k hk⟩ ?_
  cases h' : v.ownBlock
  · exact .inl rfl
  · exact .inr (by simp)
theorem own_alloc {w : World} {base : Nat} {v : Value} {L : List QRow} (h : OwnT w base v L) (o : Obj) : OwnT (w.alloc o) base v L := World.ownsRow.alloc (w := w) h o
theorem own_drew {w : World} {base : Nat} {v : Value} {L : List QRow} (h : OwnT w base v L) : OwnT w.drew base v L := own_below h (Below.refl _ _).drew
/-- A slice that was just built. -/
theorem own_built (w : World) (base n : Nat) (cs : Array Value) (L : List QRow) (hb : base ≤ w.heap.size) (hn : L.length = n) (hl : n ≤ 1000) (hc : cs = (cellsQs L).toArray) : OwnT (w.alloc (Obj.cells cs 50)) base (.slice (some ⟨w.heap.size, 0, none⟩) n n) L := by
  subst hc hn
  refine ⟨cellsQs_len L, .inr ⟨w.heap.size, L.length, _, rfl, hb, heap_alloc_last w _, Nat.le_refl _, by simp only [maxLen]; omega, by rw [List.size_toArray, cellsQs_len], ?_⟩⟩
  rw [← cellsQs_len]; simp
theorem info50 : (Try.prog.info? 50).map (fun i => (i.size, i.bytes, i.zero)) = some (7, 48, some (.agg #[.int .u32 0, .int .u32 0, .int .i64 0, .string ⟨#[]⟩, .int .i64 0, .bool false, .bool false])) := by kernel_rfl
theorem i50 : ∃ i, Try.prog.info? 50 = some i ∧ i.size = 7 ∧ i.bytes = 48 ∧ i.zero = some (.agg #[.int .u32 0, .int .u32 0, .int .i64 0, .string ⟨#[]⟩, .int .i64 0, .bool false, .bool false]) := by
  have h := info50
  cases hi : Try.prog.info? 50 with
  | none => rw [hi] at h; exact absurd h (by simp)
  | some i =>
    rw [hi] at h
    simp only [Option.map_some, Option.some.injEq, Prod.mk.injEq] at h
    exact ⟨i, rfl, h.1, h.2.1, h.2.2⟩
theorem append_q {ops : Array Oper} {rest : List Oper} {o : Oper} {a : Act} {w : World} {Q : Exit → Act → World → Prop} (hgd : o.guard = none) (s x : Operand)
    (ho : o.op = .call { callee := .builtin .append, args := #[s, x], argTypes := #[47, 47] })
    (base : Nat) (v : Value) (L : List QRow) (hs : a.eval s = v) (hown : OwnT w base v L) (hL : L.length ≤ 500)
    (bx : Nat) (vx : Value) (M : List QRow) (hx : a.eval x = vx) (hownx : OwnT w bx vx M) (hM : 0 < M.length ∧ M.length ≤ 500) (hbase : base ≤ w.heap.size)
    (h : ∀ v' w', OwnT w' base v' (L ++ M) → w.grownBy w' v.ownBlock → (v'.ownBlock = v.ownBlock ∨ v'.ownBlock = some w.heap.size) → wpList Try.prog ops Q rest (a.put o.dst v') w') : wpList Try.prog ops Q (o :: rest) a w := by
  obtain ⟨i, hi, h1, h2, h3⟩ := i50
  rcases hownx.2 with ⟨rfl, h0⟩ | ⟨g, cap, cur, rfl, hbg, hg, hnc, hcm, hcs, htake⟩
  · omega
  · refine wpList_append_own_at w hgd s x 47 ho base 50 i _ 7 48 Try.underlying47 hi h3 h1 h2 rfl (by decide) v L.length (cellsQs L) hs hown ⟨g, 0, none⟩ M.length cap (cellsQs M) hx (cellsQs_len M) ?_ (cellsQs_one M) (by simp only [maxLen]; omega) (by omega) hbase ?_
    · exact World.ownsRow.cells (w := w) hownx rfl
    · intro v' w' q1 q2 _ q3
      refine h v' w' ?_ q2 q3
      unfold OwnT
      rw [List.length_append, cellsQs_append]; exact q1
theorem step_append_q {ops : Array Oper} {o : Oper} {a : Act} {w : World} {K : Act → World → Prop} {Q : Exit → Act → World → Prop} {E : Prop} (hgd : o.guard = none) (s x : Operand)
    (ho : o.op = .call { callee := .builtin .append, args := #[s, x], argTypes := #[47, 47] })
    (base : Nat) (v : Value) (L : List QRow) (hs : a.eval s = v) (hown : OwnT w base v L) (hL : L.length ≤ 500)
    (bx : Nat) (vx : Value) (M : List QRow) (hx : a.eval x = vx) (hownx : OwnT w bx vx M) (hM : 0 < M.length ∧ M.length ≤ 500) (hbase : base ≤ w.heap.size)
    (h : ∀ v' w', OwnT w' base v' (L ++ M) → w.grownBy w' v.ownBlock → (v'.ownBlock = v.ownBlock ∨ v'.ownBlock = some w.heap.size) → K (a.put o.dst v') w') :
    if Region.wanted o (yielded ops a.tmps) = true then Oper.wp Try.prog o a w K Q else E := by
  have hw : Region.wanted o (yielded ops a.tmps) = true := by simp [Region.wanted, hgd]
  rw [if_pos hw]
  obtain ⟨i, hi, h1, h2, h3⟩ := i50
  rcases hownx.2 with ⟨rfl, h0⟩ | ⟨g, cap, cur, rfl, hbg, hg, hnc, hcm, hcs, htake⟩
  · omega
  · obtain ⟨v', w', hr, q1, q2, _, q3⟩ := run_append_own_at (P := Try.prog) w base 47 o.type 50 i _ 7 48 Try.underlying47 hi h3 h1 h2 rfl (by decide) v L.length (cellsQs L) hown ⟨g, 0, none⟩ M.length cap (cellsQs M) (cellsQs_len M) (World.ownsRow.cells (w := w) hownx rfl) (cellsQs_one M) (by simp only [maxLen]; omega) (by omega) hbase
    unfold Oper.wp execOp
    simp only [ho, resolve, invoke, builtin, Sem.run_bind, Sem.run_pure, Result.andThen_ok, List.map_toArray, List.map_cons, List.map_nil, hs, hx, hr]
    refine h v' w' ?_ q2 q3
    unfold OwnT
    rw [List.length_append, cellsQs_append]; exact q1
theorem grown_below {w w' : World} {base : Nat} {v : Value} {L : List QRow} (h : OwnT w base v L) (hg : w.grownBy w' v.ownBlock) (hb : base ≤ w.heap.size) : Below base w w' :=
  Below.grown (Below.refl _ _) hg hb (fun k hk => (own_lt h k hk).1)
/-- What is kept: blocks that the slice does not live in. -/
def Apart (v : Value) (lo hi : Nat) : Prop := ∀ k, v.ownBlock = some k → ¬ (lo ≤ k ∧ k < hi)
theorem apart_next {v v' : Value} {w : World} {lo hi : Nat} (h : Apart v lo hi) (hh : hi ≤ w.heap.size) (q : v'.ownBlock = v.ownBlock ∨ v'.ownBlock = some w.heap.size) : Apart v' lo hi := by
  intro k hk
  rcases q with q | q
  · exact h k (by rw [← q]; exact hk)
  · rw [q] at hk; have : k = w.heap.size := by simpa using hk.symm
    omega
/-- Numbers at a block. -/
def NumsAt (w : World) (B : Nat) (k : IntKind) (xs : List Int) : Prop := ∀ o, o < xs.length → w.cell? ⟨B, o, none⟩ = some (.int k (xs.getD o 0))
theorem nums_below {B B' : Nat} {w w' : World} {k : IntKind} {xs : List Int} (h : NumsAt w B k xs) (hb : Below B' w w') (hB : B < B') : NumsAt w' B k xs :=
  fun o ho => by rw [hb.cell (p := ⟨B, o, none⟩) hB]; exact h o ho
theorem nums_alloc {B : Nat} {w : World} {k : IntKind} {xs : List Int} (h : NumsAt w B k xs) (o : Obj) (hB : B < w.heap.size) : NumsAt (w.alloc o) B k xs :=
  nums_below h ((Below.refl w.heap.size w).alloc (Nat.le_refl _) o) hB
theorem nums_grown {B lo hi : Nat} {w w' : World} {v : Value} {k : IntKind} {xs : List Int} (h : NumsAt w B k xs) (hg : w.grownBy w' v.ownBlock) (ha : Apart v lo hi) (h1 : lo ≤ B) (h2 : B < hi) (hB : B < w.heap.size) : NumsAt w' B k xs :=
  fun o ho => by
    have e := hg.block B hB (fun e => ha B e.symm ⟨h1, h2⟩)
    rw [World.cell?_of_block (a := ⟨B, o, none⟩) e]; exact h o ho
/-- What a round with one append leaves. -/
theorem round_q {w wr W0 w' : World} {l v' : Value} {L : List QRow} {lo hi : Nat} (hbw : Below w.heap.size w wr) (hL : OwnT wr w.heap.size l L) (hA : Apart l lo hi) (hh : hi ≤ wr.heap.size) (q2 : W0.grownBy w' l.ownBlock) (q3 : v'.ownBlock = l.ownBlock ∨ v'.ownBlock = some W0.heap.size) (h0 : Below wr.heap.size wr W0) :
    Below w.heap.size w w' ∧ wr.heap.size ≤ w'.heap.size ∧ Apart v' lo hi ∧ ∀ B k xs, lo ≤ B → B < hi → NumsAt wr B k xs → NumsAt w' B k xs := by
  have hz := h0.size
  have hz2 := q2.size
  refine ⟨below_step (grown_below (own_below hL h0) q2 (by have := hbw.size; omega)) (hbw.trans (h0.mono (by have := hbw.size; omega))) (Nat.le_refl _), by omega, apart_next hA (w := W0) (by omega) q3, fun B k xs h1 h2 hN => nums_grown (nums_below hN h0 (by omega)) q2 hA h1 h2 (by omega)⟩
end Go.Proofs.Ytlohpakcikkdmaa
