/- Rows, own blocks, things side by side. -/
import Derived.Test.YtdplcdgdndeopaaProg
import Derived.WalkKit
import Derived.Deep.QuietTactic
import Derived.BigQuiet
import Derived.ProofKit
import Derived.OpenShut
import Derived.WalkLawsBesides
import Derived.WalkSpells
import Derived.RegionTactic
import Derived.ChangeAlike
import Derived.Outline
import Derived.Laws.Externs
import Derived.Lib.Hide
import Derived.Laws.Bits64
import Derived.Laws.Bits64b
import Derived.LoopTactic
import Derived.Deep.LoopGhost
import Derived.Laws.Rows
import Derived.Lib.QuietBelow
import Derived.Deep.Cut
import Derived.Deep.DeepCutAuto
import Derived.Deep.CutBlock
import Derived.LoopN
namespace Go.Proofs.Ytdplcdgdndeopaa
open Go.ChangeShapes Go.WideShapes Go.ChangeAt Go.RowKit Go.Sort
set_option linter.unusedVariables false
set_option linter.unusedSimpArgs false
set_option maxRecDepth 20000
theorem le_below {n B : Nat} {w w' : World} (hb : Below B w w') (h : n ≤ w.heap.size) : n ≤ w'.heap.size := Nat.le_trans h hb.size
theorem below_step {B B' : Nat} {w w1 w2 : World} (hb : Below B' w1 w2) (h : Below B w w1) (hB : B ≤ B') : Below B w w2 := h.trans (hb.mono hB)
theorem below_drewN {B : Nat} {w w' : World} (h : Below B w w') (n : Nat) : Below B w (w'.drewN n) := ⟨h.os, h.tape, h.output, h.size, h.block⟩
theorem le_drew {n : Nat} {w : World} (h : n ≤ w.heap.size) : n ≤ w.drew.heap.size := h
theorem le_drewN {n k : Nat} {w : World} (h : n ≤ w.heap.size) : n ≤ (w.drewN k).heap.size := h
theorem sz_drewN (w : World) (k : Nat) : (w.drewN k).heap.size = w.heap.size := rfl
theorem sz_drew (w : World) : w.drew.heap.size = w.heap.size := rfl
def RetB (b : Bool) (W : World) (e : Ending) (w' : World) : Prop := e = .returned (.bool b) ∧ Below W.heap.size W w'
theorem retB_mk {a b : Bool} {W w' : World} (h : a = b) (hb : Below W.heap.size W w') : RetB b W (.returned (.bool a)) w' := ⟨by rw [h], hb⟩
theorem sz_alloc (w : World) (o : Obj) : (w.alloc o).heap.size = w.heap.size + 1 := by simp
theorem sz_set (w : World) (p : Addr) (u : Value) : (w.setCell p u).heap.size = w.heap.size := by simp [World.setCell]
theorem bcell {W w1 : World} (hb : Below W.heap.size W w1) : (∀ b o, b < W.heap.size → w1.cell? ⟨b, o, none⟩ = W.cell? ⟨b, o, none⟩) ∧ (∀ b o, b < W.heap.size → w1.frozen? ⟨b, o, none⟩ = W.frozen? ⟨b, o, none⟩) :=
  ⟨fun b o h => hb.cell (p := ⟨b, o, none⟩) h, fun b o h => hb.frozen (p := ⟨b, o, none⟩) h⟩
def RetBX (b : Bool) (W : World) (e : Ending) (w' : World) : Prop := e = .returned (.bool b) ∧ W = w'
def RetUX (n : Nat) (W : World) (e : Ending) (w' : World) : Prop := e = .returned (.int .u64 n) ∧ W = w'
def RetIX (n : Int) (W : World) (e : Ending) (w' : World) : Prop := e = .returned (.int .i64 n) ∧ W = w'
theorem retBX_mk {a b : Bool} {W : World} (h : a = b) : RetBX b W (.returned (.bool a)) W := ⟨by rw [h], rfl⟩
theorem retUX_mk {a : Int} {b : Nat} {W : World} (h : a = b) : RetUX b W (.returned (.int .u64 a)) W := ⟨by rw [h], rfl⟩
theorem retIX_mk {a b : Int} {W : World} (h : a = b) : RetIX b W (.returned (.int .i64 a)) W := ⟨by rw [h], rfl⟩
def Row (w : World) (b : Nat) (t : TypeId) (cs : Array Value) : Prop := w.heap[b]? = some (.cells cs t (0, 0))
theorem Row.below {w w' : World} {b : Nat} {t : TypeId} {cs : Array Value} {B : Nat} (h : Row w b t cs) (hb : Below B w w') (hB : b < B) : Row w' b t cs := by
  unfold Row; rw [hb.block b hB]; exact h
theorem row_new (w : World) (cs : Array Value) (t : TypeId) : Row (w.alloc (Obj.cells cs t)) w.heap.size t cs := heap_alloc_new w _
theorem row_old {w : World} {b : Nat} {t : TypeId} {cs : Array Value} (h : Row w b t cs) (o : Obj) : Row (w.alloc o) b t cs := by
  unfold Row
  have hb : b < w.heap.size := by
    apply Nat.lt_of_not_le
    intro hn
    unfold Row at h
    rw [Array.getElem?_eq_none hn] at h; cases h
  exact (heap_alloc_old w o hb).trans h
theorem Row.cell {w : World} {b : Nat} {t : TypeId} {cs : Array Value} (h : Row w b t cs) (o : Nat) : w.cell? ⟨b, o, none⟩ = cs[o]? := cell_of_row w b o cs t (0, 0) h
theorem Row.set {w : World} {b : Nat} {t : TypeId} {cs : Array Value} (h : Row w b t cs) (n : Nat) (v : Value) : Row (w.setCell ⟨b, n, none⟩ v) b t (cs.setIfInBounds n v) := by
  unfold Row at h ⊢
  show (w.heap.modify b _)[b]? = _
  rw [Array.getElem?_modify, if_pos rfl, h]; rfl
theorem Row.fz {w : World} {b : Nat} {t : TypeId} {cs : Array Value} (h : Row w b t cs) (n : Nat) : w.frozen? ⟨b, n, none⟩ = false := by
  unfold Row at h; unfold World.frozen?; simp only [h]; simp
theorem Row.set_ne {w : World} {b b' : Nat} {t : TypeId} {cs : Array Value} (h : Row w b t cs) (hb : b' ≠ b) (n : Nat) (v : Value) : Row (w.setCell ⟨b', n, none⟩ v) b t cs := by
  unfold Row at h ⊢
  show (w.heap.modify b' _)[b]? = _
  rw [Array.getElem?_modify, if_neg hb, h]
theorem Row.setRow {w : World} {b : Nat} {t : TypeId} {cs : Array Value} (h : Row w b t cs) (cs' : Array Value) : Row (w.setRow b cs') b t cs' := by
  unfold Row at h ⊢
  show (w.heap.modify b _)[b]? = _
  rw [Array.getElem?_modify, if_pos rfl, h]; rfl
theorem Row.setRow_ne {w : World} {b b' : Nat} {t : TypeId} {cs : Array Value} (h : Row w b t cs) (hb : b' ≠ b) (cs' : Array Value) : Row (w.setRow b' cs') b t cs := by
  unfold Row at h ⊢
  show (w.heap.modify b' _)[b]? = _
  rw [Array.getElem?_modify, if_neg hb, h]
theorem sz_setRow (w : World) (g : Nat) (cs : Array Value) : (w.setRow g cs).heap.size = w.heap.size := by
  show (w.heap.modify g _).size = _
  simp
theorem below_setRow {B : Nat} {w w' : World} (h : Below B w w') {g : Nat} (hg : B ≤ g) (cs : Array Value) : Below B w (w'.setRow g cs) :=
  ⟨h.os, h.tape, h.output, by rw [sz_setRow]; exact h.size, fun k hk => by
    show (w'.heap.modify g _)[k]? = _
    rw [Array.getElem?_modify, if_neg (by omega)]; exact h.block k hk⟩
theorem u64_of_wf {a : Int} (h : (Lit.int .u64 a).wf = true) : ∃ n : Nat, a = n ∧ Hid (n < 18446744073709551616) := by
  simp [Lit.wf, IntKind.min, IntKind.max, IntKind.signed, IntKind.bits] at h
  obtain ⟨h0, h1⟩ := h
  exact ⟨a.toNat, by omega, by show _ < _; omega⟩
theorem run_load_row {P : Program} {o : Oper} {a : Act} {w : World} (ty : TypeId) (x : Operand) (ho : o.op = .load ty x) (g : Nat) (hx : a.eval x = .pointer (some ⟨g, 0, none⟩)) (t : TypeId) (cs : Array Value) (fr : Nat × Nat) (d : TypeDesc) (hg : w.heap[g]? = some (.cells cs t fr))
    (hu : P.underlying ty = some d) (hd : (match d with | .struct _ | .array _ _ => true | _ => false) = true) (hi : (P.info? ty).map (·.size) = some cs.size) : (execOp a.eval o).run P w = .ok (.value (.agg cs)) w := by
  unfold execOp
  simp only [ho, hx, Instr.loadAt, Instr.sureAddr, Sem.run_bind, Sem.run_pure, Result.andThen_ok, run_loadVar_row w g t ty cs fr d hg hu hd hi]
theorem row_regrown {w : World} {b : Nat} {t : TypeId} {cs : Array Value} (h : Row w b t cs) (p : Regrown) : Row (grow (redrawn w p.d) p.os) b t cs := h.below (below_regrown w p.d p.os) (by
  apply Nat.lt_of_not_le
  intro hn
  unfold Row at h
  rw [Array.getElem?_eq_none hn] at h; cases h)
theorem quiet_load_row {P : Program} {o : Oper} {a : Act} {W : World} {K : Act → Prop} (ty : TypeId) (x : Operand) (ho : o.op = .load ty x) (g : Nat) (hx : a.eval x = .pointer (some ⟨g, 0, none⟩)) (t : TypeId) (cs : Array Value) (d : TypeDesc) (hg : Row W g t cs)
    (hu : P.underlying ty = some d) (hd : (match d with | .struct _ | .array _ _ => true | _ => false) = true) (hi : (P.info? ty).map (·.size) = some cs.size) (h : K (a.put o.dst (.agg cs))) : o.quiet P a (fun w' => ∃ p : Regrown, w' = grow (redrawn W p.d) p.os) K :=
  ⟨_, fun w hw => by
    obtain ⟨p, rfl⟩ := hw
    unfold Oper.quietAt
    rw [run_load_row ty x ho g hx t cs (0, 0) d (row_regrown hg p) hu hd hi]
    exact ⟨rfl, rfl⟩, h⟩
theorem q_b {w : World} {f : FuncId} {args : Array Value} {b : Bool} {dd : Nat} {os : Array Obj} (h : Calls Try.prog f args (grow (redrawn w dd) os) (RetB b (grow (redrawn w dd) os))) :
    Calls Try.prog f args (grow (redrawn w dd) os) fun e w'' => e = .returned (.bool b) ∧ ∃ p : Regrown, w'' = grow (redrawn w p.d) p.os := Calls.regrown_of h
theorem cast_beq (a b : Nat) : (((a : Nat) : Int) == ((b : Nat) : Int)) = (a == b) := by
  rw [Bool.eq_iff_iff]; simp; omega
theorem wpList_store_rowP {P : Program} {ops : Array Oper} {rest : List Oper} {o : Oper} {a : Act} {w : World} {Q : Exit → Act → World → Prop} (p : World → Prop) (hgd : o.guard = none) (ty : TypeId) (x y : Operand) (ho : o.op = .store ty x y)
    (g : Nat) (cells : Array Value) (hx : a.eval x = .pointer (some ⟨g, 0, none⟩)) (hy : a.eval y = .agg cells)
    (t : TypeId) (old : Array Value) (hg : w.heap[g]? = some (.cells old t (0, 0))) (hi : (P.info? ty).map (·.size) = some cells.size)
    (hold : old.size = cells.size) (h1 : cells.all (·.oneCell') = true) (hp : p (w.setRow g cells))
    (h : ∀ w', p w' → wpList P ops Q rest (a.put o.dst undef) w') : wpList P ops Q (o :: rest) a w := wpList_store_row hgd ty x y ho g cells hx hy t old hg hi hold h1 (h _ hp)
theorem le_alloc {n : Nat} {w : World} {o : Obj} (h : n ≤ w.heap.size) : n ≤ (w.alloc o).heap.size := by rw [sz_alloc]; omega
theorem le_set {n : Nat} {w : World} {p : Addr} {u : Value} (h : n ≤ w.heap.size) : n ≤ (w.setCell p u).heap.size := by rw [sz_set]; exact h
structure Own (S : Nat → Prop) (w w' : World) : Prop where
  os : w'.os = w.os
  tape : w'.tape = w.tape
  output : w'.output = w.output
  size : w.heap.size ≤ w'.heap.size
  block : ∀ i, i < w.heap.size → ¬ S i → w'.heap[i]? = w.heap[i]?
theorem Own.refl (S : Nat → Prop) (w : World) : Own S w w := ⟨rfl, rfl, rfl, Nat.le_refl _, fun _ _ _ => rfl⟩
theorem Own.trans {S : Nat → Prop} {a b c : World} (h : Own S a b) (k : Own S b c) : Own S a c :=
  ⟨k.os.trans h.os, k.tape.trans h.tape, k.output.trans h.output, Nat.le_trans h.size k.size, fun i hi hn => (k.block i (Nat.lt_of_lt_of_le hi h.size) hn).trans (h.block i hi hn)⟩
theorem Own.grown {S : Nat → Prop} {a b : World} {k : Nat} (h : a.grownBy b (some k)) (hk : S k) : Own S a b :=
  ⟨h.os, h.tape, h.output, h.size, fun i hi hn => h.block i hi (by intro e; injection e with e; subst e; exact hn hk)⟩
theorem Own.below {S : Nat → Prop} {a b : World} (h : Below a.heap.size a b) : Own S a b := ⟨h.os, h.tape, h.output, h.size, fun i hi _ => h.block i hi⟩
theorem Own.more {S T : Nat → Prop} {a b : World} (h : Own S a b) (hT : ∀ i, S i → T i) : Own T a b := ⟨h.os, h.tape, h.output, h.size, fun i hi hn => h.block i hi (fun q => hn (hT i q))⟩
theorem Own.trans2 {S T : Nat → Prop} {a b c : World} (h : Own S a b) (k : Own T b c) (hT : ∀ i, T i → S i ∨ a.heap.size ≤ i) : Own S a c :=
  ⟨k.os.trans h.os, k.tape.trans h.tape, k.output.trans h.output, Nat.le_trans h.size k.size, fun i hi hn => (k.block i (Nat.lt_of_lt_of_le hi h.size) (fun q => (hT i q).elim hn (fun q => absurd hi (by omega)))).trans (h.block i hi hn)⟩
theorem Own.under {S : Nat → Prop} {a b c : World} {B : Nat} (h : Below B a b) (k : Own S b c) (hS : ∀ i, S i → B ≤ i) (hB : B ≤ b.heap.size) : Below B a c :=
  ⟨k.os.trans h.os, k.tape.trans h.tape, k.output.trans h.output, Nat.le_trans h.size k.size, fun i hi => (k.block i (Nat.lt_of_lt_of_le hi hB) (fun q => by have := hS i q; omega)).trans (h.block i hi)⟩
theorem Own.row {S : Nat → Prop} {a b : World} {g : Nat} {t : TypeId} {ce : Array Value} (h : Own S a b) (hr : Row a g t ce) (hg : g < a.heap.size) (hS : ¬ S g) : Row b g t ce := (h.block g hg hS).trans hr
theorem own_set {S : Nat → Prop} {a b : World} (h : Own S a b) (g k : Nat) (v : Value) (hg : S g) : Own S a (b.setCell ⟨g, k, none⟩ v) :=
  ⟨h.os, h.tape, h.output, by rw [sz_set]; exact h.size, fun i hi hn => by rw [Below.heap_setCell b ⟨g, k, none⟩ v i (fun e => hn (by rw [e]; exact hg))]; exact h.block i hi hn⟩
theorem own_alloc {S : Nat → Prop} {a b : World} (h : Own S a b) (o : Obj) : Own S a (b.alloc o) := h.trans2 (Own.below ((Below.refl b.heap.size b).alloc (Nat.le_refl _) _) (S := fun _ => False)) (fun i q => q.elim)
/-- A thing: what its blocks hold. -/
structure Th where
  P : (Nat → Prop) → World → Prop
  kept : ∀ {S T : Nat → Prop} {w w' : World}, P S w → Own T w w' → (∀ i, S i → ¬ T i) → P S w'
  lt : ∀ {S : Nat → Prop} {w : World}, P S w → ∀ i, S i → i < w.heap.size
theorem Th.below (E : Th) {S : Nat → Prop} {w w' : World} (h : E.P S w) (hb : Below w.heap.size w w') : E.P S w' := E.kept h (Own.below hb (S := fun _ => False)) (fun _ _ q => q)
/-- Things side by side, newer than w0. -/
structure GrpAt (w0 : World) (l : List Th) (S : Nat → Nat → Prop) (w : World) : Prop where
  each : ∀ (i : Nat) (E : Th), l[i]? = some E → E.P (S i) w
  dj : ∀ i j, i < l.length → j < l.length → i ≠ j → ∀ k, S i k → ¬ S j k
  new : ∀ i, i < l.length → ∀ k, S i k → w0.heap.size ≤ k
  out : Below w0.heap.size w0 w
def Grp (w0 : World) (l : List Th) (w : World) : Prop := ∃ S : Nat → Nat → Prop, GrpAt w0 l S w
theorem len_of {l : List Th} {i : Nat} {E : Th} (hi : l[i]? = some E) : i < l.length := (List.getElem?_eq_some_iff.1 hi).1
theorem grp_nil {w0 w : World} (hb : Below w0.heap.size w0 w) : Grp w0 [] w := ⟨fun _ _ => False, ⟨fun i E h => by simp at h, fun i j h => absurd h (Nat.not_lt_zero _), fun i h => absurd h (Nat.not_lt_zero _), hb⟩⟩
section
variable {w0 w w' : World} {l : List Th} {E E' : Th}
theorem Grp.out (h : Grp w0 l w) : Below w0.heap.size w0 w := h.choose_spec.out
theorem Grp.get (h : Grp w0 l w) (i : Nat) (hi : l[i]? = some E) : ∃ S, E.P S w := ⟨_, h.choose_spec.each i E hi⟩
theorem Grp.below (h : Grp w0 l w) (hb : Below w.heap.size w w') : Grp w0 l w' := by
  obtain ⟨S, h⟩ := h
  exact ⟨S, fun i E hi => E.below (h.each i E hi) hb, h.dj, h.new, below_step hb h.out h.out.size⟩
/-- What a call upon a thing leaves. -/
def Upd (v : Value) (E : Th) (S : Nat → Prop) (w : World) (e : Ending) (w' : World) : Prop := e = .returned v ∧ ∃ S', E.P S' w' ∧ Own S w w' ∧ ∀ k, S' k → S k ∨ w.heap.size ≤ k
theorem GrpAt.set {S : Nat → Nat → Prop} {S' : Nat → Prop} (h : GrpAt w0 l S w) (i : Nat) (hi : l[i]? = some E) (c1 : E'.P S' w') (c2 : Own (S i) w w') (c3 : ∀ k, S' k → S i k ∨ w.heap.size ≤ k) : Grp w0 (l.set i E') w' := by
  have hl := len_of hi
  refine ⟨fun k => if k = i then S' else S k, fun j F hj => ?_, fun a b ha hb hab k q1 q2 => ?_, fun a ha k q => ?_, Own.under h.out c2 (h.new i hl) h.out.size⟩
  · by_cases e : j = i
    · subst e
      rw [List.getElem?_set_self hl] at hj
      obtain rfl := Option.some.inj hj
      simp only [if_true]; exact c1
    · rw [List.getElem?_set_ne (Ne.symm e)] at hj
      simp only [if_neg e]
      exact F.kept (h.each j F hj) c2 (fun k q => h.dj j i (len_of hj) hl e k q)
  · rw [List.length_set] at ha hb
    by_cases ea : a = i
    · subst ea
      have eb : b ≠ a := Ne.symm hab
      simp only [if_true, if_neg eb] at q1 q2
      rcases c3 k q1 with q | q
      · exact h.dj a b ha hb hab k q q2
      · obtain ⟨F, hF⟩ : ∃ F, l[b]? = some F := ⟨_, List.getElem?_eq_getElem hb⟩
        have := F.lt (h.each b F hF) k q2; omega
    · by_cases eb : b = i
      · subst eb
        simp only [if_true, if_neg ea] at q1 q2
        rcases c3 k q2 with q | q
        · exact h.dj a b ha hb hab k q1 q
        · obtain ⟨F, hF⟩ : ∃ F, l[a]? = some F := ⟨_, List.getElem?_eq_getElem ha⟩
          have := F.lt (h.each a F hF) k q1; omega
      · simp only [if_neg ea, if_neg eb] at q1 q2
        exact h.dj a b ha hb hab k q1 q2
  · rw [List.length_set] at ha
    by_cases e : a = i
    · subst e
      simp only [if_true] at q
      rcases c3 k q with q | q
      · exact h.new a ha k q
      · exact Nat.le_trans h.out.size q
    · simp only [if_neg e] at q
      exact h.new a ha k q
theorem Grp.step (h : Grp w0 l w) (i : Nat) (hi : l[i]? = some E) (E' : Th) {f : FuncId} {args : Array Value} {v : Value} (hc : ∀ S, E.P S w → Calls Try.prog f args w (Upd v E' S w)) :
    Calls Try.prog f args w (fun e w' => e = .returned v ∧ Grp w0 (l.set i E') w') := by
  obtain ⟨S, h⟩ := h
  refine (hc _ (h.each i E hi)).mono ?_
  rintro e w' ⟨rfl, S', c1, c2, c3⟩
  exact ⟨rfl, h.set i hi c1 c2 c3⟩
/-- One more, of new blocks. -/
theorem Grp.push (h : Grp w0 l w) (hb : Below w.heap.size w w') {S1 : Nat → Prop} (hE : E.P S1 w') (hn : ∀ k, S1 k → w.heap.size ≤ k) : Grp w0 (l ++ [E]) w' := by
  obtain ⟨S, h⟩ := h
  have hlt : ∀ a, a < l.length → ∀ k, S a k → k < w.heap.size := fun a ha k q => by
    obtain ⟨F, hF⟩ : ∃ F, l[a]? = some F := ⟨_, List.getElem?_eq_getElem ha⟩
    exact F.lt (h.each a F hF) k q
  refine ⟨fun k => if k = l.length then S1 else S k, fun j F hj => ?_, fun a b ha hb2 hab k q1 q2 => ?_, fun a ha k q => ?_, below_step hb h.out h.out.size⟩
  · by_cases e : j = l.length
    · subst e
      rw [List.getElem?_append_right (Nat.le_refl _), Nat.sub_self] at hj
      obtain rfl : E = F := by simpa using hj
      simp only [if_true]; exact hE
    · have hl : j < l.length := by have := (List.getElem?_eq_some_iff.1 hj).1; rw [List.length_append] at this; simp at this; omega
      rw [List.getElem?_append_left hl] at hj
      simp only [if_neg e]
      exact F.below (h.each j F hj) hb
  · rw [List.length_append] at ha hb2
    simp at ha hb2
    by_cases ea : a = l.length
    · have eb : ¬ b = l.length := by omega
      simp only [if_pos ea, if_neg eb] at q1 q2
      have := hn k q1
      have := hlt b (by omega) k q2
      omega
    · by_cases eb : b = l.length
      · simp only [if_pos eb, if_neg ea] at q1 q2
        have := hn k q2
        have := hlt a (by omega) k q1
        omega
      · simp only [if_neg ea, if_neg eb] at q1 q2
        exact h.dj a b (by omega) (by omega) hab k q1 q2
  · rw [List.length_append] at ha
    simp at ha
    by_cases e : a = l.length
    · simp only [if_pos e] at q
      exact Nat.le_trans h.out.size (hn k q)
    · simp only [if_neg e] at q
      exact h.new a (by omega) k q
/-- Some of them alone. -/
theorem Grp.pick (h : Grp w0 l w) (l' : List Th) (ix : Nat → Nat) (hi : ∀ i E, l'[i]? = some E → l[ix i]? = some E) (hx : ∀ i j, i < l'.length → j < l'.length → i ≠ j → ix i ≠ ix j) : Grp w0 l' w := by
  obtain ⟨S, h⟩ := h
  have hl : ∀ i, i < l'.length → ix i < l.length := fun i hh => by
    obtain ⟨F, hF⟩ : ∃ F, l'[i]? = some F := ⟨_, List.getElem?_eq_getElem hh⟩
    exact len_of (hi i F hF)
  exact ⟨fun k => S (ix k), fun i E q => h.each _ E (hi i E q), fun i j a b c k q1 q2 => h.dj _ _ (hl i a) (hl j b) (hx i j a b c) k q1 q2, fun i a k q => h.new _ (hl i a) k q, h.out⟩
end
end Go.Proofs.Ytdplcdgdndeopaa
