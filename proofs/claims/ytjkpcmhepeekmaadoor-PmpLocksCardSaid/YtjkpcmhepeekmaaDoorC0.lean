/- Rows of eight in regions that draw their order: loaded, held against each other. -/
import Derived.Test.YtjkpcmhepeekmaaDoorF2
import Derived.Lib.QuietBelow
import Derived.Deep.QuietTactic
import Derived.BigQuiet
import Derived.ChangeKeysEq
namespace Go.Proofs.YtjkpcmhepeekmaaDoor
open Go.ChangeShapes Go.WideShapes Go.ChangeAt Go.RowKit Go.Sort Go.Maps Go.WideMaps
set_option linter.unusedVariables false
set_option linter.unusedSimpArgs false
theorem run_load_row {P : Program} {o : Oper} {a : Act} {w : World} (ty : TypeId) (x : Operand) (ho : o.op = .load ty x) (g : Nat) (hx : a.eval x = .pointer (some ⟨g, 0, none⟩)) (t : TypeId) (cs : Array Value) (fr : Nat × Nat) (d : TypeDesc) (hg : w.heap[g]? = some (.cells cs t fr))
    (hu : P.underlying ty = some d) (hd : (match d with | .struct _ | .array _ _ => true | _ => false) = true) (hi : (P.info? ty).map (·.size) = some cs.size) : (execOp a.eval o).run P w = .ok (.value (.agg cs)) w := by
  unfold execOp
  simp only [ho, hx, Instr.loadAt, Instr.sureAddr, Sem.run_bind, Sem.run_pure, Result.andThen_ok, run_loadVar_row w g t ty cs fr d hg hu hd hi]
theorem row_regrown {w : World} {b : Nat} {t : TypeId} {cs : Array Value} (h : Row w b t cs) (p : Regrown) : Row (grow (redrawn w p.d) p.os) b t cs := h.below (below_regrown w p.d p.os) (by
  apply Nat.lt_of_not_le
  intro hn
  unfold Row at h
  rw [Array.getElem?_eq_none hn] at h; cases h)
theorem quiet_load_row {P : Program} {o : Oper} {a : Act} {W : World} {K : Act → Prop} (ty : TypeId) (x : Operand) (ho : o.op = .load ty x) (g : Nat) (hx : a.eval x = .pointer (some ⟨g, 0, none⟩)) (t : TypeId) (cs : Array Value) (d : TypeDesc) (hg : Row W g t cs)
    (hu : P.underlying ty = some d) (hd : (match d with | .struct _ | .array _ _ => true | _ => false) = true) (hi : (P.info? ty).map (·.size) = some cs.size) (h : K (a.put o.dst (.agg cs))) : o.quiet P a (fun w' => ∃ p : Regrown, w' = grow (redrawn W p.d) p.os) K :=
  ⟨_, fun w hw => by
    obtain ⟨p, rfl⟩ := hw
    unfold Oper.quietAt
    rw [run_load_row ty x ho g hx t cs (0, 0) d (row_regrown hg p) hu hd hi]
    exact ⟨rfl, rfl⟩, h⟩
theorem info_u8 : ∃ i, Tryd.prog.info? 5 = some i := by
  cases h : Tryd.prog.info? 5 with
  | some i => exact ⟨i, rfl⟩
  | none =>
    have : (Tryd.prog.info? 5).isSome = true := by kernel_rfl
    rw [h] at this; cases this
theorem info_u64 : ∃ i, Tryd.prog.info? 23 = some i := by
  cases h : Tryd.prog.info? 23 with
  | some i => exact ⟨i, rfl⟩
  | none =>
    have : (Tryd.prog.info? 23).isSome = true := by kernel_rfl
    rw [h] at this; cases this
theorem one_u8 : Tryd.prog.cellsOf 5 = 1 := by kernel_rfl
theorem one_u64 : Tryd.prog.cellsOf 23 = 1 := by kernel_rfl
theorem items_u8 (w : World) (f : Nat → Nat) (d : Nat) : ∀ l : List Nat, (∀ i, i ∈ l → i < 8) → (Op.eqItems (d + 1) 5 1 (u8s f) (u8s f) l).run Tryd.prog w = .ok true w
  | [], _ => by simp [Op.eqItems]
  | i :: l, h => by
    have hi := h i (List.mem_cons_self)
    have p1 := run_part_plain (P := Tryd.prog) w (e := 5) (by kernel_rfl) (xs := u8s f) (off := i * 1) (by rw [Nat.mul_one]; exact u8s_at f i hi)
    have p3 := run_equalIn_int (P := Tryd.prog) w d 5 .u8 .u8 (f i : Nat) (f i : Nat) Tryd.underlying5
    have ih := items_u8 w f d l (fun j hj => h j (List.mem_cons_of_mem _ hj))
    have e : (((f i : Nat) : Int) == ((f i : Nat) : Int)) = true := by simp
    simp only [Op.eqItems, Sem.run_bind, p1, p3, Result.andThen_ok, e]
    simpa using ih
theorem items_u64 (w : World) (f : Nat → Nat) (d : Nat) : ∀ l : List Nat, (∀ i, i ∈ l → i < 8) → (Op.eqItems (d + 1) 23 1 (u64s f) (u64s f) l).run Tryd.prog w = .ok true w
  | [], _ => by simp [Op.eqItems]
  | i :: l, h => by
    have hi := h i (List.mem_cons_self)
    have p1 := run_part_plain (P := Tryd.prog) w (e := 23) (by kernel_rfl) (xs := u64s f) (off := i * 1) (by rw [Nat.mul_one]; exact u64s_at f i hi)
    have p3 := run_equalIn_int (P := Tryd.prog) w d 23 .u64 .u64 (f i : Nat) (f i : Nat) Tryd.underlying23
    have ih := items_u64 w f d l (fun j hj => h j (List.mem_cons_of_mem _ hj))
    have e : (((f i : Nat) : Int) == ((f i : Nat) : Int)) = true := by simp
    simp only [Op.eqItems, Sem.run_bind, p1, p3, Result.andThen_ok, e]
    simpa using ih
theorem run_eq_u8s (w : World) (f : Nat → Nat) : (Op.equal 22 (.agg (u8s f)) (.agg (u8s f))).run Tryd.prog w = .ok true w := by
  obtain ⟨i, hi⟩ := info_u8
  unfold Op.equal
  rw [show Op.maxDepth = 9999 + 1 from rfl, run_equalIn_array w 9999 (u8s f) (u8s f) Tryd.underlying22 hi, one_u8]
  exact items_u8 w f 9998 _ (fun j hj => List.mem_range.1 hj)
theorem run_eq_u64s (w : World) (f : Nat → Nat) : (Op.equal 24 (.agg (u64s f)) (.agg (u64s f))).run Tryd.prog w = .ok true w := by
  obtain ⟨i, hi⟩ := info_u64
  unfold Op.equal
  rw [show Op.maxDepth = 9999 + 1 from rfl, run_equalIn_array w 9999 (u64s f) (u64s f) Tryd.underlying24 hi, one_u64]
  exact items_u64 w f 9998 _ (fun j hj => List.mem_range.1 hj)
theorem quiet_eq_u8s {o : Oper} {a : Act} {C : World → Prop} {K : Act → Prop} (x y : Operand) (t : TypeId) (ho : o.op = .binOp .eql 22 x y t) (f : Nat → Nat)
    (hx : a.eval x = .agg (u8s f)) (hy : a.eval y = .agg (u8s f)) (h : K (a.put o.dst (.bool true))) : o.quiet Tryd.prog a C K :=
  ⟨_, fun w _ => by
    have h1 : (do eqGuard .eql 22 x y (.agg (u8s f)) (.agg (u8s f)); binOp .eql 22 (.agg (u8s f)) (.agg (u8s f)) : Sem Value).run Tryd.prog w = .ok (.bool true) w := by
      rw [Sem.run_bind, run_eqGuard_agg w .eql 22 x y _ _ Tryd.eqGuardType22, Result.andThen_ok]
      simp only [binOp, Sem.run_bind, run_eq_u8s w f, Result.andThen_ok]
      rfl
    have h2 : (execOp a.eval o).run Tryd.prog w = .ok (.value (.bool true)) w := by
      unfold execOp
      simp only [ho, hx, hy]
      rw [Sem.run_bind, h1]; rfl
    unfold Oper.quietAt; rw [h2]; exact ⟨rfl, rfl⟩, h⟩
theorem quiet_eq_u64s {o : Oper} {a : Act} {C : World → Prop} {K : Act → Prop} (x y : Operand) (t : TypeId) (ho : o.op = .binOp .eql 24 x y t) (f : Nat → Nat)
    (hx : a.eval x = .agg (u64s f)) (hy : a.eval y = .agg (u64s f)) (h : K (a.put o.dst (.bool true))) : o.quiet Tryd.prog a C K :=
  ⟨_, fun w _ => by
    have h1 : (do eqGuard .eql 24 x y (.agg (u64s f)) (.agg (u64s f)); binOp .eql 24 (.agg (u64s f)) (.agg (u64s f)) : Sem Value).run Tryd.prog w = .ok (.bool true) w := by
      rw [Sem.run_bind, run_eqGuard_agg w .eql 24 x y _ _ Tryd.eqGuardType24, Result.andThen_ok]
      simp only [binOp, Sem.run_bind, run_eq_u64s w f, Result.andThen_ok]
      rfl
    have h2 : (execOp a.eval o).run Tryd.prog w = .ok (.value (.bool true)) w := by
      unfold execOp
      simp only [ho, hx, hy]
      rw [Sem.run_bind, h1]; rfl
    unfold Oper.quietAt; rw [h2]; exact ⟨rfl, rfl⟩, h⟩
/-- A callee's contract in every world of the class. -/
theorem below_regrown2 {w : World} {B : Nat} (h : Below B w w) (p : Regrown) (hB : B ≤ w.heap.size) : Below B w (grow (redrawn w p.d) p.os) := (below_regrown w p.d p.os).mono hB
theorem g_regrown {w : World} (h : G w) (dd : Nat) (os : Array Obj) : G (grow (redrawn w dd) os) := g_below h (below_regrown w dd os) h.1
theorem q_b {w : World} {f : FuncId} {args : Array Value} {b : Bool} {dd : Nat} {os : Array Obj} (h : Calls Tryd.prog f args (grow (redrawn w dd) os) (RetB b (grow (redrawn w dd) os))) :
    Calls Tryd.prog f args (grow (redrawn w dd) os) fun e w'' => e = .returned (.bool b) ∧ ∃ p : Regrown, w'' = grow (redrawn w p.d) p.os := Calls.regrown_of h
theorem q_a {w : World} {f : FuncId} {args : Array Value} {cs : Array Value} {dd : Nat} {os : Array Obj} (h : Calls Tryd.prog f args (grow (redrawn w dd) os) (RetA cs (grow (redrawn w dd) os))) :
    Calls Tryd.prog f args (grow (redrawn w dd) os) fun e w'' => e = .returned (.agg cs) ∧ ∃ p : Regrown, w'' = grow (redrawn w p.d) p.os := Calls.regrown_of h
end Go.Proofs.YtjkpcmhepeekmaaDoor
