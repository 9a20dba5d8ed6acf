/- Taken from other texts: what is needed of them. -/
import Derived.Test.YthhlcchofilimaaDoorYA
import Derived.Test.YthhlcchofilimaaDoorRows
import Derived.ProofKit
import Derived.OpenShut
import Derived.ChangeSame
import Derived.LaidMore
import Derived.Stop.Joined
import Derived.Deep.Strs
import Derived.Lib.LaidTab
import Derived.Lib.SmallJoins
import Derived.Lib.QuietBelow
import Derived.Deep.QuietTactic
import Derived.BigQuiet
import Derived.ChangeKeysEq
namespace Go.Proofs.YthhlcchofilimaaDoor.Y
set_option linter.unusedVariables false
set_option linter.unusedSimpArgs false
set_option maxRecDepth 20000
open Go.ChangeShapes Go.WideShapes Go.ChangeAt Go.RowKit
theorem mode_beq (mode : Int) : (mode == 3) = decide (mode = 3) := by rw [Bool.eq_iff_iff]; simp
theorem chk_y {c a : Nat → Nat} {mode kind : Int} {x : Nat} {size : Int} {k s : Nat} (h : Acc kind x size k s) : chkB c a mode kind x size = goF c a (decide (mode = 3)) k x (x + s - 1) 8 := by
  unfold chkB
  rw [acc_k h]
  obtain ⟨rfl, h1, rfl, h2, h3⟩ := h
  rfl
theorem chk_n {c a : Nat → Nat} {mode kind : Int} {x : Nat} {size : Int} (h : accB kind x size = false) : chkB c a mode kind x size = false := by unfold chkB; rw [h]; rfl
theorem Check_c (c a : Nat → Nat) (mode kind : Int) (x : Nat) (size : Int) (hc : Hid (OkC c)) (ha : Hid (OkA a)) (hx : Hid (x < 18446744073709551616)) (w : World) (hG : Hid (G w)) :
    Calls Tryd.prog 48 #[.agg (u8s c), .agg (u64s a), .int .i64 mode, .int .i64 kind, .int .u64 x, .int .i64 size] w (RetB (chkB c a mode kind x size) w) := by
  cases h : accB kind x size with
  | false => rw [chk_n h]; exact Check_n c a mode kind x size h hx w
  | true =>
    obtain ⟨k, s, hk⟩ := acc_y h
    rw [chk_y hk]
    exact Check_y c a mode kind x size k s hk hc ha hx _ (mode_beq mode) w hG
end Go.Proofs.YthhlcchofilimaaDoor.Y
namespace Go.Proofs.YthhlcchofilimaaDoor.Y
set_option linter.unusedVariables false
set_option linter.unusedSimpArgs false
set_option maxRecDepth 20000
open Go.ChangeShapes Go.WideShapes Go.ChangeAt Go.RowKit
def setN (c : Nat → Nat) (n v k : Nat) : Nat := bif k == n then v else c k
theorem Row.set {w : World} {b : Nat} {t : TypeId} {cs : Array Value} (h : Row w b t cs) (n : Nat) (v : Value) : Row (w.setCell ⟨b, n, none⟩ v) b t (cs.setIfInBounds n v) := by
  unfold Row at h ⊢
  show (w.heap.modify b _)[b]? = _
  rw [Array.getElem?_modify, if_pos rfl, h]; rfl
theorem Row.fz {w : World} {b : Nat} {t : TypeId} {cs : Array Value} (h : Row w b t cs) (n : Nat) : w.frozen? ⟨b, n, none⟩ = false := by
  unfold Row at h; unfold World.frozen?; simp only [h]; simp
theorem Row.set_ne {w : World} {b b' : Nat} {t : TypeId} {cs : Array Value} (h : Row w b t cs) (hb : b' ≠ b) (n : Nat) (v : Value) : Row (w.setCell ⟨b', n, none⟩ v) b t cs := by
  unfold Row at h ⊢
  show (w.heap.modify b' _)[b]? = _
  rw [Array.getElem?_modify, if_neg hb, h]
theorem Row.setRow {w : World} {b : Nat} {t : TypeId} {cs : Array Value} (h : Row w b t cs) (cs' : Array Value) : Row (w.setRow b cs') b t cs' := by
  unfold Row at h ⊢
  show (w.heap.modify b _)[b]? = _
  rw [Array.getElem?_modify, if_pos rfl, h]; rfl
theorem Row.setRow_ne {w : World} {b b' : Nat} {t : TypeId} {cs : Array Value} (h : Row w b t cs) (hb : b' ≠ b) (cs' : Array Value) : Row (w.setRow b' cs') b t cs := by
  unfold Row at h ⊢
  show (w.heap.modify b' _)[b]? = _
  rw [Array.getElem?_modify, if_neg hb, h]
theorem sz_setRow (w : World) (g : Nat) (cs : Array Value) : (w.setRow g cs).heap.size = w.heap.size := by
  show (w.heap.modify g _).size = _
  simp
theorem below_setRow {B : Nat} {w w' : World} (h : Below B w w') {g : Nat} (hg : B ≤ g) (cs : Array Value) : Below B w (w'.setRow g cs) :=
  ⟨h.os, h.tape, h.output, by rw [sz_setRow]; exact h.size, fun k hk => by
    show (w'.heap.modify g _)[k]? = _
    rw [Array.getElem?_modify, if_neg (by omega)]; exact h.block k hk⟩
end Go.Proofs.YthhlcchofilimaaDoor.Y
namespace Go.Proofs.YthhlcchofilimaaDoor.Y
set_option linter.unusedVariables false
set_option linter.unusedSimpArgs false
set_option maxRecDepth 20000
open Go.ChangeShapes Go.WideShapes Go.ChangeAt Go.RowKit
/-- Three rows, one behind the other. -/
theorem rows3 (w : World) (x y z : Array Value) (t u v : TypeId) : Row (((w.alloc (Obj.cells x t)).alloc (Obj.cells y u)).alloc (Obj.cells z v)) w.heap.size t x ∧
    Row (((w.alloc (Obj.cells x t)).alloc (Obj.cells y u)).alloc (Obj.cells z v)) (w.heap.size + 1) u y ∧ Row (((w.alloc (Obj.cells x t)).alloc (Obj.cells y u)).alloc (Obj.cells z v)) (w.heap.size + 2) v z := by
  have h2 := row_new (w.alloc (Obj.cells x t)) y u
  have h3 := row_new ((w.alloc (Obj.cells x t)).alloc (Obj.cells y u)) z v
  rw [sz_alloc] at h2
  rw [sz_alloc, sz_alloc] at h3
  exact ⟨row_old (row_old (row_new _ _ _) _) _, row_old h2 _, h3⟩
end Go.Proofs.YthhlcchofilimaaDoor.Y
namespace Go.Proofs.YthhlcchofilimaaDoor.Y
set_option linter.unusedVariables false
set_option linter.unusedSimpArgs false
set_option maxRecDepth 20000
open Go.ChangeShapes Go.WideShapes Go.ChangeAt Go.RowKit Go.WideMaps Go.WideElems Go.Joins Go.Deep
theorem post_nums {H : Type} {enc : TypeId × Value → H} {P : Program} {f : Func} {s : ChangeSpec} {apart fresh handsOn again : Bool} {W W' : World} {args : Array Value} {v : Value} {ds gs : List (DataW H)}
    (hW : DataW.Whole enc P f.params.toList s.vars apart W args.toList ds gs [])
    (hr : ∀ (b : Nat) (sp : Nat → Bool) (hd : Bool), DataW.TrodAll enc P W' b sp hd f.resultTypes.toList (v.resultList f.resultTypes.size) (s.fn H (ds ++ gs)).results [])
    (ha : ∀ sp : Nat → Bool, DataW.TrodAll enc P W' 0 sp true f.params.toList args.toList (s.fn H (ds ++ gs)).args [])
    (hv : ∀ sp : Nat → Bool, DataW.TrodVars enc P W' sp s.vars (s.fn H (ds ++ gs)).vars [])
    (hb : Below W.heap.size W W')
    (hok : ∀ (j : Nat) (t : TypeId) (r : Value), f.resultTypes[j]? = some t → (v.resultList f.resultTypes.size)[j]? = some r → Value.okWide P W' .any 0 t r) :
    s.post enc P f apart fresh handsOn again W args v W' :=
  ⟨ds, gs, [], [], [], [], hW, hr _ _ _, ha _, hv _, hb.frame _, fun _ => ⟨hok, _, _, [], ⟨[], [], trodAll_append (ha _) (hr _ _ _), hv _, rfl, fun _ _ h => absurd h List.not_mem_nil, fun _ => List.nodup_nil⟩, fun _ h => absurd h List.not_mem_nil⟩⟩
theorem u64_of_wf {a : Int} (h : (Lit.int .u64 a).wf = true) : ∃ n : Nat, a = n ∧ Hid (n < 18446744073709551616) := by
  simp [Lit.wf, IntKind.min, IntKind.max, IntKind.signed, IntKind.bits] at h
  obtain ⟨h0, h1⟩ := h
  exact ⟨a.toNat, by omega, by show _ < _; omega⟩
theorem u8_of_wf {a : Int} (h : (Lit.int .u8 a).wf = true) : ∃ n : Nat, a = n ∧ n < 256 := by
  simp [Lit.wf, IntKind.min, IntKind.max, IntKind.signed, IntKind.bits] at h
  obtain ⟨h0, h1⟩ := h
  exact ⟨a.toNat, by omega, by omega⟩
set_option maxRecDepth 100000 in
set_option maxHeartbeats 2000000 in
theorem open_arr8 {H : Type} {enc : TypeId × Value → H} {w : World} {base : Nat} {spare : Nat → Bool} {held : Bool} {r : Reach} {b0 : Nat} {t e : TypeId} {q : IntKind} {v : Value} {d : DataW H} {p : List MemPlace}
    (ht : Tryd.prog.underlying t = some (.array 8 e)) (he : Tryd.prog.underlying e = some (.int q)) (hce : Tryd.prog.cellsOf e = 1) (hct : Tryd.prog.cellsOf t = 8)
    (hv : Value.okWide Tryd.prog w r b0 t v) (h : DataW.Trod enc Tryd.prog w base spare held t v d p) :
    ∃ a0 a1 a2 a3 a4 a5 a6 a7 : Int, (Lit.int q a0).wf = true ∧ (Lit.int q a1).wf = true ∧ (Lit.int q a2).wf = true ∧ (Lit.int q a3).wf = true ∧ (Lit.int q a4).wf = true ∧ (Lit.int q a5).wf = true ∧ (Lit.int q a6).wf = true ∧ (Lit.int q a7).wf = true ∧ v = .agg #[.int q a0, .int q a1, .int q a2, .int q a3, .int q a4, .int q a5, .int q a6, .int q a7] ∧ p = [] ∧
      ∀ (w' : World) (base' : Nat) (spare' : Nat → Bool) (held' : Bool), DataW.Trod enc Tryd.prog w' base' spare' held' t (.agg #[.int q a0, .int q a1, .int q a2, .int q a3, .int q a4, .int q a5, .int q a6, .int q a7]) d [] := by
  simp only [Value.okWide, ht] at hv
  obtain ⟨cs, rfl, hsz, -⟩ := hv
  obtain ⟨l⟩ := cs
  match l, hsz.trans hct with
  | [c0, c1, c2, c3, c4, c5, c6, c7], _ =>
    obtain ⟨fuel, hf⟩ := h
    obtain ⟨xs, n, _, hx, _, hlen, hg⟩ := DataW.trod_array ht hf
    match xs, hlen with
    | [y0, y1, y2, y3, y4, y5, y6, y7], _ =>
      have g0 := hg 0 (by decide); have g1 := hg 1 (by decide); have g2 := hg 2 (by decide); have g3 := hg 3 (by decide); have g4 := hg 4 (by decide); have g5 := hg 5 (by decide); have g6 := hg 6 (by decide); have g7 := hg 7 (by decide)
      simp [Value.cells, hce] at g0 g1 g2 g3 g4 g5 g6 g7

      obtain ⟨a0, e0, z0, q0⟩ := DataW.trod_int he g0
      obtain ⟨a1, e1, z1, q1⟩ := DataW.trod_int he g1
      obtain ⟨a2, e2, z2, q2⟩ := DataW.trod_int he g2
      obtain ⟨a3, e3, z3, q3⟩ := DataW.trod_int he g3
      obtain ⟨a4, e4, z4, q4⟩ := DataW.trod_int he g4
      obtain ⟨a5, e5, z5, q5⟩ := DataW.trod_int he g5
      obtain ⟨a6, e6, z6, q6⟩ := DataW.trod_int he g6
      obtain ⟨a7, e7, z7, q7⟩ := DataW.trod_int he g7
      simp only [List.cons.injEq, and_true] at e0 e1 e2 e3 e4 e5 e6 e7
      subst e0 e1 e2 e3 e4 e5 e6 e7 z0 z1 z2 z3 z4 z5 z6 z7
      simp only [Prod.mk.injEq] at hx
      obtain ⟨hx1, hx2⟩ := hx
      refine ⟨a0, a1, a2, a3, a4, a5, a6, a7, q0, q1, q2, q3, q4, q5, q6, q7, rfl, by simpa using hx2, fun w' base' spare' held' => ⟨2, ?_⟩⟩
      have r8 : List.range 8 = [0, 1, 2, 3, 4, 5, 6, 7] := rfl
      simp [DataW.trod_step, DataW.trodStep, ht, he, Value.cells, hct, hce, r8, q0, q1, q2, q3, q4, q5, q6, q7, hx1]
def sel8 (b0 b1 b2 b3 b4 b5 b6 b7 k : Nat) : Nat := match k with | 0 => b0 | 1 => b1 | 2 => b2 | 3 => b3 | 4 => b4 | 5 => b5 | 6 => b6 | 7 => b7 | _ => 0
theorem sel8_lt {b0 b1 b2 b3 b4 b5 b6 b7 m : Nat} (hm : 0 < m) (h0 : b0 < m) (h1 : b1 < m) (h2 : b2 < m) (h3 : b3 < m) (h4 : b4 < m) (h5 : b5 < m) (h6 : b6 < m) (h7 : b7 < m) : ∀ k, sel8 b0 b1 b2 b3 b4 b5 b6 b7 k < m
  | 0 => h0
  | 1 => h1
  | 2 => h2
  | 3 => h3
  | 4 => h4
  | 5 => h5
  | 6 => h6
  | 7 => h7
  | k + 8 => hm
theorem open_u64s {H : Type} {enc : TypeId × Value → H} {w : World} {base : Nat} {spare : Nat → Bool} {held : Bool} {r : Reach} {b0 : Nat} {v : Value} {d : DataW H} {p : List MemPlace}
    (hv : Value.okWide Tryd.prog w r b0 24 v) (h : DataW.Trod enc Tryd.prog w base spare held 24 v d p) :
    ∃ c : Nat → Nat, Hid (OkA c) ∧ v = .agg (u64s c) ∧ p = [] ∧ ∀ (w' : World) (base' : Nat) (spare' : Nat → Bool) (held' : Bool), DataW.Trod enc Tryd.prog w' base' spare' held' 24 (.agg (u64s c)) d [] := by
  obtain ⟨a0, a1, a2, a3, a4, a5, a6, a7, q0, q1, q2, q3, q4, q5, q6, q7, rfl, rfl, hT⟩ := open_arr8 Tryd.underlying24 Tryd.underlying22 (by kernel_rfl) (by kernel_rfl) hv h
  obtain ⟨b0, rfl, l0⟩ := u64_of_wf q0
  obtain ⟨b1, rfl, l1⟩ := u64_of_wf q1
  obtain ⟨b2, rfl, l2⟩ := u64_of_wf q2
  obtain ⟨b3, rfl, l3⟩ := u64_of_wf q3
  obtain ⟨b4, rfl, l4⟩ := u64_of_wf q4
  obtain ⟨b5, rfl, l5⟩ := u64_of_wf q5
  obtain ⟨b6, rfl, l6⟩ := u64_of_wf q6
  obtain ⟨b7, rfl, l7⟩ := u64_of_wf q7
  exact ⟨sel8 b0 b1 b2 b3 b4 b5 b6 b7, fun k => sel8_lt (by decide) l0.out l1.out l2.out l3.out l4.out l5.out l6.out l7.out k, rfl, rfl, hT⟩
def laidL : List (String × DataW Unit) := [("math/bits.deBruijn64tab", Rows.laid_math_bits_deBruijn64tab)]
theorem g0_ : Tryd.prog.globalNamed "math/bits.deBruijn64tab" = some 0 := by kernel_rfl
theorem t0_ : (Tryd.prog.globals[0]?).map (·.type) = some 129 := by kernel_rfl
theorem of_laid {W : World} (h : laidMetH Tryd.prog laidL W) : G W := by
  rw [MakeChecks.laidMetH_plain _ _ _ (by kernel_rfl)] at h
  obtain ⟨ps, ⟨g0, t0, cs0, f0, p0, q0, hg0, ht0, hv0, hd0, _, _⟩, _, _⟩ := h
  obtain rfl := Option.some.inj (g0_.symm.trans hg0)
  obtain rfl := Option.some.inj (t0_.symm.trans ht0)
  have e0 : cs0.toList = debC.toList := Lib.cells_of_tab (zs := [0, 1, 56, 2, 57, 49, 28, 3, 61, 58, 42, 50, 38, 29, 17, 4, 62, 47, 59, 36, 45, 43, 51, 22, 53, 39, 33, 30, 24, 18, 12, 5, 63, 55, 48, 27, 60, 41, 37, 16, 46, 35, 44, 21, 52, 32, 23, 11, 54, 26, 40, 15, 34, 20, 31, 10, 25, 14, 19, 9, 13, 8, 7, 6]) (k := .u8) (show Tryd.prog.underlying 129 = some (.array 64 5) by kernel_rfl) (show Tryd.prog.underlying 5 = some (.int .u8) by kernel_rfl) (by kernel_rfl) (by kernel_rfl) hd0
  have a0 : cs0 = debC := Array.toList_inj.1 e0
  subst a0
  have v0 := World.var?_cell hg0 hv0
  refine ⟨?_, fun o _ => v0 o⟩
  have := block_lt_of_cell (w := W) (a := ⟨0, 0, none⟩) (v := .int .u8 0) (v0 0)
  exact this
theorem door_met (os : Os) (args : Array Value) : laidMetH Tryd.prog laidL ((World.doorLaid Tryd.prog 400 os).forCall (fun _ _ => 0) ⟨#[], args, []⟩).memory :=
  laidMetH_of_parts3 (fuel := 8) (laidMet_of_run' 8 (by kernel_rfl) (by kernel_rfl)) (by kernel_rfl) (by kernel_rfl)
end Go.Proofs.YthhlcchofilimaaDoor.Y
namespace Go.Proofs.YthhlcchofilimaaDoor.Y
set_option linter.unusedVariables false
set_option linter.unusedSimpArgs false
set_option maxRecDepth 20000
open Go.ChangeShapes Go.WideShapes Go.ChangeAt Go.RowKit Go.Sort Go.Maps Go.WideMaps
theorem run_load_row {P : Program} {o : Oper} {a : Act} {w : World} (ty : TypeId) (x : Operand) (ho : o.op = .load ty x) (g : Nat) (hx : a.eval x = .pointer (some ⟨g, 0, none⟩)) (t : TypeId) (cs : Array Value) (fr : Nat × Nat) (d : TypeDesc) (hg : w.heap[g]? = some (.cells cs t fr))
    (hu : P.underlying ty = some d) (hd : (match d with | .struct _ | .array _ _ => true | _ => false) = true) (hi : (P.info? ty).map (·.size) = some cs.size) : (execOp a.eval o).run P w = .ok (.value (.agg cs)) w := by
  unfold execOp
  simp only [ho, hx, Instr.loadAt, Instr.sureAddr, Sem.run_bind, Sem.run_pure, Result.andThen_ok, run_loadVar_row w g t ty cs fr d hg hu hd hi]
theorem row_regrown {w : World} {b : Nat} {t : TypeId} {cs : Array Value} (h : Row w b t cs) (p : Regrown) : Row (grow (redrawn w p.d) p.os) b t cs := h.below (below_regrown w p.d p.os) (by
  apply Nat.lt_of_not_le
  intro hn
  unfold Row at h
  rw [Array.getElem?_eq_none hn] at h; cases h)
theorem quiet_load_row {P : Program} {o : Oper} {a : Act} {W : World} {K : Act → Prop} (ty : TypeId) (x : Operand) (ho : o.op = .load ty x) (g : Nat) (hx : a.eval x = .pointer (some ⟨g, 0, none⟩)) (t : TypeId) (cs : Array Value) (d : TypeDesc) (hg : Row W g t cs)
    (hu : P.underlying ty = some d) (hd : (match d with | .struct _ | .array _ _ => true | _ => false) = true) (hi : (P.info? ty).map (·.size) = some cs.size) (h : K (a.put o.dst (.agg cs))) : o.quiet P a (fun w' => ∃ p : Regrown, w' = grow (redrawn W p.d) p.os) K :=
  ⟨_, fun w hw => by
    obtain ⟨p, rfl⟩ := hw
    unfold Oper.quietAt
    rw [run_load_row ty x ho g hx t cs (0, 0) d (row_regrown hg p) hu hd hi]
    exact ⟨rfl, rfl⟩, h⟩
theorem info_u8 : ∃ i, Tryd.prog.info? 5 = some i := by
  cases h : Tryd.prog.info? 5 with
  | some i => exact ⟨i, rfl⟩
  | none =>
    have : (Tryd.prog.info? 5).isSome = true := by kernel_rfl
    rw [h] at this; cases this
theorem info_u64 : ∃ i, Tryd.prog.info? 22 = some i := by
  cases h : Tryd.prog.info? 22 with
  | some i => exact ⟨i, rfl⟩
  | none =>
    have : (Tryd.prog.info? 22).isSome = true := by kernel_rfl
    rw [h] at this; cases this
theorem one_u8 : Tryd.prog.cellsOf 5 = 1 := by kernel_rfl
theorem one_u64 : Tryd.prog.cellsOf 22 = 1 := by kernel_rfl
theorem items_u8 (w : World) (f : Nat → Nat) (d : Nat) : ∀ l : List Nat, (∀ i, i ∈ l → i < 8) → (Op.eqItems (d + 1) 5 1 (u8s f) (u8s f) l).run Tryd.prog w = .ok true w
  | [], _ => by simp [Op.eqItems]
  | i :: l, h => by
    have hi := h i (List.mem_cons_self)
    have p1 := run_part_plain (P := Tryd.prog) w (e := 5) (by kernel_rfl) (xs := u8s f) (off := i * 1) (by rw [Nat.mul_one]; exact u8s_at f i hi)
    have p3 := run_equalIn_int (P := Tryd.prog) w d 5 .u8 .u8 (f i : Nat) (f i : Nat) Tryd.underlying5
    have ih := items_u8 w f d l (fun j hj => h j (List.mem_cons_of_mem _ hj))
    have e : (((f i : Nat) : Int) == ((f i : Nat) : Int)) = true := by simp
    simp only [Op.eqItems, Sem.run_bind, p1, p3, Result.andThen_ok, e]
    simpa using ih
theorem items_u64 (w : World) (f : Nat → Nat) (d : Nat) : ∀ l : List Nat, (∀ i, i ∈ l → i < 8) → (Op.eqItems (d + 1) 22 1 (u64s f) (u64s f) l).run Tryd.prog w = .ok true w
  | [], _ => by simp [Op.eqItems]
  | i :: l, h => by
    have hi := h i (List.mem_cons_self)
    have p1 := run_part_plain (P := Tryd.prog) w (e := 22) (by kernel_rfl) (xs := u64s f) (off := i * 1) (by rw [Nat.mul_one]; exact u64s_at f i hi)
    have p3 := run_equalIn_int (P := Tryd.prog) w d 22 .u64 .u64 (f i : Nat) (f i : Nat) Tryd.underlying22
    have ih := items_u64 w f d l (fun j hj => h j (List.mem_cons_of_mem _ hj))
    have e : (((f i : Nat) : Int) == ((f i : Nat) : Int)) = true := by simp
    simp only [Op.eqItems, Sem.run_bind, p1, p3, Result.andThen_ok, e]
    simpa using ih
theorem q_b {w : World} {f : FuncId} {args : Array Value} {b : Bool} {dd : Nat} {os : Array Obj} (h : Calls Tryd.prog f args (grow (redrawn w dd) os) (RetB b (grow (redrawn w dd) os))) :
    Calls Tryd.prog f args (grow (redrawn w dd) os) fun e w'' => e = .returned (.bool b) ∧ ∃ p : Regrown, w'' = grow (redrawn w p.d) p.os := Calls.regrown_of h
end Go.Proofs.YthhlcchofilimaaDoor.Y
