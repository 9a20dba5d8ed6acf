/- The package's variable as a law's condition gives it; arrays of eight that came in; the last steps of a law. -/
import Derived.Test.YtjkpcmhepeekmaaDoorF1
import Derived.Test.YtjkpcmhepeekmaaDoorRows
import Derived.ProofKit
import Derived.OpenShut
import Derived.ChangeSame
import Derived.LaidMore
import Derived.Stop.Joined
import Derived.Deep.Strs
import Derived.Lib.LaidTab
import Derived.Lib.SmallJoins
namespace Go.Proofs.YtjkpcmhepeekmaaDoor
open Go.ChangeShapes Go.WideShapes Go.ChangeAt Go.RowKit Go.WideMaps Go.WideElems Go.Joins Go.Deep
set_option linter.unusedVariables false
set_option linter.unusedSimpArgs false

theorem post_nums {H : Type} {enc : TypeId × Value → H} {P : Program} {f : Func} {s : ChangeSpec} {apart fresh handsOn again : Bool} {W W' : World} {args : Array Value} {v : Value} {ds gs : List (DataW H)}
    (hW : DataW.Whole enc P f.params.toList s.vars apart W args.toList ds gs [])
    (hr : ∀ (b : Nat) (sp : Nat → Bool) (hd : Bool), DataW.TrodAll enc P W' b sp hd f.resultTypes.toList (v.resultList f.resultTypes.size) (s.fn H (ds ++ gs)).results [])
    (ha : ∀ sp : Nat → Bool, DataW.TrodAll enc P W' 0 sp true f.params.toList args.toList (s.fn H (ds ++ gs)).args [])
    (hv : ∀ sp : Nat → Bool, DataW.TrodVars enc P W' sp s.vars (s.fn H (ds ++ gs)).vars [])
    (hb : Below W.heap.size W W')
    (hok : ∀ (j : Nat) (t : TypeId) (r : Value), f.resultTypes[j]? = some t → (v.resultList f.resultTypes.size)[j]? = some r → Value.okWide P W' .any 0 t r) :
    s.post enc P f apart fresh handsOn again W args v W' :=
  ⟨ds, gs, [], [], [], [], hW, hr _ _ _, ha _, hv _, hb.frame _, fun _ => ⟨hok, _, _, [], ⟨[], [], trodAll_append (ha _) (hr _ _ _), hv _, rfl, fun _ _ h => absurd h List.not_mem_nil, fun _ => List.nodup_nil⟩, fun _ h => absurd h List.not_mem_nil⟩⟩

theorem u64_of_wf {a : Int} (h : (Lit.int .u64 a).wf = true) : ∃ n : Nat, a = n ∧ Hid (n < 18446744073709551616) := by
  simp [Lit.wf, IntKind.min, IntKind.max, IntKind.signed, IntKind.bits] at h
  obtain ⟨h0, h1⟩ := h
  exact ⟨a.toNat, by omega, by show _ < _; omega⟩
theorem u8_of_wf {a : Int} (h : (Lit.int .u8 a).wf = true) : ∃ n : Nat, a = n ∧ n < 256 := by
  simp [Lit.wf, IntKind.min, IntKind.max, IntKind.signed, IntKind.bits] at h
  obtain ⟨h0, h1⟩ := h
  exact ⟨a.toNat, by omega, by omega⟩
set_option maxRecDepth 100000 in
set_option maxHeartbeats 2000000 in
theorem open_arr8 {H : Type} {enc : TypeId × Value → H} {w : World} {base : Nat} {spare : Nat → Bool} {held : Bool} {r : Reach} {b0 : Nat} {t e : TypeId} {q : IntKind} {v : Value} {d : DataW H} {p : List MemPlace}
    (ht : Tryd.prog.underlying t = some (.array 8 e)) (he : Tryd.prog.underlying e = some (.int q)) (hce : Tryd.prog.cellsOf e = 1) (hct : Tryd.prog.cellsOf t = 8)
    (hv : Value.okWide Tryd.prog w r b0 t v) (h : DataW.Trod enc Tryd.prog w base spare held t v d p) :
    ∃ a0 a1 a2 a3 a4 a5 a6 a7 : Int, (Lit.int q a0).wf = true ∧ (Lit.int q a1).wf = true ∧ (Lit.int q a2).wf = true ∧ (Lit.int q a3).wf = true ∧ (Lit.int q a4).wf = true ∧ (Lit.int q a5).wf = true ∧ (Lit.int q a6).wf = true ∧ (Lit.int q a7).wf = true ∧ v = .agg #[.int q a0, .int q a1, .int q a2, .int q a3, .int q a4, .int q a5, .int q a6, .int q a7] ∧ p = [] ∧
      ∀ (w' : World) (base' : Nat) (spare' : Nat → Bool) (held' : Bool), DataW.Trod enc Tryd.prog w' base' spare' held' t (.agg #[.int q a0, .int q a1, .int q a2, .int q a3, .int q a4, .int q a5, .int q a6, .int q a7]) d [] := by
  simp only [Value.okWide, ht] at hv
  obtain ⟨cs, rfl, hsz, -⟩ := hv
  obtain ⟨l⟩ := cs
  match l, hsz.trans hct with
  | [c0, c1, c2, c3, c4, c5, c6, c7], _ =>
    obtain ⟨fuel, hf⟩ := h
    obtain ⟨xs, n, _, hx, _, hlen, hg⟩ := DataW.trod_array ht hf
    match xs, hlen with
    | [y0, y1, y2, y3, y4, y5, y6, y7], _ =>
      have g0 := hg 0 (by decide); have g1 := hg 1 (by decide); have g2 := hg 2 (by decide); have g3 := hg 3 (by decide); have g4 := hg 4 (by decide); have g5 := hg 5 (by decide); have g6 := hg 6 (by decide); have g7 := hg 7 (by decide)
      simp [Value.cells, hce] at g0 g1 g2 g3 g4 g5 g6 g7

      obtain ⟨a0, e0, z0, q0⟩ := DataW.trod_int he g0
      obtain ⟨a1, e1, z1, q1⟩ := DataW.trod_int he g1
      obtain ⟨a2, e2, z2, q2⟩ := DataW.trod_int he g2
      obtain ⟨a3, e3, z3, q3⟩ := DataW.trod_int he g3
      obtain ⟨a4, e4, z4, q4⟩ := DataW.trod_int he g4
      obtain ⟨a5, e5, z5, q5⟩ := DataW.trod_int he g5
      obtain ⟨a6, e6, z6, q6⟩ := DataW.trod_int he g6
      obtain ⟨a7, e7, z7, q7⟩ := DataW.trod_int he g7
      simp only [List.cons.injEq, and_true] at e0 e1 e2 e3 e4 e5 e6 e7
      subst e0 e1 e2 e3 e4 e5 e6 e7 z0 z1 z2 z3 z4 z5 z6 z7
      simp only [Prod.mk.injEq] at hx
      obtain ⟨hx1, hx2⟩ := hx
      refine ⟨a0, a1, a2, a3, a4, a5, a6, a7, q0, q1, q2, q3, q4, q5, q6, q7, rfl, by simpa using hx2, fun w' base' spare' held' => ⟨2, ?_⟩⟩
      have r8 : List.range 8 = [0, 1, 2, 3, 4, 5, 6, 7] := rfl
      simp [DataW.trod_step, DataW.trodStep, ht, he, Value.cells, hct, hce, r8, q0, q1, q2, q3, q4, q5, q6, q7, hx1]

def sel8 (b0 b1 b2 b3 b4 b5 b6 b7 k : Nat) : Nat := match k with | 0 => b0 | 1 => b1 | 2 => b2 | 3 => b3 | 4 => b4 | 5 => b5 | 6 => b6 | 7 => b7 | _ => 0
theorem sel8_lt {b0 b1 b2 b3 b4 b5 b6 b7 m : Nat} (hm : 0 < m) (h0 : b0 < m) (h1 : b1 < m) (h2 : b2 < m) (h3 : b3 < m) (h4 : b4 < m) (h5 : b5 < m) (h6 : b6 < m) (h7 : b7 < m) : ∀ k, sel8 b0 b1 b2 b3 b4 b5 b6 b7 k < m
  | 0 => h0
  | 1 => h1
  | 2 => h2
  | 3 => h3
  | 4 => h4
  | 5 => h5
  | 6 => h6
  | 7 => h7
  | k + 8 => hm
theorem open_u8s {H : Type} {enc : TypeId × Value → H} {w : World} {base : Nat} {spare : Nat → Bool} {held : Bool} {r : Reach} {b0 : Nat} {v : Value} {d : DataW H} {p : List MemPlace}
    (hv : Value.okWide Tryd.prog w r b0 22 v) (h : DataW.Trod enc Tryd.prog w base spare held 22 v d p) :
    ∃ c : Nat → Nat, Hid (OkC c) ∧ v = .agg (u8s c) ∧ p = [] ∧ ∀ (w' : World) (base' : Nat) (spare' : Nat → Bool) (held' : Bool), DataW.Trod enc Tryd.prog w' base' spare' held' 22 (.agg (u8s c)) d [] := by
  obtain ⟨a0, a1, a2, a3, a4, a5, a6, a7, q0, q1, q2, q3, q4, q5, q6, q7, rfl, rfl, hT⟩ := open_arr8 Tryd.underlying22 Tryd.underlying5 (by kernel_rfl) (by kernel_rfl) hv h
  obtain ⟨b0, rfl, l0⟩ := u8_of_wf q0
  obtain ⟨b1, rfl, l1⟩ := u8_of_wf q1
  obtain ⟨b2, rfl, l2⟩ := u8_of_wf q2
  obtain ⟨b3, rfl, l3⟩ := u8_of_wf q3
  obtain ⟨b4, rfl, l4⟩ := u8_of_wf q4
  obtain ⟨b5, rfl, l5⟩ := u8_of_wf q5
  obtain ⟨b6, rfl, l6⟩ := u8_of_wf q6
  obtain ⟨b7, rfl, l7⟩ := u8_of_wf q7
  exact ⟨sel8 b0 b1 b2 b3 b4 b5 b6 b7, fun k => sel8_lt (by decide) l0 l1 l2 l3 l4 l5 l6 l7 k, rfl, rfl, hT⟩
theorem open_u64s {H : Type} {enc : TypeId × Value → H} {w : World} {base : Nat} {spare : Nat → Bool} {held : Bool} {r : Reach} {b0 : Nat} {v : Value} {d : DataW H} {p : List MemPlace}
    (hv : Value.okWide Tryd.prog w r b0 24 v) (h : DataW.Trod enc Tryd.prog w base spare held 24 v d p) :
    ∃ c : Nat → Nat, Hid (OkA c) ∧ v = .agg (u64s c) ∧ p = [] ∧ ∀ (w' : World) (base' : Nat) (spare' : Nat → Bool) (held' : Bool), DataW.Trod enc Tryd.prog w' base' spare' held' 24 (.agg (u64s c)) d [] := by
  obtain ⟨a0, a1, a2, a3, a4, a5, a6, a7, q0, q1, q2, q3, q4, q5, q6, q7, rfl, rfl, hT⟩ := open_arr8 Tryd.underlying24 Tryd.underlying23 (by kernel_rfl) (by kernel_rfl) hv h
  obtain ⟨b0, rfl, l0⟩ := u64_of_wf q0
  obtain ⟨b1, rfl, l1⟩ := u64_of_wf q1
  obtain ⟨b2, rfl, l2⟩ := u64_of_wf q2
  obtain ⟨b3, rfl, l3⟩ := u64_of_wf q3
  obtain ⟨b4, rfl, l4⟩ := u64_of_wf q4
  obtain ⟨b5, rfl, l5⟩ := u64_of_wf q5
  obtain ⟨b6, rfl, l6⟩ := u64_of_wf q6
  obtain ⟨b7, rfl, l7⟩ := u64_of_wf q7
  exact ⟨sel8 b0 b1 b2 b3 b4 b5 b6 b7, fun k => sel8_lt (by decide) l0.out l1.out l2.out l3.out l4.out l5.out l6.out l7.out k, rfl, rfl, hT⟩
def laidL : List (String × DataW Unit) := [("math/bits.deBruijn64tab", Rows.laid_math_bits_deBruijn64tab)]
theorem g0_ : Tryd.prog.globalNamed "math/bits.deBruijn64tab" = some 0 := by kernel_rfl
theorem t0_ : (Tryd.prog.globals[0]?).map (·.type) = some 46 := by kernel_rfl
theorem of_laid {W : World} (h : laidMetH Tryd.prog laidL W) : G W := by
  rw [MakeChecks.laidMetH_plain _ _ _ (by kernel_rfl)] at h
  obtain ⟨ps, ⟨g0, t0, cs0, f0, p0, q0, hg0, ht0, hv0, hd0, _, _⟩, _, _⟩ := h
  obtain rfl := Option.some.inj (g0_.symm.trans hg0)
  obtain rfl := Option.some.inj (t0_.symm.trans ht0)
  have e0 : cs0.toList = debC.toList := Lib.cells_of_tab (zs := [0, 1, 56, 2, 57, 49, 28, 3, 61, 58, 42, 50, 38, 29, 17, 4, 62, 47, 59, 36, 45, 43, 51, 22, 53, 39, 33, 30, 24, 18, 12, 5, 63, 55, 48, 27, 60, 41, 37, 16, 46, 35, 44, 21, 52, 32, 23, 11, 54, 26, 40, 15, 34, 20, 31, 10, 25, 14, 19, 9, 13, 8, 7, 6]) (k := .u8) (show Tryd.prog.underlying 46 = some (.array 64 5) by kernel_rfl) (show Tryd.prog.underlying 5 = some (.int .u8) by kernel_rfl) (by kernel_rfl) (by kernel_rfl) hd0
  have a0 : cs0 = debC := Array.toList_inj.1 e0
  subst a0
  have v0 := World.var?_cell hg0 hv0
  refine ⟨?_, fun o _ => v0 o⟩
  have := block_lt_of_cell (w := W) (a := ⟨0, 0, none⟩) (v := .int .u8 0) (v0 0)
  exact this
theorem door_met (os : Os) (args : Array Value) : laidMetH Tryd.prog laidL ((World.doorLaid Tryd.prog 400 os).forCall (fun _ _ => 0) ⟨#[], args, []⟩).memory :=
  laidMetH_of_parts3 (fuel := 8) (laidMet_of_run' 8 (by kernel_rfl) (by kernel_rfl)) (by kernel_rfl) (by kernel_rfl)
end Go.Proofs.YtjkpcmhepeekmaaDoor
