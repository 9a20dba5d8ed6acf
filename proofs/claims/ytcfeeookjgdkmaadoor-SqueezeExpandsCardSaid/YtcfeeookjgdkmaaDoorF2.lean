/- The package's variables as a law's condition gives them; the last steps of a law without memory among its arguments. -/
import Derived.Test.YtcfeeookjgdkmaaDoorF1
import Derived.Test.YtcfeeookjgdkmaaDoorRows
import Derived.ProofKit
import Derived.OpenShut
import Derived.ChangeSame
import Derived.LaidMore
import Derived.Stop.Joined
import Derived.Deep.Strs
import Derived.Lib.LaidTab
namespace Go.Proofs.YtcfeeookjgdkmaaDoor
open Go.ChangeShapes Go.WideShapes Go.ChangeAt Go.RowKit Go.WideMaps Go.WideElems
set_option linter.unusedVariables false
set_option linter.unusedSimpArgs false
theorem post_nums {H : Type} {enc : TypeId × Value → H} {P : Program} {f : Func} {s : ChangeSpec} {apart fresh handsOn again : Bool} {W W' : World} {args : Array Value} {v : Value} {ds gs : List (DataW H)}
    (hW : DataW.Whole enc P f.params.toList s.vars apart W args.toList ds gs [])
    (hr : ∀ (b : Nat) (sp : Nat → Bool) (hd : Bool), DataW.TrodAll enc P W' b sp hd f.resultTypes.toList (v.resultList f.resultTypes.size) (s.fn H (ds ++ gs)).results [])
    (ha : ∀ sp : Nat → Bool, DataW.TrodAll enc P W' 0 sp true f.params.toList args.toList (s.fn H (ds ++ gs)).args [])
    (hv : ∀ sp : Nat → Bool, DataW.TrodVars enc P W' sp s.vars (s.fn H (ds ++ gs)).vars [])
    (hb : Below W.heap.size W W')
    (hok : ∀ (j : Nat) (t : TypeId) (r : Value), f.resultTypes[j]? = some t → (v.resultList f.resultTypes.size)[j]? = some r → Value.okWide P W' .any 0 t r) :
    s.post enc P f apart fresh handsOn again W args v W' :=
  ⟨ds, gs, [], [], [], [], hW, hr _ _ _, ha _, hv _, hb.frame _, fun _ => ⟨hok, _, _, [], ⟨[], [], trodAll_append (ha _) (hr _ _ _), hv _, rfl, fun _ _ h => absurd h List.not_mem_nil, fun _ => List.nodup_nil⟩, fun _ h => absurd h List.not_mem_nil⟩⟩
theorem u32_of_wf {a : Int} (h : (Lit.int .u32 a).wf = true) : ∃ n : Nat, a = n ∧ Hid (n < 4294967296) := by
  simp [Lit.wf, IntKind.min, IntKind.max, IntKind.signed, IntKind.bits] at h
  obtain ⟨h0, h1⟩ := h
  exact ⟨a.toNat, by omega, by show _ < _; omega⟩
theorem u16_of_wf {a : Int} (h : (Lit.int .u16 a).wf = true) : ∃ n : Nat, a = n ∧ Hid (n < 65536) := by
  simp [Lit.wf, IntKind.min, IntKind.max, IntKind.signed, IntKind.bits] at h
  obtain ⟨h0, h1⟩ := h
  exact ⟨a.toNat, by omega, by show _ < _; omega⟩
theorem flat3 {α : Type} (f : α → List Value) (hf : ∀ a, (f a).length = 3) : ∀ (L : List α) (cs : List Value), cs.length = L.length * 3 → (∀ i a, L[i]? = some a → (cs.drop (i * 3)).take 3 = f a) → cs = L.flatMap f
  | [], cs, hl, _ => by simpa using hl
  | a :: L, cs, hl, h => by
    have h0 := h 0 a rfl
    rw [Nat.zero_mul, List.drop_zero] at h0
    have ih := flat3 f hf L (cs.drop 3) (by rw [List.length_drop, hl, List.length_cons]; omega) (fun i b hb => by
      rw [List.drop_drop, show 3 + i * 3 = (i + 1) * 3 by omega]; exact h (i + 1) b (by simpa using hb))
    rw [List.flatMap_cons, ← h0, ← ih, List.take_append_drop]
def litV : Lit → Value
  | .int k n => .int k n
  | .bool b => .bool b
  | _ => .bool false
/-- A type of one cell: a number or a bool. -/
def Plain (t : TypeId) : Prop := (∃ k, Tryd.prog.underlying t = some (.int k)) ∨ Tryd.prog.underlying t = some .bool
theorem plain_at {H : Type} {enc : TypeId × Value → H} {w : World} {base : Nat} {sp : Nat → Bool} {held : Bool} {n : Nat} {t : TypeId} {cs : List Value} {l : Lit} {y : DataW H × List MemPlace}
    (hp : Plain t) (h : DataW.trod enc Tryd.prog w base sp held n t cs = some y) (hy : y.1 = .lit l) : cs = [litV l] := by
  rcases hp with ⟨k, hk⟩ | hb
  · obtain ⟨m, rfl, rfl, _⟩ := DataW.trod_int hk h
    simp only [DataW.lit.injEq] at hy
    subst hy; rfl
  · obtain ⟨m, rfl, rfl⟩ := DataW.trod_bool hb h
    simp only [DataW.lit.injEq] at hy
    subst hy; rfl
def rowV (x : Lit × Lit × Lit) : List Value := [litV x.1, litV x.2.1, litV x.2.2]
def dataV {H : Type} (x : Lit × Lit × Lit) : DataW H := .agg [.lit x.1, .lit x.2.1, .lit x.2.2]
theorem rows_at {H : Type} {enc : TypeId × Value → H} {w : World} {base : Nat} {sp : Nat → Bool} {held : Bool} {fuel : Nat} {t e : TypeId} {f0 f1 f2 : Field} {cs : List Value} {L : List (Lit × Lit × Lit)} {p : List MemPlace}
    (ht : Tryd.prog.underlying t = some (.array L.length e)) (he : Tryd.prog.underlying e = some (.struct #[f0, f1, f2])) (hce : Tryd.prog.cellsOf e = 3) (hct : Tryd.prog.cellsOf t = L.length * 3)
    (o0 : f0.offset = 0 ∧ Tryd.prog.cellsOf f0.type = 1 ∧ Plain f0.type) (o1 : f1.offset = 1 ∧ Tryd.prog.cellsOf f1.type = 1 ∧ Plain f1.type) (o2 : f2.offset = 2 ∧ Tryd.prog.cellsOf f2.type = 1 ∧ Plain f2.type)
    (h : DataW.trod enc Tryd.prog w base sp held fuel t cs = some (.agg (L.map dataV), p)) : cs = L.flatMap rowV := by
  obtain ⟨xs, m, rfl, hx, hl, hn, hel⟩ := DataW.trod_array ht h
  refine flat3 rowV (fun _ => rfl) L cs (by rw [hl, hct]) (fun i a ha => ?_)
  have hi : i < L.length := (List.getElem?_eq_some_iff.1 ha).1
  have hxi := hel i hi
  obtain ⟨y, hy⟩ : ∃ y, xs[i]? = some y := ⟨_, List.getElem?_eq_getElem (by rw [hn]; exact hi)⟩
  rw [hy, hce] at hxi
  have hd : y.1 = dataV a := by
    have h1 : L.map dataV = xs.map (·.1) := by simpa using congrArg Prod.fst hx
    have h2 := congrArg (·[i]?) h1
    simp only [List.getElem?_map, ha, hy, Option.map_some, Option.some.injEq] at h2
    exact h2.symm
  obtain ⟨y0, y1, y2, k, hyy, hlen, t0, t1, t2⟩ := Go.Deep.trod_struct3 he hxi
  rw [hyy] at hd
  simp only [dataV, DataW.agg.injEq, List.cons.injEq, and_true] at hd
  rw [o0.1, o0.2.1] at t0; rw [o1.1, o1.2.1] at t1; rw [o2.1, o2.2.1] at t2
  have c0 := plain_at o0.2.2 t0 hd.1
  have c1 := plain_at o1.2.2 t1 hd.2.1
  have c2 := plain_at o2.2.2 t2 hd.2.2
  rw [hce] at hlen
  generalize (cs.drop (i * 3)).take 3 = z at c0 c1 c2 hlen ⊢
  match z, hlen with
  | [z0, z1, z2], _ =>
    simp only [List.drop_zero, List.take_succ_cons, List.take_zero, List.cons.injEq, and_true, List.drop_succ_cons] at c0 c1 c2
    rw [c0, c1, c2]; rfl
def regL : List (Lit × Lit × Lit) := [(.int .u8 7, .int .u8 5, .int .u8 7), (.int .u8 7, .int .u8 3, .int .u8 7), (.int .u8 2, .int .u8 3, .int .u8 7), (.int .u8 7, .int .u8 5, .int .u8 15), (.int .u8 7, .int .u8 3, .int .u8 15), (.int .u8 2, .int .u8 5, .int .u8 20), (.int .u8 2, .int .u8 3, .int .u8 20)]
def immL : List (Lit × Lit × Lit) := [(.int .u16 0, .int .u64 0, .bool false), (.int .u16 8160, .int .u64 1419277859, .bool false), (.int .u16 7264, .int .u64 344950, .bool false), (.int .u16 7264, .int .u64 344870, .bool false), (.int .u16 4220, .int .u64 5517840, .bool true), (.int .u16 4220, .int .u64 5517840, .bool false), (.int .u16 4220, .int .u64 9726069, .bool true), (.int .u16 8188, .int .u64 12410482536981, .bool true), (.int .u16 7292, .int .u64 2218222101, .bool true), (.int .u16 4220, .int .u64 5519478, .bool false), (.int .u16 4220, .int .u64 5517942, .bool false), (.int .u16 8064, .int .u64 5519478, .bool false), (.int .u16 8064, .int .u64 5517942, .bool false)]
def laidL : List (String × DataW Unit) := [("math/bits.deBruijn32tab", Rows.laid_math_bits_deBruijn32tab), ("tandem/squeeze.registers", Rows.laid_tandem_squeeze_registers), ("tandem/squeeze.immediates", Rows.laid_tandem_squeeze_immediates)]
theorem g0_ : Tryd.prog.globalNamed "math/bits.deBruijn32tab" = some 2 := by kernel_rfl
theorem g1_ : Tryd.prog.globalNamed "tandem/squeeze.registers" = some 1 := by kernel_rfl
theorem g2_ : Tryd.prog.globalNamed "tandem/squeeze.immediates" = some 0 := by kernel_rfl
theorem t0_ : (Tryd.prog.globals[2]?).map (·.type) = some 65 := by kernel_rfl
theorem t1_ : (Tryd.prog.globals[1]?).map (·.type) = some 61 := by kernel_rfl
theorem t2_ : (Tryd.prog.globals[0]?).map (·.type) = some 56 := by kernel_rfl
theorem of_laid {W : World} (h : laidMetH Tryd.prog laidL W) : G W := by
  rw [MakeChecks.laidMetH_plain _ _ _ (by kernel_rfl)] at h
  obtain ⟨ps, ⟨g0, t0, cs0, f0, p0, q0, hg0, ht0, hv0, hd0, ⟨g1, t1, cs1, f1, p1, q1, hg1, ht1, hv1, hd1, ⟨g2, t2, cs2, f2, p2, q2, hg2, ht2, hv2, hd2, _, _⟩, _⟩, _⟩, _, _⟩ := h
  obtain rfl := Option.some.inj (g0_.symm.trans hg0)
  obtain rfl := Option.some.inj (g1_.symm.trans hg1)
  obtain rfl := Option.some.inj (g2_.symm.trans hg2)
  obtain rfl := Option.some.inj (t0_.symm.trans ht0)
  obtain rfl := Option.some.inj (t1_.symm.trans ht1)
  obtain rfl := Option.some.inj (t2_.symm.trans ht2)
  have e0 : cs0.toList = debC.toList := Lib.cells_of_tab (zs := [0,1,28,2,29,14,24,3,30,22,20,15,25,17,4,8,31,27,13,23,21,19,16,7,26,12,18,6,11,5,10,9]) (k := .u8) (show Tryd.prog.underlying 65 = some (.array 32 5) by kernel_rfl) (show Tryd.prog.underlying 5 = some (.int .u8) by kernel_rfl) (by kernel_rfl) (by kernel_rfl) hd0
  have pu8 : Plain 5 := .inl ⟨.u8, by kernel_rfl⟩
  have pu16 : Plain 22 := .inl ⟨.u16, by kernel_rfl⟩
  have pu64 : Plain 53 := .inl ⟨.u64, by kernel_rfl⟩
  have pb : Plain 4 := .inr (by kernel_rfl)
  have e1 : cs1.toList = regC.toList := rows_at (L := regL) Tryd.underlying61 Tryd.underlying60 (by kernel_rfl) (by kernel_rfl) ⟨rfl, by kernel_rfl, pu8⟩ ⟨rfl, by kernel_rfl, pu8⟩ ⟨rfl, by kernel_rfl, pu8⟩ hd1
  have e2 : cs2.toList = immC.toList := rows_at (L := immL) Tryd.underlying56 Tryd.underlying55 (by kernel_rfl) (by kernel_rfl) ⟨rfl, by kernel_rfl, pu16⟩ ⟨rfl, by kernel_rfl, pu64⟩ ⟨rfl, by kernel_rfl, pb⟩ hd2
  have a0 : cs0 = debC := Array.toList_inj.1 e0
  have a1 : cs1 = regC := Array.toList_inj.1 e1
  have a2 : cs2 = immC := Array.toList_inj.1 e2
  subst a0 a1 a2
  have v0 := World.var?_cell hg0 hv0
  have v1 := World.var?_cell hg1 hv1
  have v2 := World.var?_cell hg2 hv2
  refine ⟨?_, fun o _ => v2 o, fun o _ => v1 o, fun o _ => v0 o⟩
  have := block_lt_of_cell (w := W) (a := ⟨2, 0, none⟩) (v := .int .u8 0) (v0 0)
  exact this
theorem door_met (os : Os) (args : Array Value) : laidMetH Tryd.prog laidL ((World.doorLaid Tryd.prog 400 os).forCall (fun _ _ => 0) ⟨#[], args, []⟩).memory :=
  laidMetH_of_parts3 (fuel := 8) (laidMet_of_run' 8 (by kernel_rfl) (by kernel_rfl)) (by kernel_rfl) (by kernel_rfl)
end Go.Proofs.YtcfeeookjgdkmaaDoor
