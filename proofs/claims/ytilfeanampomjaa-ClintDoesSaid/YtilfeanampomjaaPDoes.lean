/- PROVED: 'ClintDoes' returns true whatever the steps are: every call answers as the chapter says, in every order; copies go on alike. No condition. -/
import Derived.Test.YtilfeanampomjaaC5
import Derived.Test.YtilfeanampomjaaF2
import Derived.Deep.Slices
import Derived.Deep.SlicePairs
import Derived.Carry
import Derived.ChangeArms
namespace Go.Proofs.Ytilfeanampomjaa
open Go.ChangeShapes Go.WideShapes Go.ChangeAt Go.RowKit
set_option linter.unusedVariables false
set_option linter.unusedSimpArgs false
set_option maxRecDepth 100000 in
theorem does_nil (w : World) (a : Option Addr) (cap : Nat) : Calls Try.prog 3 #[.slice a 0 cap] w (RetB true w) := by
  go_enter Try.func3, Try.ntmps3
  go_wp2_with fail
  refine (fixed_c _).mono ?_; rintro e0 v1 ⟨rfl, bq⟩
  have HB := Lib.hid bq; clear bq
  go_wp2_with fail
  refine (new_c _).mono ?_; rintro e0 v2 ⟨m0, rfl, g2, h2, bq⟩
  have HM := Lib.hid h2; clear h2 g2
  replace HB := Lib.hid (HB.out.trans (bq.mono HB.out.size)); clear bq
  go_wp2_with fail
  refine (newr_c _).mono ?_; rintro e0 v3 ⟨r0, rfl, g2, h2, bq⟩
  replace HM := Lib.hid (HM.out.below bq)
  have HR := Lib.hid h2; clear h2 g2
  replace HB := Lib.hid (HB.out.trans (bq.mono HB.out.size)); clear bq
  go_wp2_with fail
  go_loopw [3, 4, 5] (fun mv rv i wr => i = .int .i64 0 ∧ mv = .pointer (some ⟨m0, 0, none⟩) ∧ rv = .pointer (some ⟨r0, 0, none⟩) ∧ Hid (IsC wr m0 0 18446744073709551615 0) ∧ Hid (IsC wr r0 0 0 18446744073709551615) ∧ Hid (Below w.heap.size w wr)) (fun _ _ i _ => (intOf i).toNat)
  case atStart => exact ⟨rfl, rfl, rfl, HM, HR, HB⟩
  case round =>
    clear HM HR HB
    obtain ⟨rfl, rfl, rfl, HM, HR, HB⟩ := hrel
    go_wp2_with fail
    refine (ends_c _ m0 r0 0 18446744073709551615 0 HM HR (by show _ < _; decide) (by show _ < _; decide) (by show _ < _; decide)).mono ?_; rintro e0 v4 ⟨rfl, bq⟩
    replace HB := Lib.hid (HB.out.trans (bq.mono HB.out.size))
    go_wp2_with fail
    go_ret
    exact retB_mk rfl HB.out
/-- The steps that came in. -/
theorem open_steps {H : Type} {enc : TypeId × Value → H} {W : World} {v : Value} {d : DataW H} {p : List MemPlace} (hv : ∃ a len cap, v = .slice a len cap) (h : DataW.Trod enc Try.prog W 0 (fun _ => true) true 22 v d p) :
    (∃ a cap, v = .slice a 0 cap) ∨ ∃ (b o n cap : Nat) (K Z : Nat → Int) (A V : Nat → Nat), v = .slice (some ⟨b, o, none⟩) n cap ∧ Steps W b o n K Z A V ∧ b < W.heap.size ∧ n ≤ 9223372036854775807 := by
  obtain ⟨a0, len0, cap0, rfl⟩ := hv
  obtain ⟨fuel, hf⟩ := h
  have ce : Try.prog.cellsOf 30 = 4 := by kernel_rfl
  have ci : Try.prog.cellsOf 3 = 1 := by kernel_rfl
  have cu : Try.prog.cellsOf 28 = 1 := by kernel_rfl
  rcases Deep.open_slice Try.underlying22 hf with ⟨h0, -⟩ | ⟨a, len, cap, m, n, D, Pl, h0, hb, hl, hm, hmm, -, hx⟩
  · left
    simp [Value.cells] at h0
    obtain ⟨rfl, rfl, rfl⟩ := h0
    exact ⟨_, _, rfl⟩
  · simp [Value.cells] at h0
    obtain ⟨rfl, rfl, rfl⟩ := h0
    by_cases hz : len0 = 0
    · left; subst hz; exact ⟨_, _, rfl⟩
    · right
      have hlm : len0 ≤ m := by rw [hmm]; simp; omega
      have each : ∀ i, i < len0 → ∃ q : Int × Nat × Int × Nat, W.cell? (a.add (i * 4)) = some (.int .i64 q.1) ∧ W.cell? (a.add (i * 4 + 1)) = some (.int .u64 (q.2.1 : Nat)) ∧ W.cell? (a.add (i * 4 + 2)) = some (.int .i64 q.2.2.1) ∧ W.cell? (a.add (i * 4 + 3)) = some (.int .u64 (q.2.2.2 : Nat)) ∧
          q.2.1 < 18446744073709551616 ∧ q.2.2.2 < 18446744073709551616 ∧ (Lit.int .i64 q.2.2.1).wf = true := by
        intro i hi
        obtain ⟨cs', h1, h2⟩ := hx i (by omega)
        rw [ce] at h1
        obtain ⟨_, hlen, hcell⟩ := World.cells?_some h1
        obtain ⟨xs, k, hk, hxy, _, hxl, hff⟩ := DataW.trod_struct Try.underlying30 h2
        match xs, hxl, cs', hlen with
        | [y0, y1, y2, y3], _, [v0, v1, v2, v3], _ =>
          have g0 := hff 0 _ rfl
          have g1 := hff 1 _ rfl
          have g2 := hff 2 _ rfl
          have g3 := hff 3 _ rfl
          simp [ci, cu] at g0 g1 g2 g3
          obtain ⟨n0, e0, -, w0⟩ := DataW.trod_int Try.underlying3 g0
          obtain ⟨n1, e1, -, w1⟩ := DataW.trod_int Try.underlying28 g1
          obtain ⟨n2, e2, -, w2⟩ := DataW.trod_int Try.underlying3 g2
          obtain ⟨n3, e3, -, w3⟩ := DataW.trod_int Try.underlying28 g3
          obtain ⟨x1, rfl, hx1⟩ := u64_of_wf w1
          obtain ⟨x3, rfl, hx3⟩ := u64_of_wf w3
          have c0 := hcell 0 (by omega)
          have c1 := hcell 1 (by omega)
          have c2 := hcell 2 (by omega)
          have c3 := hcell 3 (by omega)
          rw [Deep.add_add] at c0 c1 c2 c3
          simp at e0 e1 e2 e3
          subst e0 e1 e2 e3
          exact ⟨(n0, x1, n2, x3), by simpa using c0, by simpa using c1, by simpa using c2, by simpa using c3, hx1.out, hx3.out, w2⟩
      obtain ⟨q, hq⟩ := Deep.choose_lt each
      obtain ⟨ab, ao, asp⟩ := a
      have q0 := (hq 0 (by omega)).1
      have hlt : ab < W.heap.size := block_lt_of_cell q0
      have hs : asp = none := by
        cases asp with
        | none => rfl
        | some s => simp [World.cell?, Addr.add] at q0; split at q0 <;> cases q0
      subst hs
      refine ⟨ab, ao, len0, cap0, fun i => (q i).1, fun i => (q i).2.2.1, fun i => (q i).2.1, fun i => (q i).2.2.2, rfl, fun i hi => ?_, hlt, ?_⟩
      · obtain ⟨h1, h2, h3, h4, h5⟩ := hq i hi
        rw [Go.WideShapes.add_plain] at h1 h2 h3 h4
        exact ⟨h1, by rw [Nat.add_assoc]; exact h2, by rw [Nat.add_assoc]; exact h3, by rw [Nat.add_assoc]; exact h4, h5⟩
      · have : len0 ≤ maxLen := Nat.le_trans hl hm
        unfold maxLen at this
        omega
theorem clintDoes_walk {H : Type} {enc : TypeId × Value → H} {W : World} {v : Value} {d : DataW H} {p : List MemPlace} (hv : ∃ a len cap, v = .slice a len cap) (h : DataW.Trod enc Try.prog W 0 (fun _ => true) true 22 v d p) :
    Calls Try.prog 3 #[v] W (RetB true W) := by
  rcases open_steps hv h with ⟨a, cap, rfl⟩ | ⟨b, o, n, cap, K, Z, A, V, rfl, hS, hb, hn⟩
  · exact does_nil W a cap
  · exact does_core W b o n cap K Z A V hS ⟨hb, hn⟩
/-- What was there is as it was: the arguments read as they did. -/
theorem post_old {H : Type} {enc : TypeId × Value → H} {P : Program} {f : Func} {s : ChangeSpec} {apart fresh handsOn : Bool} {W W' : World} {args : Array Value} {v : Value} {ds gs : List (DataW H)} {before : List MemPlace}
    (hW : DataW.Whole enc P f.params.toList s.vars apart W args.toList ds gs before)
    (hr : ∀ (b : Nat) (sp : Nat → Bool) (hd : Bool), DataW.TrodAll enc P W' b sp hd f.resultTypes.toList (v.resultList f.resultTypes.size) (s.fn H (ds ++ gs)).results [])
    (ha : DataW.TrodAll enc P W' 0 (fun b => decide (b < W.heap.size)) true f.params.toList args.toList (s.fn H (ds ++ gs)).args before)
    (hv : ∀ sp : Nat → Bool, DataW.TrodVars enc P W' sp s.vars (s.fn H (ds ++ gs)).vars [])
    (hb : Below W.heap.size W W') :
    s.post enc P f apart fresh handsOn false W args v W' :=
  ⟨ds, gs, before, [], before, [], hW, hr _ _ _, ha, hv _, hb.frame _, fun h => nomatch h⟩
end Go.Proofs.Ytilfeanampomjaa
namespace Go.Proofs.Ytilfeanampomjaa.clintDoes
open Go.ChangeShapes Go.WideShapes Go.ChangeAt Go.RowKit
set_option linter.unusedVariables false
theorem own : ownKnob Try.prog.godebug = none := by kernel_rfl
set_option maxRecDepth 100000 in
theorem lifted (os : Os) (started : os.Started) (H : Type) (enc : TypeId × Value → H) :
    ReturnsInHanded {} Try.checked os 3 .any (Rows.clintDoesSpec.pre6 enc Try.prog Try.f3 Rows.clintDoesRow.domain false) (Rows.clintDoesSpec.post enc Try.prog Try.f3 false true false false) := by
  refine returnsInHanded_of_change (C := Try.checked) own started (by kernel_rfl) Try.func3
    (ChangeSpec.witness6 (enc := enc) (C := Try.checked) false ⟨#[], #[.slice none 0 0], []⟩ 8 (by kernel_rfl) (by kernel_rfl) (by kernel_rfl) (by kernel_rfl)) ?_
  intro W base args ds gs before hval0 hW hcnd _
  have hval : ∀ (j : Nat) t v, Try.f3.params[j]? = some t → args[j]? = some v → Value.okWide Try.prog W .any base t v := hval0
  have hW' := hW
  have hlt := fun p hp => hW.lt (p := p) hp
  obtain ⟨p, q, hA0, hV, rfl, hfz, hnd⟩ := hW
  have hA : DataW.TrodAll enc Try.prog W 0 (fun _ => true) true Try.f3.params.toList args.toList ds p := hA0
  rw [Try.params3] at hA hval
  obtain ⟨v0, vs0, d0, ds0, p0, q0, hargs, rfl, rfl, h0, r0⟩ := trodAll_cons hA
  obtain ⟨rfl, rfl, rfl⟩ := trodAll_nil r0
  obtain rfl : args = #[v0] := by cases args; simp_all
  obtain ⟨rfl, rfl⟩ := trodVars_none hV
  have hsl := okWide_slice Try.underlying22 (hval 0 22 v0 rfl rfl)
  clear hA0 hval0
  simp only [List.append_nil] at hW' hlt
  refine (clintDoes_walk hsl h0).mono fun e W' ⟨he, hg⟩ => ?_
  subst he
  have ht := Below.trod laidOut (by kernel_rfl) (of_decide_eq_true (by kernel_rfl)) h0 hg (fun x hx => hlt x hx)
  refine ⟨_, rfl, post_old hW' (fun _ _ _ => (trodAll_cons_mk (shut_bool Try.underlying4 _) trodAll_mk0)) ?_ (fun _ => rfl) hg⟩
  have := trodAll_cons_mk ht (trodAll_mk0 (enc := enc) (P := Try.prog) (w := W') (base := 0) (spare := fun b => decide (b < W.heap.size)) (held := true))
  have h9 : DataW.TrodAll enc Try.prog W' 0 (fun b => decide (b < W.heap.size)) true [22] [v0] [d0] p0 := by simpa using this
  exact h9
theorem over : Rows.clintDoesRow.holds Try.pinned (OpenSpec.ofChange Rows.clintDoesSpec) :=
  OpenClaim.holds_of_wide 3 Try.f3 rfl rfl rfl rfl rfl rfl rfl ⟨rfl, rfl, rfl, rfl, rfl⟩ rfl rfl rfl rfl rfl (by kernel_rfl) Try.func3 (by kernel_rfl)
    (of_decide_eq_true (by kernel_rfl)) (by unfold Func.isWrapper; first | (rw [if_pos (by decide +kernel)]; kernel_rfl) | (rw [if_neg (by decide +kernel)]; exact ⟨rfl, rfl⟩))
    (fun os started H enc _ => lifted os started H enc)
theorem proved : Rows.ClintDoesSaid := over
#print axioms proved
end Go.Proofs.Ytilfeanampomjaa.clintDoes
