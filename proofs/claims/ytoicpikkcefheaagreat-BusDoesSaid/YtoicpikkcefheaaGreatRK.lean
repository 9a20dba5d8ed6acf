/- The document's plic: Copy. -/
import Derived.Test.YtoicpikkcefheaaGreatRJ
import Derived.Deep.AppendSrc
namespace Go.Proofs.YtoicpikkcefheaaGreat.P
open Go.ChangeShapes Go.WideShapes Go.ChangeAt Go.RowKit Go.Sort
open M (Fp Dj Cw Up Th)
set_option linter.unusedVariables false
set_option linter.unusedSimpArgs false
set_option maxRecDepth 20000
theorem info64 : (Tryz.prog.info? 29).map (fun i => (i.size, i.bytes, i.zero)) = some (1, 8, some (.int .u64 0)) := by kernel_rfl
theorem i64' : ∃ i, Tryz.prog.info? 29 = some i ∧ i.size = 1 ∧ i.bytes = 8 ∧ i.zero = some (.int .u64 0) := by
  have h := info64
  cases hi : Tryz.prog.info? 29 with
  | none => rw [hi] at h; exact absurd h (by simp)
  | some i =>
    rw [hi] at h
    simp only [Option.map_some, Option.some.injEq, Prod.mk.injEq] at h
    exact ⟨i, rfl, h.1, h.2.1, h.2.2⟩
def cells64 (n : Nat) (f : Nat → Nat) : List Value := (List.range n).map fun i => .int .u64 (f i : Nat)
theorem cells64_len (n : Nat) (f : Nat → Nat) : (cells64 n f).length = n := by simp [cells64]
theorem cells64_get (n : Nat) (f : Nat → Nat) (i : Nat) (hi : i < n) : (cells64 n f)[i]? = some (.int .u64 (f i : Nat)) := by simp [cells64, hi]
/-- A copy of a row of numbers. -/
theorem app64 {ops : Array Oper} {rest : List Oper} {op : Oper} {A : Act} {Q : Exit → Act → World → Prop} {w : World} (hgd : op.guard = none) (s x : Operand)
    (ho : op.op = .call { callee := .builtin .append, args := #[s, x], argTypes := #[95, 95] })
    (e n c : Nat) (f : Nat → Nat) (h0 : 0 < n) (hn : n ≤ 1000) (h : ∀ i, i < n → w.cell? ⟨e, i, none⟩ = some (.int .u64 (f i : Nat)))
    (sa : Option Addr) (hs : A.eval s = .slice sa 0 0) (hx : A.eval x = .slice (some ⟨e, 0, none⟩) n c)
    (k : ∀ g c' w', Below w.heap.size w w' → w.heap.size ≤ g → g < w'.heap.size → n ≤ c' → (∀ i, i < n → w'.cell? ⟨g, i, none⟩ = some (.int .u64 (f i : Nat)) ∧ w'.frozen? ⟨g, i, none⟩ = false) → wpList Tryz.prog ops Q rest (A.put op.dst (.slice (some ⟨g, 0, none⟩) n c')) w') : wpList Tryz.prog ops Q (op :: rest) A w := by
  obtain ⟨i, hi, h1, h2, h3⟩ := i64'
  have hsrc : Src Tryz.prog 1 95 (.slice (some ⟨e, 0, none⟩) n c) n (cells64 n f) w :=
    Src.ofSlice w Tryz.underlying95 ⟨e, 0, none⟩ n c (cells64 n f) (by rw [cells64_len, Nat.mul_one]) (fun j u hj => by
      have hj2 := (List.getElem?_eq_some_iff.1 hj).1
      rw [cells64_len] at hj2
      rw [cells64_get n f j hj2] at hj
      have := h j hj2
      rw [hj] at this
      by_cases h00 : j = 0
      · subst h00; exact this
      · rw [show Addr.add ⟨e, 0, none⟩ j = ⟨e, j, none⟩ by simp [Addr.add, h00]]; exact this) (fun u hu => by
      obtain ⟨_, _, rfl⟩ := List.mem_map.1 hu
      rfl)
  refine wpList_plain hgd fun K hK => ?_
  unfold Oper.wp execOp
  simp only [ho, resolve, invoke, builtin, Sem.run_bind, Sem.run_pure, Result.andThen_ok, List.map_toArray, List.map_cons, List.map_nil, hs, hx]
  have hold : (Builtin.firstCells i.size 0 (.slice sa 0 0)).run Tryz.prog w.drew = .ok (#[] : Array Value) w.drew := by
    cases sa with
    | none => exact run_firstCells_none w.drew i.size 0 0 0
    | some s => exact run_firstCells_some w.drew i.size 0 s 0 0 [] (by simp) (fun j u h => by simp at h)
  have hg := run_append_grow_src (P := Tryz.prog) w 95 95 op.type 29 i (.int .u64 0) Tryz.underlying95 hi h3 sa 0 0 [] hold _ n _ (by rw [h1]; exact hsrc) (by omega) (by omega) (growslice_fits (by omega) (by rw [h2]; omega))
  rw [hg, Nat.zero_add]
  have hge := grownCap_ge w n 0 29
  refine hK _ _ (k w.heap.size _ _ (Below.alloc (below_drewN (Below.refl _ _) 1) (Nat.le_refl _) _) (Nat.le_refl _) (by rw [sz_alloc, sz_drew]; omega) hge (fun j hj => ⟨?_, ?_⟩))
  · rw [show w.heap.size = w.drew.heap.size from (sz_drew w).symm, World.cell?_alloc_new, List.nil_append, Array.getElem?_append_left (by rw [List.size_toArray, cells64_len]; exact hj), List.getElem?_toArray]
    exact cells64_get n f j hj
  · rw [World.frozen?_alloc_at _ _ _ _ (sz_drew w).symm]
/-- The new block's cells. -/
structure Box (w : World) (o u v s : Nat) (x3 x4 x5 : Value) : Prop where
  lo : o < w.heap.size
  c0 : w.cell? ⟨o, 0, none⟩ = some (.int .u64 (u : Nat))
  c1 : w.cell? ⟨o, 1, none⟩ = some (.int .u64 (v : Nat))
  c2 : w.cell? ⟨o, 2, none⟩ = some (.int .u64 (s : Nat))
  c3 : w.cell? ⟨o, 3, none⟩ = some x3
  c4 : w.cell? ⟨o, 4, none⟩ = some x4
  c5 : w.cell? ⟨o, 5, none⟩ = some x5
  fo : ∀ j, w.frozen? ⟨o, j, none⟩ = false
theorem Box.below {w w' : World} {o u v s : Nat} {x3 x4 x5 : Value} (h : Box w o u v s x3 x4 x5) (hb : Below w.heap.size w w') : Box w' o u v s x3 x4 x5 := by
  have c := fun j => hb.cell (p := ⟨o, j, none⟩) h.lo
  exact ⟨Nat.lt_of_lt_of_le h.lo hb.size, (c 0).trans h.c0, (c 1).trans h.c1, (c 2).trans h.c2, (c 3).trans h.c3, (c 4).trans h.c4, (c 5).trans h.c5, fun j => (hb.frozen (p := ⟨o, j, none⟩) h.lo).trans (h.fo j)⟩
theorem Box.set {w : World} {o u v s : Nat} {x3 x4 x5 : Value} (h : Box w o u v s x3 x4 x5) (y : Value) :
    Box (w.setCell ⟨o, 3, none⟩ y) o u v s y x4 x5 ∧ Box (w.setCell ⟨o, 4, none⟩ y) o u v s x3 y x5 ∧ Box (w.setCell ⟨o, 5, none⟩ y) o u v s x3 x4 y := by
  have q : ∀ i j x, w.cell? ⟨o, i, none⟩ = some x → j ≠ i → (w.setCell ⟨o, j, none⟩ y).cell? ⟨o, i, none⟩ = some x := fun i j x hx hn => by rw [cell_far (.inr hn)]; exact hx
  have z : ∀ i x, w.cell? ⟨o, i, none⟩ = some x → (w.setCell ⟨o, i, none⟩ y).cell? ⟨o, i, none⟩ = some y := fun i x hx => World.cell?_setCell_same _ _ _ hx
  have f : ∀ i j, (w.setCell ⟨o, i, none⟩ y).frozen? ⟨o, j, none⟩ = false := fun i j => (World.frozen?_setCell _ _ _ _).trans (h.fo j)
  have l : ∀ i, o < (w.setCell ⟨o, i, none⟩ y).heap.size := fun i => by rw [sz_set]; exact h.lo
  exact ⟨⟨l 3, q 0 3 _ h.c0 (by decide), q 1 3 _ h.c1 (by decide), q 2 3 _ h.c2 (by decide), z 3 _ h.c3, q 4 3 _ h.c4 (by decide), q 5 3 _ h.c5 (by decide), f 3⟩,
    ⟨l 4, q 0 4 _ h.c0 (by decide), q 1 4 _ h.c1 (by decide), q 2 4 _ h.c2 (by decide), q 3 4 _ h.c3 (by decide), z 4 _ h.c4, q 5 4 _ h.c5 (by decide), f 4⟩,
    ⟨l 5, q 0 5 _ h.c0 (by decide), q 1 5 _ h.c1 (by decide), q 2 5 _ h.c2 (by decide), q 3 5 _ h.c3 (by decide), q 4 5 _ h.c4 (by decide), z 5 _ h.c5, f 5⟩⟩
theorem row_kept {w w' : World} {g n : Nat} {f : Nat → Nat} (h : ∀ i, i < n → w.cell? ⟨g, i, none⟩ = some (.int .u64 (f i : Nat)) ∧ w.frozen? ⟨g, i, none⟩ = false) (hg : g < w.heap.size) (hb : Below w.heap.size w w') : ∀ i, i < n → w'.cell? ⟨g, i, none⟩ = some (.int .u64 (f i : Nat)) ∧ w'.frozen? ⟨g, i, none⟩ = false :=
  fun i hi => ⟨(hb.cell (p := ⟨g, i, none⟩) hg).trans (h i hi).1, (hb.frozen (p := ⟨g, i, none⟩) hg).trans (h i hi).2⟩
theorem row_set {w : World} {g n o j : Nat} {y : Value} {f : Nat → Nat} (h : ∀ i, i < n → w.cell? ⟨g, i, none⟩ = some (.int .u64 (f i : Nat)) ∧ w.frozen? ⟨g, i, none⟩ = false) (hg : o ≠ g) : ∀ i, i < n → (w.setCell ⟨o, j, none⟩ y).cell? ⟨g, i, none⟩ = some (.int .u64 (f i : Nat)) ∧ (w.setCell ⟨o, j, none⟩ y).frozen? ⟨g, i, none⟩ = false :=
  fun i hi => ⟨by rw [cell_far (.inl hg)]; exact (h i hi).1, (World.frozen?_setCell _ _ _ _).trans (h i hi).2⟩
set_option maxRecDepth 100000 in
set_option maxHeartbeats 4000000 in
theorem copy_r (b e p t ce cp ct u v s : Nat) (S : St) (w : World) (h : Hid (IsRP w b e p t ce cp ct u v s S)) : Calls Tryz.prog 51 #[.pointer (some ⟨b, 0, none⟩)] w (RetRPN S w) := by
  have k0 := h.out.raw.c0
  have k1 := h.out.raw.c1
  have k2 := h.out.raw.c2
  have lb := Lib.hid h.out.raw.lb
  go_enter Tryz.func51, Tryz.ntmps51
  go_wp2_with fail
  go_region
  have HX0 : Hid (Box (w.alloc (.cells #[.int .u64 (u : Nat), .int .u64 (v : Nat), .int .u64 (s : Nat), .slice none 0 0, .slice none 0 0, .slice none 0 0] 97)).drew w.heap.size u v s (.slice none 0 0) (.slice none 0 0) (.slice none 0 0)) := by
    refine ⟨by simp only [sz_drew, sz_alloc]; omega, ?_, ?_, ?_, ?_, ?_, ?_, fun j => by rw [World.frozen?_drew, World.frozen?_alloc_at _ _ _ _ rfl]⟩ <;> (rw [World.cell?_drew, World.cell?_alloc_at _ _ _ _ rfl]; rfl)
  have HW1 := Lib.hid (show Below w.heap.size w (w.alloc (.cells #[.int .u64 (u : Nat), .int .u64 (v : Nat), .int .u64 (s : Nat), .slice none 0 0, .slice none 0 0, .slice none 0 0] 97)).drew from (by repeat (first | (with_reducible first | exact Below.refl _ _ | assumption | exact Nat.le_refl _ | refine Below.drew ?_ | refine Below.alloc ?_ ?_ _ | refine Below.setCell ?_ ?_ _ | refine le_alloc ?_ | refine le_set ?_ | refine le_drew ?_ | refine below_step (by assumption) ?_ ?_ | refine le_below (by assumption) ?_) | (dsimp only; omega))))
  generalize (w.alloc (.cells #[.int .u64 (u : Nat), .int .u64 (v : Nat), .int .u64 (s : Nat), .slice none 0 0, .slice none 0 0, .slice none 0 0] 97)).drew = w1 at *
  generalize ho : w.heap.size = o at HX0 ⊢
  have HO := Lib.hid ho
  have nb : ¬ b = o := by have := lb.out; omega
  have nb2 : ¬ o = b := by have := lb.out; omega
  have lb1 : b < w1.heap.size := Nat.lt_of_lt_of_le lb.out HW1.out.size
  have kb1 := (h.out.raw.below HW1.out).c3
  clear k0 k1 k2 ho
  go_wp2_with (first
    | (at_builtin; refine app64 rfl (.tmp 19) (.tmp 23) rfl e 2 ce S.en (by decide) (by decide) (fun i hi => ((h.out.raw.below (HW1.out.trans ((below_one _ _).mono HW1.out.size))).en i hi).1) _ rfl rfl ?_; intro g1 d1 w2 q1 q2 q3 q4 q5; have HD1 := Lib.hid q4; have HC1 := Lib.hid q5; have HG1 := Lib.hid (Nat.le_trans (Nat.le_of_lt (by rw [sz_alloc]; exact Nat.lt_succ_self _)) q2); have HL1 := Lib.hid q3; have HV1 := Lib.hid (HW1.out.trans (((below_one _ _).trans (q1.mono (by rw [sz_alloc]; omega))).mono HW1.out.size)); have HY1 := Lib.hid ((HX0.out.below (below_one _ _)).below q1); have HQ1 := Lib.hid ((below_one _ _).trans (q1.mono (by rw [sz_alloc]; omega))); have kc1 := HY1.out.c3; have f1 := HY1.out.fo 3; have kb2 := (h.out.raw.below HV1.out).c4; have lb2 : b < w2.heap.size := Nat.lt_of_lt_of_le lb.out HV1.out.size; have HW2 := Lib.hid (HV1.out.setCell (p := ⟨o, 3, none⟩) (Nat.le_of_eq HO.out) (.slice (some ⟨g1, 0, none⟩) 2 d1)); have HX1 := Lib.hid (HY1.out.set (.slice (some ⟨g1, 0, none⟩) 2 d1)).1; clear q1 q2 q3 q4 q5)
    | (at_builtin; refine app64 rfl (.tmp 28) (.tmp 32) rfl p 9 cp S.pr (by decide) (by decide) (fun i hi => ((h.out.raw.below (HW2.out.trans ((below_one _ _).mono HW2.out.size))).pr i hi).1) _ rfl rfl ?_; intro g2 d2 w3 q1 q2 q3 q4 q5; have HD2 := Lib.hid q4; have HC2 := Lib.hid q5; have HG2 := Lib.hid (Nat.le_trans (Nat.le_of_lt (by rw [sz_alloc]; exact Nat.lt_succ_self _)) q2); have HL2 := Lib.hid q3; have HV2 := Lib.hid (HW2.out.trans (((below_one _ _).trans (q1.mono (by rw [sz_alloc]; omega))).mono HW2.out.size)); have HY2 := Lib.hid ((HX1.out.below (below_one _ _)).below q1); have HQ2 := Lib.hid ((below_one _ _).trans (q1.mono (by rw [sz_alloc]; omega))); have kc2 := HY2.out.c4; have f2 := HY2.out.fo 4; have kb3 := (h.out.raw.below HV2.out).c5; have lb3 : b < w3.heap.size := Nat.lt_of_lt_of_le lb.out HV2.out.size; have HW3 := Lib.hid (HV2.out.setCell (p := ⟨o, 4, none⟩) (Nat.le_of_eq HO.out) (.slice (some ⟨g2, 0, none⟩) 9 d2)); have HX2 := Lib.hid (HY2.out.set (.slice (some ⟨g2, 0, none⟩) 9 d2)).2.1; clear q1 q2 q3 q4 q5)
    | (at_builtin; refine app64 rfl (.tmp 37) (.tmp 41) rfl t 2 ct S.th (by decide) (by decide) (fun i hi => ((h.out.raw.below (HW3.out.trans ((below_one _ _).mono HW3.out.size))).th i hi).1) _ rfl rfl ?_; intro g3 d3 w4 q1 q2 q3 q4 q5; have HD3 := Lib.hid q4; have HC3 := Lib.hid q5; have HG3 := Lib.hid (Nat.le_trans (Nat.le_of_lt (by rw [sz_alloc]; exact Nat.lt_succ_self _)) q2); have HL3 := Lib.hid q3; have HV3 := Lib.hid (HW3.out.trans (((below_one _ _).trans (q1.mono (by rw [sz_alloc]; omega))).mono HW3.out.size)); have HY3 := Lib.hid ((HX2.out.below (below_one _ _)).below q1); have HQ3 := Lib.hid ((below_one _ _).trans (q1.mono (by rw [sz_alloc]; omega))); have kc3 := HY3.out.c5; have f3 := HY3.out.fo 5; have HW4 := Lib.hid (HV3.out.setCell (p := ⟨o, 5, none⟩) (Nat.le_of_eq HO.out) (.slice (some ⟨g3, 0, none⟩) 2 d3)); have HX3 := Lib.hid (HY3.out.set (.slice (some ⟨g3, 0, none⟩) 2 d3)).2.2; clear q1 q2 q3 q4 q5))
  go_ret
  have l0 := HX0.out.lo
  have l1 := HG1.out; have m1 := HL1.out
  have l2 := HG2.out; have m2 := HL2.out
  have l3 := HG3.out; have m3 := HL3.out
  rw [sz_set] at l2 l3
  have z1 := HV1.out.size
  have e0 := HO.out
  have R1 := row_set (row_kept (row_set (row_kept (row_set (o := o) (j := 3) (y := .slice (some ⟨g1, 0, none⟩) 2 d1) HC1.out (by omega)) (by rw [sz_set]; exact HL1.out) HQ2.out) (o := o) (j := 4) (y := .slice (some ⟨g2, 0, none⟩) 9 d2) (by omega)) (by rw [sz_set]; have := HQ2.out.size; rw [sz_set] at this; omega) HQ3.out) (o := o) (j := 5) (y := .slice (some ⟨g3, 0, none⟩) 2 d3) (by omega)
  have R2 := row_set (row_kept (row_set (o := o) (j := 4) (y := .slice (some ⟨g2, 0, none⟩) 9 d2) HC2.out (by have := HQ2.out.size; rw [sz_set] at this; omega)) (by rw [sz_set]; exact HL2.out) HQ3.out) (o := o) (j := 5) (y := .slice (some ⟨g3, 0, none⟩) 2 d3) (by omega)
  have R3 := row_set (o := o) (j := 5) (y := .slice (some ⟨g3, 0, none⟩) 2 d3) HC3.out (by omega)
  have X := HX3.out
  have y2 := HQ2.out.size
  have y3 := HQ3.out.size
  rw [sz_set] at y2 y3
  exact ⟨o, g1, g2, g3, d1, d2, d3, rfl, ⟨u, v, s, ⟨⟨by rw [sz_set]; omega, by rw [sz_set]; omega, by rw [sz_set]; omega, by rw [sz_set]; omega, by omega, by omega, by omega, by omega, by omega, by omega, X.c0, X.c1, X.c2, X.c3, X.c4, X.c5, X.fo, R1, R2, R3, HD1.out, HD2.out, HD3.out⟩, h.out.bu, h.out.bv, h.out.bs, h.out.ok, h.out.inv⟩⟩, fun k o' hk => by rcases hk with q | q | q | q <;> omega, HW4.out⟩
end Go.Proofs.YtoicpikkcefheaaGreat.P
