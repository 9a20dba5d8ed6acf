/- The walk of TlbPages. -/
import Derived.Test.YtdplcdgdndeopaaF2
import Derived.Test.YtdplcdgdndeopaaM1
namespace Go.Proofs.Ytdplcdgdndeopaa
open Go.ChangeShapes Go.WideShapes Go.ChangeAt Go.RowKit Go.Sort
set_option linter.unusedVariables false
set_option linter.unusedSimpArgs false
set_option maxRecDepth 100000 in
set_option maxHeartbeats 4000000 in
theorem pages_m1 {T : Nat → St → Th} (O : TlbOk T) (w : World) (kd lv : Int) (ad0 sp0 lf s2 a2 aw ad sp aw' a1 a2' a3 a4 : Nat) (gl q1 q2 : Bool) (X1 : St) (hq : lv.tmod 3 = (-1))
    (fAt : bits .andNot .u64 (ad0 : Int) 2097151 = (ad : Int)) (fSp : (sp0 : Int) % 65536 = (sp : Int)) (fAw : bits .and .u64 (aw : Int) 2097151 = (aw' : Int)) (fOr : bits .or .u64 (ad : Int) (aw' : Int) = (a1 : Int))
    (fA2 : bits .andNot .u64 (a2 : Int) 2097151 = (a2' : Int)) (fEq : ((a2' : Int) == (ad : Int)) = q1) (fSq : ((s2 : Int) == (sp : Int)) = q2) (fA3 : IntKind.u64.wrap (IntKind.u64.wrap ((ad : Int) + 2097151) + 1) = (a3 : Int)) (fA4 : IntKind.u64.wrap ((ad : Int) - 1) = (a4 : Int))
    (hN : Hid (∀ (l : List Th) (u : World), Grp w l u → Calls Try.prog 9 #[.int .u64 (lf : Nat)] u (fun e w' => ∃ b, e = .returned (.pointer (some ⟨b, 0, none⟩)) ∧ Grp w (l ++ [T b (S0 lf)]) w')))
    (hP : Hid (∀ (l : List Th) (u : World) (i b : Nat), Grp w l u → l[i]? = some (T b (S0 lf)) → Calls Try.prog 11 #[.pointer (some ⟨b, 0, none⟩), .agg #[.int .u64 (ad : Nat), .int .i64 1, .int .u64 (sp : Nat), .bool gl, .int .u64 (lf : Nat)]] u (fun e w' => e = .returned (.bool true) ∧ Grp w (l.set i (T b X1)) w')))
    (hF1 : Hid (∀ (l : List Th) (u : World) (i b : Nat), Grp w l u → l[i]? = some (T b X1) → Calls Try.prog 14 #[.pointer (some ⟨b, 0, none⟩), .int .u64 (sp : Nat), .int .u64 (a1 : Nat)] u (fun e w' => e = .returned (.tuple #[.agg (En.v ⟨ad, 1, sp, gl, lf⟩), .bool true]) ∧ Grp w l w')))
    (hF2 : Hid (∀ (l : List Th) (u : World) (i b : Nat), Grp w l u → l[i]? = some (T b X1) → Calls Try.prog 14 #[.pointer (some ⟨b, 0, none⟩), .int .u64 (s2 : Nat), .int .u64 (a2 : Nat)] u (fun e w' => e = .returned (.tuple #[.agg (En.v (bif q1 && (gl || q2) then ⟨ad, 1, sp, gl, lf⟩ else E0)), .bool (q1 && (gl || q2))]) ∧ Grp w l w')))
    (hF3 : Hid (∀ (l : List Th) (u : World) (i b : Nat), Grp w l u → l[i]? = some (T b X1) → Calls Try.prog 14 #[.pointer (some ⟨b, 0, none⟩), .int .u64 (sp : Nat), .int .u64 (a3 : Nat)] u (fun e w' => e = .returned (.tuple #[.agg E0.v, .bool false]) ∧ Grp w l w')))
    (hF4 : Hid (∀ (l : List Th) (u : World) (i b : Nat), Grp w l u → l[i]? = some (T b X1) → Calls Try.prog 14 #[.pointer (some ⟨b, 0, none⟩), .int .u64 (sp : Nat), .int .u64 (a4 : Nat)] u (fun e w' => e = .returned (.tuple #[.agg E0.v, .bool false]) ∧ Grp w l w')))
    (hA : Hid (∀ (l : List Th) (u : World) (i b : Nat), Grp w l u → l[i]? = some (T b X1) → Calls Try.prog 20 #[.pointer (some ⟨b, 0, none⟩)] u (fun e w' => ∃ g c, e = .returned (.slice (some ⟨g, 0, none⟩) 1 c) ∧ Grp w l w' ∧ w'.cell? ⟨g, 0, none⟩ = some (.int .u64 (ad : Nat)) ∧ w'.cell? ⟨g, 1, none⟩ = some (.int .i64 1) ∧ w'.cell? ⟨g, 2, none⟩ = some (.int .u64 (sp : Nat)) ∧ w'.cell? ⟨g, 3, none⟩ = some (.bool gl) ∧ w'.cell? ⟨g, 4, none⟩ = some (.int .u64 (lf : Nat))))) :
    Calls Try.prog 6 #[.agg #[.int .i64 kd, .int .u64 (ad0 : Nat), .int .i64 lv, .int .u64 (sp0 : Nat), .bool gl, .int .u64 (lf : Nat)], .int .u64 (s2 : Nat), .int .u64 (a2 : Nat), .int .u64 (aw : Nat)] w (RetB true w) := by
  have N0 : Hid (Grp w [eRow w.heap.size 30 #[.int .i64 kd, .int .u64 (ad0 : Nat), .int .i64 lv, .int .u64 (sp0 : Nat), .bool gl, .int .u64 (lf : Nat)]] (w.alloc (Obj.cells #[.int .i64 kd, .int .u64 (ad0 : Nat), .int .i64 lv, .int .u64 (sp0 : Nat), .bool gl, .int .u64 (lf : Nat)] 30))) := newBox (grp_nil (Below.refl _ _)) _ _
  obtain ⟨W0, hW0⟩ : ∃ W0, W0 = w.alloc (Obj.cells #[.int .i64 kd, .int .u64 (ad0 : Nat), .int .i64 lv, .int .u64 (sp0 : Nat), .bool gl, .int .u64 (lf : Nat)] 30) := ⟨_, rfl⟩
  rw [← hW0] at N0
  have HW := Lib.hid hW0
  clear hW0
  go_enter Try.func6, Try.ntmps6
  go_upto_region 1 with fail
  rw [show w.alloc (Obj.cells #[.int .i64 kd, .int .u64 (ad0 : Nat), .int .i64 lv, .int .u64 (sp0 : Nat), .bool gl, .int .u64 (lf : Nat)] 30) = W0 from HW.out.symm]
  clear HW
  generalize w.heap.size = gx at N0 ⊢
  go_wp2_with fail
  refine (fixed_c O W0).mono ?_; rintro e w1 ⟨rfl, hb⟩
  have H1 : Hid (Grp w [eRow gx 30 #[.int .i64 kd, .int .u64 (ad0 : Nat), .int .i64 lv, .int .u64 (sp0 : Nat), .bool gl, .int .u64 (lf : Nat)]] w1) := N0.out.below hb
  clear hb N0
  have x1 : w1.cell? ⟨gx, 1, none⟩ = some (.int .u64 (ad0 : Nat)) := ((rowAt H1.out 0 rfl).2.cell 1).trans rfl
  have x2 : w1.cell? ⟨gx, 2, none⟩ = some (.int .i64 lv) := ((rowAt H1.out 0 rfl).2.cell 2).trans rfl
  have x3 : w1.cell? ⟨gx, 3, none⟩ = some (.int .u64 (sp0 : Nat)) := ((rowAt H1.out 0 rfl).2.cell 3).trans rfl
  have x4 : w1.cell? ⟨gx, 4, none⟩ = some (.bool gl) := ((rowAt H1.out 0 rfl).2.cell 4).trans rfl
  have x5 : w1.cell? ⟨gx, 5, none⟩ = some (.int .u64 (lf : Nat)) := ((rowAt H1.out 0 rfl).2.cell 5).trans rfl
  have N1 : Hid (Grp w [eRow gx 30 #[.int .i64 kd, .int .u64 (ad0 : Nat), .int .i64 lv, .int .u64 (sp0 : Nat), .bool gl, .int .u64 (lf : Nat)], eRow w1.heap.size 33 (En.v ⟨ad, 1, sp, gl, lf⟩)] ((w1.alloc (Obj.cells E0.v 33)).setRow w1.heap.size (En.v ⟨ad, 1, sp, gl, lf⟩))) := newRow H1.out 33 E0.v _
  go_upto_region 8 with (refine wpList_store_rowP (fun wx => Grp w [eRow gx 30 #[.int .i64 kd, .int .u64 (ad0 : Nat), .int .i64 lv, .int .u64 (sp0 : Nat), .bool gl, .int .u64 (lf : Nat)], eRow w1.heap.size 33 (En.v ⟨ad, 1, sp, gl, lf⟩)] wx) rfl 33 _ _ rfl w1.heap.size (En.v ⟨ad, 1, sp, gl, lf⟩) rfl rfl 33 E0.v (row_new _ _ _) (info_te _) rfl (one_en _) N1.out ?_; rintro w2 h)
  have H2 : Hid (Grp w [eRow gx 30 #[.int .i64 kd, .int .u64 (ad0 : Nat), .int .i64 lv, .int .u64 (sp0 : Nat), .bool gl, .int .u64 (lf : Nat)], eRow w1.heap.size 33 (En.v ⟨ad, 1, sp, gl, lf⟩)] w2) := h
  clear h N1 H1 x1 x2 x3 x4 x5
  generalize w1.heap.size = ge at H2 ⊢
  clear w1
  have x5 : w2.cell? ⟨gx, 5, none⟩ = some (.int .u64 (lf : Nat)) := ((rowAt H2.out 0 rfl).2.cell 5).trans rfl
  go_wp2_with fail
  refine (hN.out _ _ H2.out).mono ?_; rintro e w3 ⟨tb, rfl, h⟩
  have H3 : Hid (Grp w [eRow gx 30 #[.int .i64 kd, .int .u64 (ad0 : Nat), .int .i64 lv, .int .u64 (sp0 : Nat), .bool gl, .int .u64 (lf : Nat)], eRow ge 33 (En.v ⟨ad, 1, sp, gl, lf⟩), T tb (S0 lf)] w3) := h
  clear h H2 hN x5
  go_wp2_with (refine wpList_load_row rfl 33 _ rfl ge rfl 33 #[.int .u64 (ad : Nat), .int .i64 1, .int .u64 (sp : Nat), .bool gl, .int .u64 (lf : Nat)] (0, 0) _ (rowAt H3.out 1 rfl).2 Try.underlying33 rfl (info_te ⟨ad, 1, sp, gl, lf⟩) ?_)
  refine (hP.out _ _ 2 tb H3.out rfl).mono ?_; rintro e w4 ⟨rfl, h⟩
  have H4 : Hid (Grp w [eRow gx 30 #[.int .i64 kd, .int .u64 (ad0 : Nat), .int .i64 lv, .int .u64 (sp0 : Nat), .bool gl, .int .u64 (lf : Nat)], eRow ge 33 (En.v ⟨ad, 1, sp, gl, lf⟩), T tb X1] w4) := h
  clear h H3 hP
  obtain ⟨y0, y1, y2, y3, y4⟩ := row5 (rowAt H4.out 1 rfl).2
  simp only [] at y0 y1 y2 y3 y4
  go_wp2_with fail
  refine (hF1.out _ _ 2 tb H4.out rfl).mono ?_; rintro e w5 ⟨rfl, h⟩
  have H5 : Hid (Grp w [eRow gx 30 #[.int .i64 kd, .int .u64 (ad0 : Nat), .int .i64 lv, .int .u64 (sp0 : Nat), .bool gl, .int .u64 (lf : Nat)], eRow ge 33 (En.v ⟨ad, 1, sp, gl, lf⟩), T tb X1] w5) := h
  clear h H4 hF1 y0 y1 y2 y3 y4
  have N1 : Hid (Grp w [eRow gx 30 #[.int .i64 kd, .int .u64 (ad0 : Nat), .int .i64 lv, .int .u64 (sp0 : Nat), .bool gl, .int .u64 (lf : Nat)], eRow ge 33 (En.v ⟨ad, 1, sp, gl, lf⟩), T tb X1, eRow w5.heap.size 33 (En.v ⟨ad, 1, sp, gl, lf⟩)] ((w5.alloc (Obj.cells E0.v 33)).setRow w5.heap.size (En.v ⟨ad, 1, sp, gl, lf⟩))) := newRow H5.out 33 E0.v _
  go_upto_region 12 with (refine wpList_store_rowP (fun wx => Grp w [eRow gx 30 #[.int .i64 kd, .int .u64 (ad0 : Nat), .int .i64 lv, .int .u64 (sp0 : Nat), .bool gl, .int .u64 (lf : Nat)], eRow ge 33 (En.v ⟨ad, 1, sp, gl, lf⟩), T tb X1, eRow w5.heap.size 33 (En.v ⟨ad, 1, sp, gl, lf⟩)] wx) rfl 33 _ _ rfl w5.heap.size (En.v ⟨ad, 1, sp, gl, lf⟩) rfl rfl 33 E0.v (row_new _ _ _) (info_te _) rfl (one_en _) N1.out ?_; rintro w6 h)
  have H6 : Hid (Grp w [eRow gx 30 #[.int .i64 kd, .int .u64 (ad0 : Nat), .int .i64 lv, .int .u64 (sp0 : Nat), .bool gl, .int .u64 (lf : Nat)], eRow ge 33 (En.v ⟨ad, 1, sp, gl, lf⟩), T tb X1, eRow w5.heap.size 33 (En.v ⟨ad, 1, sp, gl, lf⟩)] w6) := h
  clear h N1 H5
  generalize w5.heap.size = g13 at H6 ⊢
  clear w5
  obtain ⟨y0, y1, y2, y3, y4⟩ := row5 (rowAt H6.out 1 rfl).2
  obtain ⟨z0, z1, z2, z3, z4⟩ := row5 (rowAt H6.out 3 rfl).2
  simp only [] at y0 y1 y2 y3 y4 z0 z1 z2 z3 z4
  go_wp2_with fail
  refine (hF2.out _ _ 2 tb H6.out rfl).mono ?_; rintro e w7 ⟨rfl, h⟩
  have H7 : Hid (Grp w [eRow gx 30 #[.int .i64 kd, .int .u64 (ad0 : Nat), .int .i64 lv, .int .u64 (sp0 : Nat), .bool gl, .int .u64 (lf : Nat)], eRow ge 33 (En.v ⟨ad, 1, sp, gl, lf⟩), T tb X1] w7) := h.pick _ (fun i => i) (fun i F hi => by
    have hl : i < 3 := len_of hi
    have : i = 0 ∨ i = 1 ∨ i = 2 := by omega
    rcases this with rfl | rfl | rfl <;> exact hi) (fun i j _ _ hij => hij)
  clear h H6 hF2 y0 y1 y2 y3 y4 z0 z1 z2 z3 z4
  generalize hinn : (q1 && (gl || q2)) = inn
  have HI := Lib.hid hinn
  clear hinn
  have N1 : Hid (Grp w [eRow gx 30 #[.int .i64 kd, .int .u64 (ad0 : Nat), .int .i64 lv, .int .u64 (sp0 : Nat), .bool gl, .int .u64 (lf : Nat)], eRow ge 33 (En.v ⟨ad, 1, sp, gl, lf⟩), T tb X1, eRow w7.heap.size 33 (En.v (bif inn then ⟨ad, 1, sp, gl, lf⟩ else E0))] ((w7.alloc (Obj.cells E0.v 33)).setRow w7.heap.size (En.v (bif inn then ⟨ad, 1, sp, gl, lf⟩ else E0)))) := newRow H7.out 33 E0.v _
  go_upto_region 15 with (refine wpList_store_rowP (fun wx => Grp w [eRow gx 30 #[.int .i64 kd, .int .u64 (ad0 : Nat), .int .i64 lv, .int .u64 (sp0 : Nat), .bool gl, .int .u64 (lf : Nat)], eRow ge 33 (En.v ⟨ad, 1, sp, gl, lf⟩), T tb X1, eRow w7.heap.size 33 (En.v (bif inn then ⟨ad, 1, sp, gl, lf⟩ else E0))] wx) rfl 33 _ _ rfl w7.heap.size (En.v (bif inn then ⟨ad, 1, sp, gl, lf⟩ else E0)) rfl rfl 33 E0.v (row_new _ _ _) (info_te _) rfl (one_en _) N1.out ?_; rintro w8 h)
  have H8 : Hid (Grp w [eRow gx 30 #[.int .i64 kd, .int .u64 (ad0 : Nat), .int .i64 lv, .int .u64 (sp0 : Nat), .bool gl, .int .u64 (lf : Nat)], eRow ge 33 (En.v ⟨ad, 1, sp, gl, lf⟩), T tb X1, eRow w7.heap.size 33 (En.v (bif inn then ⟨ad, 1, sp, gl, lf⟩ else E0))] w8) := h
  clear h N1 H7
  generalize w7.heap.size = g15 at H8 ⊢
  clear w7
  have z8 : Hid (ge = ge) := rfl
  clear z8
  obtain ⟨y0, y1, y2, y3, y4⟩ := row5 (rowAt H8.out 1 rfl).2
  simp only [] at y0 y1 y2 y3 y4
  go_cut [17] (fun t wx => t = .bool inn ∧ wx = w8)
  case first =>
    cases q1
    · go_wp2_with fail
      go_meet
      exact ⟨congrArg Value.bool HI.out, rfl⟩
    · cases gl
      · cases q2
        · go_wp2_with fail
          go_meet
          exact ⟨congrArg Value.bool HI.out, rfl⟩
        · go_wp2_with fail
          go_meet
          exact ⟨congrArg Value.bool HI.out, rfl⟩
      · go_wp2_with fail
        go_meet
        exact ⟨congrArg Value.bool HI.out, rfl⟩
  case rest =>
    obtain ⟨rfl, rfl⟩ := hcut
    clear HI fEq fSq
    cases inn
    all_goals
      obtain ⟨v0, v1, v2, v3, v4⟩ := row5 (rowAt H8.out 3 rfl).2
      simp only [cond_true, cond_false, E0] at v0 v1 v2 v3 v4
      go_wp2_with fail
      refine (hF3.out _ _ 2 tb H8.out rfl).mono ?_; rintro e w9 ⟨rfl, h⟩
      have H9 : Hid (Grp w [eRow gx 30 #[.int .i64 kd, .int .u64 (ad0 : Nat), .int .i64 lv, .int .u64 (sp0 : Nat), .bool gl, .int .u64 (lf : Nat)], eRow ge 33 (En.v ⟨ad, 1, sp, gl, lf⟩), T tb X1] w9) := h.pick _ (fun i => i) (fun i F hi => by
        have hl : i < 3 := len_of hi
        have : i = 0 ∨ i = 1 ∨ i = 2 := by omega
        rcases this with rfl | rfl | rfl <;> exact hi) (fun i j _ _ hij => hij)
      clear h H8 hF3 y0 y1 y2 y3 y4 v0 v1 v2 v3 v4
      have N1 : Hid (Grp w [eRow gx 30 #[.int .i64 kd, .int .u64 (ad0 : Nat), .int .i64 lv, .int .u64 (sp0 : Nat), .bool gl, .int .u64 (lf : Nat)], eRow ge 33 (En.v ⟨ad, 1, sp, gl, lf⟩), T tb X1] ((w9.alloc (Obj.cells E0.v 33)).setRow w9.heap.size E0.v)) := H9.out.below (below_setRow ((Below.refl _ _).alloc (Nat.le_refl _) _) (Nat.le_refl _) _)
      go_upto_region 19 with (refine wpList_store_rowP (fun wx => Grp w [eRow gx 30 #[.int .i64 kd, .int .u64 (ad0 : Nat), .int .i64 lv, .int .u64 (sp0 : Nat), .bool gl, .int .u64 (lf : Nat)], eRow ge 33 (En.v ⟨ad, 1, sp, gl, lf⟩), T tb X1] wx) rfl 33 _ _ rfl w9.heap.size E0.v rfl rfl 33 E0.v (row_new _ _ _) (info_te _) rfl (one_en _) N1.out ?_; rintro w10 h)
      have H10 : Hid (Grp w [eRow gx 30 #[.int .i64 kd, .int .u64 (ad0 : Nat), .int .i64 lv, .int .u64 (sp0 : Nat), .bool gl, .int .u64 (lf : Nat)], eRow ge 33 (En.v ⟨ad, 1, sp, gl, lf⟩), T tb X1] w10) := h
      clear h N1 H9
      generalize w9.heap.size = g18
      clear w9
      obtain ⟨y0, y1, y2, y3, y4⟩ := row5 (rowAt H10.out 1 rfl).2
      simp only [] at y0 y1 y2 y3 y4
      go_wp2_with fail
      refine (hF4.out _ _ 2 tb H10.out rfl).mono ?_; rintro e w11 ⟨rfl, h⟩
      have H11 : Hid (Grp w [eRow gx 30 #[.int .i64 kd, .int .u64 (ad0 : Nat), .int .i64 lv, .int .u64 (sp0 : Nat), .bool gl, .int .u64 (lf : Nat)], eRow ge 33 (En.v ⟨ad, 1, sp, gl, lf⟩), T tb X1] w11) := h
      clear h H10 hF4 y0 y1 y2 y3 y4
      have N1 : Hid (Grp w [eRow gx 30 #[.int .i64 kd, .int .u64 (ad0 : Nat), .int .i64 lv, .int .u64 (sp0 : Nat), .bool gl, .int .u64 (lf : Nat)], eRow ge 33 (En.v ⟨ad, 1, sp, gl, lf⟩), T tb X1] ((w11.alloc (Obj.cells E0.v 33)).setRow w11.heap.size E0.v)) := H11.out.below (below_setRow ((Below.refl _ _).alloc (Nat.le_refl _) _) (Nat.le_refl _) _)
      go_upto_region 20 with (refine wpList_store_rowP (fun wx => Grp w [eRow gx 30 #[.int .i64 kd, .int .u64 (ad0 : Nat), .int .i64 lv, .int .u64 (sp0 : Nat), .bool gl, .int .u64 (lf : Nat)], eRow ge 33 (En.v ⟨ad, 1, sp, gl, lf⟩), T tb X1] wx) rfl 33 _ _ rfl w11.heap.size E0.v rfl rfl 33 E0.v (row_new _ _ _) (info_te _) rfl (one_en _) N1.out ?_; rintro w12 h)
      have H12 : Hid (Grp w [eRow gx 30 #[.int .i64 kd, .int .u64 (ad0 : Nat), .int .i64 lv, .int .u64 (sp0 : Nat), .bool gl, .int .u64 (lf : Nat)], eRow ge 33 (En.v ⟨ad, 1, sp, gl, lf⟩), T tb X1] w12) := h
      clear h N1 H11
      generalize w11.heap.size = g20
      clear w11
      go_wp2_with fail
      refine (hA.out _ _ 2 tb H12.out rfl).mono ?_; rintro e w13 ⟨ga, ca, rfl, h, a0, a1, a2, a3, a4⟩
      obtain ⟨y0, y1, y2, y3, y4⟩ := row5 (rowAt h 1 rfl).2
      simp only [] at y0 y1 y2 y3 y4
      have HB := Lib.hid (Grp.out h)
      clear h H12 hA
      have a0 := cell_regrown a0
      have a1 := cell_regrown a1
      have a2 := cell_regrown a2
      have a3 := cell_regrown a3
      have a4 := cell_regrown a4
      have y0 := cell_regrown y0
      have y1 := cell_regrown y1
      have y2 := cell_regrown y2
      have y3 := cell_regrown y3
      have y4 := cell_regrown y4
      go_wp2_with fail
      refine wp_region_quiet_below (by kernel_rfl) (by kernel_rfl) ?_
      repeat (first
        | go_big_quiet_skip
        | (go_big_quiet_want; go_big_quiet_op; first | go_big_quiet_on | fail))
      refine wpQuiet_nil ?_
      intro _ hw'
      obtain ⟨⟨dq, osq⟩, hw''⟩ := hw'
      subst hw''
      have hb := below_regrown w13 dq osq
      replace HB := Lib.hid (below_step hb HB.out HB.out.size)
      generalize grow (redrawn w13 dq) osq = w14 at HB ⊢
      go_wp2_with fail
      go_ret
      exact retB_mk (by simp) HB.out
end Go.Proofs.Ytdplcdgdndeopaa
