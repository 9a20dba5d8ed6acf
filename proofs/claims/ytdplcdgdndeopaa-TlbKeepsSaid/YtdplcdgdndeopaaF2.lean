/- 'fixed', from what the code's six functions do. -/
import Derived.Test.YtdplcdgdndeopaaF1
namespace Go.Proofs.Ytdplcdgdndeopaa
open Go.ChangeShapes Go.WideShapes Go.ChangeAt Go.RowKit Go.Sort
set_option linter.unusedVariables false
set_option linter.unusedSimpArgs false
/-- WHAT THE CODE's SIX FUNCTIONS MUST DO, T being what stands at a block. -/
def TlbOk (T : Nat → St → Th) : Prop := TOk 9 14 11 16 20 18 33 T
theorem info_te (x : En) : (Try.prog.info? 33).map (·.size) = some x.v.size := by show _ = some 5; kernel_rfl
theorem row5 {w : World} {b : Nat} {t : TypeId} {x : En} (h : Row w b t x.v) : w.cell? ⟨b, 0, none⟩ = some (.int .u64 (x.ad : Nat)) ∧ w.cell? ⟨b, 1, none⟩ = some (.int .i64 x.lv) ∧ w.cell? ⟨b, 2, none⟩ = some (.int .u64 (x.sp : Nat)) ∧ w.cell? ⟨b, 3, none⟩ = some (.bool x.gl) ∧ w.cell? ⟨b, 4, none⟩ = some (.int .u64 (x.lf : Nat)) :=
  ⟨(h.cell 0).trans rfl, (h.cell 1).trans rfl, (h.cell 2).trans rfl, (h.cell 3).trans rfl, (h.cell 4).trans rfl⟩
set_option maxRecDepth 100000 in
set_option maxHeartbeats 4000000 in
theorem fixed_c {T : Nat → St → Th} (O : TlbOk T) (w : World) : Calls Try.prog 8 #[] w (RetB true w) := by
  obtain ⟨X1, X2, f1, f2, f3, f4, f5, f6, f7, f8, f9, f10, f11, f12, f13, f14, f15⟩ := f_all
  have hP1 : Hid (∀ (l : List Th) (u : World) (i b : Nat), Grp w l u → l[i]? = some (T b (S0 0)) → Calls Try.prog 11 #[.pointer (some ⟨b, 0, none⟩), .agg #[.int .u64 4096, .int .i64 0, .int .u64 5, .bool false, .int .u64 1]] u (fun e w' => e = .returned (.bool true) ∧ Grp w (l.set i (T b X1)) w')) := fun l u i b h hi => by
    have := putG O h i hi (S0_ok 0 (by decide)) eF eF_wf
    rw [f1, f3] at this; exact this
  have hF1 : Hid (∀ (l : List Th) (u : World) (i b : Nat), Grp w l u → l[i]? = some (T b X1) → Calls Try.prog 14 #[.pointer (some ⟨b, 0, none⟩), .int .u64 5, .int .u64 8191] u (fun e w' => e = .returned (.tuple #[.agg eF.v, .bool true]) ∧ Grp w l w')) := fun l u i b h hi => by
    have := findG O h i hi f2 5 8191 (by decide) (by decide)
    rw [f4, f5] at this; exact this
  have hF2 : Hid (∀ (l : List Th) (u : World) (i b : Nat), Grp w l u → l[i]? = some (T b X1) → Calls Try.prog 14 #[.pointer (some ⟨b, 0, none⟩), .int .u64 6, .int .u64 4096] u (fun e w' => e = .returned (.tuple #[.agg E0.v, .bool false]) ∧ Grp w l w')) := fun l u i b h hi => by
    have := findG O h i hi f2 6 4096 (by decide) (by decide)
    rw [f6, f7] at this; exact this
  have hP2 : Hid (∀ (l : List Th) (u : World) (i b : Nat), Grp w l u → l[i]? = some (T b X1) → Calls Try.prog 11 #[.pointer (some ⟨b, 0, none⟩), .agg #[.int .u64 4097, .int .i64 0, .int .u64 0, .bool false, .int .u64 0]] u (fun e w' => e = .returned (.bool false) ∧ Grp w (l.set i (T b X1)) w')) := fun l u i b h hi => by
    have := putG O h i hi f2 eBad eBad_wf
    rw [f8, f9] at this; exact this
  have hC : Hid (∀ (l : List Th) (u : World) (i b : Nat), Grp w l u → l[i]? = some (T b X1) → Calls Try.prog 18 #[.pointer (some ⟨b, 0, none⟩)] u (fun e w' => ∃ b', e = .returned (.pointer (some ⟨b', 0, none⟩)) ∧ Grp w (l ++ [T b' X1]) w')) := fun l u i b h hi => copyG O h i hi f2
  have hX : Hid (∀ (l : List Th) (u : World) (i b : Nat), Grp w l u → l[i]? = some (T b X1) → Calls Try.prog 16 #[.pointer (some ⟨b, 0, none⟩), .bool true, .int .u64 6144, .bool true, .int .u64 5] u (fun e w' => e = .returned (.tuple #[]) ∧ Grp w (l.set i (T b X2)) w')) := fun l u i b h hi => by
    have := fenceG O h i hi f2 true 6144 true 5 (by decide) (by decide)
    rw [f10] at this; exact this
  have hF3 : Hid (∀ (l : List Th) (u : World) (i b : Nat), Grp w l u → l[i]? = some (T b X2) → Calls Try.prog 14 #[.pointer (some ⟨b, 0, none⟩), .int .u64 5, .int .u64 8191] u (fun e w' => e = .returned (.tuple #[.agg E0.v, .bool false]) ∧ Grp w l w')) := fun l u i b h hi => by
    have := findG O h i hi f11 5 8191 (by decide) (by decide)
    rw [f12, f13] at this; exact this
  have hA2 : Hid (∀ (l : List Th) (u : World) (i b : Nat), Grp w l u → l[i]? = some (T b X2) → Calls Try.prog 20 #[.pointer (some ⟨b, 0, none⟩)] u (fun e w' => ∃ a c, e = .returned (.slice a 0 c) ∧ Grp w l w')) := fun l u i b h hi => by
    refine (allG O h i hi f11).mono ?_
    rintro e w' ⟨v, rfl, h1, h2, h3⟩
    rw [f14] at h1
    obtain ⟨a, c, rfl⟩ := h1.slice
    exact ⟨a, c, rfl, h2⟩
  have hA1 : Hid (∀ (l : List Th) (u : World) (i b : Nat), Grp w l u → l[i]? = some (T b X1) → Calls Try.prog 20 #[.pointer (some ⟨b, 0, none⟩)] u (fun e w' => ∃ a c, e = .returned (.slice a 1 c) ∧ Grp w l w')) := fun l u i b h hi => by
    refine (allG O h i hi f2).mono ?_
    rintro e w' ⟨v, rfl, h1, h2, h3⟩
    rw [f15] at h1
    obtain ⟨a, c, rfl⟩ := h1.slice
    exact ⟨a, c, rfl, h2⟩
  have hN : Hid (Calls Try.prog 9 #[.int .u64 0] w (fun e w' => ∃ b, e = .returned (.pointer (some ⟨b, 0, none⟩)) ∧ Grp w [T b (S0 0)] w')) := newG O (grp_nil (Below.refl _ _)) 0 (by decide)
  clear f1 f2 f3 f4 f5 f6 f7 f8 f9 f10 f11 f12 f13 f14 f15 O
  go_enter Try.func8, Try.ntmps8
  go_wp2_with fail
  refine hN.out.mono ?_; rintro e w1 ⟨tb, rfl, h⟩
  have H1 : Hid (Grp w [T tb (S0 0)] w1) := h
  clear h hN
  have N1 : Hid (Grp w [T tb (S0 0), eRow w1.heap.size 33 eF.v] ((w1.alloc (Obj.cells E0.v 33)).setRow w1.heap.size eF.v)) := newRow H1.out 33 E0.v eF.v
  go_upto_region 5 with (refine wpList_store_rowP (fun wx => Grp w [T tb (S0 0), eRow w1.heap.size 33 eF.v] wx) rfl 33 _ _ rfl w1.heap.size eF.v rfl rfl 33 E0.v (row_new _ _ _) (info_te _) rfl (one_en _) N1.out ?_; rintro w2 h)
  have H2 : Hid (Grp w [T tb (S0 0), eRow w1.heap.size 33 eF.v] w2) := h
  clear h N1 H1
  generalize w1.heap.size = g2 at H2 ⊢
  clear w1
  go_wp2_with (refine wpList_load_row rfl 33 _ rfl g2 rfl 33 #[.int .u64 4096, .int .i64 0, .int .u64 5, .bool false, .int .u64 1] (0, 0) _ (rowAt H2.out 1 rfl).2 Try.underlying33 rfl (info_te eF) ?_)
  refine (hP1.out _ _ 0 tb H2.out rfl).mono ?_; rintro e w3 ⟨rfl, h⟩
  have H3 : Hid (Grp w [T tb X1, eRow g2 33 eF.v] w3) := h
  clear h H2 hP1
  go_wp2_with fail
  refine (hF1.out _ _ 0 tb H3.out rfl).mono ?_; rintro e w4 ⟨rfl, h⟩
  have H4 : Hid (Grp w [T tb X1, eRow g2 33 eF.v] w4) := h
  clear h H3 hF1
  have N1 : Hid (Grp w [T tb X1, eRow g2 33 eF.v, eRow w4.heap.size 33 eF.v] ((w4.alloc (Obj.cells E0.v 33)).setRow w4.heap.size eF.v)) := newRow H4.out 33 E0.v eF.v
  go_upto_region 7 with (refine wpList_store_rowP (fun wx => Grp w [T tb X1, eRow g2 33 eF.v, eRow w4.heap.size 33 eF.v] wx) rfl 33 _ _ rfl w4.heap.size eF.v rfl rfl 33 E0.v (row_new _ _ _) (info_te _) rfl (one_en _) N1.out ?_; rintro w5 h)
  have H5 : Hid (Grp w [T tb X1, eRow g2 33 eF.v, eRow w4.heap.size 33 eF.v] w5) := h
  clear h N1 H4
  generalize w4.heap.size = g4 at H5 ⊢
  clear w4
  go_wp2_with fail
  refine (hF2.out _ _ 0 tb H5.out rfl).mono ?_; rintro e w6 ⟨rfl, h⟩
  have H6 : Hid (Grp w [T tb X1, eRow g2 33 eF.v, eRow g4 33 eF.v] w6) := h
  clear h H5 hF2
  have N1 : Hid (Grp w [T tb X1, eRow g2 33 eF.v, eRow g4 33 eF.v] ((w6.alloc (Obj.cells E0.v 33)).setRow w6.heap.size E0.v)) := H6.out.below (below_setRow ((Below.refl _ _).alloc (Nat.le_refl _) _) (Nat.le_refl _) _)
  go_upto_region 8 with (refine wpList_store_rowP (fun wx => Grp w [T tb X1, eRow g2 33 eF.v, eRow g4 33 eF.v] wx) rfl 33 _ _ rfl w6.heap.size E0.v rfl rfl 33 E0.v (row_new _ _ _) (info_te _) rfl (one_en _) N1.out ?_; rintro w7 h)
  have H7 : Hid (Grp w [T tb X1, eRow g2 33 eF.v, eRow g4 33 eF.v] w7) := h
  clear h N1 H6
  generalize w6.heap.size = g6
  clear w6
  go_wp2_with fail
  refine (hP2.out _ _ 0 tb H7.out rfl).mono ?_; rintro e w8 ⟨rfl, h⟩
  have H8 : Hid (Grp w [T tb X1, eRow g2 33 eF.v, eRow g4 33 eF.v] w8) := h
  clear h H7 hP2
  go_wp2_with fail
  refine (hC.out _ _ 0 tb H8.out rfl).mono ?_; rintro e w9 ⟨ob, rfl, h⟩
  have H9 : Hid (Grp w [T tb X1, eRow g2 33 eF.v, eRow g4 33 eF.v, T ob X1] w9) := h
  clear h H8 hC
  go_wp2_with fail
  refine (hX.out _ _ 0 tb H9.out rfl).mono ?_; rintro e w10 ⟨rfl, h⟩
  have H10 : Hid (Grp w [T tb X2, eRow g2 33 eF.v, eRow g4 33 eF.v, T ob X1] w10) := h
  clear h H9 hX
  go_wp2_with fail
  refine (hF3.out _ _ 0 tb H10.out rfl).mono ?_; rintro e w11 ⟨rfl, h⟩
  have H11 : Hid (Grp w [T tb X2, eRow g2 33 eF.v, eRow g4 33 eF.v, T ob X1] w11) := h
  clear h H10 hF3
  have N1 : Hid (Grp w [T tb X2, eRow g2 33 eF.v, eRow g4 33 eF.v, T ob X1] ((w11.alloc (Obj.cells E0.v 33)).setRow w11.heap.size E0.v)) := H11.out.below (below_setRow ((Below.refl _ _).alloc (Nat.le_refl _) _) (Nat.le_refl _) _)
  go_upto_region 12 with (refine wpList_store_rowP (fun wx => Grp w [T tb X2, eRow g2 33 eF.v, eRow g4 33 eF.v, T ob X1] wx) rfl 33 _ _ rfl w11.heap.size E0.v rfl rfl 33 E0.v (row_new _ _ _) (info_te _) rfl (one_en _) N1.out ?_; rintro w12 h)
  have H12 : Hid (Grp w [T tb X2, eRow g2 33 eF.v, eRow g4 33 eF.v, T ob X1] w12) := h
  clear h N1 H11
  generalize w11.heap.size = g10
  clear w11
  obtain ⟨x0, x1, x2, x3, x4⟩ := row5 (rowAt H12.out 1 rfl).2
  obtain ⟨y0, y1, y2, y3, y4⟩ := row5 (rowAt H12.out 2 rfl).2
  replace x0 : w12.cell? ⟨g2, 0, none⟩ = some (.int .u64 4096) := x0
  replace x1 : w12.cell? ⟨g2, 1, none⟩ = some (.int .i64 0) := x1
  replace x2 : w12.cell? ⟨g2, 2, none⟩ = some (.int .u64 5) := x2
  replace x3 : w12.cell? ⟨g2, 3, none⟩ = some (.bool false) := x3
  replace x4 : w12.cell? ⟨g2, 4, none⟩ = some (.int .u64 1) := x4
  replace y0 : w12.cell? ⟨g4, 0, none⟩ = some (.int .u64 4096) := y0
  replace y1 : w12.cell? ⟨g4, 1, none⟩ = some (.int .i64 0) := y1
  replace y2 : w12.cell? ⟨g4, 2, none⟩ = some (.int .u64 5) := y2
  replace y3 : w12.cell? ⟨g4, 3, none⟩ = some (.bool false) := y3
  replace y4 : w12.cell? ⟨g4, 4, none⟩ = some (.int .u64 1) := y4
  go_wp2_with fail
  refine (hA2.out _ _ 0 tb H12.out rfl).mono ?_; rintro e w13 ⟨a1, c1, rfl, h⟩
  have H13 : Hid (Grp w [T tb X2, eRow g2 33 eF.v, eRow g4 33 eF.v, T ob X1] w13) := h
  clear h H12 hA2 x0 x1 x2 x3 x4 y0 y1 y2 y3 y4
  go_wp2_with fail
  refine (hA1.out _ _ 3 ob H13.out rfl).mono ?_; rintro e w14 ⟨a2, c2, rfl, h⟩
  have HB := Lib.hid (Grp.out h)
  clear h H13 hA1
  go_wp2_with fail
  go_ret
  exact retB_mk rfl HB.out
end Go.Proofs.Ytdplcdgdndeopaa
