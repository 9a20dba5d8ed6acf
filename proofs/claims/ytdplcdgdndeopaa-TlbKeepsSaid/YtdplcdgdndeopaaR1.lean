/- The document's size and Has. -/
import Derived.Test.YtdplcdgdndeopaaM0
import Derived.LoopN
namespace Go.Proofs.Ytdplcdgdndeopaa
open Go.ChangeShapes Go.WideShapes Go.ChangeAt Go.RowKit Go.Sort
set_option linter.unusedVariables false
set_option linter.unusedSimpArgs false
def RetU (n : Nat) (W : World) (e : Ending) (w' : World) : Prop := e = .returned (.int .u64 n) ∧ Below W.heap.size W w'
theorem q_V {w : World} {f : FuncId} {args : Array Value} {v : Value} {dd : Nat} {os : Array Obj} (h : Calls Try.prog f args (grow (redrawn w dd) os) (fun e w' => e = .returned v ∧ Below (grow (redrawn w dd) os).heap.size (grow (redrawn w dd) os) w')) :
    Calls Try.prog f args (grow (redrawn w dd) os) fun e w'' => e = .returned v ∧ ∃ p : Regrown, w'' = grow (redrawn w p.d) p.os := Calls.regrown_of h
theorem size_0 (w : World) : Calls Try.prog 27 #[.int .i64 0] w (RetU 4096 w) := by
  go_enter Try.func27, Try.ntmps27
  go_wp2_with fail
  refine wp_loop_rounds 1 ?_
  rw [rounds_succ]
  go_wp2_with fail
  go_ret
  exact ⟨rfl, Below.refl _ _⟩
theorem size_1 (w : World) : Calls Try.prog 27 #[.int .i64 1] w (RetU 2097152 w) := by
  go_enter Try.func27, Try.ntmps27
  go_wp2_with fail
  refine wp_loop_rounds 2 ?_
  rw [rounds_succ]
  go_wp2_with fail
  rw [rounds_succ]
  go_wp2_with fail
  go_ret
  exact ⟨rfl, Below.refl _ _⟩
theorem size_2 (w : World) : Calls Try.prog 27 #[.int .i64 2] w (RetU 1073741824 w) := by
  go_enter Try.func27, Try.ntmps27
  go_wp2_with fail
  refine wp_loop_rounds 3 ?_
  rw [rounds_succ]
  go_wp2_with fail
  rw [rounds_succ]
  go_wp2_with fail
  rw [rounds_succ]
  go_wp2_with fail
  go_ret
  exact ⟨rfl, Below.refl _ _⟩
set_option maxRecDepth 100000 in
theorem has_0 (ad sp lf a : Nat) (gl : Bool) (ha : ad < 18446744073709551616) (hb : a < 18446744073709551616) (w : World) : Calls Try.prog 23 #[.agg #[.int .u64 (ad : Nat), .int .i64 0, .int .u64 (sp : Nat), .bool gl, .int .u64 (lf : Nat)], .int .u64 (a : Nat)] w (RetB (ad / 4096 == a / 4096) w) := by
  obtain ⟨W0, hW0⟩ : ∃ W0, W0 = w.alloc (Obj.cells #[.int .u64 (ad : Nat), .int .i64 0, .int .u64 (sp : Nat), .bool gl, .int .u64 (lf : Nat)] 36) := ⟨_, rfl⟩
  have HB : Hid (Below w.heap.size w W0) := by show Below _ _ _; rw [hW0]; exact (Below.refl _ _).alloc (Nat.le_refl _) _
  have k0 : W0.cell? ⟨w.heap.size, 0, none⟩ = some (.int .u64 (ad : Nat)) := by rw [hW0, World.cell?_alloc_at _ _ _ _ rfl]; rfl
  have k1 : W0.cell? ⟨w.heap.size, 1, none⟩ = some (.int .i64 0) := by rw [hW0, World.cell?_alloc_at _ _ _ _ rfl]; rfl
  have c0 := cell_regrown k0
  have c1 := cell_regrown k1
  have q0 : ∀ dd os, Calls Try.prog 27 #[.int .i64 0] (grow (redrawn W0 dd) os) fun e w'' => e = .returned (.int .u64 4096) ∧ ∃ p : Regrown, w'' = grow (redrawn W0 p.d) p.os := fun dd os => q_V (size_0 _)
  have E : Hid ((IntKind.u64.wrap ((ad : Int) / 4096) == IntKind.u64.wrap ((a : Int) / 4096)) = (ad / 4096 == a / 4096)) := by
    show _ = _
    rw [show IntKind.u64.wrap ((ad : Int) / 4096) = ((ad / 4096 : Nat) : Int) by rw [IntKind.wrap_u64]; omega, show IntKind.u64.wrap ((a : Int) / 4096) = ((a / 4096 : Nat) : Int) by rw [IntKind.wrap_u64]; omega, cast_beq]
  clear ha hb
  have HW := Lib.hid hW0
  clear hW0 k0 k1
  go_enter Try.func23, Try.ntmps23
  go_upto_region 1 with fail
  rw [show w.alloc (Obj.cells #[.int .u64 (ad : Nat), .int .i64 0, .int .u64 (sp : Nat), .bool gl, .int .u64 (lf : Nat)] 36) = W0 from HW.out.symm]
  clear HW
  refine wp_region_quiet_below (by kernel_rfl) (by kernel_rfl) ?_
  repeat (first
    | go_big_quiet_skip
    | (go_big_quiet_want; go_big_quiet_op; first | go_big_quiet_on | go_big_quiet_call ((go_at_call 27; exact q0 _ _))))
  refine wpQuiet_nil ?_
  intro _ hw'
  obtain ⟨⟨dq, osq⟩, hw''⟩ := hw'
  subst hw''
  have hb := below_regrown W0 dq osq
  replace HB := Lib.hid (below_step hb HB.out HB.out.size)
  generalize grow (redrawn W0 dq) osq = w5 at HB ⊢
  clear q0 c0 c1 hb
  go_wp2_with fail
  go_ret
  exact retB_mk E.out HB.out
set_option maxRecDepth 100000 in
theorem has_1 (ad sp lf a : Nat) (gl : Bool) (ha : ad < 18446744073709551616) (hb : a < 18446744073709551616) (w : World) : Calls Try.prog 23 #[.agg #[.int .u64 (ad : Nat), .int .i64 1, .int .u64 (sp : Nat), .bool gl, .int .u64 (lf : Nat)], .int .u64 (a : Nat)] w (RetB (ad / 2097152 == a / 2097152) w) := by
  obtain ⟨W0, hW0⟩ : ∃ W0, W0 = w.alloc (Obj.cells #[.int .u64 (ad : Nat), .int .i64 1, .int .u64 (sp : Nat), .bool gl, .int .u64 (lf : Nat)] 36) := ⟨_, rfl⟩
  have HB : Hid (Below w.heap.size w W0) := by show Below _ _ _; rw [hW0]; exact (Below.refl _ _).alloc (Nat.le_refl _) _
  have k0 : W0.cell? ⟨w.heap.size, 0, none⟩ = some (.int .u64 (ad : Nat)) := by rw [hW0, World.cell?_alloc_at _ _ _ _ rfl]; rfl
  have k1 : W0.cell? ⟨w.heap.size, 1, none⟩ = some (.int .i64 1) := by rw [hW0, World.cell?_alloc_at _ _ _ _ rfl]; rfl
  have c0 := cell_regrown k0
  have c1 := cell_regrown k1
  have q0 : ∀ dd os, Calls Try.prog 27 #[.int .i64 1] (grow (redrawn W0 dd) os) fun e w'' => e = .returned (.int .u64 2097152) ∧ ∃ p : Regrown, w'' = grow (redrawn W0 p.d) p.os := fun dd os => q_V (size_1 _)
  have E : Hid ((IntKind.u64.wrap ((ad : Int) / 2097152) == IntKind.u64.wrap ((a : Int) / 2097152)) = (ad / 2097152 == a / 2097152)) := by
    show _ = _
    rw [show IntKind.u64.wrap ((ad : Int) / 2097152) = ((ad / 2097152 : Nat) : Int) by rw [IntKind.wrap_u64]; omega, show IntKind.u64.wrap ((a : Int) / 2097152) = ((a / 2097152 : Nat) : Int) by rw [IntKind.wrap_u64]; omega, cast_beq]
  clear ha hb
  have HW := Lib.hid hW0
  clear hW0 k0 k1
  go_enter Try.func23, Try.ntmps23
  go_upto_region 1 with fail
  rw [show w.alloc (Obj.cells #[.int .u64 (ad : Nat), .int .i64 1, .int .u64 (sp : Nat), .bool gl, .int .u64 (lf : Nat)] 36) = W0 from HW.out.symm]
  clear HW
  refine wp_region_quiet_below (by kernel_rfl) (by kernel_rfl) ?_
  repeat (first
    | go_big_quiet_skip
    | (go_big_quiet_want; go_big_quiet_op; first | go_big_quiet_on | go_big_quiet_call ((go_at_call 27; exact q0 _ _))))
  refine wpQuiet_nil ?_
  intro _ hw'
  obtain ⟨⟨dq, osq⟩, hw''⟩ := hw'
  subst hw''
  have hb := below_regrown W0 dq osq
  replace HB := Lib.hid (below_step hb HB.out HB.out.size)
  generalize grow (redrawn W0 dq) osq = w5 at HB ⊢
  clear q0 c0 c1 hb
  go_wp2_with fail
  go_ret
  exact retB_mk E.out HB.out
set_option maxRecDepth 100000 in
theorem has_2 (ad sp lf a : Nat) (gl : Bool) (ha : ad < 18446744073709551616) (hb : a < 18446744073709551616) (w : World) : Calls Try.prog 23 #[.agg #[.int .u64 (ad : Nat), .int .i64 2, .int .u64 (sp : Nat), .bool gl, .int .u64 (lf : Nat)], .int .u64 (a : Nat)] w (RetB (ad / 1073741824 == a / 1073741824) w) := by
  obtain ⟨W0, hW0⟩ : ∃ W0, W0 = w.alloc (Obj.cells #[.int .u64 (ad : Nat), .int .i64 2, .int .u64 (sp : Nat), .bool gl, .int .u64 (lf : Nat)] 36) := ⟨_, rfl⟩
  have HB : Hid (Below w.heap.size w W0) := by show Below _ _ _; rw [hW0]; exact (Below.refl _ _).alloc (Nat.le_refl _) _
  have k0 : W0.cell? ⟨w.heap.size, 0, none⟩ = some (.int .u64 (ad : Nat)) := by rw [hW0, World.cell?_alloc_at _ _ _ _ rfl]; rfl
  have k1 : W0.cell? ⟨w.heap.size, 1, none⟩ = some (.int .i64 2) := by rw [hW0, World.cell?_alloc_at _ _ _ _ rfl]; rfl
  have c0 := cell_regrown k0
  have c1 := cell_regrown k1
  have q0 : ∀ dd os, Calls Try.prog 27 #[.int .i64 2] (grow (redrawn W0 dd) os) fun e w'' => e = .returned (.int .u64 1073741824) ∧ ∃ p : Regrown, w'' = grow (redrawn W0 p.d) p.os := fun dd os => q_V (size_2 _)
  have E : Hid ((IntKind.u64.wrap ((ad : Int) / 1073741824) == IntKind.u64.wrap ((a : Int) / 1073741824)) = (ad / 1073741824 == a / 1073741824)) := by
    show _ = _
    rw [show IntKind.u64.wrap ((ad : Int) / 1073741824) = ((ad / 1073741824 : Nat) : Int) by rw [IntKind.wrap_u64]; omega, show IntKind.u64.wrap ((a : Int) / 1073741824) = ((a / 1073741824 : Nat) : Int) by rw [IntKind.wrap_u64]; omega, cast_beq]
  clear ha hb
  have HW := Lib.hid hW0
  clear hW0 k0 k1
  go_enter Try.func23, Try.ntmps23
  go_upto_region 1 with fail
  rw [show w.alloc (Obj.cells #[.int .u64 (ad : Nat), .int .i64 2, .int .u64 (sp : Nat), .bool gl, .int .u64 (lf : Nat)] 36) = W0 from HW.out.symm]
  clear HW
  refine wp_region_quiet_below (by kernel_rfl) (by kernel_rfl) ?_
  repeat (first
    | go_big_quiet_skip
    | (go_big_quiet_want; go_big_quiet_op; first | go_big_quiet_on | go_big_quiet_call ((go_at_call 27; exact q0 _ _))))
  refine wpQuiet_nil ?_
  intro _ hw'
  obtain ⟨⟨dq, osq⟩, hw''⟩ := hw'
  subst hw''
  have hb := below_regrown W0 dq osq
  replace HB := Lib.hid (below_step hb HB.out HB.out.size)
  generalize grow (redrawn W0 dq) osq = w5 at HB ⊢
  clear q0 c0 c1 hb
  go_wp2_with fail
  go_ret
  exact retB_mk E.out HB.out
theorem has_c (x : En) (hx : x.lv = 0 ∨ x.lv = 1 ∨ x.lv = 2) (ha : x.ad < 18446744073709551616) (a : Nat) (hb : a < 18446744073709551616) (w : World) : Calls Try.prog 23 #[.agg x.v, .int .u64 (a : Nat)] w (RetB (hasB x a) w) := by
  obtain ⟨ad, lv, sp, gl, lf⟩ := x
  replace hx : lv = 0 ∨ lv = 1 ∨ lv = 2 := hx
  rcases hx with rfl | rfl | rfl
  · exact has_0 ad sp lf a gl ha hb w
  · exact has_1 ad sp lf a gl ha hb w
  · exact has_2 ad sp lf a gl ha hb w
end Go.Proofs.Ytdplcdgdndeopaa
