/- The code's firstOf, nameOf, isOf, hasPage. -/
import Derived.Test.YtdplcdgdndeopaaK0
namespace Go.Proofs.Ytdplcdgdndeopaa
open Go.ChangeShapes Go.WideShapes Go.ChangeAt Go.RowKit Go.Sort
set_option linter.unusedVariables false
set_option linter.unusedSimpArgs false
theorem alN_le (a z : Nat) : a / z * z ≤ a := Nat.div_mul_le_self _ _
set_option maxRecDepth 100000 in
theorem firstOf_0 (a : Nat) (ha : a < 18446744073709551616) (w : World) : Calls Try.prog 35 #[.int .u64 (a : Nat), .int .i64 0] w (RetUX (a / 4096 * 4096) w) := by
  have E : Hid (∀ y : Int, y = (a : Int) / 4096 * 4096 → IntKind.u64.wrap y = ((a / 4096 * 4096 : Nat) : Int)) := by
    show ∀ y : Int, _
    rintro y rfl
    have h1 : a / 4096 * 4096 ≤ a := Nat.div_mul_le_self _ _
    rw [IntKind.wrap_u64]; omega
  have E2 : Hid (IntKind.u64.wrap ((a : Int) / 4096) = (a : Int) / 4096) := by show _ = _; rw [IntKind.wrap_u64]; omega
  clear ha
  go_enter Try.func35, Try.ntmps35
  go_wp2_with fail
  go_ret
  exact retUX_mk (by first | exact E.out _ rfl | (rw [E2.out]; exact E.out _ rfl)) 
set_option maxRecDepth 100000 in
theorem firstOf_1 (a : Nat) (ha : a < 18446744073709551616) (w : World) : Calls Try.prog 35 #[.int .u64 (a : Nat), .int .i64 1] w (RetUX (a / 2097152 * 2097152) w) := by
  have E : Hid (∀ y : Int, y = (a : Int) / 2097152 * 2097152 → IntKind.u64.wrap y = ((a / 2097152 * 2097152 : Nat) : Int)) := by
    show ∀ y : Int, _
    rintro y rfl
    have h1 : a / 2097152 * 2097152 ≤ a := Nat.div_mul_le_self _ _
    rw [IntKind.wrap_u64]; omega
  have E2 : Hid (IntKind.u64.wrap ((a : Int) / 2097152) = (a : Int) / 2097152) := by show _ = _; rw [IntKind.wrap_u64]; omega
  clear ha
  go_enter Try.func35, Try.ntmps35
  go_wp2_with fail
  go_ret
  exact retUX_mk (by first | exact E.out _ rfl | (rw [E2.out]; exact E.out _ rfl)) 
set_option maxRecDepth 100000 in
theorem firstOf_2 (a : Nat) (ha : a < 18446744073709551616) (w : World) : Calls Try.prog 35 #[.int .u64 (a : Nat), .int .i64 2] w (RetUX (a / 1073741824 * 1073741824) w) := by
  have E : Hid (∀ y : Int, y = (a : Int) / 1073741824 * 1073741824 → IntKind.u64.wrap y = ((a / 1073741824 * 1073741824 : Nat) : Int)) := by
    show ∀ y : Int, _
    rintro y rfl
    have h1 : a / 1073741824 * 1073741824 ≤ a := Nat.div_mul_le_self _ _
    rw [IntKind.wrap_u64]; omega
  have E2 : Hid (IntKind.u64.wrap ((a : Int) / 1073741824) = (a : Int) / 1073741824) := by show _ = _; rw [IntKind.wrap_u64]; omega
  clear ha
  go_enter Try.func35, Try.ntmps35
  go_wp2_with fail
  go_ret
  exact retUX_mk (by first | exact E.out _ rfl | (rw [E2.out]; exact E.out _ rfl)) 
set_option maxRecDepth 100000 in
theorem nameOf_true (ad sp lf : Nat) (lv : Int) (w : World) : Calls Try.prog 34 #[.agg #[.int .u64 (ad : Nat), .int .i64 lv, .int .u64 (sp : Nat), .bool true, .int .u64 (lf : Nat)]] w (fun e w' => e = .returned (keyV ad lv true (spN ⟨ad, lv, sp, true, lf⟩)) ∧ Below w.heap.size w w') := by
  go_enter Try.func34, Try.ntmps34
  go_wp2_with fail
  have HB : Hid (∀ w' : World, Below w.heap.size w w' → Below w.heap.size w w') := fun _ h => h
  refine bodyPost_ret (by simp [results, Try.results34, go_sem] <;> (first | rfl | (repeat' (first | rfl | apply And.intro)))) rfl ?_
  exact ⟨rfl, HB.out _ (by repeat (first | (with_reducible first | exact Below.refl _ _ | assumption | exact Nat.le_refl _ | refine Below.drew ?_ | refine Below.alloc ?_ ?_ _ | refine Below.setCell ?_ ?_ _ | refine le_alloc ?_ | refine le_set ?_ | refine le_drew ?_ | refine below_step (by assumption) ?_ ?_ | refine le_below (by assumption) ?_) | (dsimp only; omega)))⟩
set_option maxRecDepth 100000 in
theorem nameOf_false (ad sp lf : Nat) (lv : Int) (w : World) : Calls Try.prog 34 #[.agg #[.int .u64 (ad : Nat), .int .i64 lv, .int .u64 (sp : Nat), .bool false, .int .u64 (lf : Nat)]] w (fun e w' => e = .returned (keyV ad lv false (spN ⟨ad, lv, sp, false, lf⟩)) ∧ Below w.heap.size w w') := by
  go_enter Try.func34, Try.ntmps34
  go_wp2_with fail
  have HB : Hid (∀ w' : World, Below w.heap.size w w' → Below w.heap.size w w') := fun _ h => h
  refine bodyPost_ret (by simp [results, Try.results34, go_sem] <;> (first | rfl | (repeat' (first | rfl | apply And.intro)))) rfl ?_
  exact ⟨rfl, HB.out _ (by repeat (first | (with_reducible first | exact Below.refl _ _ | assumption | exact Nat.le_refl _ | refine Below.drew ?_ | refine Below.alloc ?_ ?_ _ | refine Below.setCell ?_ ?_ _ | refine le_alloc ?_ | refine le_set ?_ | refine le_drew ?_ | refine below_step (by assumption) ?_ ?_ | refine le_below (by assumption) ?_) | (dsimp only; omega)))⟩
theorem nameOf_c (x : En) (w : World) : Calls Try.prog 34 #[.agg x.v] w (fun e w' => e = .returned (keyV x.ad x.lv x.gl (spN x)) ∧ Below w.heap.size w w') := by
  obtain ⟨ad, lv, sp, gl, lf⟩ := x
  cases gl
  · exact nameOf_false ad sp lf lv w
  · exact nameOf_true ad sp lf lv w
set_option maxRecDepth 100000 in
theorem isOf_true (ad sp lf s : Nat) (lv : Int) (w : World) : Calls Try.prog 31 #[.agg #[.int .u64 (ad : Nat), .int .i64 lv, .int .u64 (sp : Nat), .bool true, .int .u64 (lf : Nat)], .int .u64 (s : Nat)] w (RetB (!true && sp == s) w) := by
  have E := cast_beq sp s
  generalize (sp == s) = q at E ⊢
  go_enter Try.func31, Try.ntmps31
  go_wp2_with fail
  go_ret
  exact retB_mk (by simp [E]) (by repeat (first | (with_reducible first | exact Below.refl _ _ | assumption | exact Nat.le_refl _ | refine Below.drew ?_ | refine Below.alloc ?_ ?_ _ | refine Below.setCell ?_ ?_ _ | refine le_alloc ?_ | refine le_set ?_ | refine le_drew ?_ | refine below_step (by assumption) ?_ ?_ | refine le_below (by assumption) ?_) | (dsimp only; omega)))
set_option maxRecDepth 100000 in
theorem isOf_false (ad sp lf s : Nat) (lv : Int) (w : World) : Calls Try.prog 31 #[.agg #[.int .u64 (ad : Nat), .int .i64 lv, .int .u64 (sp : Nat), .bool false, .int .u64 (lf : Nat)], .int .u64 (s : Nat)] w (RetB (!false && sp == s) w) := by
  have E := cast_beq sp s
  generalize (sp == s) = q at E ⊢
  go_enter Try.func31, Try.ntmps31
  go_wp2_with fail
  go_ret
  exact retB_mk (by simp [E]) (by repeat (first | (with_reducible first | exact Below.refl _ _ | assumption | exact Nat.le_refl _ | refine Below.drew ?_ | refine Below.alloc ?_ ?_ _ | refine Below.setCell ?_ ?_ _ | refine le_alloc ?_ | refine le_set ?_ | refine le_drew ?_ | refine below_step (by assumption) ?_ ?_ | refine le_below (by assumption) ?_) | (dsimp only; omega)))
theorem isOf_c (x : En) (s : Nat) (w : World) : Calls Try.prog 31 #[.agg x.v, .int .u64 (s : Nat)] w (RetB (!x.gl && x.sp == s) w) := by
  obtain ⟨ad, lv, sp, gl, lf⟩ := x
  cases gl
  · exact isOf_false ad sp lf s lv w
  · exact isOf_true ad sp lf s lv w
def hasP (x : En) (a : Nat) : Bool := a / szN x.lv * szN x.lv == x.ad
theorem hasP_eq (x : En) (a : Nat) (h : x.ad % szN x.lv = 0) (hz : 0 < szN x.lv) : hasP x a = hasB x a := by
  unfold hasP hasB
  generalize szN x.lv = z at h hz
  rw [Bool.eq_iff_iff]
  simp only [beq_iff_eq]
  have e1 : x.ad / z * z = x.ad := Nat.div_mul_cancel (Nat.dvd_of_mod_eq_zero h)
  constructor
  · intro h2; rw [← h2, Nat.mul_div_cancel _ hz]
  · intro h2; rw [← h2, e1]
theorem szN_pos (l : Int) : 0 < szN l := by unfold szN; split; decide; split <;> decide
theorem hasP_self (x : En) : hasP x x.ad = (x.ad % szN x.lv == 0) := by
  unfold hasP
  have hz := szN_pos x.lv
  generalize szN x.lv = z at hz
  rw [Bool.eq_iff_iff]
  simp only [beq_iff_eq]
  have := Nat.div_add_mod x.ad z
  rw [Nat.mul_comm] at this
  omega
set_option maxRecDepth 100000 in
theorem hasPage_0 (ad sp lf a : Nat) (gl : Bool) (ha : a < 18446744073709551616) (w : World) : Calls Try.prog 30 #[.agg #[.int .u64 (ad : Nat), .int .i64 0, .int .u64 (sp : Nat), .bool gl, .int .u64 (lf : Nat)], .int .u64 (a : Nat)] w (RetB (a / 4096 * 4096 == ad) w) := by
  obtain ⟨W0, hW0⟩ : ∃ W0, W0 = w.alloc (Obj.cells #[.int .u64 (ad : Nat), .int .i64 0, .int .u64 (sp : Nat), .bool gl, .int .u64 (lf : Nat)] 33) := ⟨_, rfl⟩
  have HB : Hid (Below w.heap.size w W0) := by show Below _ _ _; rw [hW0]; exact (Below.refl _ _).alloc (Nat.le_refl _) _
  have k0 : W0.cell? ⟨w.heap.size, 0, none⟩ = some (.int .u64 (ad : Nat)) := by rw [hW0, World.cell?_alloc_at _ _ _ _ rfl]; rfl
  have k1 : W0.cell? ⟨w.heap.size, 1, none⟩ = some (.int .i64 0) := by rw [hW0, World.cell?_alloc_at _ _ _ _ rfl]; rfl
  have c0 := cell_regrown k0
  have c1 := cell_regrown k1
  obtain ⟨r, hr⟩ : ∃ r, a / 4096 * 4096 = r := ⟨_, rfl⟩
  have q0 : ∀ dd os, Calls Try.prog 35 #[.int .u64 (a : Nat), .int .i64 0] (grow (redrawn W0 dd) os) fun e w'' => e = .returned (.int .u64 (r : Nat)) ∧ ∃ p : Regrown, w'' = grow (redrawn W0 p.d) p.os := fun dd os => q_V ((firstOf_0 a ha _).mono (fun e w' h => ⟨by rw [← hr]; exact h.1, by rw [← h.2]; exact Below.refl _ _⟩))
  rw [hr]
  have E := cast_beq r ad
  generalize (r == ad) = q at E ⊢
  have HW := Lib.hid hW0
  clear hW0 k0 k1 hr ha
  go_enter Try.func30, Try.ntmps30
  go_upto_region 1 with fail
  rw [show w.alloc (Obj.cells #[.int .u64 (ad : Nat), .int .i64 0, .int .u64 (sp : Nat), .bool gl, .int .u64 (lf : Nat)] 33) = W0 from HW.out.symm]
  clear HW
  refine wp_region_quiet_below (by kernel_rfl) (by kernel_rfl) ?_
  repeat (first
    | go_big_quiet_skip
    | (go_big_quiet_want; go_big_quiet_op; first | go_big_quiet_on | go_big_quiet_call (exact q0 _ _)))
  refine wpQuiet_nil ?_
  intro _ hw'
  obtain ⟨⟨dq, osq⟩, hw''⟩ := hw'
  subst hw''
  have hb := below_regrown W0 dq osq
  generalize grow (redrawn W0 dq) osq = w5 at hb ⊢
  clear c0 c1 q0
  go_wp2_with fail
  go_ret
  exact retB_mk (by first | rfl | simp [E]) (below_step hb HB.out HB.out.size)
set_option maxRecDepth 100000 in
theorem hasPage_1 (ad sp lf a : Nat) (gl : Bool) (ha : a < 18446744073709551616) (w : World) : Calls Try.prog 30 #[.agg #[.int .u64 (ad : Nat), .int .i64 1, .int .u64 (sp : Nat), .bool gl, .int .u64 (lf : Nat)], .int .u64 (a : Nat)] w (RetB (a / 2097152 * 2097152 == ad) w) := by
  obtain ⟨W0, hW0⟩ : ∃ W0, W0 = w.alloc (Obj.cells #[.int .u64 (ad : Nat), .int .i64 1, .int .u64 (sp : Nat), .bool gl, .int .u64 (lf : Nat)] 33) := ⟨_, rfl⟩
  have HB : Hid (Below w.heap.size w W0) := by show Below _ _ _; rw [hW0]; exact (Below.refl _ _).alloc (Nat.le_refl _) _
  have k0 : W0.cell? ⟨w.heap.size, 0, none⟩ = some (.int .u64 (ad : Nat)) := by rw [hW0, World.cell?_alloc_at _ _ _ _ rfl]; rfl
  have k1 : W0.cell? ⟨w.heap.size, 1, none⟩ = some (.int .i64 1) := by rw [hW0, World.cell?_alloc_at _ _ _ _ rfl]; rfl
  have c0 := cell_regrown k0
  have c1 := cell_regrown k1
  obtain ⟨r, hr⟩ : ∃ r, a / 2097152 * 2097152 = r := ⟨_, rfl⟩
  have q0 : ∀ dd os, Calls Try.prog 35 #[.int .u64 (a : Nat), .int .i64 1] (grow (redrawn W0 dd) os) fun e w'' => e = .returned (.int .u64 (r : Nat)) ∧ ∃ p : Regrown, w'' = grow (redrawn W0 p.d) p.os := fun dd os => q_V ((firstOf_1 a ha _).mono (fun e w' h => ⟨by rw [← hr]; exact h.1, by rw [← h.2]; exact Below.refl _ _⟩))
  rw [hr]
  have E := cast_beq r ad
  generalize (r == ad) = q at E ⊢
  have HW := Lib.hid hW0
  clear hW0 k0 k1 hr ha
  go_enter Try.func30, Try.ntmps30
  go_upto_region 1 with fail
  rw [show w.alloc (Obj.cells #[.int .u64 (ad : Nat), .int .i64 1, .int .u64 (sp : Nat), .bool gl, .int .u64 (lf : Nat)] 33) = W0 from HW.out.symm]
  clear HW
  refine wp_region_quiet_below (by kernel_rfl) (by kernel_rfl) ?_
  repeat (first
    | go_big_quiet_skip
    | (go_big_quiet_want; go_big_quiet_op; first | go_big_quiet_on | go_big_quiet_call (exact q0 _ _)))
  refine wpQuiet_nil ?_
  intro _ hw'
  obtain ⟨⟨dq, osq⟩, hw''⟩ := hw'
  subst hw''
  have hb := below_regrown W0 dq osq
  generalize grow (redrawn W0 dq) osq = w5 at hb ⊢
  clear c0 c1 q0
  go_wp2_with fail
  go_ret
  exact retB_mk (by first | rfl | simp [E]) (below_step hb HB.out HB.out.size)
set_option maxRecDepth 100000 in
theorem hasPage_2 (ad sp lf a : Nat) (gl : Bool) (ha : a < 18446744073709551616) (w : World) : Calls Try.prog 30 #[.agg #[.int .u64 (ad : Nat), .int .i64 2, .int .u64 (sp : Nat), .bool gl, .int .u64 (lf : Nat)], .int .u64 (a : Nat)] w (RetB (a / 1073741824 * 1073741824 == ad) w) := by
  obtain ⟨W0, hW0⟩ : ∃ W0, W0 = w.alloc (Obj.cells #[.int .u64 (ad : Nat), .int .i64 2, .int .u64 (sp : Nat), .bool gl, .int .u64 (lf : Nat)] 33) := ⟨_, rfl⟩
  have HB : Hid (Below w.heap.size w W0) := by show Below _ _ _; rw [hW0]; exact (Below.refl _ _).alloc (Nat.le_refl _) _
  have k0 : W0.cell? ⟨w.heap.size, 0, none⟩ = some (.int .u64 (ad : Nat)) := by rw [hW0, World.cell?_alloc_at _ _ _ _ rfl]; rfl
  have k1 : W0.cell? ⟨w.heap.size, 1, none⟩ = some (.int .i64 2) := by rw [hW0, World.cell?_alloc_at _ _ _ _ rfl]; rfl
  have c0 := cell_regrown k0
  have c1 := cell_regrown k1
  obtain ⟨r, hr⟩ : ∃ r, a / 1073741824 * 1073741824 = r := ⟨_, rfl⟩
  have q0 : ∀ dd os, Calls Try.prog 35 #[.int .u64 (a : Nat), .int .i64 2] (grow (redrawn W0 dd) os) fun e w'' => e = .returned (.int .u64 (r : Nat)) ∧ ∃ p : Regrown, w'' = grow (redrawn W0 p.d) p.os := fun dd os => q_V ((firstOf_2 a ha _).mono (fun e w' h => ⟨by rw [← hr]; exact h.1, by rw [← h.2]; exact Below.refl _ _⟩))
  rw [hr]
  have E := cast_beq r ad
  generalize (r == ad) = q at E ⊢
  have HW := Lib.hid hW0
  clear hW0 k0 k1 hr ha
  go_enter Try.func30, Try.ntmps30
  go_upto_region 1 with fail
  rw [show w.alloc (Obj.cells #[.int .u64 (ad : Nat), .int .i64 2, .int .u64 (sp : Nat), .bool gl, .int .u64 (lf : Nat)] 33) = W0 from HW.out.symm]
  clear HW
  refine wp_region_quiet_below (by kernel_rfl) (by kernel_rfl) ?_
  repeat (first
    | go_big_quiet_skip
    | (go_big_quiet_want; go_big_quiet_op; first | go_big_quiet_on | go_big_quiet_call (exact q0 _ _)))
  refine wpQuiet_nil ?_
  intro _ hw'
  obtain ⟨⟨dq, osq⟩, hw''⟩ := hw'
  subst hw''
  have hb := below_regrown W0 dq osq
  generalize grow (redrawn W0 dq) osq = w5 at hb ⊢
  clear c0 c1 q0
  go_wp2_with fail
  go_ret
  exact retB_mk (by first | rfl | simp [E]) (below_step hb HB.out HB.out.size)
theorem hasPage_c (x : En) (hl : x.lv = 0 ∨ x.lv = 1 ∨ x.lv = 2) (a : Nat) (ha : a < 18446744073709551616) (w : World) : Calls Try.prog 30 #[.agg x.v, .int .u64 (a : Nat)] w (RetB (hasP x a) w) := by
  obtain ⟨ad, lv, sp, gl, lf⟩ := x
  rcases hl with hl | hl | hl
  · replace hl : lv = 0 := hl
    subst hl; exact hasPage_0 ad sp lf a gl ha w
  · replace hl : lv = 1 := hl
    subst hl; exact hasPage_1 ad sp lf a gl ha w
  · replace hl : lv = 2 := hl
    subst hl; exact hasPage_2 ad sp lf a gl ha w
end Go.Proofs.Ytdplcdgdndeopaa
