/- The document's Put. -/
import Derived.Test.YtdplcdgdndeopaaR4
namespace Go.Proofs.Ytdplcdgdndeopaa
open Go.ChangeShapes Go.WideShapes Go.ChangeAt Go.RowKit Go.Sort
set_option linter.unusedVariables false
set_option linter.unusedSimpArgs false
theorem TRat.mark {b L cl I ci : Nat} {X : St} {w : World} (h : TRat b L cl I ci X w) (n : Nat) (v : Bool) (hn : n < 8) : TRat b L cl I ci ⟨X.e, setF X.is n v, X.sd⟩ (w.setCell ⟨I, n, none⟩ (.bool v)) :=
  ⟨h.bL, h.bI, h.LI, by rw [sz_set]; exact h.lb, by rw [sz_set]; exact h.lL, by rw [sz_set]; exact h.lI, h.kl, h.ki, h.rb.set_ne (Ne.symm h.bI) _ _, h.rL.set_ne (Ne.symm h.LI) _ _, h.rI.mark n v hn⟩
theorem TRat.lay {b L cl I ci : Nat} {X : St} {w : World} (h : TRat b L cl I ci X w) (n : Nat) (ad sp lf : Nat) (lv : Int) (gl : Bool) (hn : n < 8) : TRat b L cl I ci ⟨setF X.e n ⟨ad, lv, sp, gl, lf⟩, X.is, X.sd⟩
    (((((w.setCell ⟨L, n * 5, none⟩ (.int .u64 (ad : Nat))).setCell ⟨L, n * 5 + 1, none⟩ (.int .i64 lv)).setCell ⟨L, n * 5 + 2, none⟩ (.int .u64 (sp : Nat))).setCell ⟨L, n * 5 + 3, none⟩ (.bool gl)).setCell ⟨L, n * 5 + 4, none⟩ (.int .u64 (lf : Nat))) :=
  ⟨h.bL, h.bI, h.LI, by simp only [sz_set]; exact h.lb, by simp only [sz_set]; exact h.lL, by simp only [sz_set]; exact h.lI, h.kl, h.ki,
    ((((h.rb.set_ne (Ne.symm h.bL) _ _).set_ne (Ne.symm h.bL) _ _).set_ne (Ne.symm h.bL) _ _).set_ne (Ne.symm h.bL) _ _).set_ne (Ne.symm h.bL) _ _, h.rL.lay n ad sp lf lv gl hn,
    ((((h.rI.set_ne h.LI _ _).set_ne h.LI _ _).set_ne h.LI _ _).set_ne h.LI _ _).set_ne h.LI _ _⟩
theorem TRat.drew {b L cl I ci : Nat} {X : St} {w : World} (h : TRat b L cl I ci X w) : TRat b L cl I ci X w.drew := ⟨h.bL, h.bI, h.LI, h.lb, h.lL, h.lI, h.kl, h.ki, h.rb, h.rL, h.rI⟩
theorem own_drew {S : Nat → Prop} {a w : World} (h : Own S a w) : Own S a w.drew := ⟨h.os, h.tape, h.output, h.size, h.block⟩
def RetPt (b L cl I ci : Nat) (X : St) (v : Value) (w : World) (e : Ending) (w' : World) : Prop := e = .returned v ∧ TRat b L cl I ci X w' ∧ Own (fun k => k = b ∨ k = L ∨ k = I) w w'
theorem own5 {S : Nat → Prop} {a w : World} (h : Own S a w) (L n : Nat) (v0 v1 v2 v3 v4 : Value) (hL : S L) : Own S a (((((w.setCell ⟨L, n * 5, none⟩ v0).setCell ⟨L, n * 5 + 1, none⟩ v1).setCell ⟨L, n * 5 + 2, none⟩ v2).setCell ⟨L, n * 5 + 3, none⟩ v3).setCell ⟨L, n * 5 + 4, none⟩ v4) :=
  own_set (own_set (own_set (own_set (own_set h L _ _ hL) L _ _ hL) L _ _ hL) L _ _ hL) L _ _ hL
set_option maxRecDepth 100000 in
set_option maxHeartbeats 4000000 in
theorem put_lo (b L cl I ci : Nat) (X : St) (ad sp lf : Nat) (lv : Int) (gl : Bool) (hl : lv < 0) (w : World) (h : Hid (TRat b L cl I ci X w)) :
    Calls Try.prog 13 #[.pointer (some ⟨b, 0, none⟩), .agg (En.v ⟨ad, lv, sp, gl, lf⟩)] w (RetPt b L cl I ci (putS X ⟨ad, lv, sp, gl, lf⟩) (.bool (okP ⟨ad, lv, sp, gl, lf⟩)) w) := by
  have HN : Hid (okP ⟨ad, lv, sp, gl, lf⟩ = false) := by show _ = _; unfold okP; simp only []; first | (rw [decide_eq_true hl]; simp) | (rw [show decide (2 < lv) = true from decide_eq_true hl]; simp)
  have d1 : decide (lv < 0) = true := decide_eq_true hl
  clear hl
  obtain ⟨W0, hW0⟩ : ∃ W0, W0 = w.alloc (Obj.cells (En.v ⟨ad, lv, sp, gl, lf⟩) 36) := ⟨_, rfl⟩
  have hb0 : Below w.heap.size w W0 := by rw [hW0]; exact (Below.refl _ _).alloc (Nat.le_refl _) _
  have HD : Hid (Rd b L cl I ci X ⟨ad, lv, sp, gl, lf⟩ w W0) := ⟨hb0, by rw [hW0]; exact row_new _ _ _, by rw [hW0, sz_alloc]; exact Nat.lt_succ_self _, h.out.below hb0⟩
  have k0 : W0.cell? ⟨w.heap.size, 0, none⟩ = some (.int .u64 (ad : Nat)) := (HD.out.re.cell 0).trans rfl
  have k1 : W0.cell? ⟨w.heap.size, 1, none⟩ = some (.int .i64 lv) := (HD.out.re.cell 1).trans rfl
  have k2 : W0.cell? ⟨w.heap.size, 2, none⟩ = some (.int .u64 (sp : Nat)) := (HD.out.re.cell 2).trans rfl
  have c0 := cell_regrown k0
  have c1 := cell_regrown k1
  have c2 := cell_regrown k2
  have HW := Lib.hid hW0
  clear hW0 hb0 k0 k1 k2
  go_enter Try.func13, Try.ntmps13
  go_upto_region 1 with fail
  rw [show w.alloc (Obj.cells (En.v ⟨ad, lv, sp, gl, lf⟩) 36) = W0 from HW.out.symm]
  clear HW
  refine wp_region_quiet_below (by kernel_rfl) (by kernel_rfl) ?_
  repeat (first
    | go_big_quiet_skip
    | (go_big_quiet_want; go_big_quiet_op; first | go_big_quiet_on | go_big_quiet_call (fail)))
  refine wpQuiet_nil ?_
  intro _ hw'
  obtain ⟨⟨dq, osq⟩, hw''⟩ := hw'
  subst hw''
  have hb := below_regrown W0 dq osq
  have HD2 := Lib.hid (HD.out.below hb)
  generalize grow (redrawn W0 dq) osq = w5 at HD2 ⊢
  clear c0 c1 c2 hb HD
  go_wp2_with fail
  go_ret
  have hp : putS X ⟨ad, lv, sp, gl, lf⟩ = X := by unfold putS; rw [if_neg (by rw [HN.out]; decide)]
  rw [HN.out, hp]
  exact ⟨rfl, HD2.out.t, Own.below HD2.out.out⟩
set_option maxRecDepth 100000 in
set_option maxHeartbeats 4000000 in
theorem put_hi (b L cl I ci : Nat) (X : St) (ad sp lf : Nat) (lv : Int) (gl : Bool) (hl : 2 < lv) (w : World) (h : Hid (TRat b L cl I ci X w)) :
    Calls Try.prog 13 #[.pointer (some ⟨b, 0, none⟩), .agg (En.v ⟨ad, lv, sp, gl, lf⟩)] w (RetPt b L cl I ci (putS X ⟨ad, lv, sp, gl, lf⟩) (.bool (okP ⟨ad, lv, sp, gl, lf⟩)) w) := by
  have HN : Hid (okP ⟨ad, lv, sp, gl, lf⟩ = false) := by show _ = _; unfold okP; simp only []; first | (rw [decide_eq_true hl]; simp) | (rw [show decide (2 < lv) = true from decide_eq_true hl]; simp)
  have d1 : decide (lv < 0) = false := decide_eq_false (by omega)
  have d2 : decide (2 < lv) = true := decide_eq_true hl
  clear hl
  obtain ⟨W0, hW0⟩ : ∃ W0, W0 = w.alloc (Obj.cells (En.v ⟨ad, lv, sp, gl, lf⟩) 36) := ⟨_, rfl⟩
  have hb0 : Below w.heap.size w W0 := by rw [hW0]; exact (Below.refl _ _).alloc (Nat.le_refl _) _
  have HD : Hid (Rd b L cl I ci X ⟨ad, lv, sp, gl, lf⟩ w W0) := ⟨hb0, by rw [hW0]; exact row_new _ _ _, by rw [hW0, sz_alloc]; exact Nat.lt_succ_self _, h.out.below hb0⟩
  have k0 : W0.cell? ⟨w.heap.size, 0, none⟩ = some (.int .u64 (ad : Nat)) := (HD.out.re.cell 0).trans rfl
  have k1 : W0.cell? ⟨w.heap.size, 1, none⟩ = some (.int .i64 lv) := (HD.out.re.cell 1).trans rfl
  have k2 : W0.cell? ⟨w.heap.size, 2, none⟩ = some (.int .u64 (sp : Nat)) := (HD.out.re.cell 2).trans rfl
  have c0 := cell_regrown k0
  have c1 := cell_regrown k1
  have c2 := cell_regrown k2
  have HW := Lib.hid hW0
  clear hW0 hb0 k0 k1 k2
  go_enter Try.func13, Try.ntmps13
  go_upto_region 1 with fail
  rw [show w.alloc (Obj.cells (En.v ⟨ad, lv, sp, gl, lf⟩) 36) = W0 from HW.out.symm]
  clear HW
  refine wp_region_quiet_below (by kernel_rfl) (by kernel_rfl) ?_
  repeat (first
    | go_big_quiet_skip
    | (go_big_quiet_want; go_big_quiet_op; first | go_big_quiet_on | go_big_quiet_call (fail)))
  refine wpQuiet_nil ?_
  intro _ hw'
  obtain ⟨⟨dq, osq⟩, hw''⟩ := hw'
  subst hw''
  have hb := below_regrown W0 dq osq
  have HD2 := Lib.hid (HD.out.below hb)
  generalize grow (redrawn W0 dq) osq = w5 at HD2 ⊢
  clear c0 c1 c2 hb HD
  go_wp2_with fail
  go_ret
  have hp : putS X ⟨ad, lv, sp, gl, lf⟩ = X := by unfold putS; rw [if_neg (by rw [HN.out]; decide)]
  rw [HN.out, hp]
  exact ⟨rfl, HD2.out.t, Own.below HD2.out.out⟩
set_option maxRecDepth 100000 in
set_option maxHeartbeats 4000000 in
theorem put_s0 (b L cl I ci : Nat) (X : St) (ad sp lf : Nat) (gl : Bool) (hl : 65535 < sp) (w : World) (h : Hid (TRat b L cl I ci X w)) :
    Calls Try.prog 13 #[.pointer (some ⟨b, 0, none⟩), .agg (En.v ⟨ad, 0, sp, gl, lf⟩)] w (RetPt b L cl I ci (putS X ⟨ad, 0, sp, gl, lf⟩) (.bool (okP ⟨ad, 0, sp, gl, lf⟩)) w) := by
  have HN : Hid (okP ⟨ad, 0, sp, gl, lf⟩ = false) := by show _ = _; unfold okP; simp only []; rw [show decide (65535 < sp) = true from decide_eq_true hl]; simp
  have d3 : decide ((65535 : Int) < (sp : Int)) = true := decide_eq_true (by omega)
  have d4 : decide (65535 < sp) = true := decide_eq_true hl
  clear hl
  obtain ⟨W0, hW0⟩ : ∃ W0, W0 = w.alloc (Obj.cells (En.v ⟨ad, 0, sp, gl, lf⟩) 36) := ⟨_, rfl⟩
  have hb0 : Below w.heap.size w W0 := by rw [hW0]; exact (Below.refl _ _).alloc (Nat.le_refl _) _
  have HD : Hid (Rd b L cl I ci X ⟨ad, 0, sp, gl, lf⟩ w W0) := ⟨hb0, by rw [hW0]; exact row_new _ _ _, by rw [hW0, sz_alloc]; exact Nat.lt_succ_self _, h.out.below hb0⟩
  have k0 : W0.cell? ⟨w.heap.size, 0, none⟩ = some (.int .u64 (ad : Nat)) := (HD.out.re.cell 0).trans rfl
  have k1 : W0.cell? ⟨w.heap.size, 1, none⟩ = some (.int .i64 0) := (HD.out.re.cell 1).trans rfl
  have k2 : W0.cell? ⟨w.heap.size, 2, none⟩ = some (.int .u64 (sp : Nat)) := (HD.out.re.cell 2).trans rfl
  have c0 := cell_regrown k0
  have c1 := cell_regrown k1
  have c2 := cell_regrown k2
  have HW := Lib.hid hW0
  clear hW0 hb0 k0 k1 k2
  go_enter Try.func13, Try.ntmps13
  go_upto_region 1 with fail
  rw [show w.alloc (Obj.cells (En.v ⟨ad, 0, sp, gl, lf⟩) 36) = W0 from HW.out.symm]
  clear HW
  refine wp_region_quiet_below (by kernel_rfl) (by kernel_rfl) ?_
  repeat (first
    | go_big_quiet_skip
    | (go_big_quiet_want; go_big_quiet_op; first | go_big_quiet_on | go_big_quiet_call (fail)))
  refine wpQuiet_nil ?_
  intro _ hw'
  obtain ⟨⟨dq, osq⟩, hw''⟩ := hw'
  subst hw''
  have hb := below_regrown W0 dq osq
  have HD2 := Lib.hid (HD.out.below hb)
  generalize grow (redrawn W0 dq) osq = w5 at HD2 ⊢
  clear c0 c1 c2 hb HD
  go_wp2_with fail
  go_ret
  have hp : putS X ⟨ad, 0, sp, gl, lf⟩ = X := by unfold putS; rw [if_neg (by rw [HN.out]; decide)]
  rw [HN.out, hp]
  exact ⟨rfl, HD2.out.t, Own.below HD2.out.out⟩
set_option maxRecDepth 100000 in
set_option maxHeartbeats 4000000 in
theorem put_m0 (b L cl I ci : Nat) (X : St) (ad sp lf : Nat) (gl : Bool) (ha : ad < 18446744073709551616) (hl : ¬ 65535 < sp) (hm : ¬ ad % 4096 = 0) (w : World) (h : Hid (TRat b L cl I ci X w)) :
    Calls Try.prog 13 #[.pointer (some ⟨b, 0, none⟩), .agg (En.v ⟨ad, 0, sp, gl, lf⟩)] w (RetPt b L cl I ci (putS X ⟨ad, 0, sp, gl, lf⟩) (.bool (okP ⟨ad, 0, sp, gl, lf⟩)) w) := by
  have HN : Hid (okP ⟨ad, 0, sp, gl, lf⟩ = false) := by show _ = _; unfold okP; simp only []; rw [show (ad % szN 0 == 0) = false from by show (ad % 4096 == 0) = false; simpa using hm]; simp
  have fm : ((ad : Int) % 4096 != 0) = true := by simp only [bne_iff_ne, ne_eq]; omega
  have fm2 : ((ad : Int).tmod 4096 != 0) = true := by rw [Int.tmod_eq_emod_of_nonneg (by omega)]; exact fm
  clear hm
  have d3 : decide ((65535 : Int) < (sp : Int)) = false := decide_eq_false (by omega)
  have d4 : decide (65535 < sp) = false := decide_eq_false hl
  clear hl
  obtain ⟨W0, hW0⟩ : ∃ W0, W0 = w.alloc (Obj.cells (En.v ⟨ad, 0, sp, gl, lf⟩) 36) := ⟨_, rfl⟩
  have hb0 : Below w.heap.size w W0 := by rw [hW0]; exact (Below.refl _ _).alloc (Nat.le_refl _) _
  have HD : Hid (Rd b L cl I ci X ⟨ad, 0, sp, gl, lf⟩ w W0) := ⟨hb0, by rw [hW0]; exact row_new _ _ _, by rw [hW0, sz_alloc]; exact Nat.lt_succ_self _, h.out.below hb0⟩
  have k0 : W0.cell? ⟨w.heap.size, 0, none⟩ = some (.int .u64 (ad : Nat)) := (HD.out.re.cell 0).trans rfl
  have k1 : W0.cell? ⟨w.heap.size, 1, none⟩ = some (.int .i64 0) := (HD.out.re.cell 1).trans rfl
  have k2 : W0.cell? ⟨w.heap.size, 2, none⟩ = some (.int .u64 (sp : Nat)) := (HD.out.re.cell 2).trans rfl
  have c0 := cell_regrown k0
  have c1 := cell_regrown k1
  have c2 := cell_regrown k2
  have HW := Lib.hid hW0
  clear hW0 hb0 k0 k1 k2
  have q0 : ∀ dd os, Calls Try.prog 27 #[.int .i64 0] (grow (redrawn W0 dd) os) fun e w'' => e = .returned (.int .u64 4096) ∧ ∃ p : Regrown, w'' = grow (redrawn W0 p.d) p.os := fun dd os => q_V (size_0 _)
  go_enter Try.func13, Try.ntmps13
  go_upto_region 1 with fail
  rw [show w.alloc (Obj.cells (En.v ⟨ad, 0, sp, gl, lf⟩) 36) = W0 from HW.out.symm]
  clear HW
  refine wp_region_quiet_below (by kernel_rfl) (by kernel_rfl) ?_
  repeat (first
    | go_big_quiet_skip
    | (go_big_quiet_want; go_big_quiet_op; first | go_big_quiet_on | go_big_quiet_call ((go_at_call 27; exact q0 _ _))))
  refine wpQuiet_nil ?_
  intro _ hw'
  obtain ⟨⟨dq, osq⟩, hw''⟩ := hw'
  subst hw''
  have hb := below_regrown W0 dq osq
  clear q0
  have HD2 := Lib.hid (HD.out.below hb)
  generalize grow (redrawn W0 dq) osq = w5 at HD2 ⊢
  clear c0 c1 c2 hb HD
  go_wp2_with fail
  go_ret
  have hp : putS X ⟨ad, 0, sp, gl, lf⟩ = X := by unfold putS; rw [if_neg (by rw [HN.out]; decide)]
  rw [HN.out, hp]
  exact ⟨rfl, HD2.out.t, Own.below HD2.out.out⟩
set_option maxRecDepth 100000 in
set_option maxHeartbeats 4000000 in
theorem put_y0 (b L cl I ci : Nat) (X : St) (ad sp lf : Nat) (gl : Bool) (hX : X.Ok) (ha : ad < 18446744073709551616) (hl : ¬ 65535 < sp) (hm : ad % 4096 = 0) (w : World) (h : Hid (TRat b L cl I ci X w)) :
    Calls Try.prog 13 #[.pointer (some ⟨b, 0, none⟩), .agg (En.v ⟨ad, 0, sp, gl, lf⟩)] w (RetPt b L cl I ci (putS X ⟨ad, 0, sp, gl, lf⟩) (.bool (okP ⟨ad, 0, sp, gl, lf⟩)) w) := by
  have HN : Hid (okP ⟨ad, 0, sp, gl, lf⟩ = true) := by show _ = _; unfold okP; simp only []; rw [show (ad % szN 0 == 0) = true from by show (ad % 4096 == 0) = true; simpa using hm, show decide (65535 < sp) = false from decide_eq_false hl]; rfl
  have fm : ((ad : Int) % 4096 != 0) = false := by simp only [bne_eq_false_iff_eq]; omega
  have fm2 : ((ad : Int).tmod 4096 != 0) = false := by rw [Int.tmod_eq_emod_of_nonneg (by omega)]; exact fm
  clear hm
  have d3 : decide ((65535 : Int) < (sp : Int)) = false := decide_eq_false (by omega)
  have d4 : decide (65535 < sp) = false := decide_eq_false hl
  clear hl
  obtain ⟨W0, hW0⟩ : ∃ W0, W0 = w.alloc (Obj.cells (En.v ⟨ad, 0, sp, gl, lf⟩) 36) := ⟨_, rfl⟩
  have hb0 : Below w.heap.size w W0 := by rw [hW0]; exact (Below.refl _ _).alloc (Nat.le_refl _) _
  have HD : Hid (Rd b L cl I ci X ⟨ad, 0, sp, gl, lf⟩ w W0) := ⟨hb0, by rw [hW0]; exact row_new _ _ _, by rw [hW0, sz_alloc]; exact Nat.lt_succ_self _, h.out.below hb0⟩
  have k0 : W0.cell? ⟨w.heap.size, 0, none⟩ = some (.int .u64 (ad : Nat)) := (HD.out.re.cell 0).trans rfl
  have k1 : W0.cell? ⟨w.heap.size, 1, none⟩ = some (.int .i64 0) := (HD.out.re.cell 1).trans rfl
  have k2 : W0.cell? ⟨w.heap.size, 2, none⟩ = some (.int .u64 (sp : Nat)) := (HD.out.re.cell 2).trans rfl
  have c0 := cell_regrown k0
  have c1 := cell_regrown k1
  have c2 := cell_regrown k2
  have HW := Lib.hid hW0
  clear hW0 hb0 k0 k1 k2
  have q0 : ∀ dd os, Calls Try.prog 27 #[.int .i64 0] (grow (redrawn W0 dd) os) fun e w'' => e = .returned (.int .u64 4096) ∧ ∃ p : Regrown, w'' = grow (redrawn W0 p.d) p.os := fun dd os => q_V (size_0 _)
  go_enter Try.func13, Try.ntmps13
  go_upto_region 1 with fail
  rw [show w.alloc (Obj.cells (En.v ⟨ad, 0, sp, gl, lf⟩) 36) = W0 from HW.out.symm]
  clear HW
  refine wp_region_quiet_below (by kernel_rfl) (by kernel_rfl) ?_
  repeat (first
    | go_big_quiet_skip
    | (go_big_quiet_want; go_big_quiet_op; first | go_big_quiet_on | go_big_quiet_call ((go_at_call 27; exact q0 _ _))))
  refine wpQuiet_nil ?_
  intro _ hw'
  obtain ⟨⟨dq, osq⟩, hw''⟩ := hw'
  subst hw''
  have hb := below_regrown W0 dq osq
  clear q0
  have HD2 := Lib.hid (HD.out.below hb)
  generalize grow (redrawn W0 dq) osq = w5 at HD2 ⊢
  clear c0 c1 c2 hb HD fm fm2
  have hpl := place_lt X hX ⟨ad, 0, sp, gl, lf⟩
  have HPl := Lib.hid (place_c b L cl I ci X ⟨ad, 0, sp, gl, lf⟩ w5 (Lib.hid HD2.out.t))
  have HPU : Hid (putS X ⟨ad, 0, sp, gl, lf⟩ = ⟨setF X.e (placeN X ⟨ad, 0, sp, gl, lf⟩).1 ⟨ad, 0, sp, gl, lf⟩, setF X.is (placeN X ⟨ad, 0, sp, gl, lf⟩).1 true, (placeN X ⟨ad, 0, sp, gl, lf⟩).2⟩) := by show _ = _; unfold putS; rw [if_pos HN.out]
  generalize placeN X ⟨ad, 0, sp, gl, lf⟩ = pn at hpl HPl HPU
  obtain ⟨n, sd'⟩ := pn
  replace hpl : n < 8 := hpl.1
  go_wp2_with (refine wpList_load_row rfl 36 _ rfl w.heap.size rfl 36 (En.v ⟨ad, 0, sp, gl, lf⟩) (0, 0) _ HD2.out.re Try.underlying36 rfl (info_en _) ?_)
  refine HPl.out.mono ?_; rintro e w6 ⟨rfl, ht, ho⟩
  have hre : Row w6 w.heap.size 36 (En.v ⟨ad, 0, sp, gl, lf⟩) := ho.row HD2.out.re HD2.out.lt (fun q => by have := h.out.lb; omega)
  have HO : Hid (Own (fun k => k = b ∨ k = L ∨ k = I) w w6) := (Own.below HD2.out.out).trans (ho.more (fun i q => Or.inl q))
  have HT := Lib.hid ht
  have k0 : w6.cell? ⟨w.heap.size, 0, none⟩ = some (.int .u64 (ad : Nat)) := (hre.cell 0).trans rfl
  have k1 : w6.cell? ⟨w.heap.size, 1, none⟩ = some (.int .i64 0) := (hre.cell 1).trans rfl
  have k2 : w6.cell? ⟨w.heap.size, 2, none⟩ = some (.int .u64 (sp : Nat)) := (hre.cell 2).trans rfl
  have k3 : w6.cell? ⟨w.heap.size, 3, none⟩ = some (.bool gl) := (hre.cell 3).trans rfl
  have k4 : w6.cell? ⟨w.heap.size, 4, none⟩ = some (.int .u64 (lf : Nat)) := (hre.cell 4).trans rfl
  have b0 : w6.cell? ⟨b, 0, none⟩ = some (.slice (some ⟨L, 0, none⟩) 8 cl) := (ht.rb.cell 0).trans rfl
  have b1 : w6.cell? ⟨b, 1, none⟩ = some (.slice (some ⟨I, 0, none⟩) 8 ci) := (ht.rb.cell 1).trans rfl
  cases hx : X.e n with
  | mk a1 a2 a3 a4 a5 =>
    obtain ⟨e0, e1, e2, e3, e4⟩ := ht.en5 n hpl hx
    have z0 := ht.rL.fz (n * 5)
    have z1 := ht.rL.fz (n * 5 + 1)
    have z2 := ht.rL.fz (n * 5 + 2)
    have z3 := ht.rL.fz (n * 5 + 3)
    have z4 := ht.rL.fz (n * 5 + 4)
    clear HD2 HPl hre ht ho hx
    have HT2 := Lib.hid ((HT.out.lay n ad sp lf 0 gl hpl).drew)
    have HO2 := Lib.hid (own_drew (own5 HO.out L n (.int .u64 (ad : Nat)) (.int .i64 0) (.int .u64 (sp : Nat)) (.bool gl) (.int .u64 (lf : Nat)) (.inr (.inl rfl))))
    clear HT HO
    go_wp2_with fail
    go_region
    generalize (((((w6.setCell ⟨L, n * 5, none⟩ (.int .u64 (ad : Nat))).setCell ⟨L, n * 5 + 1, none⟩ (.int .i64 0)).setCell ⟨L, n * 5 + 2, none⟩ (.int .u64 (sp : Nat))).setCell ⟨L, n * 5 + 3, none⟩ (.bool gl)).setCell ⟨L, n * 5 + 4, none⟩ (.int .u64 (lf : Nat))).drew = w7 at HT2 HO2 ⊢
    clear e0 e1 e2 e3 e4 z0 z1 z2 z3 z4 b0 b1 k0 k1 k2 k3 k4
    have b1 : w7.cell? ⟨b, 1, none⟩ = some (.slice (some ⟨I, 0, none⟩) 8 ci) := (HT2.out.rb.cell 1).trans rfl
    have i0 := HT2.out.is n hpl
    have i1 := HT2.out.rI.fz n
    have HT3 := Lib.hid (HT2.out.mark n true hpl)
    have HO3 := Lib.hid (own_set HO2.out I n (.bool true) (.inr (.inr rfl)))
    clear HT2 HO2
    go_wp2_with fail
    go_ret
    rw [HPU.out, HN.out]
    exact ⟨rfl, HT3.out, HO3.out⟩
set_option maxRecDepth 100000 in
set_option maxHeartbeats 4000000 in
theorem put_s1 (b L cl I ci : Nat) (X : St) (ad sp lf : Nat) (gl : Bool) (hl : 65535 < sp) (w : World) (h : Hid (TRat b L cl I ci X w)) :
    Calls Try.prog 13 #[.pointer (some ⟨b, 0, none⟩), .agg (En.v ⟨ad, 1, sp, gl, lf⟩)] w (RetPt b L cl I ci (putS X ⟨ad, 1, sp, gl, lf⟩) (.bool (okP ⟨ad, 1, sp, gl, lf⟩)) w) := by
  have HN : Hid (okP ⟨ad, 1, sp, gl, lf⟩ = false) := by show _ = _; unfold okP; simp only []; rw [show decide (65535 < sp) = true from decide_eq_true hl]; simp
  have d3 : decide ((65535 : Int) < (sp : Int)) = true := decide_eq_true (by omega)
  have d4 : decide (65535 < sp) = true := decide_eq_true hl
  clear hl
  obtain ⟨W0, hW0⟩ : ∃ W0, W0 = w.alloc (Obj.cells (En.v ⟨ad, 1, sp, gl, lf⟩) 36) := ⟨_, rfl⟩
  have hb0 : Below w.heap.size w W0 := by rw [hW0]; exact (Below.refl _ _).alloc (Nat.le_refl _) _
  have HD : Hid (Rd b L cl I ci X ⟨ad, 1, sp, gl, lf⟩ w W0) := ⟨hb0, by rw [hW0]; exact row_new _ _ _, by rw [hW0, sz_alloc]; exact Nat.lt_succ_self _, h.out.below hb0⟩
  have k0 : W0.cell? ⟨w.heap.size, 0, none⟩ = some (.int .u64 (ad : Nat)) := (HD.out.re.cell 0).trans rfl
  have k1 : W0.cell? ⟨w.heap.size, 1, none⟩ = some (.int .i64 1) := (HD.out.re.cell 1).trans rfl
  have k2 : W0.cell? ⟨w.heap.size, 2, none⟩ = some (.int .u64 (sp : Nat)) := (HD.out.re.cell 2).trans rfl
  have c0 := cell_regrown k0
  have c1 := cell_regrown k1
  have c2 := cell_regrown k2
  have HW := Lib.hid hW0
  clear hW0 hb0 k0 k1 k2
  go_enter Try.func13, Try.ntmps13
  go_upto_region 1 with fail
  rw [show w.alloc (Obj.cells (En.v ⟨ad, 1, sp, gl, lf⟩) 36) = W0 from HW.out.symm]
  clear HW
  refine wp_region_quiet_below (by kernel_rfl) (by kernel_rfl) ?_
  repeat (first
    | go_big_quiet_skip
    | (go_big_quiet_want; go_big_quiet_op; first | go_big_quiet_on | go_big_quiet_call (fail)))
  refine wpQuiet_nil ?_
  intro _ hw'
  obtain ⟨⟨dq, osq⟩, hw''⟩ := hw'
  subst hw''
  have hb := below_regrown W0 dq osq
  have HD2 := Lib.hid (HD.out.below hb)
  generalize grow (redrawn W0 dq) osq = w5 at HD2 ⊢
  clear c0 c1 c2 hb HD
  go_wp2_with fail
  go_ret
  have hp : putS X ⟨ad, 1, sp, gl, lf⟩ = X := by unfold putS; rw [if_neg (by rw [HN.out]; decide)]
  rw [HN.out, hp]
  exact ⟨rfl, HD2.out.t, Own.below HD2.out.out⟩
set_option maxRecDepth 100000 in
set_option maxHeartbeats 4000000 in
theorem put_m1 (b L cl I ci : Nat) (X : St) (ad sp lf : Nat) (gl : Bool) (ha : ad < 18446744073709551616) (hl : ¬ 65535 < sp) (hm : ¬ ad % 2097152 = 0) (w : World) (h : Hid (TRat b L cl I ci X w)) :
    Calls Try.prog 13 #[.pointer (some ⟨b, 0, none⟩), .agg (En.v ⟨ad, 1, sp, gl, lf⟩)] w (RetPt b L cl I ci (putS X ⟨ad, 1, sp, gl, lf⟩) (.bool (okP ⟨ad, 1, sp, gl, lf⟩)) w) := by
  have HN : Hid (okP ⟨ad, 1, sp, gl, lf⟩ = false) := by show _ = _; unfold okP; simp only []; rw [show (ad % szN 1 == 0) = false from by show (ad % 2097152 == 0) = false; simpa using hm]; simp
  have fm : ((ad : Int) % 2097152 != 0) = true := by simp only [bne_iff_ne, ne_eq]; omega
  have fm2 : ((ad : Int).tmod 2097152 != 0) = true := by rw [Int.tmod_eq_emod_of_nonneg (by omega)]; exact fm
  clear hm
  have d3 : decide ((65535 : Int) < (sp : Int)) = false := decide_eq_false (by omega)
  have d4 : decide (65535 < sp) = false := decide_eq_false hl
  clear hl
  obtain ⟨W0, hW0⟩ : ∃ W0, W0 = w.alloc (Obj.cells (En.v ⟨ad, 1, sp, gl, lf⟩) 36) := ⟨_, rfl⟩
  have hb0 : Below w.heap.size w W0 := by rw [hW0]; exact (Below.refl _ _).alloc (Nat.le_refl _) _
  have HD : Hid (Rd b L cl I ci X ⟨ad, 1, sp, gl, lf⟩ w W0) := ⟨hb0, by rw [hW0]; exact row_new _ _ _, by rw [hW0, sz_alloc]; exact Nat.lt_succ_self _, h.out.below hb0⟩
  have k0 : W0.cell? ⟨w.heap.size, 0, none⟩ = some (.int .u64 (ad : Nat)) := (HD.out.re.cell 0).trans rfl
  have k1 : W0.cell? ⟨w.heap.size, 1, none⟩ = some (.int .i64 1) := (HD.out.re.cell 1).trans rfl
  have k2 : W0.cell? ⟨w.heap.size, 2, none⟩ = some (.int .u64 (sp : Nat)) := (HD.out.re.cell 2).trans rfl
  have c0 := cell_regrown k0
  have c1 := cell_regrown k1
  have c2 := cell_regrown k2
  have HW := Lib.hid hW0
  clear hW0 hb0 k0 k1 k2
  have q0 : ∀ dd os, Calls Try.prog 27 #[.int .i64 1] (grow (redrawn W0 dd) os) fun e w'' => e = .returned (.int .u64 2097152) ∧ ∃ p : Regrown, w'' = grow (redrawn W0 p.d) p.os := fun dd os => q_V (size_1 _)
  go_enter Try.func13, Try.ntmps13
  go_upto_region 1 with fail
  rw [show w.alloc (Obj.cells (En.v ⟨ad, 1, sp, gl, lf⟩) 36) = W0 from HW.out.symm]
  clear HW
  refine wp_region_quiet_below (by kernel_rfl) (by kernel_rfl) ?_
  repeat (first
    | go_big_quiet_skip
    | (go_big_quiet_want; go_big_quiet_op; first | go_big_quiet_on | go_big_quiet_call ((go_at_call 27; exact q0 _ _))))
  refine wpQuiet_nil ?_
  intro _ hw'
  obtain ⟨⟨dq, osq⟩, hw''⟩ := hw'
  subst hw''
  have hb := below_regrown W0 dq osq
  clear q0
  have HD2 := Lib.hid (HD.out.below hb)
  generalize grow (redrawn W0 dq) osq = w5 at HD2 ⊢
  clear c0 c1 c2 hb HD
  go_wp2_with fail
  go_ret
  have hp : putS X ⟨ad, 1, sp, gl, lf⟩ = X := by unfold putS; rw [if_neg (by rw [HN.out]; decide)]
  rw [HN.out, hp]
  exact ⟨rfl, HD2.out.t, Own.below HD2.out.out⟩
set_option maxRecDepth 100000 in
set_option maxHeartbeats 4000000 in
theorem put_y1 (b L cl I ci : Nat) (X : St) (ad sp lf : Nat) (gl : Bool) (hX : X.Ok) (ha : ad < 18446744073709551616) (hl : ¬ 65535 < sp) (hm : ad % 2097152 = 0) (w : World) (h : Hid (TRat b L cl I ci X w)) :
    Calls Try.prog 13 #[.pointer (some ⟨b, 0, none⟩), .agg (En.v ⟨ad, 1, sp, gl, lf⟩)] w (RetPt b L cl I ci (putS X ⟨ad, 1, sp, gl, lf⟩) (.bool (okP ⟨ad, 1, sp, gl, lf⟩)) w) := by
  have HN : Hid (okP ⟨ad, 1, sp, gl, lf⟩ = true) := by show _ = _; unfold okP; simp only []; rw [show (ad % szN 1 == 0) = true from by show (ad % 2097152 == 0) = true; simpa using hm, show decide (65535 < sp) = false from decide_eq_false hl]; rfl
  have fm : ((ad : Int) % 2097152 != 0) = false := by simp only [bne_eq_false_iff_eq]; omega
  have fm2 : ((ad : Int).tmod 2097152 != 0) = false := by rw [Int.tmod_eq_emod_of_nonneg (by omega)]; exact fm
  clear hm
  have d3 : decide ((65535 : Int) < (sp : Int)) = false := decide_eq_false (by omega)
  have d4 : decide (65535 < sp) = false := decide_eq_false hl
  clear hl
  obtain ⟨W0, hW0⟩ : ∃ W0, W0 = w.alloc (Obj.cells (En.v ⟨ad, 1, sp, gl, lf⟩) 36) := ⟨_, rfl⟩
  have hb0 : Below w.heap.size w W0 := by rw [hW0]; exact (Below.refl _ _).alloc (Nat.le_refl _) _
  have HD : Hid (Rd b L cl I ci X ⟨ad, 1, sp, gl, lf⟩ w W0) := ⟨hb0, by rw [hW0]; exact row_new _ _ _, by rw [hW0, sz_alloc]; exact Nat.lt_succ_self _, h.out.below hb0⟩
  have k0 : W0.cell? ⟨w.heap.size, 0, none⟩ = some (.int .u64 (ad : Nat)) := (HD.out.re.cell 0).trans rfl
  have k1 : W0.cell? ⟨w.heap.size, 1, none⟩ = some (.int .i64 1) := (HD.out.re.cell 1).trans rfl
  have k2 : W0.cell? ⟨w.heap.size, 2, none⟩ = some (.int .u64 (sp : Nat)) := (HD.out.re.cell 2).trans rfl
  have c0 := cell_regrown k0
  have c1 := cell_regrown k1
  have c2 := cell_regrown k2
  have HW := Lib.hid hW0
  clear hW0 hb0 k0 k1 k2
  have q0 : ∀ dd os, Calls Try.prog 27 #[.int .i64 1] (grow (redrawn W0 dd) os) fun e w'' => e = .returned (.int .u64 2097152) ∧ ∃ p : Regrown, w'' = grow (redrawn W0 p.d) p.os := fun dd os => q_V (size_1 _)
  go_enter Try.func13, Try.ntmps13
  go_upto_region 1 with fail
  rw [show w.alloc (Obj.cells (En.v ⟨ad, 1, sp, gl, lf⟩) 36) = W0 from HW.out.symm]
  clear HW
  refine wp_region_quiet_below (by kernel_rfl) (by kernel_rfl) ?_
  repeat (first
    | go_big_quiet_skip
    | (go_big_quiet_want; go_big_quiet_op; first | go_big_quiet_on | go_big_quiet_call ((go_at_call 27; exact q0 _ _))))
  refine wpQuiet_nil ?_
  intro _ hw'
  obtain ⟨⟨dq, osq⟩, hw''⟩ := hw'
  subst hw''
  have hb := below_regrown W0 dq osq
  clear q0
  have HD2 := Lib.hid (HD.out.below hb)
  generalize grow (redrawn W0 dq) osq = w5 at HD2 ⊢
  clear c0 c1 c2 hb HD fm fm2
  have hpl := place_lt X hX ⟨ad, 1, sp, gl, lf⟩
  have HPl := Lib.hid (place_c b L cl I ci X ⟨ad, 1, sp, gl, lf⟩ w5 (Lib.hid HD2.out.t))
  have HPU : Hid (putS X ⟨ad, 1, sp, gl, lf⟩ = ⟨setF X.e (placeN X ⟨ad, 1, sp, gl, lf⟩).1 ⟨ad, 1, sp, gl, lf⟩, setF X.is (placeN X ⟨ad, 1, sp, gl, lf⟩).1 true, (placeN X ⟨ad, 1, sp, gl, lf⟩).2⟩) := by show _ = _; unfold putS; rw [if_pos HN.out]
  generalize placeN X ⟨ad, 1, sp, gl, lf⟩ = pn at hpl HPl HPU
  obtain ⟨n, sd'⟩ := pn
  replace hpl : n < 8 := hpl.1
  go_wp2_with (refine wpList_load_row rfl 36 _ rfl w.heap.size rfl 36 (En.v ⟨ad, 1, sp, gl, lf⟩) (0, 0) _ HD2.out.re Try.underlying36 rfl (info_en _) ?_)
  refine HPl.out.mono ?_; rintro e w6 ⟨rfl, ht, ho⟩
  have hre : Row w6 w.heap.size 36 (En.v ⟨ad, 1, sp, gl, lf⟩) := ho.row HD2.out.re HD2.out.lt (fun q => by have := h.out.lb; omega)
  have HO : Hid (Own (fun k => k = b ∨ k = L ∨ k = I) w w6) := (Own.below HD2.out.out).trans (ho.more (fun i q => Or.inl q))
  have HT := Lib.hid ht
  have k0 : w6.cell? ⟨w.heap.size, 0, none⟩ = some (.int .u64 (ad : Nat)) := (hre.cell 0).trans rfl
  have k1 : w6.cell? ⟨w.heap.size, 1, none⟩ = some (.int .i64 1) := (hre.cell 1).trans rfl
  have k2 : w6.cell? ⟨w.heap.size, 2, none⟩ = some (.int .u64 (sp : Nat)) := (hre.cell 2).trans rfl
  have k3 : w6.cell? ⟨w.heap.size, 3, none⟩ = some (.bool gl) := (hre.cell 3).trans rfl
  have k4 : w6.cell? ⟨w.heap.size, 4, none⟩ = some (.int .u64 (lf : Nat)) := (hre.cell 4).trans rfl
  have b0 : w6.cell? ⟨b, 0, none⟩ = some (.slice (some ⟨L, 0, none⟩) 8 cl) := (ht.rb.cell 0).trans rfl
  have b1 : w6.cell? ⟨b, 1, none⟩ = some (.slice (some ⟨I, 0, none⟩) 8 ci) := (ht.rb.cell 1).trans rfl
  cases hx : X.e n with
  | mk a1 a2 a3 a4 a5 =>
    obtain ⟨e0, e1, e2, e3, e4⟩ := ht.en5 n hpl hx
    have z0 := ht.rL.fz (n * 5)
    have z1 := ht.rL.fz (n * 5 + 1)
    have z2 := ht.rL.fz (n * 5 + 2)
    have z3 := ht.rL.fz (n * 5 + 3)
    have z4 := ht.rL.fz (n * 5 + 4)
    clear HD2 HPl hre ht ho hx
    have HT2 := Lib.hid ((HT.out.lay n ad sp lf 1 gl hpl).drew)
    have HO2 := Lib.hid (own_drew (own5 HO.out L n (.int .u64 (ad : Nat)) (.int .i64 1) (.int .u64 (sp : Nat)) (.bool gl) (.int .u64 (lf : Nat)) (.inr (.inl rfl))))
    clear HT HO
    go_wp2_with fail
    go_region
    generalize (((((w6.setCell ⟨L, n * 5, none⟩ (.int .u64 (ad : Nat))).setCell ⟨L, n * 5 + 1, none⟩ (.int .i64 1)).setCell ⟨L, n * 5 + 2, none⟩ (.int .u64 (sp : Nat))).setCell ⟨L, n * 5 + 3, none⟩ (.bool gl)).setCell ⟨L, n * 5 + 4, none⟩ (.int .u64 (lf : Nat))).drew = w7 at HT2 HO2 ⊢
    clear e0 e1 e2 e3 e4 z0 z1 z2 z3 z4 b0 b1 k0 k1 k2 k3 k4
    have b1 : w7.cell? ⟨b, 1, none⟩ = some (.slice (some ⟨I, 0, none⟩) 8 ci) := (HT2.out.rb.cell 1).trans rfl
    have i0 := HT2.out.is n hpl
    have i1 := HT2.out.rI.fz n
    have HT3 := Lib.hid (HT2.out.mark n true hpl)
    have HO3 := Lib.hid (own_set HO2.out I n (.bool true) (.inr (.inr rfl)))
    clear HT2 HO2
    go_wp2_with fail
    go_ret
    rw [HPU.out, HN.out]
    exact ⟨rfl, HT3.out, HO3.out⟩
set_option maxRecDepth 100000 in
set_option maxHeartbeats 4000000 in
theorem put_s2 (b L cl I ci : Nat) (X : St) (ad sp lf : Nat) (gl : Bool) (hl : 65535 < sp) (w : World) (h : Hid (TRat b L cl I ci X w)) :
    Calls Try.prog 13 #[.pointer (some ⟨b, 0, none⟩), .agg (En.v ⟨ad, 2, sp, gl, lf⟩)] w (RetPt b L cl I ci (putS X ⟨ad, 2, sp, gl, lf⟩) (.bool (okP ⟨ad, 2, sp, gl, lf⟩)) w) := by
  have HN : Hid (okP ⟨ad, 2, sp, gl, lf⟩ = false) := by show _ = _; unfold okP; simp only []; rw [show decide (65535 < sp) = true from decide_eq_true hl]; simp
  have d3 : decide ((65535 : Int) < (sp : Int)) = true := decide_eq_true (by omega)
  have d4 : decide (65535 < sp) = true := decide_eq_true hl
  clear hl
  obtain ⟨W0, hW0⟩ : ∃ W0, W0 = w.alloc (Obj.cells (En.v ⟨ad, 2, sp, gl, lf⟩) 36) := ⟨_, rfl⟩
  have hb0 : Below w.heap.size w W0 := by rw [hW0]; exact (Below.refl _ _).alloc (Nat.le_refl _) _
  have HD : Hid (Rd b L cl I ci X ⟨ad, 2, sp, gl, lf⟩ w W0) := ⟨hb0, by rw [hW0]; exact row_new _ _ _, by rw [hW0, sz_alloc]; exact Nat.lt_succ_self _, h.out.below hb0⟩
  have k0 : W0.cell? ⟨w.heap.size, 0, none⟩ = some (.int .u64 (ad : Nat)) := (HD.out.re.cell 0).trans rfl
  have k1 : W0.cell? ⟨w.heap.size, 1, none⟩ = some (.int .i64 2) := (HD.out.re.cell 1).trans rfl
  have k2 : W0.cell? ⟨w.heap.size, 2, none⟩ = some (.int .u64 (sp : Nat)) := (HD.out.re.cell 2).trans rfl
  have c0 := cell_regrown k0
  have c1 := cell_regrown k1
  have c2 := cell_regrown k2
  have HW := Lib.hid hW0
  clear hW0 hb0 k0 k1 k2
  go_enter Try.func13, Try.ntmps13
  go_upto_region 1 with fail
  rw [show w.alloc (Obj.cells (En.v ⟨ad, 2, sp, gl, lf⟩) 36) = W0 from HW.out.symm]
  clear HW
  refine wp_region_quiet_below (by kernel_rfl) (by kernel_rfl) ?_
  repeat (first
    | go_big_quiet_skip
    | (go_big_quiet_want; go_big_quiet_op; first | go_big_quiet_on | go_big_quiet_call (fail)))
  refine wpQuiet_nil ?_
  intro _ hw'
  obtain ⟨⟨dq, osq⟩, hw''⟩ := hw'
  subst hw''
  have hb := below_regrown W0 dq osq
  have HD2 := Lib.hid (HD.out.below hb)
  generalize grow (redrawn W0 dq) osq = w5 at HD2 ⊢
  clear c0 c1 c2 hb HD
  go_wp2_with fail
  go_ret
  have hp : putS X ⟨ad, 2, sp, gl, lf⟩ = X := by unfold putS; rw [if_neg (by rw [HN.out]; decide)]
  rw [HN.out, hp]
  exact ⟨rfl, HD2.out.t, Own.below HD2.out.out⟩
set_option maxRecDepth 100000 in
set_option maxHeartbeats 4000000 in
theorem put_m2 (b L cl I ci : Nat) (X : St) (ad sp lf : Nat) (gl : Bool) (ha : ad < 18446744073709551616) (hl : ¬ 65535 < sp) (hm : ¬ ad % 1073741824 = 0) (w : World) (h : Hid (TRat b L cl I ci X w)) :
    Calls Try.prog 13 #[.pointer (some ⟨b, 0, none⟩), .agg (En.v ⟨ad, 2, sp, gl, lf⟩)] w (RetPt b L cl I ci (putS X ⟨ad, 2, sp, gl, lf⟩) (.bool (okP ⟨ad, 2, sp, gl, lf⟩)) w) := by
  have HN : Hid (okP ⟨ad, 2, sp, gl, lf⟩ = false) := by show _ = _; unfold okP; simp only []; rw [show (ad % szN 2 == 0) = false from by show (ad % 1073741824 == 0) = false; simpa using hm]; simp
  have fm : ((ad : Int) % 1073741824 != 0) = true := by simp only [bne_iff_ne, ne_eq]; omega
  have fm2 : ((ad : Int).tmod 1073741824 != 0) = true := by rw [Int.tmod_eq_emod_of_nonneg (by omega)]; exact fm
  clear hm
  have d3 : decide ((65535 : Int) < (sp : Int)) = false := decide_eq_false (by omega)
  have d4 : decide (65535 < sp) = false := decide_eq_false hl
  clear hl
  obtain ⟨W0, hW0⟩ : ∃ W0, W0 = w.alloc (Obj.cells (En.v ⟨ad, 2, sp, gl, lf⟩) 36) := ⟨_, rfl⟩
  have hb0 : Below w.heap.size w W0 := by rw [hW0]; exact (Below.refl _ _).alloc (Nat.le_refl _) _
  have HD : Hid (Rd b L cl I ci X ⟨ad, 2, sp, gl, lf⟩ w W0) := ⟨hb0, by rw [hW0]; exact row_new _ _ _, by rw [hW0, sz_alloc]; exact Nat.lt_succ_self _, h.out.below hb0⟩
  have k0 : W0.cell? ⟨w.heap.size, 0, none⟩ = some (.int .u64 (ad : Nat)) := (HD.out.re.cell 0).trans rfl
  have k1 : W0.cell? ⟨w.heap.size, 1, none⟩ = some (.int .i64 2) := (HD.out.re.cell 1).trans rfl
  have k2 : W0.cell? ⟨w.heap.size, 2, none⟩ = some (.int .u64 (sp : Nat)) := (HD.out.re.cell 2).trans rfl
  have c0 := cell_regrown k0
  have c1 := cell_regrown k1
  have c2 := cell_regrown k2
  have HW := Lib.hid hW0
  clear hW0 hb0 k0 k1 k2
  have q0 : ∀ dd os, Calls Try.prog 27 #[.int .i64 2] (grow (redrawn W0 dd) os) fun e w'' => e = .returned (.int .u64 1073741824) ∧ ∃ p : Regrown, w'' = grow (redrawn W0 p.d) p.os := fun dd os => q_V (size_2 _)
  go_enter Try.func13, Try.ntmps13
  go_upto_region 1 with fail
  rw [show w.alloc (Obj.cells (En.v ⟨ad, 2, sp, gl, lf⟩) 36) = W0 from HW.out.symm]
  clear HW
  refine wp_region_quiet_below (by kernel_rfl) (by kernel_rfl) ?_
  repeat (first
    | go_big_quiet_skip
    | (go_big_quiet_want; go_big_quiet_op; first | go_big_quiet_on | go_big_quiet_call ((go_at_call 27; exact q0 _ _))))
  refine wpQuiet_nil ?_
  intro _ hw'
  obtain ⟨⟨dq, osq⟩, hw''⟩ := hw'
  subst hw''
  have hb := below_regrown W0 dq osq
  clear q0
  have HD2 := Lib.hid (HD.out.below hb)
  generalize grow (redrawn W0 dq) osq = w5 at HD2 ⊢
  clear c0 c1 c2 hb HD
  go_wp2_with fail
  go_ret
  have hp : putS X ⟨ad, 2, sp, gl, lf⟩ = X := by unfold putS; rw [if_neg (by rw [HN.out]; decide)]
  rw [HN.out, hp]
  exact ⟨rfl, HD2.out.t, Own.below HD2.out.out⟩
set_option maxRecDepth 100000 in
set_option maxHeartbeats 4000000 in
theorem put_y2 (b L cl I ci : Nat) (X : St) (ad sp lf : Nat) (gl : Bool) (hX : X.Ok) (ha : ad < 18446744073709551616) (hl : ¬ 65535 < sp) (hm : ad % 1073741824 = 0) (w : World) (h : Hid (TRat b L cl I ci X w)) :
    Calls Try.prog 13 #[.pointer (some ⟨b, 0, none⟩), .agg (En.v ⟨ad, 2, sp, gl, lf⟩)] w (RetPt b L cl I ci (putS X ⟨ad, 2, sp, gl, lf⟩) (.bool (okP ⟨ad, 2, sp, gl, lf⟩)) w) := by
  have HN : Hid (okP ⟨ad, 2, sp, gl, lf⟩ = true) := by show _ = _; unfold okP; simp only []; rw [show (ad % szN 2 == 0) = true from by show (ad % 1073741824 == 0) = true; simpa using hm, show decide (65535 < sp) = false from decide_eq_false hl]; rfl
  have fm : ((ad : Int) % 1073741824 != 0) = false := by simp only [bne_eq_false_iff_eq]; omega
  have fm2 : ((ad : Int).tmod 1073741824 != 0) = false := by rw [Int.tmod_eq_emod_of_nonneg (by omega)]; exact fm
  clear hm
  have d3 : decide ((65535 : Int) < (sp : Int)) = false := decide_eq_false (by omega)
  have d4 : decide (65535 < sp) = false := decide_eq_false hl
  clear hl
  obtain ⟨W0, hW0⟩ : ∃ W0, W0 = w.alloc (Obj.cells (En.v ⟨ad, 2, sp, gl, lf⟩) 36) := ⟨_, rfl⟩
  have hb0 : Below w.heap.size w W0 := by rw [hW0]; exact (Below.refl _ _).alloc (Nat.le_refl _) _
  have HD : Hid (Rd b L cl I ci X ⟨ad, 2, sp, gl, lf⟩ w W0) := ⟨hb0, by rw [hW0]; exact row_new _ _ _, by rw [hW0, sz_alloc]; exact Nat.lt_succ_self _, h.out.below hb0⟩
  have k0 : W0.cell? ⟨w.heap.size, 0, none⟩ = some (.int .u64 (ad : Nat)) := (HD.out.re.cell 0).trans rfl
  have k1 : W0.cell? ⟨w.heap.size, 1, none⟩ = some (.int .i64 2) := (HD.out.re.cell 1).trans rfl
  have k2 : W0.cell? ⟨w.heap.size, 2, none⟩ = some (.int .u64 (sp : Nat)) := (HD.out.re.cell 2).trans rfl
  have c0 := cell_regrown k0
  have c1 := cell_regrown k1
  have c2 := cell_regrown k2
  have HW := Lib.hid hW0
  clear hW0 hb0 k0 k1 k2
  have q0 : ∀ dd os, Calls Try.prog 27 #[.int .i64 2] (grow (redrawn W0 dd) os) fun e w'' => e = .returned (.int .u64 1073741824) ∧ ∃ p : Regrown, w'' = grow (redrawn W0 p.d) p.os := fun dd os => q_V (size_2 _)
  go_enter Try.func13, Try.ntmps13
  go_upto_region 1 with fail
  rw [show w.alloc (Obj.cells (En.v ⟨ad, 2, sp, gl, lf⟩) 36) = W0 from HW.out.symm]
  clear HW
  refine wp_region_quiet_below (by kernel_rfl) (by kernel_rfl) ?_
  repeat (first
    | go_big_quiet_skip
    | (go_big_quiet_want; go_big_quiet_op; first | go_big_quiet_on | go_big_quiet_call ((go_at_call 27; exact q0 _ _))))
  refine wpQuiet_nil ?_
  intro _ hw'
  obtain ⟨⟨dq, osq⟩, hw''⟩ := hw'
  subst hw''
  have hb := below_regrown W0 dq osq
  clear q0
  have HD2 := Lib.hid (HD.out.below hb)
  generalize grow (redrawn W0 dq) osq = w5 at HD2 ⊢
  clear c0 c1 c2 hb HD fm fm2
  have hpl := place_lt X hX ⟨ad, 2, sp, gl, lf⟩
  have HPl := Lib.hid (place_c b L cl I ci X ⟨ad, 2, sp, gl, lf⟩ w5 (Lib.hid HD2.out.t))
  have HPU : Hid (putS X ⟨ad, 2, sp, gl, lf⟩ = ⟨setF X.e (placeN X ⟨ad, 2, sp, gl, lf⟩).1 ⟨ad, 2, sp, gl, lf⟩, setF X.is (placeN X ⟨ad, 2, sp, gl, lf⟩).1 true, (placeN X ⟨ad, 2, sp, gl, lf⟩).2⟩) := by show _ = _; unfold putS; rw [if_pos HN.out]
  generalize placeN X ⟨ad, 2, sp, gl, lf⟩ = pn at hpl HPl HPU
  obtain ⟨n, sd'⟩ := pn
  replace hpl : n < 8 := hpl.1
  go_wp2_with (refine wpList_load_row rfl 36 _ rfl w.heap.size rfl 36 (En.v ⟨ad, 2, sp, gl, lf⟩) (0, 0) _ HD2.out.re Try.underlying36 rfl (info_en _) ?_)
  refine HPl.out.mono ?_; rintro e w6 ⟨rfl, ht, ho⟩
  have hre : Row w6 w.heap.size 36 (En.v ⟨ad, 2, sp, gl, lf⟩) := ho.row HD2.out.re HD2.out.lt (fun q => by have := h.out.lb; omega)
  have HO : Hid (Own (fun k => k = b ∨ k = L ∨ k = I) w w6) := (Own.below HD2.out.out).trans (ho.more (fun i q => Or.inl q))
  have HT := Lib.hid ht
  have k0 : w6.cell? ⟨w.heap.size, 0, none⟩ = some (.int .u64 (ad : Nat)) := (hre.cell 0).trans rfl
  have k1 : w6.cell? ⟨w.heap.size, 1, none⟩ = some (.int .i64 2) := (hre.cell 1).trans rfl
  have k2 : w6.cell? ⟨w.heap.size, 2, none⟩ = some (.int .u64 (sp : Nat)) := (hre.cell 2).trans rfl
  have k3 : w6.cell? ⟨w.heap.size, 3, none⟩ = some (.bool gl) := (hre.cell 3).trans rfl
  have k4 : w6.cell? ⟨w.heap.size, 4, none⟩ = some (.int .u64 (lf : Nat)) := (hre.cell 4).trans rfl
  have b0 : w6.cell? ⟨b, 0, none⟩ = some (.slice (some ⟨L, 0, none⟩) 8 cl) := (ht.rb.cell 0).trans rfl
  have b1 : w6.cell? ⟨b, 1, none⟩ = some (.slice (some ⟨I, 0, none⟩) 8 ci) := (ht.rb.cell 1).trans rfl
  cases hx : X.e n with
  | mk a1 a2 a3 a4 a5 =>
    obtain ⟨e0, e1, e2, e3, e4⟩ := ht.en5 n hpl hx
    have z0 := ht.rL.fz (n * 5)
    have z1 := ht.rL.fz (n * 5 + 1)
    have z2 := ht.rL.fz (n * 5 + 2)
    have z3 := ht.rL.fz (n * 5 + 3)
    have z4 := ht.rL.fz (n * 5 + 4)
    clear HD2 HPl hre ht ho hx
    have HT2 := Lib.hid ((HT.out.lay n ad sp lf 2 gl hpl).drew)
    have HO2 := Lib.hid (own_drew (own5 HO.out L n (.int .u64 (ad : Nat)) (.int .i64 2) (.int .u64 (sp : Nat)) (.bool gl) (.int .u64 (lf : Nat)) (.inr (.inl rfl))))
    clear HT HO
    go_wp2_with fail
    go_region
    generalize (((((w6.setCell ⟨L, n * 5, none⟩ (.int .u64 (ad : Nat))).setCell ⟨L, n * 5 + 1, none⟩ (.int .i64 2)).setCell ⟨L, n * 5 + 2, none⟩ (.int .u64 (sp : Nat))).setCell ⟨L, n * 5 + 3, none⟩ (.bool gl)).setCell ⟨L, n * 5 + 4, none⟩ (.int .u64 (lf : Nat))).drew = w7 at HT2 HO2 ⊢
    clear e0 e1 e2 e3 e4 z0 z1 z2 z3 z4 b0 b1 k0 k1 k2 k3 k4
    have b1 : w7.cell? ⟨b, 1, none⟩ = some (.slice (some ⟨I, 0, none⟩) 8 ci) := (HT2.out.rb.cell 1).trans rfl
    have i0 := HT2.out.is n hpl
    have i1 := HT2.out.rI.fz n
    have HT3 := Lib.hid (HT2.out.mark n true hpl)
    have HO3 := Lib.hid (own_set HO2.out I n (.bool true) (.inr (.inr rfl)))
    clear HT2 HO2
    go_wp2_with fail
    go_ret
    rw [HPU.out, HN.out]
    exact ⟨rfl, HT3.out, HO3.out⟩
theorem put_c (b L cl I ci : Nat) (X : St) (hX : X.Ok) (x : En) (hw : x.Wf) (w : World) (h : Hid (TRat b L cl I ci X w)) :
    Calls Try.prog 13 #[.pointer (some ⟨b, 0, none⟩), .agg x.v] w (RetPt b L cl I ci (putS X x) (.bool (okP x)) w) := by
  have ha := hw.ad
  obtain ⟨ad, lv, sp, gl, lf⟩ := x
  by_cases h1 : lv < 0
  · exact put_lo b L cl I ci X ad sp lf lv gl h1 w h
  by_cases h2 : 2 < lv
  · exact put_hi b L cl I ci X ad sp lf lv gl h2 w h
  have h3 : lv = 0 ∨ lv = 1 ∨ lv = 2 := by omega
  by_cases h4 : 65535 < sp
  · rcases h3 with rfl | rfl | rfl
    · exact put_s0 b L cl I ci X ad sp lf gl h4 w h
    · exact put_s1 b L cl I ci X ad sp lf gl h4 w h
    · exact put_s2 b L cl I ci X ad sp lf gl h4 w h
  · rcases h3 with rfl | rfl | rfl
    · by_cases h5 : ad % 4096 = 0
      · exact put_y0 b L cl I ci X ad sp lf gl hX ha h4 h5 w h
      · exact put_m0 b L cl I ci X ad sp lf gl ha h4 h5 w h
    · by_cases h5 : ad % 2097152 = 0
      · exact put_y1 b L cl I ci X ad sp lf gl hX ha h4 h5 w h
      · exact put_m1 b L cl I ci X ad sp lf gl ha h4 h5 w h
    · by_cases h5 : ad % 1073741824 = 0
      · exact put_y2 b L cl I ci X ad sp lf gl hX ha h4 h5 w h
      · exact put_m2 b L cl I ci X ad sp lf gl ha h4 h5 w h
end Go.Proofs.Ytdplcdgdndeopaa
