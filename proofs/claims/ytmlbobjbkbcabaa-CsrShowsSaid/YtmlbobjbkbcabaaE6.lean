/- The walk of CsrShows. -/
import Derived.Test.YtmlbobjbkbcabaaE5
import Derived.Test.YtmlbobjbkbcabaaE1
namespace Go.Proofs.Ytmlbobjbkbcabaa
open Go.ChangeShapes Go.WideShapes Go.ChangeAt Go.RowKit Go.Sort P
set_option linter.unusedVariables false
set_option linter.unusedSimpArgs false
set_option maxRecDepth 100000 in
set_option maxHeartbeats 2000000 in
theorem shows_core (p : Option Addr) (b o N cap : Nat) (K : Nat → Int) (V : Nat → Nat) (lines v : Nat) (hlin : Hid (lines < 18446744073709551616)) (hv : Hid (v < 18446744073709551616)) (w : World) (h : Hid (Lays w p b o N K V)) : Calls Try.prog 8 #[.slice p N cap, .int .u64 lines, .int .u64 v] w (RetB true w) := by
  go_enter Try.func8, Try.ntmps8
  go_wp2_with fail
  refine (awake_c _).mono ?_; rintro e w1 ⟨rfl, hb⟩
  have HB : Hid (Below w.heap.size w w1) := hb
  clear hb
  go_wp2_with fail
  refine (held_c p b o N cap K V w1 (h.out.below HB.out)).mono ?_; rintro e w2 ⟨S, HL, rfl, hb⟩
  replace HB := Lib.hid (below_step hb HB.out HB.out.size)
  clear hb h
  go_upto_region 4 with (refine wpList_store_rowP (Had w w2.heap.size S) rfl 26 _ _ rfl w2.heap.size (cs S) rfl rfl 26 (cs Z38) (row_new _ _ _) (infoS _) rfl (oneS _) (had_start S HB.out) ?_; rintro wd HD; replace HD := Lib.hid HD)
  generalize w2.heap.size = cb at HD ⊢
  clear HB w2
  have HG := Lib.hid (gs_of_had HD.out)
  clear HD
  have RC := Lib.hid (HG.out.row cb S (by simp))
  have u0 := HL.out.ok.u 0 (by decide)
  have u3 := HL.out.ok.u 3 (by decide)
  have u4 := HL.out.ok.u 4 (by decide)
  have hm : mipN S lines < 18446744073709551616 := or_lt (HL.out.ok.u 5 (by decide)) (and_lt _ _ hlin.out)
  have HR : Hid (∀ n u, Calls Try.prog 14 #[.agg (cs S), .int .i64 n, .int .u64 lines, .int .u64 0] u (RetU (rdF S n lines 0) u)) := fun n u => read_c S n lines 0 HL.out.ok hlin u
  have q0 := fun dd os => q_u (w := wd) (dd := dd) (os := os) (HR.out 256 _)
  have q1 := fun dd os => q_u (w := wd) (dd := dd) (os := os) (HR.out 768 _)
  have q2 := fun dd os => q_u (w := wd) (dd := dd) (os := os) (HR.out 260 _)
  have q3 := fun dd os => q_u (w := wd) (dd := dd) (os := os) (HR.out 772 _)
  have q4 := fun dd os => q_u (w := wd) (dd := dd) (os := os) (HR.out 324 _)
  have q5 := fun dd os => q_u (w := wd) (dd := dd) (os := os) (HR.out 836 _)
  rw [show rdF S 256 lines 0 = S 0 &&& 9223372045445521698 from rfl] at q0
  rw [show rdF S 768 lines 0 = S 0 from rfl] at q1
  rw [show rdF S 260 lines 0 = S 4 &&& S 3 from rfl] at q2
  rw [show rdF S 772 lines 0 = S 4 from rfl] at q3
  rw [show rdF S 324 lines 0 = mipN S lines &&& S 3 from rfl] at q4
  rw [show rdF S 836 lines 0 = mipN S lines from rfl] at q5
  have b1 := u_andNot (S 0 &&& 9223372045445521698) (S 0) (and_lt _ _ u0) u0
  rw [nand_0 _ _ u0] at b1
  have b2 := u_and (S 4) (S 3) u4 u3
  have b3 := u_and (mipN S lines) (S 3) hm u3
  generalize mipN S lines = mp at *
  generalize (S 0 &&& 9223372045445521698) = x1 at q0 b1
  generalize (S 4 &&& S 3) = x2 at q2 b2
  generalize (mp &&& S 3) = x3 at q4 b3
  replace b1 : bits .andNot .u64 (x1 : Int) (S 0 : Int) = 0 := b1
  have c3 := HG.out.u cb S (by simp) 3 (by unfold isU; decide)
  have K3 := cell_regrown c3
  clear c3 u0 u3 u4 hm HR
  simp only [Act.put]
  refine wp_region_quiet_below (by kernel_rfl) (by kernel_rfl) ?_
  repeat (first
    | go_big_quiet_skip
    | (go_big_quiet_want; first
        | (refine quiet_load_row 26 _ rfl cb rfl 26 (cs S) _ RC.out Try.underlying26 rfl (infoS _) ?_; simp only [Act.put, List.setIfInBounds_toArray, List.set_cons_succ, List.set_cons_zero]; go_big_quiet_on)
        | (go_big_quiet_op; go_big_quiet_on)))
  (go_big_quiet_want; go_big_quiet_op; go_big_quiet_call ((go_at_call 14; exact q0 _ _)))
  repeat (first
    | go_big_quiet_skip
    | (go_big_quiet_want; first
        | (refine quiet_load_row 26 _ rfl cb rfl 26 (cs S) _ RC.out Try.underlying26 rfl (infoS _) ?_; simp only [Act.put, List.setIfInBounds_toArray, List.set_cons_succ, List.set_cons_zero]; go_big_quiet_on)
        | (go_big_quiet_op; go_big_quiet_on)))
  (go_big_quiet_want; go_big_quiet_op; go_big_quiet_call ((go_at_call 14; exact q1 _ _)))
  repeat (first
    | go_big_quiet_skip
    | (go_big_quiet_want; first
        | (refine quiet_load_row 26 _ rfl cb rfl 26 (cs S) _ RC.out Try.underlying26 rfl (infoS _) ?_; simp only [Act.put, List.setIfInBounds_toArray, List.set_cons_succ, List.set_cons_zero]; go_big_quiet_on)
        | (go_big_quiet_op; go_big_quiet_on)))
  (go_big_quiet_want; go_big_quiet_op; go_big_quiet_call ((go_at_call 14; exact q2 _ _)))
  repeat (first
    | go_big_quiet_skip
    | (go_big_quiet_want; first
        | (refine quiet_load_row 26 _ rfl cb rfl 26 (cs S) _ RC.out Try.underlying26 rfl (infoS _) ?_; simp only [Act.put, List.setIfInBounds_toArray, List.set_cons_succ, List.set_cons_zero]; go_big_quiet_on)
        | (go_big_quiet_op; go_big_quiet_on)))
  (go_big_quiet_want; go_big_quiet_op; go_big_quiet_call ((go_at_call 14; exact q3 _ _)))
  repeat (first
    | go_big_quiet_skip
    | (go_big_quiet_want; first
        | (refine quiet_load_row 26 _ rfl cb rfl 26 (cs S) _ RC.out Try.underlying26 rfl (infoS _) ?_; simp only [Act.put, List.setIfInBounds_toArray, List.set_cons_succ, List.set_cons_zero]; go_big_quiet_on)
        | (go_big_quiet_op; go_big_quiet_on)))
  (go_big_quiet_want; go_big_quiet_op; go_big_quiet_call ((go_at_call 14; exact q4 _ _)))
  repeat (first
    | go_big_quiet_skip
    | (go_big_quiet_want; first
        | (refine quiet_load_row 26 _ rfl cb rfl 26 (cs S) _ RC.out Try.underlying26 rfl (infoS _) ?_; simp only [Act.put, List.setIfInBounds_toArray, List.set_cons_succ, List.set_cons_zero]; go_big_quiet_on)
        | (go_big_quiet_op; go_big_quiet_on)))
  (go_big_quiet_want; go_big_quiet_op; go_big_quiet_call ((go_at_call 14; exact q5 _ _)))
  repeat (first
    | go_big_quiet_skip
    | (go_big_quiet_want; first
        | (refine quiet_load_row 26 _ rfl cb rfl 26 (cs S) _ RC.out Try.underlying26 rfl (infoS _) ?_; simp only [Act.put, List.setIfInBounds_toArray, List.set_cons_succ, List.set_cons_zero]; go_big_quiet_on)
        | (go_big_quiet_op; go_big_quiet_on)))
  refine wpQuiet_nil ?_
  intro _ hw'
  obtain ⟨⟨dq, osq⟩, hw''⟩ := hw'
  subst hw''
  replace HG := Lib.hid (HG.out.below (below_regrown wd dq osq))
  generalize grow (redrawn wd dq) osq = w5 at HG ⊢
  clear q0 q1 q2 q3 q4 q5 RC K3 b1 b2 b3
  have u0 := HL.out.ok.u 0 (by decide)
  have u3 := HL.out.ok.u 3 (by decide)
  have u4 := HL.out.ok.u 4 (by decide)
  have u5 := HL.out.ok.u 5 (by decide)
  have HW1 : Hid (∀ u, Calls Try.prog 18 #[.agg (cs S), .int .i64 256, .int .u64 (v : Nat)] u (RetS (wrF S 256 v) u)) := fun u => write_c S 256 v HL.out.ok hv.out u
  have HW2 : Hid (∀ u, Calls Try.prog 18 #[.agg (cs S), .int .i64 260, .int .u64 (v : Nat)] u (RetS (wrF S 260 v) u)) := fun u => write_c S 260 v HL.out.ok hv.out u
  have HW3 : Hid (∀ u, Calls Try.prog 18 #[.agg (cs S), .int .i64 324, .int .u64 (v : Nat)] u (RetS (wrF S 324 v) u)) := fun u => write_c S 324 v HL.out.ok hv.out u
  have HR1 : Hid (∀ u, Calls Try.prog 14 #[.agg (cs (wrF S 256 v)), .int .i64 256, .int .u64 0, .int .u64 0] u (RetU (rdF (wrF S 256 v) 256 0 0) u)) := fun u => read_c _ 256 0 0 (wr_ok HL.out.ok 256 v hv.out) (by show _ < _; decide) u
  have HR2 : Hid (∀ u, Calls Try.prog 14 #[.agg (cs (wrF S 260 v)), .int .i64 260, .int .u64 0, .int .u64 0] u (RetU (rdF (wrF S 260 v) 260 0 0) u)) := fun u => read_c _ 260 0 0 (wr_ok HL.out.ok 260 v hv.out) (by show _ < _; decide) u
  have eD : wrF S 256 v 0 = stlN (mixN (S 0) v 811298) := rfl
  have eE : wrF S 260 v 4 = mixN (S 4) v (S 3) := rfl
  have eF : wrF S 324 v 5 = mixN (S 5) v (2 &&& S 3) := rfl
  have rD : rdF (wrF S 256 v) 256 0 0 = stlN (mixN (S 0) v 811298) &&& 9223372045445521698 := rfl
  have rE : rdF (wrF S 260 v) 260 0 0 = v &&& S 3 := shows_e HL.out v
  rw [rD] at HR1
  rw [rE] at HR2
  have t1 := u_and (stlN (mixN (S 0) v 811298)) 9223372036853964509 (stl_lt _) (by decide)
  rw [shows_d HL.out v] at t1
  have t2 := u_and (S 0) 9223372036853964509 u0 (by decide)
  have t3 := u_andNot (mixN (S 4) v (S 3)) (S 3) (mix_lt _ _ _ u4 hv.out) u3
  rw [mix_out _ _ _ u4 u3] at t3
  have t4 := u_andNot (S 4) (S 3) u4 u3
  have t5 := u_andNot (mixN (S 5) v (2 &&& S 3)) 2 (mix_lt _ _ _ u5 hv.out) (by decide)
  rw [show 18446744073709551615 - 2 = 18446744073709551613 from rfl, shows_f HL.out v] at t5
  have t6 := u_andNot (S 5) 2 u5 (by decide)
  rw [show 18446744073709551615 - 2 = 18446744073709551613 from rfl] at t6
  have t7 := u_and (stlN (mixN (S 0) v 811298) &&& 9223372045445521698) 811298 (and_lt2 _ _ (by decide)) (by decide)
  rw [shows_r] at t7
  have t8 := u_and v 811298 hv.out (by decide)
  have t9 := u_and v (S 3) hv.out u3
  rw [← eD] at t1
  rw [← eE] at t3
  rw [← eF] at t5
  clear eD eE eF rD rE u0 u3 u4 u5
  generalize stlN (mixN (S 0) v 811298) &&& 9223372045445521698 = xd at HR1 t7
  generalize v &&& S 3 = xe at HR2 t9
  generalize wrF S 256 v = TD at HW1 HR1 t1
  generalize wrF S 260 v = TE at HW2 HR2 t3
  generalize wrF S 324 v = TF at HW3 t5
  generalize S 0 &&& 9223372036853964509 = y0 at t1 t2
  generalize S 4 &&& (18446744073709551615 - S 3) = y1 at t3 t4
  generalize S 5 &&& 18446744073709551613 = y2 at t5 t6
  generalize v &&& 811298 = y3 at t7 t8
  replace t1 : bits .and .u64 (TD 0 : Int) 9223372036853964509 = (y0 : Int) := t1
  replace t2 : bits .and .u64 (S 0 : Int) 9223372036853964509 = (y0 : Int) := t2
  replace t5 : bits .andNot .u64 (TF 5 : Int) 2 = (y2 : Int) := t5
  replace t6 : bits .andNot .u64 (S 5 : Int) 2 = (y2 : Int) := t6
  replace t7 : bits .and .u64 (xd : Int) 811298 = (y3 : Int) := t7
  replace t8 : bits .and .u64 (v : Int) 811298 = (y3 : Int) := t8
  have HT := Lib.hid (And.intro t1 (And.intro t2 (And.intro t3 (And.intro t4 (And.intro t5 (And.intro t6 (And.intro t7 (And.intro t8 t9))))))))
  clear t1 t2 t3 t4 t5 t6 t7 t8 t9 HL
  go_upto_region 6 with fail
  go_wp2_with (refine wpList_load_row rfl 26 _ rfl cb rfl 26 (cs S) (0, 0) _ (HG.out.row cb S (by simp)) Try.underlying26 rfl (infoS _) ?_)
  refine (HW1.out _).mono ?_; rintro e w6 ⟨rfl, hb⟩
  replace HG := Lib.hid (HG.out.below hb)
  clear hb HW1
  go_upto_region 7 with (refine wpList_store_rowP (Gs w ((w6.heap.size, TD) :: [(cb, S)])) rfl 26 _ _ rfl w6.heap.size (cs TD) rfl rfl 26 (cs Z38) (row_new _ _ _) (infoS _) rfl (oneS _) (HG.out.alloc.set HG.out.lt) ?_; rintro wn7 HN; replace HN := Lib.hid HN)
  have H1 := HN
  clear HN HG
  generalize w6.heap.size = db at H1 ⊢
  clear w6
  simp only [Act.put]
  go_wp2_with (refine wpList_load_row rfl 26 _ rfl cb rfl 26 (cs S) (0, 0) _ (H1.out.row cb S (by simp)) Try.underlying26 rfl (infoS _) ?_)
  refine (HW2.out _).mono ?_; rintro e w7 ⟨rfl, hb⟩
  replace H1 := Lib.hid (H1.out.below hb)
  clear hb HW2
  go_upto_region 8 with (refine wpList_store_rowP (Gs w ((w7.heap.size, TE) :: [(db, TD), (cb, S)])) rfl 26 _ _ rfl w7.heap.size (cs TE) rfl rfl 26 (cs Z38) (row_new _ _ _) (infoS _) rfl (oneS _) (H1.out.alloc.set H1.out.lt) ?_; rintro wn8 HN; replace HN := Lib.hid HN)
  have H2 := HN
  clear HN H1
  generalize w7.heap.size = eb at H2 ⊢
  clear w7
  simp only [Act.put]
  go_wp2_with (refine wpList_load_row rfl 26 _ rfl cb rfl 26 (cs S) (0, 0) _ (H2.out.row cb S (by simp)) Try.underlying26 rfl (infoS _) ?_)
  refine (HW3.out _).mono ?_; rintro e w8 ⟨rfl, hb⟩
  replace H2 := Lib.hid (H2.out.below hb)
  clear hb HW3
  go_upto_region 9 with (refine wpList_store_rowP (Gs w ((w8.heap.size, TF) :: [(eb, TE), (db, TD), (cb, S)])) rfl 26 _ _ rfl w8.heap.size (cs TF) rfl rfl 26 (cs Z38) (row_new _ _ _) (infoS _) rfl (oneS _) (H2.out.alloc.set H2.out.lt) ?_; rintro wn9 HN; replace HN := Lib.hid HN)
  have H3 := HN
  clear HN H2
  generalize w8.heap.size = fb at H3 ⊢
  clear w8
  simp only [Act.put]
  obtain ⟨t1, t2, t3, t4, t5, t6, t7, t8, t9⟩ := HT.out
  have c0 := H3.out.u cb S (by simp) 0 (by unfold isU; decide)
  have c3 := H3.out.u cb S (by simp) 3 (by unfold isU; decide)
  have c4 := H3.out.u cb S (by simp) 4 (by unfold isU; decide)
  have c5 := H3.out.u cb S (by simp) 5 (by unfold isU; decide)
  have d0 := H3.out.u db TD (by simp) 0 (by unfold isU; decide)
  have e4 := H3.out.u eb TE (by simp) 4 (by unfold isU; decide)
  have f5 := H3.out.u fb TF (by simp) 5 (by unfold isU; decide)
  go_upto_region 12 with fail
  clear t1 t2 t3 t4 t5 t6 c0 c4 c5 d0 e4 f5
  have K3 := cell_regrown c3
  have RD := Lib.hid (H3.out.row db TD (by simp))
  have RE := Lib.hid (H3.out.row eb TE (by simp))
  have q6 := fun dd os => q_u (w := wn9) (dd := dd) (os := os) (HR1.out _)
  have q7 := fun dd os => q_u (w := wn9) (dd := dd) (os := os) (HR2.out _)
  refine wp_region_quiet_below (by kernel_rfl) (by kernel_rfl) ?_
  repeat (first
    | go_big_quiet_skip
    | (go_big_quiet_want; first
        | (refine quiet_load_row 26 _ rfl db rfl 26 (cs TD) _ RD.out Try.underlying26 rfl (infoS _) ?_; simp only [Act.put, List.setIfInBounds_toArray, List.set_cons_succ, List.set_cons_zero]; go_big_quiet_on)
        | (refine quiet_load_row 26 _ rfl eb rfl 26 (cs TE) _ RE.out Try.underlying26 rfl (infoS _) ?_; simp only [Act.put, List.setIfInBounds_toArray, List.set_cons_succ, List.set_cons_zero]; go_big_quiet_on)
        | (go_big_quiet_op; go_big_quiet_on)))
  (go_big_quiet_want; go_big_quiet_op; go_big_quiet_call ((go_at_call 14; exact q6 _ _)))
  repeat (first
    | go_big_quiet_skip
    | (go_big_quiet_want; first
        | (refine quiet_load_row 26 _ rfl db rfl 26 (cs TD) _ RD.out Try.underlying26 rfl (infoS _) ?_; simp only [Act.put, List.setIfInBounds_toArray, List.set_cons_succ, List.set_cons_zero]; go_big_quiet_on)
        | (refine quiet_load_row 26 _ rfl eb rfl 26 (cs TE) _ RE.out Try.underlying26 rfl (infoS _) ?_; simp only [Act.put, List.setIfInBounds_toArray, List.set_cons_succ, List.set_cons_zero]; go_big_quiet_on)
        | (go_big_quiet_op; go_big_quiet_on)))
  (go_big_quiet_want; go_big_quiet_op; go_big_quiet_call ((go_at_call 14; exact q7 _ _)))
  repeat (first
    | go_big_quiet_skip
    | (go_big_quiet_want; first
        | (refine quiet_load_row 26 _ rfl db rfl 26 (cs TD) _ RD.out Try.underlying26 rfl (infoS _) ?_; simp only [Act.put, List.setIfInBounds_toArray, List.set_cons_succ, List.set_cons_zero]; go_big_quiet_on)
        | (refine quiet_load_row 26 _ rfl eb rfl 26 (cs TE) _ RE.out Try.underlying26 rfl (infoS _) ?_; simp only [Act.put, List.setIfInBounds_toArray, List.set_cons_succ, List.set_cons_zero]; go_big_quiet_on)
        | (go_big_quiet_op; go_big_quiet_on)))
  refine wpQuiet_nil ?_
  intro _ hw'
  obtain ⟨⟨dq, osq⟩, hw''⟩ := hw'
  subst hw''
  replace H3 := Lib.hid (H3.out.below (below_regrown wn9 dq osq))
  generalize grow (redrawn wn9 dq) osq = w9 at H3 ⊢
  clear q6 q7 RD RE K3 c3
  go_wp2_with fail
  go_ret
  exact retB_mk (by first | rfl | simp) H3.out.1
end Go.Proofs.Ytmlbobjbkbcabaa
