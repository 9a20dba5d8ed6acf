/- The document's plic: claims. -/
import Derived.Test.YtoicpikkcefheaaGreatRE
namespace Go.Proofs.YtoicpikkcefheaaGreat.P
open Go.ChangeShapes Go.WideShapes Go.ChangeAt Go.RowKit Go.Sort
open M (Fp Dj Cw Up Th)
set_option linter.unusedVariables false
set_option linter.unusedSimpArgs false
set_option maxRecDepth 20000
set_option maxRecDepth 100000 in
theorem claimr_00 (b e p t ce cp ct u v s : Nat) (S : St) (w : World) (h : Hid (IsRP w b e p t ce cp ct u v s S)) (hb : best S 0 = 0) : Calls Tryz.prog 85 #[.pointer (some ⟨b, 0, none⟩), .int .u64 2097156, .int .i64 4] w (RetZ (.tuple #[.int .u64 0, .bool true]) b e p t ce cp ct S w) := by
  have X1 : Hid (∀ w, Calls Tryz.prog 79 #[.int .u64 2097156, .int .u64 8192, .int .u64 128] w (RetIX (-1) w)) := fun w => context_c 2097156 8192 128 (by decide) w
  have X2 : Hid (∀ w, Calls Tryz.prog 79 #[.int .u64 2097156, .int .u64 2097152, .int .u64 4096] w (RetIX (-1) w)) := fun w => context_c 2097156 2097152 4096 (by decide) w
  have X3 : Hid (∀ w, Calls Tryz.prog 79 #[.int .u64 2097156, .int .u64 2097156, .int .u64 4096] w (RetIX 0 w)) := fun w => context_c 2097156 2097156 4096 (by decide) w
  have HQ := Lib.hid (best_r b e p t ce cp ct u v s 0 S w h (by decide))
  rw [hb] at HQ
  clear hb
  go_enter Tryz.func85, Tryz.ntmps85
  go_wp2_with fail
  refine (X1.out _).mono ?_; rintro e0 w1 ⟨rfl, q⟩; subst q
  go_wp2_with fail
  refine (X2.out _).mono ?_; rintro e0 w1 ⟨rfl, q⟩; subst q
  go_wp2_with fail
  refine (X3.out _).mono ?_; rintro e0 w1 ⟨rfl, q⟩; subst q
  go_wp2_with fail
  refine HQ.out.mono ?_; rintro e0 w2 ⟨rfl, hb2⟩
  have HF : Hid (RetZ (.tuple #[.int .u64 0, .bool true]) b e p t ce cp ct S w1 (.returned (.tuple #[.int .u64 0, .bool true])) w2) := ⟨rfl, ⟨_, _, _, h.out.below hb2⟩, cw_below hb2⟩
  clear h hb2
  go_wp2_with fail
  go_ret2
  exact HF.out
set_option maxRecDepth 100000 in
theorem claimr_01 (b e p t ce cp ct u v s : Nat) (S : St) (w : World) (h : Hid (IsRP w b e p t ce cp ct u v s S)) (hb : best S 0 = 1) : Calls Tryz.prog 85 #[.pointer (some ⟨b, 0, none⟩), .int .u64 2097156, .int .i64 4] w (RetZ (.tuple #[.int .u64 1, .bool true]) b e p t ce cp ct (S.setSt 1 2) w) := by
  have X1 : Hid (∀ w, Calls Tryz.prog 79 #[.int .u64 2097156, .int .u64 8192, .int .u64 128] w (RetIX (-1) w)) := fun w => context_c 2097156 8192 128 (by decide) w
  have X2 : Hid (∀ w, Calls Tryz.prog 79 #[.int .u64 2097156, .int .u64 2097152, .int .u64 4096] w (RetIX (-1) w)) := fun w => context_c 2097156 2097152 4096 (by decide) w
  have X3 : Hid (∀ w, Calls Tryz.prog 79 #[.int .u64 2097156, .int .u64 2097156, .int .u64 4096] w (RetIX 0 w)) := fun w => context_c 2097156 2097156 4096 (by decide) w
  have HQ := Lib.hid (best_r b e p t ce cp ct u v s 0 S w h (by decide))
  rw [hb] at HQ
  have hst : S.st 1 = 1 := by have := best_st S 0 (by rw [hb]; decide); rw [hb] at this; exact this
  have HST := Lib.hid hst
  have hv := h.out.bv.lt; have hs := h.out.bs.lt
  have a1 : bits .andNot .u64 (v : Int) 2 = ((v &&& 18446744073709551615 - 2 : Nat) : Int) := andNot64 v 2 (by omega) (by decide)
  have B1 := Lib.hid (h.out.bv.off (n := 1) (by decide))
  rw [show (18446744073709551615 - 2 ^ 1 : Nat) = 18446744073709551615 - 2 from rfl] at B1
  have a2 : bits .or .u64 (s : Int) 2 = ((s ||| 2 : Nat) : Int) := u64_or_nat s 2 (by omega) (by decide)
  have B2 := Lib.hid (h.out.bs.on (n := 1) (by decide))
  rw [show (2 ^ 1 : Nat) = 2 from rfl] at B2
  obtain ⟨z, hz⟩ : ∃ z, z = v &&& 18446744073709551615 - 2 := ⟨_, rfl⟩
  obtain ⟨y, hy⟩ : ∃ y, y = s ||| 2 := ⟨_, rfl⟩
  rw [← hz] at a1 B1
  rw [← hy] at a2 B2
  clear hb hst hv hs hz hy
  go_enter Tryz.func85, Tryz.ntmps85
  go_wp2_with fail
  refine (X1.out _).mono ?_; rintro e0 w1 ⟨rfl, q⟩; subst q
  go_wp2_with fail
  refine (X2.out _).mono ?_; rintro e0 w1 ⟨rfl, q⟩; subst q
  go_wp2_with fail
  refine (X3.out _).mono ?_; rintro e0 w1 ⟨rfl, q⟩; subst q
  go_wp2_with fail
  refine HQ.out.mono ?_; rintro e0 w2 ⟨rfl, hb2⟩
  have H0 := Lib.hid (h.out.raw.below hb2)
  have HB0 := Lib.hid (cw_below (T := own4 b e p t) hb2)
  have K0 := cell_regrown H0.out.c1
  clear hb2
  go_wp2_with fail
  refine wp_region_below_head 10 1 #[true, true, true, true, true, true, true, true, true, true, false] (by kernel_rfl) (by kernel_rfl) rfl ?_
  simp only [List.take_succ_cons, List.take_zero]
  iterate 10 (go_big_quiet_step (fail))
  refine wpQuiet_nil ?_
  intro _ hw'
  obtain ⟨⟨dq, osq⟩, hw''⟩ := hw'
  subst hw''
  have hb := below_regrown w2 dq osq
  have hR := Lib.hid (H0.out.below hb)
  have HB := Lib.hid hb
  generalize grow (redrawn w2 dq) osq = w3 at *
  clear K0 hb
  have k1 := hR.out.c1
  have f1 := hR.out.fb 1
  have HC1 := Lib.hid (cw_trans (cw_trans HB0.out (cw_below (T := own4 b e p t) HB.out)) (cw_set b e p t w3 b 1 (.int .u64 (z : Nat)) (.inl rfl) (by rw [k1]; rfl)))
  have R1 := hR.out.num 1 z (by decide)
  rw [if_neg (by decide), if_pos rfl, if_neg (by decide)] at R1
  have HR1 := Lib.hid R1
  refine wpAny_ready (rs := [10]) (by decide +kernel) (by simp) ?_
  refine AllReady.cons rfl (fun K hK => ?_) AllReady.nil
  go_simp
  try go_wp2_with fail
  refine wpAny_done (by decide +kernel) ?_ _
  clear k1 f1 R1 hR HB
  generalize w3.setCell ⟨b, 1, none⟩ (.int .u64 (z : Nat)) = w4 at *
  have K0 := cell_regrown HR1.out.c2
  go_wp2_with fail
  refine wp_region_below_head 10 1 #[true, true, true, true, true, true, true, true, true, true, false] (by kernel_rfl) (by kernel_rfl) rfl ?_
  simp only [List.take_succ_cons, List.take_zero]
  iterate 10 (go_big_quiet_step (fail))
  refine wpQuiet_nil ?_
  intro _ hw'
  obtain ⟨⟨dq, osq⟩, hw''⟩ := hw'
  subst hw''
  have hb := below_regrown w4 dq osq
  have hR := Lib.hid (HR1.out.below hb)
  have HB := Lib.hid hb
  generalize grow (redrawn w4 dq) osq = w5 at *
  clear K0 hb
  have k1 := hR.out.c2
  have f1 := hR.out.fb 2
  have HC2 := Lib.hid (cw_trans (cw_trans HC1.out (cw_below (T := own4 b e p t) HB.out)) (cw_set b e p t w5 b 2 (.int .u64 (y : Nat)) (.inl rfl) (by rw [k1]; rfl)))
  have R1 := hR.out.num 2 y (by decide)
  rw [if_neg (by decide), if_neg (by decide), if_pos rfl] at R1
  have HR2 := Lib.hid R1
  refine wpAny_ready (rs := [10]) (by decide +kernel) (by simp) ?_
  refine AllReady.cons rfl (fun K hK => ?_) AllReady.nil
  go_simp
  try go_wp2_with fail
  refine wpAny_done (by decide +kernel) ?_ _
  clear k1 f1 R1 hR HB
  generalize w5.setCell ⟨b, 2, none⟩ (.int .u64 (y : Nat)) = w6 at *
  have HF : Hid (RetZ (.tuple #[.int .u64 1, .bool true]) b e p t ce cp ct (S.setSt 1 2) w1 (.returned (.tuple #[.int .u64 1, .bool true])) w6) := ⟨rfl, ⟨_, _, _, isRP_claim h.out (by decide) HST.out HR2.out B1.out B2.out⟩, HC2.out⟩
  clear HR1 HR2 HC1 HC2 h
  go_wp2_with fail
  go_ret2
  exact HF.out
set_option maxRecDepth 100000 in
theorem claimr_02 (b e p t ce cp ct u v s : Nat) (S : St) (w : World) (h : Hid (IsRP w b e p t ce cp ct u v s S)) (hb : best S 0 = 2) : Calls Tryz.prog 85 #[.pointer (some ⟨b, 0, none⟩), .int .u64 2097156, .int .i64 4] w (RetZ (.tuple #[.int .u64 2, .bool true]) b e p t ce cp ct (S.setSt 2 2) w) := by
  have X1 : Hid (∀ w, Calls Tryz.prog 79 #[.int .u64 2097156, .int .u64 8192, .int .u64 128] w (RetIX (-1) w)) := fun w => context_c 2097156 8192 128 (by decide) w
  have X2 : Hid (∀ w, Calls Tryz.prog 79 #[.int .u64 2097156, .int .u64 2097152, .int .u64 4096] w (RetIX (-1) w)) := fun w => context_c 2097156 2097152 4096 (by decide) w
  have X3 : Hid (∀ w, Calls Tryz.prog 79 #[.int .u64 2097156, .int .u64 2097156, .int .u64 4096] w (RetIX 0 w)) := fun w => context_c 2097156 2097156 4096 (by decide) w
  have HQ := Lib.hid (best_r b e p t ce cp ct u v s 0 S w h (by decide))
  rw [hb] at HQ
  have hst : S.st 2 = 1 := by have := best_st S 0 (by rw [hb]; decide); rw [hb] at this; exact this
  have HST := Lib.hid hst
  have hv := h.out.bv.lt; have hs := h.out.bs.lt
  have a1 : bits .andNot .u64 (v : Int) 4 = ((v &&& 18446744073709551615 - 4 : Nat) : Int) := andNot64 v 4 (by omega) (by decide)
  have B1 := Lib.hid (h.out.bv.off (n := 2) (by decide))
  rw [show (18446744073709551615 - 2 ^ 2 : Nat) = 18446744073709551615 - 4 from rfl] at B1
  have a2 : bits .or .u64 (s : Int) 4 = ((s ||| 4 : Nat) : Int) := u64_or_nat s 4 (by omega) (by decide)
  have B2 := Lib.hid (h.out.bs.on (n := 2) (by decide))
  rw [show (2 ^ 2 : Nat) = 4 from rfl] at B2
  obtain ⟨z, hz⟩ : ∃ z, z = v &&& 18446744073709551615 - 4 := ⟨_, rfl⟩
  obtain ⟨y, hy⟩ : ∃ y, y = s ||| 4 := ⟨_, rfl⟩
  rw [← hz] at a1 B1
  rw [← hy] at a2 B2
  clear hb hst hv hs hz hy
  go_enter Tryz.func85, Tryz.ntmps85
  go_wp2_with fail
  refine (X1.out _).mono ?_; rintro e0 w1 ⟨rfl, q⟩; subst q
  go_wp2_with fail
  refine (X2.out _).mono ?_; rintro e0 w1 ⟨rfl, q⟩; subst q
  go_wp2_with fail
  refine (X3.out _).mono ?_; rintro e0 w1 ⟨rfl, q⟩; subst q
  go_wp2_with fail
  refine HQ.out.mono ?_; rintro e0 w2 ⟨rfl, hb2⟩
  have H0 := Lib.hid (h.out.raw.below hb2)
  have HB0 := Lib.hid (cw_below (T := own4 b e p t) hb2)
  have K0 := cell_regrown H0.out.c1
  clear hb2
  go_wp2_with fail
  refine wp_region_below_head 10 1 #[true, true, true, true, true, true, true, true, true, true, false] (by kernel_rfl) (by kernel_rfl) rfl ?_
  simp only [List.take_succ_cons, List.take_zero]
  iterate 10 (go_big_quiet_step (fail))
  refine wpQuiet_nil ?_
  intro _ hw'
  obtain ⟨⟨dq, osq⟩, hw''⟩ := hw'
  subst hw''
  have hb := below_regrown w2 dq osq
  have hR := Lib.hid (H0.out.below hb)
  have HB := Lib.hid hb
  generalize grow (redrawn w2 dq) osq = w3 at *
  clear K0 hb
  have k1 := hR.out.c1
  have f1 := hR.out.fb 1
  have HC1 := Lib.hid (cw_trans (cw_trans HB0.out (cw_below (T := own4 b e p t) HB.out)) (cw_set b e p t w3 b 1 (.int .u64 (z : Nat)) (.inl rfl) (by rw [k1]; rfl)))
  have R1 := hR.out.num 1 z (by decide)
  rw [if_neg (by decide), if_pos rfl, if_neg (by decide)] at R1
  have HR1 := Lib.hid R1
  refine wpAny_ready (rs := [10]) (by decide +kernel) (by simp) ?_
  refine AllReady.cons rfl (fun K hK => ?_) AllReady.nil
  go_simp
  try go_wp2_with fail
  refine wpAny_done (by decide +kernel) ?_ _
  clear k1 f1 R1 hR HB
  generalize w3.setCell ⟨b, 1, none⟩ (.int .u64 (z : Nat)) = w4 at *
  have K0 := cell_regrown HR1.out.c2
  go_wp2_with fail
  refine wp_region_below_head 10 1 #[true, true, true, true, true, true, true, true, true, true, false] (by kernel_rfl) (by kernel_rfl) rfl ?_
  simp only [List.take_succ_cons, List.take_zero]
  iterate 10 (go_big_quiet_step (fail))
  refine wpQuiet_nil ?_
  intro _ hw'
  obtain ⟨⟨dq, osq⟩, hw''⟩ := hw'
  subst hw''
  have hb := below_regrown w4 dq osq
  have hR := Lib.hid (HR1.out.below hb)
  have HB := Lib.hid hb
  generalize grow (redrawn w4 dq) osq = w5 at *
  clear K0 hb
  have k1 := hR.out.c2
  have f1 := hR.out.fb 2
  have HC2 := Lib.hid (cw_trans (cw_trans HC1.out (cw_below (T := own4 b e p t) HB.out)) (cw_set b e p t w5 b 2 (.int .u64 (y : Nat)) (.inl rfl) (by rw [k1]; rfl)))
  have R1 := hR.out.num 2 y (by decide)
  rw [if_neg (by decide), if_neg (by decide), if_pos rfl] at R1
  have HR2 := Lib.hid R1
  refine wpAny_ready (rs := [10]) (by decide +kernel) (by simp) ?_
  refine AllReady.cons rfl (fun K hK => ?_) AllReady.nil
  go_simp
  try go_wp2_with fail
  refine wpAny_done (by decide +kernel) ?_ _
  clear k1 f1 R1 hR HB
  generalize w5.setCell ⟨b, 2, none⟩ (.int .u64 (y : Nat)) = w6 at *
  have HF : Hid (RetZ (.tuple #[.int .u64 2, .bool true]) b e p t ce cp ct (S.setSt 2 2) w1 (.returned (.tuple #[.int .u64 2, .bool true])) w6) := ⟨rfl, ⟨_, _, _, isRP_claim h.out (by decide) HST.out HR2.out B1.out B2.out⟩, HC2.out⟩
  clear HR1 HR2 HC1 HC2 h
  go_wp2_with fail
  go_ret2
  exact HF.out
set_option maxRecDepth 100000 in
theorem claimr_03 (b e p t ce cp ct u v s : Nat) (S : St) (w : World) (h : Hid (IsRP w b e p t ce cp ct u v s S)) (hb : best S 0 = 3) : Calls Tryz.prog 85 #[.pointer (some ⟨b, 0, none⟩), .int .u64 2097156, .int .i64 4] w (RetZ (.tuple #[.int .u64 3, .bool true]) b e p t ce cp ct (S.setSt 3 2) w) := by
  have X1 : Hid (∀ w, Calls Tryz.prog 79 #[.int .u64 2097156, .int .u64 8192, .int .u64 128] w (RetIX (-1) w)) := fun w => context_c 2097156 8192 128 (by decide) w
  have X2 : Hid (∀ w, Calls Tryz.prog 79 #[.int .u64 2097156, .int .u64 2097152, .int .u64 4096] w (RetIX (-1) w)) := fun w => context_c 2097156 2097152 4096 (by decide) w
  have X3 : Hid (∀ w, Calls Tryz.prog 79 #[.int .u64 2097156, .int .u64 2097156, .int .u64 4096] w (RetIX 0 w)) := fun w => context_c 2097156 2097156 4096 (by decide) w
  have HQ := Lib.hid (best_r b e p t ce cp ct u v s 0 S w h (by decide))
  rw [hb] at HQ
  have hst : S.st 3 = 1 := by have := best_st S 0 (by rw [hb]; decide); rw [hb] at this; exact this
  have HST := Lib.hid hst
  have hv := h.out.bv.lt; have hs := h.out.bs.lt
  have a1 : bits .andNot .u64 (v : Int) 8 = ((v &&& 18446744073709551615 - 8 : Nat) : Int) := andNot64 v 8 (by omega) (by decide)
  have B1 := Lib.hid (h.out.bv.off (n := 3) (by decide))
  rw [show (18446744073709551615 - 2 ^ 3 : Nat) = 18446744073709551615 - 8 from rfl] at B1
  have a2 : bits .or .u64 (s : Int) 8 = ((s ||| 8 : Nat) : Int) := u64_or_nat s 8 (by omega) (by decide)
  have B2 := Lib.hid (h.out.bs.on (n := 3) (by decide))
  rw [show (2 ^ 3 : Nat) = 8 from rfl] at B2
  obtain ⟨z, hz⟩ : ∃ z, z = v &&& 18446744073709551615 - 8 := ⟨_, rfl⟩
  obtain ⟨y, hy⟩ : ∃ y, y = s ||| 8 := ⟨_, rfl⟩
  rw [← hz] at a1 B1
  rw [← hy] at a2 B2
  clear hb hst hv hs hz hy
  go_enter Tryz.func85, Tryz.ntmps85
  go_wp2_with fail
  refine (X1.out _).mono ?_; rintro e0 w1 ⟨rfl, q⟩; subst q
  go_wp2_with fail
  refine (X2.out _).mono ?_; rintro e0 w1 ⟨rfl, q⟩; subst q
  go_wp2_with fail
  refine (X3.out _).mono ?_; rintro e0 w1 ⟨rfl, q⟩; subst q
  go_wp2_with fail
  refine HQ.out.mono ?_; rintro e0 w2 ⟨rfl, hb2⟩
  have H0 := Lib.hid (h.out.raw.below hb2)
  have HB0 := Lib.hid (cw_below (T := own4 b e p t) hb2)
  have K0 := cell_regrown H0.out.c1
  clear hb2
  go_wp2_with fail
  refine wp_region_below_head 10 1 #[true, true, true, true, true, true, true, true, true, true, false] (by kernel_rfl) (by kernel_rfl) rfl ?_
  simp only [List.take_succ_cons, List.take_zero]
  iterate 10 (go_big_quiet_step (fail))
  refine wpQuiet_nil ?_
  intro _ hw'
  obtain ⟨⟨dq, osq⟩, hw''⟩ := hw'
  subst hw''
  have hb := below_regrown w2 dq osq
  have hR := Lib.hid (H0.out.below hb)
  have HB := Lib.hid hb
  generalize grow (redrawn w2 dq) osq = w3 at *
  clear K0 hb
  have k1 := hR.out.c1
  have f1 := hR.out.fb 1
  have HC1 := Lib.hid (cw_trans (cw_trans HB0.out (cw_below (T := own4 b e p t) HB.out)) (cw_set b e p t w3 b 1 (.int .u64 (z : Nat)) (.inl rfl) (by rw [k1]; rfl)))
  have R1 := hR.out.num 1 z (by decide)
  rw [if_neg (by decide), if_pos rfl, if_neg (by decide)] at R1
  have HR1 := Lib.hid R1
  refine wpAny_ready (rs := [10]) (by decide +kernel) (by simp) ?_
  refine AllReady.cons rfl (fun K hK => ?_) AllReady.nil
  go_simp
  try go_wp2_with fail
  refine wpAny_done (by decide +kernel) ?_ _
  clear k1 f1 R1 hR HB
  generalize w3.setCell ⟨b, 1, none⟩ (.int .u64 (z : Nat)) = w4 at *
  have K0 := cell_regrown HR1.out.c2
  go_wp2_with fail
  refine wp_region_below_head 10 1 #[true, true, true, true, true, true, true, true, true, true, false] (by kernel_rfl) (by kernel_rfl) rfl ?_
  simp only [List.take_succ_cons, List.take_zero]
  iterate 10 (go_big_quiet_step (fail))
  refine wpQuiet_nil ?_
  intro _ hw'
  obtain ⟨⟨dq, osq⟩, hw''⟩ := hw'
  subst hw''
  have hb := below_regrown w4 dq osq
  have hR := Lib.hid (HR1.out.below hb)
  have HB := Lib.hid hb
  generalize grow (redrawn w4 dq) osq = w5 at *
  clear K0 hb
  have k1 := hR.out.c2
  have f1 := hR.out.fb 2
  have HC2 := Lib.hid (cw_trans (cw_trans HC1.out (cw_below (T := own4 b e p t) HB.out)) (cw_set b e p t w5 b 2 (.int .u64 (y : Nat)) (.inl rfl) (by rw [k1]; rfl)))
  have R1 := hR.out.num 2 y (by decide)
  rw [if_neg (by decide), if_neg (by decide), if_pos rfl] at R1
  have HR2 := Lib.hid R1
  refine wpAny_ready (rs := [10]) (by decide +kernel) (by simp) ?_
  refine AllReady.cons rfl (fun K hK => ?_) AllReady.nil
  go_simp
  try go_wp2_with fail
  refine wpAny_done (by decide +kernel) ?_ _
  clear k1 f1 R1 hR HB
  generalize w5.setCell ⟨b, 2, none⟩ (.int .u64 (y : Nat)) = w6 at *
  have HF : Hid (RetZ (.tuple #[.int .u64 3, .bool true]) b e p t ce cp ct (S.setSt 3 2) w1 (.returned (.tuple #[.int .u64 3, .bool true])) w6) := ⟨rfl, ⟨_, _, _, isRP_claim h.out (by decide) HST.out HR2.out B1.out B2.out⟩, HC2.out⟩
  clear HR1 HR2 HC1 HC2 h
  go_wp2_with fail
  go_ret2
  exact HF.out
set_option maxRecDepth 100000 in
theorem claimr_04 (b e p t ce cp ct u v s : Nat) (S : St) (w : World) (h : Hid (IsRP w b e p t ce cp ct u v s S)) (hb : best S 0 = 4) : Calls Tryz.prog 85 #[.pointer (some ⟨b, 0, none⟩), .int .u64 2097156, .int .i64 4] w (RetZ (.tuple #[.int .u64 4, .bool true]) b e p t ce cp ct (S.setSt 4 2) w) := by
  have X1 : Hid (∀ w, Calls Tryz.prog 79 #[.int .u64 2097156, .int .u64 8192, .int .u64 128] w (RetIX (-1) w)) := fun w => context_c 2097156 8192 128 (by decide) w
  have X2 : Hid (∀ w, Calls Tryz.prog 79 #[.int .u64 2097156, .int .u64 2097152, .int .u64 4096] w (RetIX (-1) w)) := fun w => context_c 2097156 2097152 4096 (by decide) w
  have X3 : Hid (∀ w, Calls Tryz.prog 79 #[.int .u64 2097156, .int .u64 2097156, .int .u64 4096] w (RetIX 0 w)) := fun w => context_c 2097156 2097156 4096 (by decide) w
  have HQ := Lib.hid (best_r b e p t ce cp ct u v s 0 S w h (by decide))
  rw [hb] at HQ
  have hst : S.st 4 = 1 := by have := best_st S 0 (by rw [hb]; decide); rw [hb] at this; exact this
  have HST := Lib.hid hst
  have hv := h.out.bv.lt; have hs := h.out.bs.lt
  have a1 : bits .andNot .u64 (v : Int) 16 = ((v &&& 18446744073709551615 - 16 : Nat) : Int) := andNot64 v 16 (by omega) (by decide)
  have B1 := Lib.hid (h.out.bv.off (n := 4) (by decide))
  rw [show (18446744073709551615 - 2 ^ 4 : Nat) = 18446744073709551615 - 16 from rfl] at B1
  have a2 : bits .or .u64 (s : Int) 16 = ((s ||| 16 : Nat) : Int) := u64_or_nat s 16 (by omega) (by decide)
  have B2 := Lib.hid (h.out.bs.on (n := 4) (by decide))
  rw [show (2 ^ 4 : Nat) = 16 from rfl] at B2
  obtain ⟨z, hz⟩ : ∃ z, z = v &&& 18446744073709551615 - 16 := ⟨_, rfl⟩
  obtain ⟨y, hy⟩ : ∃ y, y = s ||| 16 := ⟨_, rfl⟩
  rw [← hz] at a1 B1
  rw [← hy] at a2 B2
  clear hb hst hv hs hz hy
  go_enter Tryz.func85, Tryz.ntmps85
  go_wp2_with fail
  refine (X1.out _).mono ?_; rintro e0 w1 ⟨rfl, q⟩; subst q
  go_wp2_with fail
  refine (X2.out _).mono ?_; rintro e0 w1 ⟨rfl, q⟩; subst q
  go_wp2_with fail
  refine (X3.out _).mono ?_; rintro e0 w1 ⟨rfl, q⟩; subst q
  go_wp2_with fail
  refine HQ.out.mono ?_; rintro e0 w2 ⟨rfl, hb2⟩
  have H0 := Lib.hid (h.out.raw.below hb2)
  have HB0 := Lib.hid (cw_below (T := own4 b e p t) hb2)
  have K0 := cell_regrown H0.out.c1
  clear hb2
  go_wp2_with fail
  refine wp_region_below_head 10 1 #[true, true, true, true, true, true, true, true, true, true, false] (by kernel_rfl) (by kernel_rfl) rfl ?_
  simp only [List.take_succ_cons, List.take_zero]
  iterate 10 (go_big_quiet_step (fail))
  refine wpQuiet_nil ?_
  intro _ hw'
  obtain ⟨⟨dq, osq⟩, hw''⟩ := hw'
  subst hw''
  have hb := below_regrown w2 dq osq
  have hR := Lib.hid (H0.out.below hb)
  have HB := Lib.hid hb
  generalize grow (redrawn w2 dq) osq = w3 at *
  clear K0 hb
  have k1 := hR.out.c1
  have f1 := hR.out.fb 1
  have HC1 := Lib.hid (cw_trans (cw_trans HB0.out (cw_below (T := own4 b e p t) HB.out)) (cw_set b e p t w3 b 1 (.int .u64 (z : Nat)) (.inl rfl) (by rw [k1]; rfl)))
  have R1 := hR.out.num 1 z (by decide)
  rw [if_neg (by decide), if_pos rfl, if_neg (by decide)] at R1
  have HR1 := Lib.hid R1
  refine wpAny_ready (rs := [10]) (by decide +kernel) (by simp) ?_
  refine AllReady.cons rfl (fun K hK => ?_) AllReady.nil
  go_simp
  try go_wp2_with fail
  refine wpAny_done (by decide +kernel) ?_ _
  clear k1 f1 R1 hR HB
  generalize w3.setCell ⟨b, 1, none⟩ (.int .u64 (z : Nat)) = w4 at *
  have K0 := cell_regrown HR1.out.c2
  go_wp2_with fail
  refine wp_region_below_head 10 1 #[true, true, true, true, true, true, true, true, true, true, false] (by kernel_rfl) (by kernel_rfl) rfl ?_
  simp only [List.take_succ_cons, List.take_zero]
  iterate 10 (go_big_quiet_step (fail))
  refine wpQuiet_nil ?_
  intro _ hw'
  obtain ⟨⟨dq, osq⟩, hw''⟩ := hw'
  subst hw''
  have hb := below_regrown w4 dq osq
  have hR := Lib.hid (HR1.out.below hb)
  have HB := Lib.hid hb
  generalize grow (redrawn w4 dq) osq = w5 at *
  clear K0 hb
  have k1 := hR.out.c2
  have f1 := hR.out.fb 2
  have HC2 := Lib.hid (cw_trans (cw_trans HC1.out (cw_below (T := own4 b e p t) HB.out)) (cw_set b e p t w5 b 2 (.int .u64 (y : Nat)) (.inl rfl) (by rw [k1]; rfl)))
  have R1 := hR.out.num 2 y (by decide)
  rw [if_neg (by decide), if_neg (by decide), if_pos rfl] at R1
  have HR2 := Lib.hid R1
  refine wpAny_ready (rs := [10]) (by decide +kernel) (by simp) ?_
  refine AllReady.cons rfl (fun K hK => ?_) AllReady.nil
  go_simp
  try go_wp2_with fail
  refine wpAny_done (by decide +kernel) ?_ _
  clear k1 f1 R1 hR HB
  generalize w5.setCell ⟨b, 2, none⟩ (.int .u64 (y : Nat)) = w6 at *
  have HF : Hid (RetZ (.tuple #[.int .u64 4, .bool true]) b e p t ce cp ct (S.setSt 4 2) w1 (.returned (.tuple #[.int .u64 4, .bool true])) w6) := ⟨rfl, ⟨_, _, _, isRP_claim h.out (by decide) HST.out HR2.out B1.out B2.out⟩, HC2.out⟩
  clear HR1 HR2 HC1 HC2 h
  go_wp2_with fail
  go_ret2
  exact HF.out
set_option maxRecDepth 100000 in
theorem claimr_05 (b e p t ce cp ct u v s : Nat) (S : St) (w : World) (h : Hid (IsRP w b e p t ce cp ct u v s S)) (hb : best S 0 = 5) : Calls Tryz.prog 85 #[.pointer (some ⟨b, 0, none⟩), .int .u64 2097156, .int .i64 4] w (RetZ (.tuple #[.int .u64 5, .bool true]) b e p t ce cp ct (S.setSt 5 2) w) := by
  have X1 : Hid (∀ w, Calls Tryz.prog 79 #[.int .u64 2097156, .int .u64 8192, .int .u64 128] w (RetIX (-1) w)) := fun w => context_c 2097156 8192 128 (by decide) w
  have X2 : Hid (∀ w, Calls Tryz.prog 79 #[.int .u64 2097156, .int .u64 2097152, .int .u64 4096] w (RetIX (-1) w)) := fun w => context_c 2097156 2097152 4096 (by decide) w
  have X3 : Hid (∀ w, Calls Tryz.prog 79 #[.int .u64 2097156, .int .u64 2097156, .int .u64 4096] w (RetIX 0 w)) := fun w => context_c 2097156 2097156 4096 (by decide) w
  have HQ := Lib.hid (best_r b e p t ce cp ct u v s 0 S w h (by decide))
  rw [hb] at HQ
  have hst : S.st 5 = 1 := by have := best_st S 0 (by rw [hb]; decide); rw [hb] at this; exact this
  have HST := Lib.hid hst
  have hv := h.out.bv.lt; have hs := h.out.bs.lt
  have a1 : bits .andNot .u64 (v : Int) 32 = ((v &&& 18446744073709551615 - 32 : Nat) : Int) := andNot64 v 32 (by omega) (by decide)
  have B1 := Lib.hid (h.out.bv.off (n := 5) (by decide))
  rw [show (18446744073709551615 - 2 ^ 5 : Nat) = 18446744073709551615 - 32 from rfl] at B1
  have a2 : bits .or .u64 (s : Int) 32 = ((s ||| 32 : Nat) : Int) := u64_or_nat s 32 (by omega) (by decide)
  have B2 := Lib.hid (h.out.bs.on (n := 5) (by decide))
  rw [show (2 ^ 5 : Nat) = 32 from rfl] at B2
  obtain ⟨z, hz⟩ : ∃ z, z = v &&& 18446744073709551615 - 32 := ⟨_, rfl⟩
  obtain ⟨y, hy⟩ : ∃ y, y = s ||| 32 := ⟨_, rfl⟩
  rw [← hz] at a1 B1
  rw [← hy] at a2 B2
  clear hb hst hv hs hz hy
  go_enter Tryz.func85, Tryz.ntmps85
  go_wp2_with fail
  refine (X1.out _).mono ?_; rintro e0 w1 ⟨rfl, q⟩; subst q
  go_wp2_with fail
  refine (X2.out _).mono ?_; rintro e0 w1 ⟨rfl, q⟩; subst q
  go_wp2_with fail
  refine (X3.out _).mono ?_; rintro e0 w1 ⟨rfl, q⟩; subst q
  go_wp2_with fail
  refine HQ.out.mono ?_; rintro e0 w2 ⟨rfl, hb2⟩
  have H0 := Lib.hid (h.out.raw.below hb2)
  have HB0 := Lib.hid (cw_below (T := own4 b e p t) hb2)
  have K0 := cell_regrown H0.out.c1
  clear hb2
  go_wp2_with fail
  refine wp_region_below_head 10 1 #[true, true, true, true, true, true, true, true, true, true, false] (by kernel_rfl) (by kernel_rfl) rfl ?_
  simp only [List.take_succ_cons, List.take_zero]
  iterate 10 (go_big_quiet_step (fail))
  refine wpQuiet_nil ?_
  intro _ hw'
  obtain ⟨⟨dq, osq⟩, hw''⟩ := hw'
  subst hw''
  have hb := below_regrown w2 dq osq
  have hR := Lib.hid (H0.out.below hb)
  have HB := Lib.hid hb
  generalize grow (redrawn w2 dq) osq = w3 at *
  clear K0 hb
  have k1 := hR.out.c1
  have f1 := hR.out.fb 1
  have HC1 := Lib.hid (cw_trans (cw_trans HB0.out (cw_below (T := own4 b e p t) HB.out)) (cw_set b e p t w3 b 1 (.int .u64 (z : Nat)) (.inl rfl) (by rw [k1]; rfl)))
  have R1 := hR.out.num 1 z (by decide)
  rw [if_neg (by decide), if_pos rfl, if_neg (by decide)] at R1
  have HR1 := Lib.hid R1
  refine wpAny_ready (rs := [10]) (by decide +kernel) (by simp) ?_
  refine AllReady.cons rfl (fun K hK => ?_) AllReady.nil
  go_simp
  try go_wp2_with fail
  refine wpAny_done (by decide +kernel) ?_ _
  clear k1 f1 R1 hR HB
  generalize w3.setCell ⟨b, 1, none⟩ (.int .u64 (z : Nat)) = w4 at *
  have K0 := cell_regrown HR1.out.c2
  go_wp2_with fail
  refine wp_region_below_head 10 1 #[true, true, true, true, true, true, true, true, true, true, false] (by kernel_rfl) (by kernel_rfl) rfl ?_
  simp only [List.take_succ_cons, List.take_zero]
  iterate 10 (go_big_quiet_step (fail))
  refine wpQuiet_nil ?_
  intro _ hw'
  obtain ⟨⟨dq, osq⟩, hw''⟩ := hw'
  subst hw''
  have hb := below_regrown w4 dq osq
  have hR := Lib.hid (HR1.out.below hb)
  have HB := Lib.hid hb
  generalize grow (redrawn w4 dq) osq = w5 at *
  clear K0 hb
  have k1 := hR.out.c2
  have f1 := hR.out.fb 2
  have HC2 := Lib.hid (cw_trans (cw_trans HC1.out (cw_below (T := own4 b e p t) HB.out)) (cw_set b e p t w5 b 2 (.int .u64 (y : Nat)) (.inl rfl) (by rw [k1]; rfl)))
  have R1 := hR.out.num 2 y (by decide)
  rw [if_neg (by decide), if_neg (by decide), if_pos rfl] at R1
  have HR2 := Lib.hid R1
  refine wpAny_ready (rs := [10]) (by decide +kernel) (by simp) ?_
  refine AllReady.cons rfl (fun K hK => ?_) AllReady.nil
  go_simp
  try go_wp2_with fail
  refine wpAny_done (by decide +kernel) ?_ _
  clear k1 f1 R1 hR HB
  generalize w5.setCell ⟨b, 2, none⟩ (.int .u64 (y : Nat)) = w6 at *
  have HF : Hid (RetZ (.tuple #[.int .u64 5, .bool true]) b e p t ce cp ct (S.setSt 5 2) w1 (.returned (.tuple #[.int .u64 5, .bool true])) w6) := ⟨rfl, ⟨_, _, _, isRP_claim h.out (by decide) HST.out HR2.out B1.out B2.out⟩, HC2.out⟩
  clear HR1 HR2 HC1 HC2 h
  go_wp2_with fail
  go_ret2
  exact HF.out
set_option maxRecDepth 100000 in
theorem claimr_06 (b e p t ce cp ct u v s : Nat) (S : St) (w : World) (h : Hid (IsRP w b e p t ce cp ct u v s S)) (hb : best S 0 = 6) : Calls Tryz.prog 85 #[.pointer (some ⟨b, 0, none⟩), .int .u64 2097156, .int .i64 4] w (RetZ (.tuple #[.int .u64 6, .bool true]) b e p t ce cp ct (S.setSt 6 2) w) := by
  have X1 : Hid (∀ w, Calls Tryz.prog 79 #[.int .u64 2097156, .int .u64 8192, .int .u64 128] w (RetIX (-1) w)) := fun w => context_c 2097156 8192 128 (by decide) w
  have X2 : Hid (∀ w, Calls Tryz.prog 79 #[.int .u64 2097156, .int .u64 2097152, .int .u64 4096] w (RetIX (-1) w)) := fun w => context_c 2097156 2097152 4096 (by decide) w
  have X3 : Hid (∀ w, Calls Tryz.prog 79 #[.int .u64 2097156, .int .u64 2097156, .int .u64 4096] w (RetIX 0 w)) := fun w => context_c 2097156 2097156 4096 (by decide) w
  have HQ := Lib.hid (best_r b e p t ce cp ct u v s 0 S w h (by decide))
  rw [hb] at HQ
  have hst : S.st 6 = 1 := by have := best_st S 0 (by rw [hb]; decide); rw [hb] at this; exact this
  have HST := Lib.hid hst
  have hv := h.out.bv.lt; have hs := h.out.bs.lt
  have a1 : bits .andNot .u64 (v : Int) 64 = ((v &&& 18446744073709551615 - 64 : Nat) : Int) := andNot64 v 64 (by omega) (by decide)
  have B1 := Lib.hid (h.out.bv.off (n := 6) (by decide))
  rw [show (18446744073709551615 - 2 ^ 6 : Nat) = 18446744073709551615 - 64 from rfl] at B1
  have a2 : bits .or .u64 (s : Int) 64 = ((s ||| 64 : Nat) : Int) := u64_or_nat s 64 (by omega) (by decide)
  have B2 := Lib.hid (h.out.bs.on (n := 6) (by decide))
  rw [show (2 ^ 6 : Nat) = 64 from rfl] at B2
  obtain ⟨z, hz⟩ : ∃ z, z = v &&& 18446744073709551615 - 64 := ⟨_, rfl⟩
  obtain ⟨y, hy⟩ : ∃ y, y = s ||| 64 := ⟨_, rfl⟩
  rw [← hz] at a1 B1
  rw [← hy] at a2 B2
  clear hb hst hv hs hz hy
  go_enter Tryz.func85, Tryz.ntmps85
  go_wp2_with fail
  refine (X1.out _).mono ?_; rintro e0 w1 ⟨rfl, q⟩; subst q
  go_wp2_with fail
  refine (X2.out _).mono ?_; rintro e0 w1 ⟨rfl, q⟩; subst q
  go_wp2_with fail
  refine (X3.out _).mono ?_; rintro e0 w1 ⟨rfl, q⟩; subst q
  go_wp2_with fail
  refine HQ.out.mono ?_; rintro e0 w2 ⟨rfl, hb2⟩
  have H0 := Lib.hid (h.out.raw.below hb2)
  have HB0 := Lib.hid (cw_below (T := own4 b e p t) hb2)
  have K0 := cell_regrown H0.out.c1
  clear hb2
  go_wp2_with fail
  refine wp_region_below_head 10 1 #[true, true, true, true, true, true, true, true, true, true, false] (by kernel_rfl) (by kernel_rfl) rfl ?_
  simp only [List.take_succ_cons, List.take_zero]
  iterate 10 (go_big_quiet_step (fail))
  refine wpQuiet_nil ?_
  intro _ hw'
  obtain ⟨⟨dq, osq⟩, hw''⟩ := hw'
  subst hw''
  have hb := below_regrown w2 dq osq
  have hR := Lib.hid (H0.out.below hb)
  have HB := Lib.hid hb
  generalize grow (redrawn w2 dq) osq = w3 at *
  clear K0 hb
  have k1 := hR.out.c1
  have f1 := hR.out.fb 1
  have HC1 := Lib.hid (cw_trans (cw_trans HB0.out (cw_below (T := own4 b e p t) HB.out)) (cw_set b e p t w3 b 1 (.int .u64 (z : Nat)) (.inl rfl) (by rw [k1]; rfl)))
  have R1 := hR.out.num 1 z (by decide)
  rw [if_neg (by decide), if_pos rfl, if_neg (by decide)] at R1
  have HR1 := Lib.hid R1
  refine wpAny_ready (rs := [10]) (by decide +kernel) (by simp) ?_
  refine AllReady.cons rfl (fun K hK => ?_) AllReady.nil
  go_simp
  try go_wp2_with fail
  refine wpAny_done (by decide +kernel) ?_ _
  clear k1 f1 R1 hR HB
  generalize w3.setCell ⟨b, 1, none⟩ (.int .u64 (z : Nat)) = w4 at *
  have K0 := cell_regrown HR1.out.c2
  go_wp2_with fail
  refine wp_region_below_head 10 1 #[true, true, true, true, true, true, true, true, true, true, false] (by kernel_rfl) (by kernel_rfl) rfl ?_
  simp only [List.take_succ_cons, List.take_zero]
  iterate 10 (go_big_quiet_step (fail))
  refine wpQuiet_nil ?_
  intro _ hw'
  obtain ⟨⟨dq, osq⟩, hw''⟩ := hw'
  subst hw''
  have hb := below_regrown w4 dq osq
  have hR := Lib.hid (HR1.out.below hb)
  have HB := Lib.hid hb
  generalize grow (redrawn w4 dq) osq = w5 at *
  clear K0 hb
  have k1 := hR.out.c2
  have f1 := hR.out.fb 2
  have HC2 := Lib.hid (cw_trans (cw_trans HC1.out (cw_below (T := own4 b e p t) HB.out)) (cw_set b e p t w5 b 2 (.int .u64 (y : Nat)) (.inl rfl) (by rw [k1]; rfl)))
  have R1 := hR.out.num 2 y (by decide)
  rw [if_neg (by decide), if_neg (by decide), if_pos rfl] at R1
  have HR2 := Lib.hid R1
  refine wpAny_ready (rs := [10]) (by decide +kernel) (by simp) ?_
  refine AllReady.cons rfl (fun K hK => ?_) AllReady.nil
  go_simp
  try go_wp2_with fail
  refine wpAny_done (by decide +kernel) ?_ _
  clear k1 f1 R1 hR HB
  generalize w5.setCell ⟨b, 2, none⟩ (.int .u64 (y : Nat)) = w6 at *
  have HF : Hid (RetZ (.tuple #[.int .u64 6, .bool true]) b e p t ce cp ct (S.setSt 6 2) w1 (.returned (.tuple #[.int .u64 6, .bool true])) w6) := ⟨rfl, ⟨_, _, _, isRP_claim h.out (by decide) HST.out HR2.out B1.out B2.out⟩, HC2.out⟩
  clear HR1 HR2 HC1 HC2 h
  go_wp2_with fail
  go_ret2
  exact HF.out
set_option maxRecDepth 100000 in
theorem claimr_07 (b e p t ce cp ct u v s : Nat) (S : St) (w : World) (h : Hid (IsRP w b e p t ce cp ct u v s S)) (hb : best S 0 = 7) : Calls Tryz.prog 85 #[.pointer (some ⟨b, 0, none⟩), .int .u64 2097156, .int .i64 4] w (RetZ (.tuple #[.int .u64 7, .bool true]) b e p t ce cp ct (S.setSt 7 2) w) := by
  have X1 : Hid (∀ w, Calls Tryz.prog 79 #[.int .u64 2097156, .int .u64 8192, .int .u64 128] w (RetIX (-1) w)) := fun w => context_c 2097156 8192 128 (by decide) w
  have X2 : Hid (∀ w, Calls Tryz.prog 79 #[.int .u64 2097156, .int .u64 2097152, .int .u64 4096] w (RetIX (-1) w)) := fun w => context_c 2097156 2097152 4096 (by decide) w
  have X3 : Hid (∀ w, Calls Tryz.prog 79 #[.int .u64 2097156, .int .u64 2097156, .int .u64 4096] w (RetIX 0 w)) := fun w => context_c 2097156 2097156 4096 (by decide) w
  have HQ := Lib.hid (best_r b e p t ce cp ct u v s 0 S w h (by decide))
  rw [hb] at HQ
  have hst : S.st 7 = 1 := by have := best_st S 0 (by rw [hb]; decide); rw [hb] at this; exact this
  have HST := Lib.hid hst
  have hv := h.out.bv.lt; have hs := h.out.bs.lt
  have a1 : bits .andNot .u64 (v : Int) 128 = ((v &&& 18446744073709551615 - 128 : Nat) : Int) := andNot64 v 128 (by omega) (by decide)
  have B1 := Lib.hid (h.out.bv.off (n := 7) (by decide))
  rw [show (18446744073709551615 - 2 ^ 7 : Nat) = 18446744073709551615 - 128 from rfl] at B1
  have a2 : bits .or .u64 (s : Int) 128 = ((s ||| 128 : Nat) : Int) := u64_or_nat s 128 (by omega) (by decide)
  have B2 := Lib.hid (h.out.bs.on (n := 7) (by decide))
  rw [show (2 ^ 7 : Nat) = 128 from rfl] at B2
  obtain ⟨z, hz⟩ : ∃ z, z = v &&& 18446744073709551615 - 128 := ⟨_, rfl⟩
  obtain ⟨y, hy⟩ : ∃ y, y = s ||| 128 := ⟨_, rfl⟩
  rw [← hz] at a1 B1
  rw [← hy] at a2 B2
  clear hb hst hv hs hz hy
  go_enter Tryz.func85, Tryz.ntmps85
  go_wp2_with fail
  refine (X1.out _).mono ?_; rintro e0 w1 ⟨rfl, q⟩; subst q
  go_wp2_with fail
  refine (X2.out _).mono ?_; rintro e0 w1 ⟨rfl, q⟩; subst q
  go_wp2_with fail
  refine (X3.out _).mono ?_; rintro e0 w1 ⟨rfl, q⟩; subst q
  go_wp2_with fail
  refine HQ.out.mono ?_; rintro e0 w2 ⟨rfl, hb2⟩
  have H0 := Lib.hid (h.out.raw.below hb2)
  have HB0 := Lib.hid (cw_below (T := own4 b e p t) hb2)
  have K0 := cell_regrown H0.out.c1
  clear hb2
  go_wp2_with fail
  refine wp_region_below_head 10 1 #[true, true, true, true, true, true, true, true, true, true, false] (by kernel_rfl) (by kernel_rfl) rfl ?_
  simp only [List.take_succ_cons, List.take_zero]
  iterate 10 (go_big_quiet_step (fail))
  refine wpQuiet_nil ?_
  intro _ hw'
  obtain ⟨⟨dq, osq⟩, hw''⟩ := hw'
  subst hw''
  have hb := below_regrown w2 dq osq
  have hR := Lib.hid (H0.out.below hb)
  have HB := Lib.hid hb
  generalize grow (redrawn w2 dq) osq = w3 at *
  clear K0 hb
  have k1 := hR.out.c1
  have f1 := hR.out.fb 1
  have HC1 := Lib.hid (cw_trans (cw_trans HB0.out (cw_below (T := own4 b e p t) HB.out)) (cw_set b e p t w3 b 1 (.int .u64 (z : Nat)) (.inl rfl) (by rw [k1]; rfl)))
  have R1 := hR.out.num 1 z (by decide)
  rw [if_neg (by decide), if_pos rfl, if_neg (by decide)] at R1
  have HR1 := Lib.hid R1
  refine wpAny_ready (rs := [10]) (by decide +kernel) (by simp) ?_
  refine AllReady.cons rfl (fun K hK => ?_) AllReady.nil
  go_simp
  try go_wp2_with fail
  refine wpAny_done (by decide +kernel) ?_ _
  clear k1 f1 R1 hR HB
  generalize w3.setCell ⟨b, 1, none⟩ (.int .u64 (z : Nat)) = w4 at *
  have K0 := cell_regrown HR1.out.c2
  go_wp2_with fail
  refine wp_region_below_head 10 1 #[true, true, true, true, true, true, true, true, true, true, false] (by kernel_rfl) (by kernel_rfl) rfl ?_
  simp only [List.take_succ_cons, List.take_zero]
  iterate 10 (go_big_quiet_step (fail))
  refine wpQuiet_nil ?_
  intro _ hw'
  obtain ⟨⟨dq, osq⟩, hw''⟩ := hw'
  subst hw''
  have hb := below_regrown w4 dq osq
  have hR := Lib.hid (HR1.out.below hb)
  have HB := Lib.hid hb
  generalize grow (redrawn w4 dq) osq = w5 at *
  clear K0 hb
  have k1 := hR.out.c2
  have f1 := hR.out.fb 2
  have HC2 := Lib.hid (cw_trans (cw_trans HC1.out (cw_below (T := own4 b e p t) HB.out)) (cw_set b e p t w5 b 2 (.int .u64 (y : Nat)) (.inl rfl) (by rw [k1]; rfl)))
  have R1 := hR.out.num 2 y (by decide)
  rw [if_neg (by decide), if_neg (by decide), if_pos rfl] at R1
  have HR2 := Lib.hid R1
  refine wpAny_ready (rs := [10]) (by decide +kernel) (by simp) ?_
  refine AllReady.cons rfl (fun K hK => ?_) AllReady.nil
  go_simp
  try go_wp2_with fail
  refine wpAny_done (by decide +kernel) ?_ _
  clear k1 f1 R1 hR HB
  generalize w5.setCell ⟨b, 2, none⟩ (.int .u64 (y : Nat)) = w6 at *
  have HF : Hid (RetZ (.tuple #[.int .u64 7, .bool true]) b e p t ce cp ct (S.setSt 7 2) w1 (.returned (.tuple #[.int .u64 7, .bool true])) w6) := ⟨rfl, ⟨_, _, _, isRP_claim h.out (by decide) HST.out HR2.out B1.out B2.out⟩, HC2.out⟩
  clear HR1 HR2 HC1 HC2 h
  go_wp2_with fail
  go_ret2
  exact HF.out
set_option maxRecDepth 100000 in
theorem claimr_08 (b e p t ce cp ct u v s : Nat) (S : St) (w : World) (h : Hid (IsRP w b e p t ce cp ct u v s S)) (hb : best S 0 = 8) : Calls Tryz.prog 85 #[.pointer (some ⟨b, 0, none⟩), .int .u64 2097156, .int .i64 4] w (RetZ (.tuple #[.int .u64 8, .bool true]) b e p t ce cp ct (S.setSt 8 2) w) := by
  have X1 : Hid (∀ w, Calls Tryz.prog 79 #[.int .u64 2097156, .int .u64 8192, .int .u64 128] w (RetIX (-1) w)) := fun w => context_c 2097156 8192 128 (by decide) w
  have X2 : Hid (∀ w, Calls Tryz.prog 79 #[.int .u64 2097156, .int .u64 2097152, .int .u64 4096] w (RetIX (-1) w)) := fun w => context_c 2097156 2097152 4096 (by decide) w
  have X3 : Hid (∀ w, Calls Tryz.prog 79 #[.int .u64 2097156, .int .u64 2097156, .int .u64 4096] w (RetIX 0 w)) := fun w => context_c 2097156 2097156 4096 (by decide) w
  have HQ := Lib.hid (best_r b e p t ce cp ct u v s 0 S w h (by decide))
  rw [hb] at HQ
  have hst : S.st 8 = 1 := by have := best_st S 0 (by rw [hb]; decide); rw [hb] at this; exact this
  have HST := Lib.hid hst
  have hv := h.out.bv.lt; have hs := h.out.bs.lt
  have a1 : bits .andNot .u64 (v : Int) 256 = ((v &&& 18446744073709551615 - 256 : Nat) : Int) := andNot64 v 256 (by omega) (by decide)
  have B1 := Lib.hid (h.out.bv.off (n := 8) (by decide))
  rw [show (18446744073709551615 - 2 ^ 8 : Nat) = 18446744073709551615 - 256 from rfl] at B1
  have a2 : bits .or .u64 (s : Int) 256 = ((s ||| 256 : Nat) : Int) := u64_or_nat s 256 (by omega) (by decide)
  have B2 := Lib.hid (h.out.bs.on (n := 8) (by decide))
  rw [show (2 ^ 8 : Nat) = 256 from rfl] at B2
  obtain ⟨z, hz⟩ : ∃ z, z = v &&& 18446744073709551615 - 256 := ⟨_, rfl⟩
  obtain ⟨y, hy⟩ : ∃ y, y = s ||| 256 := ⟨_, rfl⟩
  rw [← hz] at a1 B1
  rw [← hy] at a2 B2
  clear hb hst hv hs hz hy
  go_enter Tryz.func85, Tryz.ntmps85
  go_wp2_with fail
  refine (X1.out _).mono ?_; rintro e0 w1 ⟨rfl, q⟩; subst q
  go_wp2_with fail
  refine (X2.out _).mono ?_; rintro e0 w1 ⟨rfl, q⟩; subst q
  go_wp2_with fail
  refine (X3.out _).mono ?_; rintro e0 w1 ⟨rfl, q⟩; subst q
  go_wp2_with fail
  refine HQ.out.mono ?_; rintro e0 w2 ⟨rfl, hb2⟩
  have H0 := Lib.hid (h.out.raw.below hb2)
  have HB0 := Lib.hid (cw_below (T := own4 b e p t) hb2)
  have K0 := cell_regrown H0.out.c1
  clear hb2
  go_wp2_with fail
  refine wp_region_below_head 10 1 #[true, true, true, true, true, true, true, true, true, true, false] (by kernel_rfl) (by kernel_rfl) rfl ?_
  simp only [List.take_succ_cons, List.take_zero]
  iterate 10 (go_big_quiet_step (fail))
  refine wpQuiet_nil ?_
  intro _ hw'
  obtain ⟨⟨dq, osq⟩, hw''⟩ := hw'
  subst hw''
  have hb := below_regrown w2 dq osq
  have hR := Lib.hid (H0.out.below hb)
  have HB := Lib.hid hb
  generalize grow (redrawn w2 dq) osq = w3 at *
  clear K0 hb
  have k1 := hR.out.c1
  have f1 := hR.out.fb 1
  have HC1 := Lib.hid (cw_trans (cw_trans HB0.out (cw_below (T := own4 b e p t) HB.out)) (cw_set b e p t w3 b 1 (.int .u64 (z : Nat)) (.inl rfl) (by rw [k1]; rfl)))
  have R1 := hR.out.num 1 z (by decide)
  rw [if_neg (by decide), if_pos rfl, if_neg (by decide)] at R1
  have HR1 := Lib.hid R1
  refine wpAny_ready (rs := [10]) (by decide +kernel) (by simp) ?_
  refine AllReady.cons rfl (fun K hK => ?_) AllReady.nil
  go_simp
  try go_wp2_with fail
  refine wpAny_done (by decide +kernel) ?_ _
  clear k1 f1 R1 hR HB
  generalize w3.setCell ⟨b, 1, none⟩ (.int .u64 (z : Nat)) = w4 at *
  have K0 := cell_regrown HR1.out.c2
  go_wp2_with fail
  refine wp_region_below_head 10 1 #[true, true, true, true, true, true, true, true, true, true, false] (by kernel_rfl) (by kernel_rfl) rfl ?_
  simp only [List.take_succ_cons, List.take_zero]
  iterate 10 (go_big_quiet_step (fail))
  refine wpQuiet_nil ?_
  intro _ hw'
  obtain ⟨⟨dq, osq⟩, hw''⟩ := hw'
  subst hw''
  have hb := below_regrown w4 dq osq
  have hR := Lib.hid (HR1.out.below hb)
  have HB := Lib.hid hb
  generalize grow (redrawn w4 dq) osq = w5 at *
  clear K0 hb
  have k1 := hR.out.c2
  have f1 := hR.out.fb 2
  have HC2 := Lib.hid (cw_trans (cw_trans HC1.out (cw_below (T := own4 b e p t) HB.out)) (cw_set b e p t w5 b 2 (.int .u64 (y : Nat)) (.inl rfl) (by rw [k1]; rfl)))
  have R1 := hR.out.num 2 y (by decide)
  rw [if_neg (by decide), if_neg (by decide), if_pos rfl] at R1
  have HR2 := Lib.hid R1
  refine wpAny_ready (rs := [10]) (by decide +kernel) (by simp) ?_
  refine AllReady.cons rfl (fun K hK => ?_) AllReady.nil
  go_simp
  try go_wp2_with fail
  refine wpAny_done (by decide +kernel) ?_ _
  clear k1 f1 R1 hR HB
  generalize w5.setCell ⟨b, 2, none⟩ (.int .u64 (y : Nat)) = w6 at *
  have HF : Hid (RetZ (.tuple #[.int .u64 8, .bool true]) b e p t ce cp ct (S.setSt 8 2) w1 (.returned (.tuple #[.int .u64 8, .bool true])) w6) := ⟨rfl, ⟨_, _, _, isRP_claim h.out (by decide) HST.out HR2.out B1.out B2.out⟩, HC2.out⟩
  clear HR1 HR2 HC1 HC2 h
  go_wp2_with fail
  go_ret2
  exact HF.out
set_option maxRecDepth 100000 in
theorem claimr_10 (b e p t ce cp ct u v s : Nat) (S : St) (w : World) (h : Hid (IsRP w b e p t ce cp ct u v s S)) (hb : best S 1 = 0) : Calls Tryz.prog 85 #[.pointer (some ⟨b, 0, none⟩), .int .u64 2101252, .int .i64 4] w (RetZ (.tuple #[.int .u64 0, .bool true]) b e p t ce cp ct S w) := by
  have X1 : Hid (∀ w, Calls Tryz.prog 79 #[.int .u64 2101252, .int .u64 8192, .int .u64 128] w (RetIX (-1) w)) := fun w => context_c 2101252 8192 128 (by decide) w
  have X2 : Hid (∀ w, Calls Tryz.prog 79 #[.int .u64 2101252, .int .u64 2097152, .int .u64 4096] w (RetIX (-1) w)) := fun w => context_c 2101252 2097152 4096 (by decide) w
  have X3 : Hid (∀ w, Calls Tryz.prog 79 #[.int .u64 2101252, .int .u64 2097156, .int .u64 4096] w (RetIX 1 w)) := fun w => context_c 2101252 2097156 4096 (by decide) w
  have HQ := Lib.hid (best_r b e p t ce cp ct u v s 1 S w h (by decide))
  rw [hb] at HQ
  clear hb
  go_enter Tryz.func85, Tryz.ntmps85
  go_wp2_with fail
  refine (X1.out _).mono ?_; rintro e0 w1 ⟨rfl, q⟩; subst q
  go_wp2_with fail
  refine (X2.out _).mono ?_; rintro e0 w1 ⟨rfl, q⟩; subst q
  go_wp2_with fail
  refine (X3.out _).mono ?_; rintro e0 w1 ⟨rfl, q⟩; subst q
  go_wp2_with fail
  refine HQ.out.mono ?_; rintro e0 w2 ⟨rfl, hb2⟩
  have HF : Hid (RetZ (.tuple #[.int .u64 0, .bool true]) b e p t ce cp ct S w1 (.returned (.tuple #[.int .u64 0, .bool true])) w2) := ⟨rfl, ⟨_, _, _, h.out.below hb2⟩, cw_below hb2⟩
  clear h hb2
  go_wp2_with fail
  go_ret2
  exact HF.out
set_option maxRecDepth 100000 in
theorem claimr_11 (b e p t ce cp ct u v s : Nat) (S : St) (w : World) (h : Hid (IsRP w b e p t ce cp ct u v s S)) (hb : best S 1 = 1) : Calls Tryz.prog 85 #[.pointer (some ⟨b, 0, none⟩), .int .u64 2101252, .int .i64 4] w (RetZ (.tuple #[.int .u64 1, .bool true]) b e p t ce cp ct (S.setSt 1 2) w) := by
  have X1 : Hid (∀ w, Calls Tryz.prog 79 #[.int .u64 2101252, .int .u64 8192, .int .u64 128] w (RetIX (-1) w)) := fun w => context_c 2101252 8192 128 (by decide) w
  have X2 : Hid (∀ w, Calls Tryz.prog 79 #[.int .u64 2101252, .int .u64 2097152, .int .u64 4096] w (RetIX (-1) w)) := fun w => context_c 2101252 2097152 4096 (by decide) w
  have X3 : Hid (∀ w, Calls Tryz.prog 79 #[.int .u64 2101252, .int .u64 2097156, .int .u64 4096] w (RetIX 1 w)) := fun w => context_c 2101252 2097156 4096 (by decide) w
  have HQ := Lib.hid (best_r b e p t ce cp ct u v s 1 S w h (by decide))
  rw [hb] at HQ
  have hst : S.st 1 = 1 := by have := best_st S 1 (by rw [hb]; decide); rw [hb] at this; exact this
  have HST := Lib.hid hst
  have hv := h.out.bv.lt; have hs := h.out.bs.lt
  have a1 : bits .andNot .u64 (v : Int) 2 = ((v &&& 18446744073709551615 - 2 : Nat) : Int) := andNot64 v 2 (by omega) (by decide)
  have B1 := Lib.hid (h.out.bv.off (n := 1) (by decide))
  rw [show (18446744073709551615 - 2 ^ 1 : Nat) = 18446744073709551615 - 2 from rfl] at B1
  have a2 : bits .or .u64 (s : Int) 2 = ((s ||| 2 : Nat) : Int) := u64_or_nat s 2 (by omega) (by decide)
  have B2 := Lib.hid (h.out.bs.on (n := 1) (by decide))
  rw [show (2 ^ 1 : Nat) = 2 from rfl] at B2
  obtain ⟨z, hz⟩ : ∃ z, z = v &&& 18446744073709551615 - 2 := ⟨_, rfl⟩
  obtain ⟨y, hy⟩ : ∃ y, y = s ||| 2 := ⟨_, rfl⟩
  rw [← hz] at a1 B1
  rw [← hy] at a2 B2
  clear hb hst hv hs hz hy
  go_enter Tryz.func85, Tryz.ntmps85
  go_wp2_with fail
  refine (X1.out _).mono ?_; rintro e0 w1 ⟨rfl, q⟩; subst q
  go_wp2_with fail
  refine (X2.out _).mono ?_; rintro e0 w1 ⟨rfl, q⟩; subst q
  go_wp2_with fail
  refine (X3.out _).mono ?_; rintro e0 w1 ⟨rfl, q⟩; subst q
  go_wp2_with fail
  refine HQ.out.mono ?_; rintro e0 w2 ⟨rfl, hb2⟩
  have H0 := Lib.hid (h.out.raw.below hb2)
  have HB0 := Lib.hid (cw_below (T := own4 b e p t) hb2)
  have K0 := cell_regrown H0.out.c1
  clear hb2
  go_wp2_with fail
  refine wp_region_below_head 10 1 #[true, true, true, true, true, true, true, true, true, true, false] (by kernel_rfl) (by kernel_rfl) rfl ?_
  simp only [List.take_succ_cons, List.take_zero]
  iterate 10 (go_big_quiet_step (fail))
  refine wpQuiet_nil ?_
  intro _ hw'
  obtain ⟨⟨dq, osq⟩, hw''⟩ := hw'
  subst hw''
  have hb := below_regrown w2 dq osq
  have hR := Lib.hid (H0.out.below hb)
  have HB := Lib.hid hb
  generalize grow (redrawn w2 dq) osq = w3 at *
  clear K0 hb
  have k1 := hR.out.c1
  have f1 := hR.out.fb 1
  have HC1 := Lib.hid (cw_trans (cw_trans HB0.out (cw_below (T := own4 b e p t) HB.out)) (cw_set b e p t w3 b 1 (.int .u64 (z : Nat)) (.inl rfl) (by rw [k1]; rfl)))
  have R1 := hR.out.num 1 z (by decide)
  rw [if_neg (by decide), if_pos rfl, if_neg (by decide)] at R1
  have HR1 := Lib.hid R1
  refine wpAny_ready (rs := [10]) (by decide +kernel) (by simp) ?_
  refine AllReady.cons rfl (fun K hK => ?_) AllReady.nil
  go_simp
  try go_wp2_with fail
  refine wpAny_done (by decide +kernel) ?_ _
  clear k1 f1 R1 hR HB
  generalize w3.setCell ⟨b, 1, none⟩ (.int .u64 (z : Nat)) = w4 at *
  have K0 := cell_regrown HR1.out.c2
  go_wp2_with fail
  refine wp_region_below_head 10 1 #[true, true, true, true, true, true, true, true, true, true, false] (by kernel_rfl) (by kernel_rfl) rfl ?_
  simp only [List.take_succ_cons, List.take_zero]
  iterate 10 (go_big_quiet_step (fail))
  refine wpQuiet_nil ?_
  intro _ hw'
  obtain ⟨⟨dq, osq⟩, hw''⟩ := hw'
  subst hw''
  have hb := below_regrown w4 dq osq
  have hR := Lib.hid (HR1.out.below hb)
  have HB := Lib.hid hb
  generalize grow (redrawn w4 dq) osq = w5 at *
  clear K0 hb
  have k1 := hR.out.c2
  have f1 := hR.out.fb 2
  have HC2 := Lib.hid (cw_trans (cw_trans HC1.out (cw_below (T := own4 b e p t) HB.out)) (cw_set b e p t w5 b 2 (.int .u64 (y : Nat)) (.inl rfl) (by rw [k1]; rfl)))
  have R1 := hR.out.num 2 y (by decide)
  rw [if_neg (by decide), if_neg (by decide), if_pos rfl] at R1
  have HR2 := Lib.hid R1
  refine wpAny_ready (rs := [10]) (by decide +kernel) (by simp) ?_
  refine AllReady.cons rfl (fun K hK => ?_) AllReady.nil
  go_simp
  try go_wp2_with fail
  refine wpAny_done (by decide +kernel) ?_ _
  clear k1 f1 R1 hR HB
  generalize w5.setCell ⟨b, 2, none⟩ (.int .u64 (y : Nat)) = w6 at *
  have HF : Hid (RetZ (.tuple #[.int .u64 1, .bool true]) b e p t ce cp ct (S.setSt 1 2) w1 (.returned (.tuple #[.int .u64 1, .bool true])) w6) := ⟨rfl, ⟨_, _, _, isRP_claim h.out (by decide) HST.out HR2.out B1.out B2.out⟩, HC2.out⟩
  clear HR1 HR2 HC1 HC2 h
  go_wp2_with fail
  go_ret2
  exact HF.out
set_option maxRecDepth 100000 in
theorem claimr_12 (b e p t ce cp ct u v s : Nat) (S : St) (w : World) (h : Hid (IsRP w b e p t ce cp ct u v s S)) (hb : best S 1 = 2) : Calls Tryz.prog 85 #[.pointer (some ⟨b, 0, none⟩), .int .u64 2101252, .int .i64 4] w (RetZ (.tuple #[.int .u64 2, .bool true]) b e p t ce cp ct (S.setSt 2 2) w) := by
  have X1 : Hid (∀ w, Calls Tryz.prog 79 #[.int .u64 2101252, .int .u64 8192, .int .u64 128] w (RetIX (-1) w)) := fun w => context_c 2101252 8192 128 (by decide) w
  have X2 : Hid (∀ w, Calls Tryz.prog 79 #[.int .u64 2101252, .int .u64 2097152, .int .u64 4096] w (RetIX (-1) w)) := fun w => context_c 2101252 2097152 4096 (by decide) w
  have X3 : Hid (∀ w, Calls Tryz.prog 79 #[.int .u64 2101252, .int .u64 2097156, .int .u64 4096] w (RetIX 1 w)) := fun w => context_c 2101252 2097156 4096 (by decide) w
  have HQ := Lib.hid (best_r b e p t ce cp ct u v s 1 S w h (by decide))
  rw [hb] at HQ
  have hst : S.st 2 = 1 := by have := best_st S 1 (by rw [hb]; decide); rw [hb] at this; exact this
  have HST := Lib.hid hst
  have hv := h.out.bv.lt; have hs := h.out.bs.lt
  have a1 : bits .andNot .u64 (v : Int) 4 = ((v &&& 18446744073709551615 - 4 : Nat) : Int) := andNot64 v 4 (by omega) (by decide)
  have B1 := Lib.hid (h.out.bv.off (n := 2) (by decide))
  rw [show (18446744073709551615 - 2 ^ 2 : Nat) = 18446744073709551615 - 4 from rfl] at B1
  have a2 : bits .or .u64 (s : Int) 4 = ((s ||| 4 : Nat) : Int) := u64_or_nat s 4 (by omega) (by decide)
  have B2 := Lib.hid (h.out.bs.on (n := 2) (by decide))
  rw [show (2 ^ 2 : Nat) = 4 from rfl] at B2
  obtain ⟨z, hz⟩ : ∃ z, z = v &&& 18446744073709551615 - 4 := ⟨_, rfl⟩
  obtain ⟨y, hy⟩ : ∃ y, y = s ||| 4 := ⟨_, rfl⟩
  rw [← hz] at a1 B1
  rw [← hy] at a2 B2
  clear hb hst hv hs hz hy
  go_enter Tryz.func85, Tryz.ntmps85
  go_wp2_with fail
  refine (X1.out _).mono ?_; rintro e0 w1 ⟨rfl, q⟩; subst q
  go_wp2_with fail
  refine (X2.out _).mono ?_; rintro e0 w1 ⟨rfl, q⟩; subst q
  go_wp2_with fail
  refine (X3.out _).mono ?_; rintro e0 w1 ⟨rfl, q⟩; subst q
  go_wp2_with fail
  refine HQ.out.mono ?_; rintro e0 w2 ⟨rfl, hb2⟩
  have H0 := Lib.hid (h.out.raw.below hb2)
  have HB0 := Lib.hid (cw_below (T := own4 b e p t) hb2)
  have K0 := cell_regrown H0.out.c1
  clear hb2
  go_wp2_with fail
  refine wp_region_below_head 10 1 #[true, true, true, true, true, true, true, true, true, true, false] (by kernel_rfl) (by kernel_rfl) rfl ?_
  simp only [List.take_succ_cons, List.take_zero]
  iterate 10 (go_big_quiet_step (fail))
  refine wpQuiet_nil ?_
  intro _ hw'
  obtain ⟨⟨dq, osq⟩, hw''⟩ := hw'
  subst hw''
  have hb := below_regrown w2 dq osq
  have hR := Lib.hid (H0.out.below hb)
  have HB := Lib.hid hb
  generalize grow (redrawn w2 dq) osq = w3 at *
  clear K0 hb
  have k1 := hR.out.c1
  have f1 := hR.out.fb 1
  have HC1 := Lib.hid (cw_trans (cw_trans HB0.out (cw_below (T := own4 b e p t) HB.out)) (cw_set b e p t w3 b 1 (.int .u64 (z : Nat)) (.inl rfl) (by rw [k1]; rfl)))
  have R1 := hR.out.num 1 z (by decide)
  rw [if_neg (by decide), if_pos rfl, if_neg (by decide)] at R1
  have HR1 := Lib.hid R1
  refine wpAny_ready (rs := [10]) (by decide +kernel) (by simp) ?_
  refine AllReady.cons rfl (fun K hK => ?_) AllReady.nil
  go_simp
  try go_wp2_with fail
  refine wpAny_done (by decide +kernel) ?_ _
  clear k1 f1 R1 hR HB
  generalize w3.setCell ⟨b, 1, none⟩ (.int .u64 (z : Nat)) = w4 at *
  have K0 := cell_regrown HR1.out.c2
  go_wp2_with fail
  refine wp_region_below_head 10 1 #[true, true, true, true, true, true, true, true, true, true, false] (by kernel_rfl) (by kernel_rfl) rfl ?_
  simp only [List.take_succ_cons, List.take_zero]
  iterate 10 (go_big_quiet_step (fail))
  refine wpQuiet_nil ?_
  intro _ hw'
  obtain ⟨⟨dq, osq⟩, hw''⟩ := hw'
  subst hw''
  have hb := below_regrown w4 dq osq
  have hR := Lib.hid (HR1.out.below hb)
  have HB := Lib.hid hb
  generalize grow (redrawn w4 dq) osq = w5 at *
  clear K0 hb
  have k1 := hR.out.c2
  have f1 := hR.out.fb 2
  have HC2 := Lib.hid (cw_trans (cw_trans HC1.out (cw_below (T := own4 b e p t) HB.out)) (cw_set b e p t w5 b 2 (.int .u64 (y : Nat)) (.inl rfl) (by rw [k1]; rfl)))
  have R1 := hR.out.num 2 y (by decide)
  rw [if_neg (by decide), if_neg (by decide), if_pos rfl] at R1
  have HR2 := Lib.hid R1
  refine wpAny_ready (rs := [10]) (by decide +kernel) (by simp) ?_
  refine AllReady.cons rfl (fun K hK => ?_) AllReady.nil
  go_simp
  try go_wp2_with fail
  refine wpAny_done (by decide +kernel) ?_ _
  clear k1 f1 R1 hR HB
  generalize w5.setCell ⟨b, 2, none⟩ (.int .u64 (y : Nat)) = w6 at *
  have HF : Hid (RetZ (.tuple #[.int .u64 2, .bool true]) b e p t ce cp ct (S.setSt 2 2) w1 (.returned (.tuple #[.int .u64 2, .bool true])) w6) := ⟨rfl, ⟨_, _, _, isRP_claim h.out (by decide) HST.out HR2.out B1.out B2.out⟩, HC2.out⟩
  clear HR1 HR2 HC1 HC2 h
  go_wp2_with fail
  go_ret2
  exact HF.out
set_option maxRecDepth 100000 in
theorem claimr_13 (b e p t ce cp ct u v s : Nat) (S : St) (w : World) (h : Hid (IsRP w b e p t ce cp ct u v s S)) (hb : best S 1 = 3) : Calls Tryz.prog 85 #[.pointer (some ⟨b, 0, none⟩), .int .u64 2101252, .int .i64 4] w (RetZ (.tuple #[.int .u64 3, .bool true]) b e p t ce cp ct (S.setSt 3 2) w) := by
  have X1 : Hid (∀ w, Calls Tryz.prog 79 #[.int .u64 2101252, .int .u64 8192, .int .u64 128] w (RetIX (-1) w)) := fun w => context_c 2101252 8192 128 (by decide) w
  have X2 : Hid (∀ w, Calls Tryz.prog 79 #[.int .u64 2101252, .int .u64 2097152, .int .u64 4096] w (RetIX (-1) w)) := fun w => context_c 2101252 2097152 4096 (by decide) w
  have X3 : Hid (∀ w, Calls Tryz.prog 79 #[.int .u64 2101252, .int .u64 2097156, .int .u64 4096] w (RetIX 1 w)) := fun w => context_c 2101252 2097156 4096 (by decide) w
  have HQ := Lib.hid (best_r b e p t ce cp ct u v s 1 S w h (by decide))
  rw [hb] at HQ
  have hst : S.st 3 = 1 := by have := best_st S 1 (by rw [hb]; decide); rw [hb] at this; exact this
  have HST := Lib.hid hst
  have hv := h.out.bv.lt; have hs := h.out.bs.lt
  have a1 : bits .andNot .u64 (v : Int) 8 = ((v &&& 18446744073709551615 - 8 : Nat) : Int) := andNot64 v 8 (by omega) (by decide)
  have B1 := Lib.hid (h.out.bv.off (n := 3) (by decide))
  rw [show (18446744073709551615 - 2 ^ 3 : Nat) = 18446744073709551615 - 8 from rfl] at B1
  have a2 : bits .or .u64 (s : Int) 8 = ((s ||| 8 : Nat) : Int) := u64_or_nat s 8 (by omega) (by decide)
  have B2 := Lib.hid (h.out.bs.on (n := 3) (by decide))
  rw [show (2 ^ 3 : Nat) = 8 from rfl] at B2
  obtain ⟨z, hz⟩ : ∃ z, z = v &&& 18446744073709551615 - 8 := ⟨_, rfl⟩
  obtain ⟨y, hy⟩ : ∃ y, y = s ||| 8 := ⟨_, rfl⟩
  rw [← hz] at a1 B1
  rw [← hy] at a2 B2
  clear hb hst hv hs hz hy
  go_enter Tryz.func85, Tryz.ntmps85
  go_wp2_with fail
  refine (X1.out _).mono ?_; rintro e0 w1 ⟨rfl, q⟩; subst q
  go_wp2_with fail
  refine (X2.out _).mono ?_; rintro e0 w1 ⟨rfl, q⟩; subst q
  go_wp2_with fail
  refine (X3.out _).mono ?_; rintro e0 w1 ⟨rfl, q⟩; subst q
  go_wp2_with fail
  refine HQ.out.mono ?_; rintro e0 w2 ⟨rfl, hb2⟩
  have H0 := Lib.hid (h.out.raw.below hb2)
  have HB0 := Lib.hid (cw_below (T := own4 b e p t) hb2)
  have K0 := cell_regrown H0.out.c1
  clear hb2
  go_wp2_with fail
  refine wp_region_below_head 10 1 #[true, true, true, true, true, true, true, true, true, true, false] (by kernel_rfl) (by kernel_rfl) rfl ?_
  simp only [List.take_succ_cons, List.take_zero]
  iterate 10 (go_big_quiet_step (fail))
  refine wpQuiet_nil ?_
  intro _ hw'
  obtain ⟨⟨dq, osq⟩, hw''⟩ := hw'
  subst hw''
  have hb := below_regrown w2 dq osq
  have hR := Lib.hid (H0.out.below hb)
  have HB := Lib.hid hb
  generalize grow (redrawn w2 dq) osq = w3 at *
  clear K0 hb
  have k1 := hR.out.c1
  have f1 := hR.out.fb 1
  have HC1 := Lib.hid (cw_trans (cw_trans HB0.out (cw_below (T := own4 b e p t) HB.out)) (cw_set b e p t w3 b 1 (.int .u64 (z : Nat)) (.inl rfl) (by rw [k1]; rfl)))
  have R1 := hR.out.num 1 z (by decide)
  rw [if_neg (by decide), if_pos rfl, if_neg (by decide)] at R1
  have HR1 := Lib.hid R1
  refine wpAny_ready (rs := [10]) (by decide +kernel) (by simp) ?_
  refine AllReady.cons rfl (fun K hK => ?_) AllReady.nil
  go_simp
  try go_wp2_with fail
  refine wpAny_done (by decide +kernel) ?_ _
  clear k1 f1 R1 hR HB
  generalize w3.setCell ⟨b, 1, none⟩ (.int .u64 (z : Nat)) = w4 at *
  have K0 := cell_regrown HR1.out.c2
  go_wp2_with fail
  refine wp_region_below_head 10 1 #[true, true, true, true, true, true, true, true, true, true, false] (by kernel_rfl) (by kernel_rfl) rfl ?_
  simp only [List.take_succ_cons, List.take_zero]
  iterate 10 (go_big_quiet_step (fail))
  refine wpQuiet_nil ?_
  intro _ hw'
  obtain ⟨⟨dq, osq⟩, hw''⟩ := hw'
  subst hw''
  have hb := below_regrown w4 dq osq
  have hR := Lib.hid (HR1.out.below hb)
  have HB := Lib.hid hb
  generalize grow (redrawn w4 dq) osq = w5 at *
  clear K0 hb
  have k1 := hR.out.c2
  have f1 := hR.out.fb 2
  have HC2 := Lib.hid (cw_trans (cw_trans HC1.out (cw_below (T := own4 b e p t) HB.out)) (cw_set b e p t w5 b 2 (.int .u64 (y : Nat)) (.inl rfl) (by rw [k1]; rfl)))
  have R1 := hR.out.num 2 y (by decide)
  rw [if_neg (by decide), if_neg (by decide), if_pos rfl] at R1
  have HR2 := Lib.hid R1
  refine wpAny_ready (rs := [10]) (by decide +kernel) (by simp) ?_
  refine AllReady.cons rfl (fun K hK => ?_) AllReady.nil
  go_simp
  try go_wp2_with fail
  refine wpAny_done (by decide +kernel) ?_ _
  clear k1 f1 R1 hR HB
  generalize w5.setCell ⟨b, 2, none⟩ (.int .u64 (y : Nat)) = w6 at *
  have HF : Hid (RetZ (.tuple #[.int .u64 3, .bool true]) b e p t ce cp ct (S.setSt 3 2) w1 (.returned (.tuple #[.int .u64 3, .bool true])) w6) := ⟨rfl, ⟨_, _, _, isRP_claim h.out (by decide) HST.out HR2.out B1.out B2.out⟩, HC2.out⟩
  clear HR1 HR2 HC1 HC2 h
  go_wp2_with fail
  go_ret2
  exact HF.out
set_option maxRecDepth 100000 in
theorem claimr_14 (b e p t ce cp ct u v s : Nat) (S : St) (w : World) (h : Hid (IsRP w b e p t ce cp ct u v s S)) (hb : best S 1 = 4) : Calls Tryz.prog 85 #[.pointer (some ⟨b, 0, none⟩), .int .u64 2101252, .int .i64 4] w (RetZ (.tuple #[.int .u64 4, .bool true]) b e p t ce cp ct (S.setSt 4 2) w) := by
  have X1 : Hid (∀ w, Calls Tryz.prog 79 #[.int .u64 2101252, .int .u64 8192, .int .u64 128] w (RetIX (-1) w)) := fun w => context_c 2101252 8192 128 (by decide) w
  have X2 : Hid (∀ w, Calls Tryz.prog 79 #[.int .u64 2101252, .int .u64 2097152, .int .u64 4096] w (RetIX (-1) w)) := fun w => context_c 2101252 2097152 4096 (by decide) w
  have X3 : Hid (∀ w, Calls Tryz.prog 79 #[.int .u64 2101252, .int .u64 2097156, .int .u64 4096] w (RetIX 1 w)) := fun w => context_c 2101252 2097156 4096 (by decide) w
  have HQ := Lib.hid (best_r b e p t ce cp ct u v s 1 S w h (by decide))
  rw [hb] at HQ
  have hst : S.st 4 = 1 := by have := best_st S 1 (by rw [hb]; decide); rw [hb] at this; exact this
  have HST := Lib.hid hst
  have hv := h.out.bv.lt; have hs := h.out.bs.lt
  have a1 : bits .andNot .u64 (v : Int) 16 = ((v &&& 18446744073709551615 - 16 : Nat) : Int) := andNot64 v 16 (by omega) (by decide)
  have B1 := Lib.hid (h.out.bv.off (n := 4) (by decide))
  rw [show (18446744073709551615 - 2 ^ 4 : Nat) = 18446744073709551615 - 16 from rfl] at B1
  have a2 : bits .or .u64 (s : Int) 16 = ((s ||| 16 : Nat) : Int) := u64_or_nat s 16 (by omega) (by decide)
  have B2 := Lib.hid (h.out.bs.on (n := 4) (by decide))
  rw [show (2 ^ 4 : Nat) = 16 from rfl] at B2
  obtain ⟨z, hz⟩ : ∃ z, z = v &&& 18446744073709551615 - 16 := ⟨_, rfl⟩
  obtain ⟨y, hy⟩ : ∃ y, y = s ||| 16 := ⟨_, rfl⟩
  rw [← hz] at a1 B1
  rw [← hy] at a2 B2
  clear hb hst hv hs hz hy
  go_enter Tryz.func85, Tryz.ntmps85
  go_wp2_with fail
  refine (X1.out _).mono ?_; rintro e0 w1 ⟨rfl, q⟩; subst q
  go_wp2_with fail
  refine (X2.out _).mono ?_; rintro e0 w1 ⟨rfl, q⟩; subst q
  go_wp2_with fail
  refine (X3.out _).mono ?_; rintro e0 w1 ⟨rfl, q⟩; subst q
  go_wp2_with fail
  refine HQ.out.mono ?_; rintro e0 w2 ⟨rfl, hb2⟩
  have H0 := Lib.hid (h.out.raw.below hb2)
  have HB0 := Lib.hid (cw_below (T := own4 b e p t) hb2)
  have K0 := cell_regrown H0.out.c1
  clear hb2
  go_wp2_with fail
  refine wp_region_below_head 10 1 #[true, true, true, true, true, true, true, true, true, true, false] (by kernel_rfl) (by kernel_rfl) rfl ?_
  simp only [List.take_succ_cons, List.take_zero]
  iterate 10 (go_big_quiet_step (fail))
  refine wpQuiet_nil ?_
  intro _ hw'
  obtain ⟨⟨dq, osq⟩, hw''⟩ := hw'
  subst hw''
  have hb := below_regrown w2 dq osq
  have hR := Lib.hid (H0.out.below hb)
  have HB := Lib.hid hb
  generalize grow (redrawn w2 dq) osq = w3 at *
  clear K0 hb
  have k1 := hR.out.c1
  have f1 := hR.out.fb 1
  have HC1 := Lib.hid (cw_trans (cw_trans HB0.out (cw_below (T := own4 b e p t) HB.out)) (cw_set b e p t w3 b 1 (.int .u64 (z : Nat)) (.inl rfl) (by rw [k1]; rfl)))
  have R1 := hR.out.num 1 z (by decide)
  rw [if_neg (by decide), if_pos rfl, if_neg (by decide)] at R1
  have HR1 := Lib.hid R1
  refine wpAny_ready (rs := [10]) (by decide +kernel) (by simp) ?_
  refine AllReady.cons rfl (fun K hK => ?_) AllReady.nil
  go_simp
  try go_wp2_with fail
  refine wpAny_done (by decide +kernel) ?_ _
  clear k1 f1 R1 hR HB
  generalize w3.setCell ⟨b, 1, none⟩ (.int .u64 (z : Nat)) = w4 at *
  have K0 := cell_regrown HR1.out.c2
  go_wp2_with fail
  refine wp_region_below_head 10 1 #[true, true, true, true, true, true, true, true, true, true, false] (by kernel_rfl) (by kernel_rfl) rfl ?_
  simp only [List.take_succ_cons, List.take_zero]
  iterate 10 (go_big_quiet_step (fail))
  refine wpQuiet_nil ?_
  intro _ hw'
  obtain ⟨⟨dq, osq⟩, hw''⟩ := hw'
  subst hw''
  have hb := below_regrown w4 dq osq
  have hR := Lib.hid (HR1.out.below hb)
  have HB := Lib.hid hb
  generalize grow (redrawn w4 dq) osq = w5 at *
  clear K0 hb
  have k1 := hR.out.c2
  have f1 := hR.out.fb 2
  have HC2 := Lib.hid (cw_trans (cw_trans HC1.out (cw_below (T := own4 b e p t) HB.out)) (cw_set b e p t w5 b 2 (.int .u64 (y : Nat)) (.inl rfl) (by rw [k1]; rfl)))
  have R1 := hR.out.num 2 y (by decide)
  rw [if_neg (by decide), if_neg (by decide), if_pos rfl] at R1
  have HR2 := Lib.hid R1
  refine wpAny_ready (rs := [10]) (by decide +kernel) (by simp) ?_
  refine AllReady.cons rfl (fun K hK => ?_) AllReady.nil
  go_simp
  try go_wp2_with fail
  refine wpAny_done (by decide +kernel) ?_ _
  clear k1 f1 R1 hR HB
  generalize w5.setCell ⟨b, 2, none⟩ (.int .u64 (y : Nat)) = w6 at *
  have HF : Hid (RetZ (.tuple #[.int .u64 4, .bool true]) b e p t ce cp ct (S.setSt 4 2) w1 (.returned (.tuple #[.int .u64 4, .bool true])) w6) := ⟨rfl, ⟨_, _, _, isRP_claim h.out (by decide) HST.out HR2.out B1.out B2.out⟩, HC2.out⟩
  clear HR1 HR2 HC1 HC2 h
  go_wp2_with fail
  go_ret2
  exact HF.out
set_option maxRecDepth 100000 in
theorem claimr_15 (b e p t ce cp ct u v s : Nat) (S : St) (w : World) (h : Hid (IsRP w b e p t ce cp ct u v s S)) (hb : best S 1 = 5) : Calls Tryz.prog 85 #[.pointer (some ⟨b, 0, none⟩), .int .u64 2101252, .int .i64 4] w (RetZ (.tuple #[.int .u64 5, .bool true]) b e p t ce cp ct (S.setSt 5 2) w) := by
  have X1 : Hid (∀ w, Calls Tryz.prog 79 #[.int .u64 2101252, .int .u64 8192, .int .u64 128] w (RetIX (-1) w)) := fun w => context_c 2101252 8192 128 (by decide) w
  have X2 : Hid (∀ w, Calls Tryz.prog 79 #[.int .u64 2101252, .int .u64 2097152, .int .u64 4096] w (RetIX (-1) w)) := fun w => context_c 2101252 2097152 4096 (by decide) w
  have X3 : Hid (∀ w, Calls Tryz.prog 79 #[.int .u64 2101252, .int .u64 2097156, .int .u64 4096] w (RetIX 1 w)) := fun w => context_c 2101252 2097156 4096 (by decide) w
  have HQ := Lib.hid (best_r b e p t ce cp ct u v s 1 S w h (by decide))
  rw [hb] at HQ
  have hst : S.st 5 = 1 := by have := best_st S 1 (by rw [hb]; decide); rw [hb] at this; exact this
  have HST := Lib.hid hst
  have hv := h.out.bv.lt; have hs := h.out.bs.lt
  have a1 : bits .andNot .u64 (v : Int) 32 = ((v &&& 18446744073709551615 - 32 : Nat) : Int) := andNot64 v 32 (by omega) (by decide)
  have B1 := Lib.hid (h.out.bv.off (n := 5) (by decide))
  rw [show (18446744073709551615 - 2 ^ 5 : Nat) = 18446744073709551615 - 32 from rfl] at B1
  have a2 : bits .or .u64 (s : Int) 32 = ((s ||| 32 : Nat) : Int) := u64_or_nat s 32 (by omega) (by decide)
  have B2 := Lib.hid (h.out.bs.on (n := 5) (by decide))
  rw [show (2 ^ 5 : Nat) = 32 from rfl] at B2
  obtain ⟨z, hz⟩ : ∃ z, z = v &&& 18446744073709551615 - 32 := ⟨_, rfl⟩
  obtain ⟨y, hy⟩ : ∃ y, y = s ||| 32 := ⟨_, rfl⟩
  rw [← hz] at a1 B1
  rw [← hy] at a2 B2
  clear hb hst hv hs hz hy
  go_enter Tryz.func85, Tryz.ntmps85
  go_wp2_with fail
  refine (X1.out _).mono ?_; rintro e0 w1 ⟨rfl, q⟩; subst q
  go_wp2_with fail
  refine (X2.out _).mono ?_; rintro e0 w1 ⟨rfl, q⟩; subst q
  go_wp2_with fail
  refine (X3.out _).mono ?_; rintro e0 w1 ⟨rfl, q⟩; subst q
  go_wp2_with fail
  refine HQ.out.mono ?_; rintro e0 w2 ⟨rfl, hb2⟩
  have H0 := Lib.hid (h.out.raw.below hb2)
  have HB0 := Lib.hid (cw_below (T := own4 b e p t) hb2)
  have K0 := cell_regrown H0.out.c1
  clear hb2
  go_wp2_with fail
  refine wp_region_below_head 10 1 #[true, true, true, true, true, true, true, true, true, true, false] (by kernel_rfl) (by kernel_rfl) rfl ?_
  simp only [List.take_succ_cons, List.take_zero]
  iterate 10 (go_big_quiet_step (fail))
  refine wpQuiet_nil ?_
  intro _ hw'
  obtain ⟨⟨dq, osq⟩, hw''⟩ := hw'
  subst hw''
  have hb := below_regrown w2 dq osq
  have hR := Lib.hid (H0.out.below hb)
  have HB := Lib.hid hb
  generalize grow (redrawn w2 dq) osq = w3 at *
  clear K0 hb
  have k1 := hR.out.c1
  have f1 := hR.out.fb 1
  have HC1 := Lib.hid (cw_trans (cw_trans HB0.out (cw_below (T := own4 b e p t) HB.out)) (cw_set b e p t w3 b 1 (.int .u64 (z : Nat)) (.inl rfl) (by rw [k1]; rfl)))
  have R1 := hR.out.num 1 z (by decide)
  rw [if_neg (by decide), if_pos rfl, if_neg (by decide)] at R1
  have HR1 := Lib.hid R1
  refine wpAny_ready (rs := [10]) (by decide +kernel) (by simp) ?_
  refine AllReady.cons rfl (fun K hK => ?_) AllReady.nil
  go_simp
  try go_wp2_with fail
  refine wpAny_done (by decide +kernel) ?_ _
  clear k1 f1 R1 hR HB
  generalize w3.setCell ⟨b, 1, none⟩ (.int .u64 (z : Nat)) = w4 at *
  have K0 := cell_regrown HR1.out.c2
  go_wp2_with fail
  refine wp_region_below_head 10 1 #[true, true, true, true, true, true, true, true, true, true, false] (by kernel_rfl) (by kernel_rfl) rfl ?_
  simp only [List.take_succ_cons, List.take_zero]
  iterate 10 (go_big_quiet_step (fail))
  refine wpQuiet_nil ?_
  intro _ hw'
  obtain ⟨⟨dq, osq⟩, hw''⟩ := hw'
  subst hw''
  have hb := below_regrown w4 dq osq
  have hR := Lib.hid (HR1.out.below hb)
  have HB := Lib.hid hb
  generalize grow (redrawn w4 dq) osq = w5 at *
  clear K0 hb
  have k1 := hR.out.c2
  have f1 := hR.out.fb 2
  have HC2 := Lib.hid (cw_trans (cw_trans HC1.out (cw_below (T := own4 b e p t) HB.out)) (cw_set b e p t w5 b 2 (.int .u64 (y : Nat)) (.inl rfl) (by rw [k1]; rfl)))
  have R1 := hR.out.num 2 y (by decide)
  rw [if_neg (by decide), if_neg (by decide), if_pos rfl] at R1
  have HR2 := Lib.hid R1
  refine wpAny_ready (rs := [10]) (by decide +kernel) (by simp) ?_
  refine AllReady.cons rfl (fun K hK => ?_) AllReady.nil
  go_simp
  try go_wp2_with fail
  refine wpAny_done (by decide +kernel) ?_ _
  clear k1 f1 R1 hR HB
  generalize w5.setCell ⟨b, 2, none⟩ (.int .u64 (y : Nat)) = w6 at *
  have HF : Hid (RetZ (.tuple #[.int .u64 5, .bool true]) b e p t ce cp ct (S.setSt 5 2) w1 (.returned (.tuple #[.int .u64 5, .bool true])) w6) := ⟨rfl, ⟨_, _, _, isRP_claim h.out (by decide) HST.out HR2.out B1.out B2.out⟩, HC2.out⟩
  clear HR1 HR2 HC1 HC2 h
  go_wp2_with fail
  go_ret2
  exact HF.out
set_option maxRecDepth 100000 in
theorem claimr_16 (b e p t ce cp ct u v s : Nat) (S : St) (w : World) (h : Hid (IsRP w b e p t ce cp ct u v s S)) (hb : best S 1 = 6) : Calls Tryz.prog 85 #[.pointer (some ⟨b, 0, none⟩), .int .u64 2101252, .int .i64 4] w (RetZ (.tuple #[.int .u64 6, .bool true]) b e p t ce cp ct (S.setSt 6 2) w) := by
  have X1 : Hid (∀ w, Calls Tryz.prog 79 #[.int .u64 2101252, .int .u64 8192, .int .u64 128] w (RetIX (-1) w)) := fun w => context_c 2101252 8192 128 (by decide) w
  have X2 : Hid (∀ w, Calls Tryz.prog 79 #[.int .u64 2101252, .int .u64 2097152, .int .u64 4096] w (RetIX (-1) w)) := fun w => context_c 2101252 2097152 4096 (by decide) w
  have X3 : Hid (∀ w, Calls Tryz.prog 79 #[.int .u64 2101252, .int .u64 2097156, .int .u64 4096] w (RetIX 1 w)) := fun w => context_c 2101252 2097156 4096 (by decide) w
  have HQ := Lib.hid (best_r b e p t ce cp ct u v s 1 S w h (by decide))
  rw [hb] at HQ
  have hst : S.st 6 = 1 := by have := best_st S 1 (by rw [hb]; decide); rw [hb] at this; exact this
  have HST := Lib.hid hst
  have hv := h.out.bv.lt; have hs := h.out.bs.lt
  have a1 : bits .andNot .u64 (v : Int) 64 = ((v &&& 18446744073709551615 - 64 : Nat) : Int) := andNot64 v 64 (by omega) (by decide)
  have B1 := Lib.hid (h.out.bv.off (n := 6) (by decide))
  rw [show (18446744073709551615 - 2 ^ 6 : Nat) = 18446744073709551615 - 64 from rfl] at B1
  have a2 : bits .or .u64 (s : Int) 64 = ((s ||| 64 : Nat) : Int) := u64_or_nat s 64 (by omega) (by decide)
  have B2 := Lib.hid (h.out.bs.on (n := 6) (by decide))
  rw [show (2 ^ 6 : Nat) = 64 from rfl] at B2
  obtain ⟨z, hz⟩ : ∃ z, z = v &&& 18446744073709551615 - 64 := ⟨_, rfl⟩
  obtain ⟨y, hy⟩ : ∃ y, y = s ||| 64 := ⟨_, rfl⟩
  rw [← hz] at a1 B1
  rw [← hy] at a2 B2
  clear hb hst hv hs hz hy
  go_enter Tryz.func85, Tryz.ntmps85
  go_wp2_with fail
  refine (X1.out _).mono ?_; rintro e0 w1 ⟨rfl, q⟩; subst q
  go_wp2_with fail
  refine (X2.out _).mono ?_; rintro e0 w1 ⟨rfl, q⟩; subst q
  go_wp2_with fail
  refine (X3.out _).mono ?_; rintro e0 w1 ⟨rfl, q⟩; subst q
  go_wp2_with fail
  refine HQ.out.mono ?_; rintro e0 w2 ⟨rfl, hb2⟩
  have H0 := Lib.hid (h.out.raw.below hb2)
  have HB0 := Lib.hid (cw_below (T := own4 b e p t) hb2)
  have K0 := cell_regrown H0.out.c1
  clear hb2
  go_wp2_with fail
  refine wp_region_below_head 10 1 #[true, true, true, true, true, true, true, true, true, true, false] (by kernel_rfl) (by kernel_rfl) rfl ?_
  simp only [List.take_succ_cons, List.take_zero]
  iterate 10 (go_big_quiet_step (fail))
  refine wpQuiet_nil ?_
  intro _ hw'
  obtain ⟨⟨dq, osq⟩, hw''⟩ := hw'
  subst hw''
  have hb := below_regrown w2 dq osq
  have hR := Lib.hid (H0.out.below hb)
  have HB := Lib.hid hb
  generalize grow (redrawn w2 dq) osq = w3 at *
  clear K0 hb
  have k1 := hR.out.c1
  have f1 := hR.out.fb 1
  have HC1 := Lib.hid (cw_trans (cw_trans HB0.out (cw_below (T := own4 b e p t) HB.out)) (cw_set b e p t w3 b 1 (.int .u64 (z : Nat)) (.inl rfl) (by rw [k1]; rfl)))
  have R1 := hR.out.num 1 z (by decide)
  rw [if_neg (by decide), if_pos rfl, if_neg (by decide)] at R1
  have HR1 := Lib.hid R1
  refine wpAny_ready (rs := [10]) (by decide +kernel) (by simp) ?_
  refine AllReady.cons rfl (fun K hK => ?_) AllReady.nil
  go_simp
  try go_wp2_with fail
  refine wpAny_done (by decide +kernel) ?_ _
  clear k1 f1 R1 hR HB
  generalize w3.setCell ⟨b, 1, none⟩ (.int .u64 (z : Nat)) = w4 at *
  have K0 := cell_regrown HR1.out.c2
  go_wp2_with fail
  refine wp_region_below_head 10 1 #[true, true, true, true, true, true, true, true, true, true, false] (by kernel_rfl) (by kernel_rfl) rfl ?_
  simp only [List.take_succ_cons, List.take_zero]
  iterate 10 (go_big_quiet_step (fail))
  refine wpQuiet_nil ?_
  intro _ hw'
  obtain ⟨⟨dq, osq⟩, hw''⟩ := hw'
  subst hw''
  have hb := below_regrown w4 dq osq
  have hR := Lib.hid (HR1.out.below hb)
  have HB := Lib.hid hb
  generalize grow (redrawn w4 dq) osq = w5 at *
  clear K0 hb
  have k1 := hR.out.c2
  have f1 := hR.out.fb 2
  have HC2 := Lib.hid (cw_trans (cw_trans HC1.out (cw_below (T := own4 b e p t) HB.out)) (cw_set b e p t w5 b 2 (.int .u64 (y : Nat)) (.inl rfl) (by rw [k1]; rfl)))
  have R1 := hR.out.num 2 y (by decide)
  rw [if_neg (by decide), if_neg (by decide), if_pos rfl] at R1
  have HR2 := Lib.hid R1
  refine wpAny_ready (rs := [10]) (by decide +kernel) (by simp) ?_
  refine AllReady.cons rfl (fun K hK => ?_) AllReady.nil
  go_simp
  try go_wp2_with fail
  refine wpAny_done (by decide +kernel) ?_ _
  clear k1 f1 R1 hR HB
  generalize w5.setCell ⟨b, 2, none⟩ (.int .u64 (y : Nat)) = w6 at *
  have HF : Hid (RetZ (.tuple #[.int .u64 6, .bool true]) b e p t ce cp ct (S.setSt 6 2) w1 (.returned (.tuple #[.int .u64 6, .bool true])) w6) := ⟨rfl, ⟨_, _, _, isRP_claim h.out (by decide) HST.out HR2.out B1.out B2.out⟩, HC2.out⟩
  clear HR1 HR2 HC1 HC2 h
  go_wp2_with fail
  go_ret2
  exact HF.out
set_option maxRecDepth 100000 in
theorem claimr_17 (b e p t ce cp ct u v s : Nat) (S : St) (w : World) (h : Hid (IsRP w b e p t ce cp ct u v s S)) (hb : best S 1 = 7) : Calls Tryz.prog 85 #[.pointer (some ⟨b, 0, none⟩), .int .u64 2101252, .int .i64 4] w (RetZ (.tuple #[.int .u64 7, .bool true]) b e p t ce cp ct (S.setSt 7 2) w) := by
  have X1 : Hid (∀ w, Calls Tryz.prog 79 #[.int .u64 2101252, .int .u64 8192, .int .u64 128] w (RetIX (-1) w)) := fun w => context_c 2101252 8192 128 (by decide) w
  have X2 : Hid (∀ w, Calls Tryz.prog 79 #[.int .u64 2101252, .int .u64 2097152, .int .u64 4096] w (RetIX (-1) w)) := fun w => context_c 2101252 2097152 4096 (by decide) w
  have X3 : Hid (∀ w, Calls Tryz.prog 79 #[.int .u64 2101252, .int .u64 2097156, .int .u64 4096] w (RetIX 1 w)) := fun w => context_c 2101252 2097156 4096 (by decide) w
  have HQ := Lib.hid (best_r b e p t ce cp ct u v s 1 S w h (by decide))
  rw [hb] at HQ
  have hst : S.st 7 = 1 := by have := best_st S 1 (by rw [hb]; decide); rw [hb] at this; exact this
  have HST := Lib.hid hst
  have hv := h.out.bv.lt; have hs := h.out.bs.lt
  have a1 : bits .andNot .u64 (v : Int) 128 = ((v &&& 18446744073709551615 - 128 : Nat) : Int) := andNot64 v 128 (by omega) (by decide)
  have B1 := Lib.hid (h.out.bv.off (n := 7) (by decide))
  rw [show (18446744073709551615 - 2 ^ 7 : Nat) = 18446744073709551615 - 128 from rfl] at B1
  have a2 : bits .or .u64 (s : Int) 128 = ((s ||| 128 : Nat) : Int) := u64_or_nat s 128 (by omega) (by decide)
  have B2 := Lib.hid (h.out.bs.on (n := 7) (by decide))
  rw [show (2 ^ 7 : Nat) = 128 from rfl] at B2
  obtain ⟨z, hz⟩ : ∃ z, z = v &&& 18446744073709551615 - 128 := ⟨_, rfl⟩
  obtain ⟨y, hy⟩ : ∃ y, y = s ||| 128 := ⟨_, rfl⟩
  rw [← hz] at a1 B1
  rw [← hy] at a2 B2
  clear hb hst hv hs hz hy
  go_enter Tryz.func85, Tryz.ntmps85
  go_wp2_with fail
  refine (X1.out _).mono ?_; rintro e0 w1 ⟨rfl, q⟩; subst q
  go_wp2_with fail
  refine (X2.out _).mono ?_; rintro e0 w1 ⟨rfl, q⟩; subst q
  go_wp2_with fail
  refine (X3.out _).mono ?_; rintro e0 w1 ⟨rfl, q⟩; subst q
  go_wp2_with fail
  refine HQ.out.mono ?_; rintro e0 w2 ⟨rfl, hb2⟩
  have H0 := Lib.hid (h.out.raw.below hb2)
  have HB0 := Lib.hid (cw_below (T := own4 b e p t) hb2)
  have K0 := cell_regrown H0.out.c1
  clear hb2
  go_wp2_with fail
  refine wp_region_below_head 10 1 #[true, true, true, true, true, true, true, true, true, true, false] (by kernel_rfl) (by kernel_rfl) rfl ?_
  simp only [List.take_succ_cons, List.take_zero]
  iterate 10 (go_big_quiet_step (fail))
  refine wpQuiet_nil ?_
  intro _ hw'
  obtain ⟨⟨dq, osq⟩, hw''⟩ := hw'
  subst hw''
  have hb := below_regrown w2 dq osq
  have hR := Lib.hid (H0.out.below hb)
  have HB := Lib.hid hb
  generalize grow (redrawn w2 dq) osq = w3 at *
  clear K0 hb
  have k1 := hR.out.c1
  have f1 := hR.out.fb 1
  have HC1 := Lib.hid (cw_trans (cw_trans HB0.out (cw_below (T := own4 b e p t) HB.out)) (cw_set b e p t w3 b 1 (.int .u64 (z : Nat)) (.inl rfl) (by rw [k1]; rfl)))
  have R1 := hR.out.num 1 z (by decide)
  rw [if_neg (by decide), if_pos rfl, if_neg (by decide)] at R1
  have HR1 := Lib.hid R1
  refine wpAny_ready (rs := [10]) (by decide +kernel) (by simp) ?_
  refine AllReady.cons rfl (fun K hK => ?_) AllReady.nil
  go_simp
  try go_wp2_with fail
  refine wpAny_done (by decide +kernel) ?_ _
  clear k1 f1 R1 hR HB
  generalize w3.setCell ⟨b, 1, none⟩ (.int .u64 (z : Nat)) = w4 at *
  have K0 := cell_regrown HR1.out.c2
  go_wp2_with fail
  refine wp_region_below_head 10 1 #[true, true, true, true, true, true, true, true, true, true, false] (by kernel_rfl) (by kernel_rfl) rfl ?_
  simp only [List.take_succ_cons, List.take_zero]
  iterate 10 (go_big_quiet_step (fail))
  refine wpQuiet_nil ?_
  intro _ hw'
  obtain ⟨⟨dq, osq⟩, hw''⟩ := hw'
  subst hw''
  have hb := below_regrown w4 dq osq
  have hR := Lib.hid (HR1.out.below hb)
  have HB := Lib.hid hb
  generalize grow (redrawn w4 dq) osq = w5 at *
  clear K0 hb
  have k1 := hR.out.c2
  have f1 := hR.out.fb 2
  have HC2 := Lib.hid (cw_trans (cw_trans HC1.out (cw_below (T := own4 b e p t) HB.out)) (cw_set b e p t w5 b 2 (.int .u64 (y : Nat)) (.inl rfl) (by rw [k1]; rfl)))
  have R1 := hR.out.num 2 y (by decide)
  rw [if_neg (by decide), if_neg (by decide), if_pos rfl] at R1
  have HR2 := Lib.hid R1
  refine wpAny_ready (rs := [10]) (by decide +kernel) (by simp) ?_
  refine AllReady.cons rfl (fun K hK => ?_) AllReady.nil
  go_simp
  try go_wp2_with fail
  refine wpAny_done (by decide +kernel) ?_ _
  clear k1 f1 R1 hR HB
  generalize w5.setCell ⟨b, 2, none⟩ (.int .u64 (y : Nat)) = w6 at *
  have HF : Hid (RetZ (.tuple #[.int .u64 7, .bool true]) b e p t ce cp ct (S.setSt 7 2) w1 (.returned (.tuple #[.int .u64 7, .bool true])) w6) := ⟨rfl, ⟨_, _, _, isRP_claim h.out (by decide) HST.out HR2.out B1.out B2.out⟩, HC2.out⟩
  clear HR1 HR2 HC1 HC2 h
  go_wp2_with fail
  go_ret2
  exact HF.out
set_option maxRecDepth 100000 in
theorem claimr_18 (b e p t ce cp ct u v s : Nat) (S : St) (w : World) (h : Hid (IsRP w b e p t ce cp ct u v s S)) (hb : best S 1 = 8) : Calls Tryz.prog 85 #[.pointer (some ⟨b, 0, none⟩), .int .u64 2101252, .int .i64 4] w (RetZ (.tuple #[.int .u64 8, .bool true]) b e p t ce cp ct (S.setSt 8 2) w) := by
  have X1 : Hid (∀ w, Calls Tryz.prog 79 #[.int .u64 2101252, .int .u64 8192, .int .u64 128] w (RetIX (-1) w)) := fun w => context_c 2101252 8192 128 (by decide) w
  have X2 : Hid (∀ w, Calls Tryz.prog 79 #[.int .u64 2101252, .int .u64 2097152, .int .u64 4096] w (RetIX (-1) w)) := fun w => context_c 2101252 2097152 4096 (by decide) w
  have X3 : Hid (∀ w, Calls Tryz.prog 79 #[.int .u64 2101252, .int .u64 2097156, .int .u64 4096] w (RetIX 1 w)) := fun w => context_c 2101252 2097156 4096 (by decide) w
  have HQ := Lib.hid (best_r b e p t ce cp ct u v s 1 S w h (by decide))
  rw [hb] at HQ
  have hst : S.st 8 = 1 := by have := best_st S 1 (by rw [hb]; decide); rw [hb] at this; exact this
  have HST := Lib.hid hst
  have hv := h.out.bv.lt; have hs := h.out.bs.lt
  have a1 : bits .andNot .u64 (v : Int) 256 = ((v &&& 18446744073709551615 - 256 : Nat) : Int) := andNot64 v 256 (by omega) (by decide)
  have B1 := Lib.hid (h.out.bv.off (n := 8) (by decide))
  rw [show (18446744073709551615 - 2 ^ 8 : Nat) = 18446744073709551615 - 256 from rfl] at B1
  have a2 : bits .or .u64 (s : Int) 256 = ((s ||| 256 : Nat) : Int) := u64_or_nat s 256 (by omega) (by decide)
  have B2 := Lib.hid (h.out.bs.on (n := 8) (by decide))
  rw [show (2 ^ 8 : Nat) = 256 from rfl] at B2
  obtain ⟨z, hz⟩ : ∃ z, z = v &&& 18446744073709551615 - 256 := ⟨_, rfl⟩
  obtain ⟨y, hy⟩ : ∃ y, y = s ||| 256 := ⟨_, rfl⟩
  rw [← hz] at a1 B1
  rw [← hy] at a2 B2
  clear hb hst hv hs hz hy
  go_enter Tryz.func85, Tryz.ntmps85
  go_wp2_with fail
  refine (X1.out _).mono ?_; rintro e0 w1 ⟨rfl, q⟩; subst q
  go_wp2_with fail
  refine (X2.out _).mono ?_; rintro e0 w1 ⟨rfl, q⟩; subst q
  go_wp2_with fail
  refine (X3.out _).mono ?_; rintro e0 w1 ⟨rfl, q⟩; subst q
  go_wp2_with fail
  refine HQ.out.mono ?_; rintro e0 w2 ⟨rfl, hb2⟩
  have H0 := Lib.hid (h.out.raw.below hb2)
  have HB0 := Lib.hid (cw_below (T := own4 b e p t) hb2)
  have K0 := cell_regrown H0.out.c1
  clear hb2
  go_wp2_with fail
  refine wp_region_below_head 10 1 #[true, true, true, true, true, true, true, true, true, true, false] (by kernel_rfl) (by kernel_rfl) rfl ?_
  simp only [List.take_succ_cons, List.take_zero]
  iterate 10 (go_big_quiet_step (fail))
  refine wpQuiet_nil ?_
  intro _ hw'
  obtain ⟨⟨dq, osq⟩, hw''⟩ := hw'
  subst hw''
  have hb := below_regrown w2 dq osq
  have hR := Lib.hid (H0.out.below hb)
  have HB := Lib.hid hb
  generalize grow (redrawn w2 dq) osq = w3 at *
  clear K0 hb
  have k1 := hR.out.c1
  have f1 := hR.out.fb 1
  have HC1 := Lib.hid (cw_trans (cw_trans HB0.out (cw_below (T := own4 b e p t) HB.out)) (cw_set b e p t w3 b 1 (.int .u64 (z : Nat)) (.inl rfl) (by rw [k1]; rfl)))
  have R1 := hR.out.num 1 z (by decide)
  rw [if_neg (by decide), if_pos rfl, if_neg (by decide)] at R1
  have HR1 := Lib.hid R1
  refine wpAny_ready (rs := [10]) (by decide +kernel) (by simp) ?_
  refine AllReady.cons rfl (fun K hK => ?_) AllReady.nil
  go_simp
  try go_wp2_with fail
  refine wpAny_done (by decide +kernel) ?_ _
  clear k1 f1 R1 hR HB
  generalize w3.setCell ⟨b, 1, none⟩ (.int .u64 (z : Nat)) = w4 at *
  have K0 := cell_regrown HR1.out.c2
  go_wp2_with fail
  refine wp_region_below_head 10 1 #[true, true, true, true, true, true, true, true, true, true, false] (by kernel_rfl) (by kernel_rfl) rfl ?_
  simp only [List.take_succ_cons, List.take_zero]
  iterate 10 (go_big_quiet_step (fail))
  refine wpQuiet_nil ?_
  intro _ hw'
  obtain ⟨⟨dq, osq⟩, hw''⟩ := hw'
  subst hw''
  have hb := below_regrown w4 dq osq
  have hR := Lib.hid (HR1.out.below hb)
  have HB := Lib.hid hb
  generalize grow (redrawn w4 dq) osq = w5 at *
  clear K0 hb
  have k1 := hR.out.c2
  have f1 := hR.out.fb 2
  have HC2 := Lib.hid (cw_trans (cw_trans HC1.out (cw_below (T := own4 b e p t) HB.out)) (cw_set b e p t w5 b 2 (.int .u64 (y : Nat)) (.inl rfl) (by rw [k1]; rfl)))
  have R1 := hR.out.num 2 y (by decide)
  rw [if_neg (by decide), if_neg (by decide), if_pos rfl] at R1
  have HR2 := Lib.hid R1
  refine wpAny_ready (rs := [10]) (by decide +kernel) (by simp) ?_
  refine AllReady.cons rfl (fun K hK => ?_) AllReady.nil
  go_simp
  try go_wp2_with fail
  refine wpAny_done (by decide +kernel) ?_ _
  clear k1 f1 R1 hR HB
  generalize w5.setCell ⟨b, 2, none⟩ (.int .u64 (y : Nat)) = w6 at *
  have HF : Hid (RetZ (.tuple #[.int .u64 8, .bool true]) b e p t ce cp ct (S.setSt 8 2) w1 (.returned (.tuple #[.int .u64 8, .bool true])) w6) := ⟨rfl, ⟨_, _, _, isRP_claim h.out (by decide) HST.out HR2.out B1.out B2.out⟩, HC2.out⟩
  clear HR1 HR2 HC1 HC2 h
  go_wp2_with fail
  go_ret2
  exact HF.out
theorem claimr_c (b e p t ce cp ct u v s : Nat) (S : St) (w : World) (h : Hid (IsRP w b e p t ce cp ct u v s S)) (c : Nat) (hc : c < 2) : Calls Tryz.prog 85 #[.pointer (some ⟨b, 0, none⟩), .int .u64 (2097156 + 4096 * c : Nat), .int .i64 4] w (RetZ (.tuple #[.int .u64 (best S c : Nat), .bool true]) b e p t ce cp ct (claimF S c) w) := by
  have hl : best S c < 9 := best_lt S c 7
  have hb : best S c = 0 ∨ best S c = 1 ∨ best S c = 2 ∨ best S c = 3 ∨ best S c = 4 ∨ best S c = 5 ∨ best S c = 6 ∨ best S c = 7 ∨ best S c = 8 := by omega
  have hc2 : c = 0 ∨ c = 1 := by omega
  rcases hc2 with rfl | rfl <;> rcases hb with q | q | q | q | q | q | q | q | q <;> (unfold claimF; rw [q])
  · exact claimr_00 b e p t ce cp ct u v s S w h q
  · exact claimr_01 b e p t ce cp ct u v s S w h q
  · exact claimr_02 b e p t ce cp ct u v s S w h q
  · exact claimr_03 b e p t ce cp ct u v s S w h q
  · exact claimr_04 b e p t ce cp ct u v s S w h q
  · exact claimr_05 b e p t ce cp ct u v s S w h q
  · exact claimr_06 b e p t ce cp ct u v s S w h q
  · exact claimr_07 b e p t ce cp ct u v s S w h q
  · exact claimr_08 b e p t ce cp ct u v s S w h q
  · exact claimr_10 b e p t ce cp ct u v s S w h q
  · exact claimr_11 b e p t ce cp ct u v s S w h q
  · exact claimr_12 b e p t ce cp ct u v s S w h q
  · exact claimr_13 b e p t ce cp ct u v s S w h q
  · exact claimr_14 b e p t ce cp ct u v s S w h q
  · exact claimr_15 b e p t ce cp ct u v s S w h q
  · exact claimr_16 b e p t ce cp ct u v s S w h q
  · exact claimr_17 b e p t ce cp ct u v s S w h q
  · exact claimr_18 b e p t ce cp ct u v s S w h q
theorem read_r (b e p t ce cp ct u v s : Nat) (S : St) (w : World) (h : Hid (IsRP w b e p t ce cp ct u v s S)) (a : Nat) (z : Int) : Calls Tryz.prog 85 #[.pointer (some ⟨b, 0, none⟩), .int .u64 a, .int .i64 z] w (RetZ (.tuple #[.int .u64 (valP (pk a z) S : Nat), .bool (decide (pk a z ≠ 0))]) b e p t ce cp ct (nextP (pk a z) S) w) := by
  rcases pk_cases a z with ⟨n, hn, rfl, ha, q⟩ | ⟨rfl, rfl, q⟩ | ⟨c, hc, rfl, ha, q⟩ | ⟨c, hc, rfl, ha, q⟩ | ⟨c, hc, rfl, ha, q⟩ | ⟨hno, q⟩ <;> rw [q]
  · subst ha
    have : n = 0 ∨ n = 1 ∨ n = 2 ∨ n = 3 ∨ n = 4 ∨ n = 5 ∨ n = 6 ∨ n = 7 ∨ n = 8 := by omega
    rcases this with rfl | rfl | rfl | rfl | rfl | rfl | rfl | rfl | rfl
    · exact readr_pr0 b e p t ce cp ct u v s S w h
    · exact readr_pr1 b e p t ce cp ct u v s S w h
    · exact readr_pr2 b e p t ce cp ct u v s S w h
    · exact readr_pr3 b e p t ce cp ct u v s S w h
    · exact readr_pr4 b e p t ce cp ct u v s S w h
    · exact readr_pr5 b e p t ce cp ct u v s S w h
    · exact readr_pr6 b e p t ce cp ct u v s S w h
    · exact readr_pr7 b e p t ce cp ct u v s S w h
    · exact readr_pr8 b e p t ce cp ct u v s S w h
  · exact readr_wait b e p t ce cp ct u v s S w h
  · subst ha
    have : c = 0 ∨ c = 1 := by omega
    rcases this with rfl | rfl
    · exact readr_en0 b e p t ce cp ct u v s S w h
    · exact readr_en1 b e p t ce cp ct u v s S w h
  · subst ha
    have : c = 0 ∨ c = 1 := by omega
    rcases this with rfl | rfl
    · exact readr_th0 b e p t ce cp ct u v s S w h
    · exact readr_th1 b e p t ce cp ct u v s S w h
  · subst ha
    rw [claim2 c hc S, decide_eq_true (by omega : 15 + c ≠ 0), show valP (15 + c) S = best S c by unfold valP; rw [if_neg (by omega), if_neg (by omega), if_neg (by omega), if_neg (by omega), if_neg (by omega), if_pos (by omega), show 15 + c - 15 = c by omega]]
    exact claimr_c b e p t ce cp ct u v s S w h c hc
  · by_cases hz : z = 4
    · subst hz
      by_cases hl : a ≤ 32
      · exact readr_no0 b e p t ce cp ct u v s S w h a (hno rfl) hl
      · exact readr_no1 b e p t ce cp ct u v s S w h a (hno rfl) hl
    · exact readr_size b e p t ce cp ct u v s S w h a z hz
end Go.Proofs.YtoicpikkcefheaaGreat.P
