/- The document's plic: lines. -/
import Derived.Test.YtoicpikkcefheaaGreatRB
namespace Go.Proofs.YtoicpikkcefheaaGreat.P
open Go.ChangeShapes Go.WideShapes Go.ChangeAt Go.RowKit Go.Sort
open M (Fp Dj Cw Up Th)
set_option linter.unusedVariables false
set_option linter.unusedSimpArgs false
set_option maxRecDepth 20000
set_option maxRecDepth 100000 in
theorem line_10 (b e p t ce cp ct u v s : Nat) (S : St) (w : World) (h : Hid (IsRP w b e p t ce cp ct u v s S)) :
    Calls Tryz.prog 56 #[.pointer (some ⟨b, 0, none⟩), .int .i64 1, .bool false] w (RetZ (.bool true) b e p t ce cp ct (comeF (S.setUp 1 false) 1) w) := by
  have hu := h.out.bu.lt; have hv := h.out.bv.lt; have hs := h.out.bs.lt
  have a1 : bits .andNot .u64 (u : Int) 2 = ((u &&& 18446744073709551615 - 2 : Nat) : Int) := andNot64 u 2 (by omega) (by decide)
  have B1 := Lib.hid (h.out.bu.off (n := 1) (by decide))
  rw [show (18446744073709551615 - 2 ^ 1 : Nat) = 18446744073709551615 - 2 from rfl] at B1
  obtain ⟨z, hz⟩ : ∃ z, z = u &&& 18446744073709551615 - 2 := ⟨_, rfl⟩
  rw [← hz] at a1 B1
  have zl := B1.out.lt
  have K0 := cell_regrown h.out.raw.c0
  have h0 := Lib.hid h.out.raw
  clear hz hu
  go_enter Tryz.func56, Tryz.ntmps56
  go_wp2_with fail
  refine wp_region_below_head 10 1 #[true, true, true, true, true, true, true, true, true, true, false] (by kernel_rfl) (by kernel_rfl) rfl ?_
  simp only [List.take_succ_cons, List.take_zero]
  iterate 10 (go_big_quiet_step (fail))
  refine wpQuiet_nil ?_
  intro _ hw'
  obtain ⟨⟨dq, osq⟩, hw''⟩ := hw'
  subst hw''
  have hb := below_regrown w dq osq
  have hR := Lib.hid (h0.out.below hb)
  have HB := Lib.hid hb
  generalize grow (redrawn w dq) osq = w1 at *
  clear K0 hb
  have k1 := hR.out.c0
  have f1 := hR.out.fb 0
  have HC1 := Lib.hid (cw_trans (cw_below (T := own4 b e p t) HB.out) (cw_set b e p t w1 b 0 (.int .u64 (z : Nat)) (.inl rfl) (by rw [k1]; rfl)))
  have R1 := hR.out.num 0 z (by decide)
  rw [if_pos rfl, if_neg (by decide), if_neg (by decide)] at R1
  have HR1 := Lib.hid R1
  refine wpAny_ready (rs := [10]) (by decide +kernel) (by simp) ?_
  refine AllReady.cons rfl (fun K hK => ?_) AllReady.nil
  go_simp
  try go_wp2_with fail
  refine wpAny_done (by decide +kernel) ?_ _
  clear k1 f1 R1 hR HB h0
  generalize w1.setCell ⟨b, 0, none⟩ (.int .u64 (z : Nat)) = w2 at *
  have HQ := Lib.hid (come_raw b e p t ce cp ct z v s S w2 HR1 zl hv hs)
  go_wp2_with fail
  refine HQ.out.mono ?_; rintro e0 w5 ⟨rfl, w6, hb, rfl⟩
  have HR6 := Lib.hid (HR1.out.below hb)
  have k1 := HR6.out.c1
  obtain ⟨q1, q2, q3, q4⟩ := come_bits (S := S) (n := 1) (x := false) B1.out h.out.bv h.out.bs h.out.inv h.out.ok (by decide)
  have R6 := HR6.out.num 1 (v ||| (z &&& (18446744073709551615 - s))) (by decide)
  rw [if_neg (by decide), if_pos rfl, if_neg (by decide)] at R6
  have HF : Hid (RetZ (.bool true) b e p t ce cp ct (comeF (S.setUp 1 false) 1) w (.returned (.bool true)) (w6.setCell ⟨b, 1, none⟩ (.int .u64 ((v ||| (z &&& (18446744073709551615 - s)) : Nat) : Int)))) :=
    ⟨rfl, ⟨_, _, _, raw_congr R6 (come_same S _ _).1 (come_same S _ _).2.1 (come_same S _ _).2.2, q3, q1, q2, (h.out.ok.setUp 1 _).come 1, q4⟩, cw_trans (cw_trans HC1.out (cw_below hb)) (cw_set b e p t w6 b 1 _ (.inl rfl) (by rw [k1]; rfl))⟩
  clear R6 k1 q1 q2 q3 q4 hb
  go_wp2_with fail
  go_ret
  exact HF.out
set_option maxRecDepth 100000 in
theorem line_11 (b e p t ce cp ct u v s : Nat) (S : St) (w : World) (h : Hid (IsRP w b e p t ce cp ct u v s S)) :
    Calls Tryz.prog 56 #[.pointer (some ⟨b, 0, none⟩), .int .i64 1, .bool true] w (RetZ (.bool true) b e p t ce cp ct (comeF (S.setUp 1 true) 1) w) := by
  have hu := h.out.bu.lt; have hv := h.out.bv.lt; have hs := h.out.bs.lt
  have a1 : bits .andNot .u64 (u : Int) 2 = ((u &&& 18446744073709551615 - 2 : Nat) : Int) := andNot64 u 2 (by omega) (by decide)
  have B1 := Lib.hid (h.out.bu.off (n := 1) (by decide))
  rw [show (18446744073709551615 - 2 ^ 1 : Nat) = 18446744073709551615 - 2 from rfl] at B1
  obtain ⟨z, hz⟩ : ∃ z, z = u &&& 18446744073709551615 - 2 := ⟨_, rfl⟩
  rw [← hz] at a1 B1
  have zl := B1.out.lt
  have a2 : bits .or .u64 (z : Int) 2 = ((z ||| 2 : Nat) : Int) := u64_or_nat z 2 (by omega) (by decide)
  have B2 := Lib.hid (B1.out.on (n := 1) (by decide))
  rw [show (2 ^ 1 : Nat) = 2 from rfl] at B2
  obtain ⟨y, hy⟩ : ∃ y, y = z ||| 2 := ⟨_, rfl⟩
  rw [← hy] at a2 B2
  have yl := B2.out.lt
  have B3 : Hid (Bits y (set S.up 1 true)) := B2.out.congr (fun k _ => by
    by_cases q : k = 1
    · subst q; rw [set_same2, set_same2]
    · rw [set_ne2 _ _ _ _ q, set_ne2 _ _ _ _ q, set_ne2 _ _ _ _ q])
  clear hy B2
  have K0 := cell_regrown h.out.raw.c0
  have h0 := Lib.hid h.out.raw
  clear hz hu
  go_enter Tryz.func56, Tryz.ntmps56
  go_wp2_with fail
  refine wp_region_below_head 10 1 #[true, true, true, true, true, true, true, true, true, true, false] (by kernel_rfl) (by kernel_rfl) rfl ?_
  simp only [List.take_succ_cons, List.take_zero]
  iterate 10 (go_big_quiet_step (fail))
  refine wpQuiet_nil ?_
  intro _ hw'
  obtain ⟨⟨dq, osq⟩, hw''⟩ := hw'
  subst hw''
  have hb := below_regrown w dq osq
  have hR := Lib.hid (h0.out.below hb)
  have HB := Lib.hid hb
  generalize grow (redrawn w dq) osq = w1 at *
  clear K0 hb
  have k1 := hR.out.c0
  have f1 := hR.out.fb 0
  have HC1 := Lib.hid (cw_trans (cw_below (T := own4 b e p t) HB.out) (cw_set b e p t w1 b 0 (.int .u64 (z : Nat)) (.inl rfl) (by rw [k1]; rfl)))
  have R1 := hR.out.num 0 z (by decide)
  rw [if_pos rfl, if_neg (by decide), if_neg (by decide)] at R1
  have HR1 := Lib.hid R1
  refine wpAny_ready (rs := [10]) (by decide +kernel) (by simp) ?_
  refine AllReady.cons rfl (fun K hK => ?_) AllReady.nil
  go_simp
  try go_wp2_with fail
  refine wpAny_done (by decide +kernel) ?_ _
  clear k1 f1 R1 hR HB h0
  generalize w1.setCell ⟨b, 0, none⟩ (.int .u64 (z : Nat)) = w2 at *
  have K0 := cell_regrown HR1.out.c0
  go_wp2_with fail
  refine wp_region_below_head 10 1 #[true, true, true, true, true, true, true, true, true, true, false] (by kernel_rfl) (by kernel_rfl) rfl ?_
  simp only [List.take_succ_cons, List.take_zero]
  iterate 10 (go_big_quiet_step (fail))
  refine wpQuiet_nil ?_
  intro _ hw'
  obtain ⟨⟨dq, osq⟩, hw''⟩ := hw'
  subst hw''
  have hb := below_regrown w2 dq osq
  have hR := Lib.hid (HR1.out.below hb)
  have HB := Lib.hid hb
  generalize grow (redrawn w2 dq) osq = w3 at *
  clear K0 hb
  have k1 := hR.out.c0
  have f1 := hR.out.fb 0
  have HC2 := Lib.hid (cw_trans (cw_trans HC1.out (cw_below (T := own4 b e p t) HB.out)) (cw_set b e p t w3 b 0 (.int .u64 (y : Nat)) (.inl rfl) (by rw [k1]; rfl)))
  have R1 := hR.out.num 0 y (by decide)
  rw [if_pos rfl, if_neg (by decide), if_neg (by decide)] at R1
  have HR2 := Lib.hid R1
  refine wpAny_ready (rs := [10]) (by decide +kernel) (by simp) ?_
  refine AllReady.cons rfl (fun K hK => ?_) AllReady.nil
  go_simp
  try go_wp2_with fail
  refine wpAny_done (by decide +kernel) ?_ _
  clear k1 f1 R1 hR HB HR1 HC1
  generalize w3.setCell ⟨b, 0, none⟩ (.int .u64 (y : Nat)) = w4 at *
  have HQ := Lib.hid (come_raw b e p t ce cp ct y v s S w4 HR2 yl hv hs)
  go_wp2_with fail
  refine HQ.out.mono ?_; rintro e0 w5 ⟨rfl, w6, hb, rfl⟩
  have HR6 := Lib.hid (HR2.out.below hb)
  have k1 := HR6.out.c1
  obtain ⟨q1, q2, q3, q4⟩ := come_bits (S := S) (n := 1) (x := true) B3.out h.out.bv h.out.bs h.out.inv h.out.ok (by decide)
  have R6 := HR6.out.num 1 (v ||| (y &&& (18446744073709551615 - s))) (by decide)
  rw [if_neg (by decide), if_pos rfl, if_neg (by decide)] at R6
  have HF : Hid (RetZ (.bool true) b e p t ce cp ct (comeF (S.setUp 1 true) 1) w (.returned (.bool true)) (w6.setCell ⟨b, 1, none⟩ (.int .u64 ((v ||| (y &&& (18446744073709551615 - s)) : Nat) : Int)))) :=
    ⟨rfl, ⟨_, _, _, raw_congr R6 (come_same S _ _).1 (come_same S _ _).2.1 (come_same S _ _).2.2, q3, q1, q2, (h.out.ok.setUp 1 _).come 1, q4⟩, cw_trans (cw_trans HC2.out (cw_below hb)) (cw_set b e p t w6 b 1 _ (.inl rfl) (by rw [k1]; rfl))⟩
  clear R6 k1 q1 q2 q3 q4 hb
  go_wp2_with fail
  go_ret
  exact HF.out
set_option maxRecDepth 100000 in
theorem line_20 (b e p t ce cp ct u v s : Nat) (S : St) (w : World) (h : Hid (IsRP w b e p t ce cp ct u v s S)) :
    Calls Tryz.prog 56 #[.pointer (some ⟨b, 0, none⟩), .int .i64 2, .bool false] w (RetZ (.bool true) b e p t ce cp ct (comeF (S.setUp 2 false) 2) w) := by
  have hu := h.out.bu.lt; have hv := h.out.bv.lt; have hs := h.out.bs.lt
  have a1 : bits .andNot .u64 (u : Int) 4 = ((u &&& 18446744073709551615 - 4 : Nat) : Int) := andNot64 u 4 (by omega) (by decide)
  have B1 := Lib.hid (h.out.bu.off (n := 2) (by decide))
  rw [show (18446744073709551615 - 2 ^ 2 : Nat) = 18446744073709551615 - 4 from rfl] at B1
  obtain ⟨z, hz⟩ : ∃ z, z = u &&& 18446744073709551615 - 4 := ⟨_, rfl⟩
  rw [← hz] at a1 B1
  have zl := B1.out.lt
  have K0 := cell_regrown h.out.raw.c0
  have h0 := Lib.hid h.out.raw
  clear hz hu
  go_enter Tryz.func56, Tryz.ntmps56
  go_wp2_with fail
  refine wp_region_below_head 10 1 #[true, true, true, true, true, true, true, true, true, true, false] (by kernel_rfl) (by kernel_rfl) rfl ?_
  simp only [List.take_succ_cons, List.take_zero]
  iterate 10 (go_big_quiet_step (fail))
  refine wpQuiet_nil ?_
  intro _ hw'
  obtain ⟨⟨dq, osq⟩, hw''⟩ := hw'
  subst hw''
  have hb := below_regrown w dq osq
  have hR := Lib.hid (h0.out.below hb)
  have HB := Lib.hid hb
  generalize grow (redrawn w dq) osq = w1 at *
  clear K0 hb
  have k1 := hR.out.c0
  have f1 := hR.out.fb 0
  have HC1 := Lib.hid (cw_trans (cw_below (T := own4 b e p t) HB.out) (cw_set b e p t w1 b 0 (.int .u64 (z : Nat)) (.inl rfl) (by rw [k1]; rfl)))
  have R1 := hR.out.num 0 z (by decide)
  rw [if_pos rfl, if_neg (by decide), if_neg (by decide)] at R1
  have HR1 := Lib.hid R1
  refine wpAny_ready (rs := [10]) (by decide +kernel) (by simp) ?_
  refine AllReady.cons rfl (fun K hK => ?_) AllReady.nil
  go_simp
  try go_wp2_with fail
  refine wpAny_done (by decide +kernel) ?_ _
  clear k1 f1 R1 hR HB h0
  generalize w1.setCell ⟨b, 0, none⟩ (.int .u64 (z : Nat)) = w2 at *
  have HQ := Lib.hid (come_raw b e p t ce cp ct z v s S w2 HR1 zl hv hs)
  go_wp2_with fail
  refine HQ.out.mono ?_; rintro e0 w5 ⟨rfl, w6, hb, rfl⟩
  have HR6 := Lib.hid (HR1.out.below hb)
  have k1 := HR6.out.c1
  obtain ⟨q1, q2, q3, q4⟩ := come_bits (S := S) (n := 2) (x := false) B1.out h.out.bv h.out.bs h.out.inv h.out.ok (by decide)
  have R6 := HR6.out.num 1 (v ||| (z &&& (18446744073709551615 - s))) (by decide)
  rw [if_neg (by decide), if_pos rfl, if_neg (by decide)] at R6
  have HF : Hid (RetZ (.bool true) b e p t ce cp ct (comeF (S.setUp 2 false) 2) w (.returned (.bool true)) (w6.setCell ⟨b, 1, none⟩ (.int .u64 ((v ||| (z &&& (18446744073709551615 - s)) : Nat) : Int)))) :=
    ⟨rfl, ⟨_, _, _, raw_congr R6 (come_same S _ _).1 (come_same S _ _).2.1 (come_same S _ _).2.2, q3, q1, q2, (h.out.ok.setUp 2 _).come 2, q4⟩, cw_trans (cw_trans HC1.out (cw_below hb)) (cw_set b e p t w6 b 1 _ (.inl rfl) (by rw [k1]; rfl))⟩
  clear R6 k1 q1 q2 q3 q4 hb
  go_wp2_with fail
  go_ret
  exact HF.out
set_option maxRecDepth 100000 in
theorem line_21 (b e p t ce cp ct u v s : Nat) (S : St) (w : World) (h : Hid (IsRP w b e p t ce cp ct u v s S)) :
    Calls Tryz.prog 56 #[.pointer (some ⟨b, 0, none⟩), .int .i64 2, .bool true] w (RetZ (.bool true) b e p t ce cp ct (comeF (S.setUp 2 true) 2) w) := by
  have hu := h.out.bu.lt; have hv := h.out.bv.lt; have hs := h.out.bs.lt
  have a1 : bits .andNot .u64 (u : Int) 4 = ((u &&& 18446744073709551615 - 4 : Nat) : Int) := andNot64 u 4 (by omega) (by decide)
  have B1 := Lib.hid (h.out.bu.off (n := 2) (by decide))
  rw [show (18446744073709551615 - 2 ^ 2 : Nat) = 18446744073709551615 - 4 from rfl] at B1
  obtain ⟨z, hz⟩ : ∃ z, z = u &&& 18446744073709551615 - 4 := ⟨_, rfl⟩
  rw [← hz] at a1 B1
  have zl := B1.out.lt
  have a2 : bits .or .u64 (z : Int) 4 = ((z ||| 4 : Nat) : Int) := u64_or_nat z 4 (by omega) (by decide)
  have B2 := Lib.hid (B1.out.on (n := 2) (by decide))
  rw [show (2 ^ 2 : Nat) = 4 from rfl] at B2
  obtain ⟨y, hy⟩ : ∃ y, y = z ||| 4 := ⟨_, rfl⟩
  rw [← hy] at a2 B2
  have yl := B2.out.lt
  have B3 : Hid (Bits y (set S.up 2 true)) := B2.out.congr (fun k _ => by
    by_cases q : k = 2
    · subst q; rw [set_same2, set_same2]
    · rw [set_ne2 _ _ _ _ q, set_ne2 _ _ _ _ q, set_ne2 _ _ _ _ q])
  clear hy B2
  have K0 := cell_regrown h.out.raw.c0
  have h0 := Lib.hid h.out.raw
  clear hz hu
  go_enter Tryz.func56, Tryz.ntmps56
  go_wp2_with fail
  refine wp_region_below_head 10 1 #[true, true, true, true, true, true, true, true, true, true, false] (by kernel_rfl) (by kernel_rfl) rfl ?_
  simp only [List.take_succ_cons, List.take_zero]
  iterate 10 (go_big_quiet_step (fail))
  refine wpQuiet_nil ?_
  intro _ hw'
  obtain ⟨⟨dq, osq⟩, hw''⟩ := hw'
  subst hw''
  have hb := below_regrown w dq osq
  have hR := Lib.hid (h0.out.below hb)
  have HB := Lib.hid hb
  generalize grow (redrawn w dq) osq = w1 at *
  clear K0 hb
  have k1 := hR.out.c0
  have f1 := hR.out.fb 0
  have HC1 := Lib.hid (cw_trans (cw_below (T := own4 b e p t) HB.out) (cw_set b e p t w1 b 0 (.int .u64 (z : Nat)) (.inl rfl) (by rw [k1]; rfl)))
  have R1 := hR.out.num 0 z (by decide)
  rw [if_pos rfl, if_neg (by decide), if_neg (by decide)] at R1
  have HR1 := Lib.hid R1
  refine wpAny_ready (rs := [10]) (by decide +kernel) (by simp) ?_
  refine AllReady.cons rfl (fun K hK => ?_) AllReady.nil
  go_simp
  try go_wp2_with fail
  refine wpAny_done (by decide +kernel) ?_ _
  clear k1 f1 R1 hR HB h0
  generalize w1.setCell ⟨b, 0, none⟩ (.int .u64 (z : Nat)) = w2 at *
  have K0 := cell_regrown HR1.out.c0
  go_wp2_with fail
  refine wp_region_below_head 10 1 #[true, true, true, true, true, true, true, true, true, true, false] (by kernel_rfl) (by kernel_rfl) rfl ?_
  simp only [List.take_succ_cons, List.take_zero]
  iterate 10 (go_big_quiet_step (fail))
  refine wpQuiet_nil ?_
  intro _ hw'
  obtain ⟨⟨dq, osq⟩, hw''⟩ := hw'
  subst hw''
  have hb := below_regrown w2 dq osq
  have hR := Lib.hid (HR1.out.below hb)
  have HB := Lib.hid hb
  generalize grow (redrawn w2 dq) osq = w3 at *
  clear K0 hb
  have k1 := hR.out.c0
  have f1 := hR.out.fb 0
  have HC2 := Lib.hid (cw_trans (cw_trans HC1.out (cw_below (T := own4 b e p t) HB.out)) (cw_set b e p t w3 b 0 (.int .u64 (y : Nat)) (.inl rfl) (by rw [k1]; rfl)))
  have R1 := hR.out.num 0 y (by decide)
  rw [if_pos rfl, if_neg (by decide), if_neg (by decide)] at R1
  have HR2 := Lib.hid R1
  refine wpAny_ready (rs := [10]) (by decide +kernel) (by simp) ?_
  refine AllReady.cons rfl (fun K hK => ?_) AllReady.nil
  go_simp
  try go_wp2_with fail
  refine wpAny_done (by decide +kernel) ?_ _
  clear k1 f1 R1 hR HB HR1 HC1
  generalize w3.setCell ⟨b, 0, none⟩ (.int .u64 (y : Nat)) = w4 at *
  have HQ := Lib.hid (come_raw b e p t ce cp ct y v s S w4 HR2 yl hv hs)
  go_wp2_with fail
  refine HQ.out.mono ?_; rintro e0 w5 ⟨rfl, w6, hb, rfl⟩
  have HR6 := Lib.hid (HR2.out.below hb)
  have k1 := HR6.out.c1
  obtain ⟨q1, q2, q3, q4⟩ := come_bits (S := S) (n := 2) (x := true) B3.out h.out.bv h.out.bs h.out.inv h.out.ok (by decide)
  have R6 := HR6.out.num 1 (v ||| (y &&& (18446744073709551615 - s))) (by decide)
  rw [if_neg (by decide), if_pos rfl, if_neg (by decide)] at R6
  have HF : Hid (RetZ (.bool true) b e p t ce cp ct (comeF (S.setUp 2 true) 2) w (.returned (.bool true)) (w6.setCell ⟨b, 1, none⟩ (.int .u64 ((v ||| (y &&& (18446744073709551615 - s)) : Nat) : Int)))) :=
    ⟨rfl, ⟨_, _, _, raw_congr R6 (come_same S _ _).1 (come_same S _ _).2.1 (come_same S _ _).2.2, q3, q1, q2, (h.out.ok.setUp 2 _).come 2, q4⟩, cw_trans (cw_trans HC2.out (cw_below hb)) (cw_set b e p t w6 b 1 _ (.inl rfl) (by rw [k1]; rfl))⟩
  clear R6 k1 q1 q2 q3 q4 hb
  go_wp2_with fail
  go_ret
  exact HF.out
set_option maxRecDepth 100000 in
theorem line_30 (b e p t ce cp ct u v s : Nat) (S : St) (w : World) (h : Hid (IsRP w b e p t ce cp ct u v s S)) :
    Calls Tryz.prog 56 #[.pointer (some ⟨b, 0, none⟩), .int .i64 3, .bool false] w (RetZ (.bool true) b e p t ce cp ct (comeF (S.setUp 3 false) 3) w) := by
  have hu := h.out.bu.lt; have hv := h.out.bv.lt; have hs := h.out.bs.lt
  have a1 : bits .andNot .u64 (u : Int) 8 = ((u &&& 18446744073709551615 - 8 : Nat) : Int) := andNot64 u 8 (by omega) (by decide)
  have B1 := Lib.hid (h.out.bu.off (n := 3) (by decide))
  rw [show (18446744073709551615 - 2 ^ 3 : Nat) = 18446744073709551615 - 8 from rfl] at B1
  obtain ⟨z, hz⟩ : ∃ z, z = u &&& 18446744073709551615 - 8 := ⟨_, rfl⟩
  rw [← hz] at a1 B1
  have zl := B1.out.lt
  have K0 := cell_regrown h.out.raw.c0
  have h0 := Lib.hid h.out.raw
  clear hz hu
  go_enter Tryz.func56, Tryz.ntmps56
  go_wp2_with fail
  refine wp_region_below_head 10 1 #[true, true, true, true, true, true, true, true, true, true, false] (by kernel_rfl) (by kernel_rfl) rfl ?_
  simp only [List.take_succ_cons, List.take_zero]
  iterate 10 (go_big_quiet_step (fail))
  refine wpQuiet_nil ?_
  intro _ hw'
  obtain ⟨⟨dq, osq⟩, hw''⟩ := hw'
  subst hw''
  have hb := below_regrown w dq osq
  have hR := Lib.hid (h0.out.below hb)
  have HB := Lib.hid hb
  generalize grow (redrawn w dq) osq = w1 at *
  clear K0 hb
  have k1 := hR.out.c0
  have f1 := hR.out.fb 0
  have HC1 := Lib.hid (cw_trans (cw_below (T := own4 b e p t) HB.out) (cw_set b e p t w1 b 0 (.int .u64 (z : Nat)) (.inl rfl) (by rw [k1]; rfl)))
  have R1 := hR.out.num 0 z (by decide)
  rw [if_pos rfl, if_neg (by decide), if_neg (by decide)] at R1
  have HR1 := Lib.hid R1
  refine wpAny_ready (rs := [10]) (by decide +kernel) (by simp) ?_
  refine AllReady.cons rfl (fun K hK => ?_) AllReady.nil
  go_simp
  try go_wp2_with fail
  refine wpAny_done (by decide +kernel) ?_ _
  clear k1 f1 R1 hR HB h0
  generalize w1.setCell ⟨b, 0, none⟩ (.int .u64 (z : Nat)) = w2 at *
  have HQ := Lib.hid (come_raw b e p t ce cp ct z v s S w2 HR1 zl hv hs)
  go_wp2_with fail
  refine HQ.out.mono ?_; rintro e0 w5 ⟨rfl, w6, hb, rfl⟩
  have HR6 := Lib.hid (HR1.out.below hb)
  have k1 := HR6.out.c1
  obtain ⟨q1, q2, q3, q4⟩ := come_bits (S := S) (n := 3) (x := false) B1.out h.out.bv h.out.bs h.out.inv h.out.ok (by decide)
  have R6 := HR6.out.num 1 (v ||| (z &&& (18446744073709551615 - s))) (by decide)
  rw [if_neg (by decide), if_pos rfl, if_neg (by decide)] at R6
  have HF : Hid (RetZ (.bool true) b e p t ce cp ct (comeF (S.setUp 3 false) 3) w (.returned (.bool true)) (w6.setCell ⟨b, 1, none⟩ (.int .u64 ((v ||| (z &&& (18446744073709551615 - s)) : Nat) : Int)))) :=
    ⟨rfl, ⟨_, _, _, raw_congr R6 (come_same S _ _).1 (come_same S _ _).2.1 (come_same S _ _).2.2, q3, q1, q2, (h.out.ok.setUp 3 _).come 3, q4⟩, cw_trans (cw_trans HC1.out (cw_below hb)) (cw_set b e p t w6 b 1 _ (.inl rfl) (by rw [k1]; rfl))⟩
  clear R6 k1 q1 q2 q3 q4 hb
  go_wp2_with fail
  go_ret
  exact HF.out
set_option maxRecDepth 100000 in
theorem line_31 (b e p t ce cp ct u v s : Nat) (S : St) (w : World) (h : Hid (IsRP w b e p t ce cp ct u v s S)) :
    Calls Tryz.prog 56 #[.pointer (some ⟨b, 0, none⟩), .int .i64 3, .bool true] w (RetZ (.bool true) b e p t ce cp ct (comeF (S.setUp 3 true) 3) w) := by
  have hu := h.out.bu.lt; have hv := h.out.bv.lt; have hs := h.out.bs.lt
  have a1 : bits .andNot .u64 (u : Int) 8 = ((u &&& 18446744073709551615 - 8 : Nat) : Int) := andNot64 u 8 (by omega) (by decide)
  have B1 := Lib.hid (h.out.bu.off (n := 3) (by decide))
  rw [show (18446744073709551615 - 2 ^ 3 : Nat) = 18446744073709551615 - 8 from rfl] at B1
  obtain ⟨z, hz⟩ : ∃ z, z = u &&& 18446744073709551615 - 8 := ⟨_, rfl⟩
  rw [← hz] at a1 B1
  have zl := B1.out.lt
  have a2 : bits .or .u64 (z : Int) 8 = ((z ||| 8 : Nat) : Int) := u64_or_nat z 8 (by omega) (by decide)
  have B2 := Lib.hid (B1.out.on (n := 3) (by decide))
  rw [show (2 ^ 3 : Nat) = 8 from rfl] at B2
  obtain ⟨y, hy⟩ : ∃ y, y = z ||| 8 := ⟨_, rfl⟩
  rw [← hy] at a2 B2
  have yl := B2.out.lt
  have B3 : Hid (Bits y (set S.up 3 true)) := B2.out.congr (fun k _ => by
    by_cases q : k = 3
    · subst q; rw [set_same2, set_same2]
    · rw [set_ne2 _ _ _ _ q, set_ne2 _ _ _ _ q, set_ne2 _ _ _ _ q])
  clear hy B2
  have K0 := cell_regrown h.out.raw.c0
  have h0 := Lib.hid h.out.raw
  clear hz hu
  go_enter Tryz.func56, Tryz.ntmps56
  go_wp2_with fail
  refine wp_region_below_head 10 1 #[true, true, true, true, true, true, true, true, true, true, false] (by kernel_rfl) (by kernel_rfl) rfl ?_
  simp only [List.take_succ_cons, List.take_zero]
  iterate 10 (go_big_quiet_step (fail))
  refine wpQuiet_nil ?_
  intro _ hw'
  obtain ⟨⟨dq, osq⟩, hw''⟩ := hw'
  subst hw''
  have hb := below_regrown w dq osq
  have hR := Lib.hid (h0.out.below hb)
  have HB := Lib.hid hb
  generalize grow (redrawn w dq) osq = w1 at *
  clear K0 hb
  have k1 := hR.out.c0
  have f1 := hR.out.fb 0
  have HC1 := Lib.hid (cw_trans (cw_below (T := own4 b e p t) HB.out) (cw_set b e p t w1 b 0 (.int .u64 (z : Nat)) (.inl rfl) (by rw [k1]; rfl)))
  have R1 := hR.out.num 0 z (by decide)
  rw [if_pos rfl, if_neg (by decide), if_neg (by decide)] at R1
  have HR1 := Lib.hid R1
  refine wpAny_ready (rs := [10]) (by decide +kernel) (by simp) ?_
  refine AllReady.cons rfl (fun K hK => ?_) AllReady.nil
  go_simp
  try go_wp2_with fail
  refine wpAny_done (by decide +kernel) ?_ _
  clear k1 f1 R1 hR HB h0
  generalize w1.setCell ⟨b, 0, none⟩ (.int .u64 (z : Nat)) = w2 at *
  have K0 := cell_regrown HR1.out.c0
  go_wp2_with fail
  refine wp_region_below_head 10 1 #[true, true, true, true, true, true, true, true, true, true, false] (by kernel_rfl) (by kernel_rfl) rfl ?_
  simp only [List.take_succ_cons, List.take_zero]
  iterate 10 (go_big_quiet_step (fail))
  refine wpQuiet_nil ?_
  intro _ hw'
  obtain ⟨⟨dq, osq⟩, hw''⟩ := hw'
  subst hw''
  have hb := below_regrown w2 dq osq
  have hR := Lib.hid (HR1.out.below hb)
  have HB := Lib.hid hb
  generalize grow (redrawn w2 dq) osq = w3 at *
  clear K0 hb
  have k1 := hR.out.c0
  have f1 := hR.out.fb 0
  have HC2 := Lib.hid (cw_trans (cw_trans HC1.out (cw_below (T := own4 b e p t) HB.out)) (cw_set b e p t w3 b 0 (.int .u64 (y : Nat)) (.inl rfl) (by rw [k1]; rfl)))
  have R1 := hR.out.num 0 y (by decide)
  rw [if_pos rfl, if_neg (by decide), if_neg (by decide)] at R1
  have HR2 := Lib.hid R1
  refine wpAny_ready (rs := [10]) (by decide +kernel) (by simp) ?_
  refine AllReady.cons rfl (fun K hK => ?_) AllReady.nil
  go_simp
  try go_wp2_with fail
  refine wpAny_done (by decide +kernel) ?_ _
  clear k1 f1 R1 hR HB HR1 HC1
  generalize w3.setCell ⟨b, 0, none⟩ (.int .u64 (y : Nat)) = w4 at *
  have HQ := Lib.hid (come_raw b e p t ce cp ct y v s S w4 HR2 yl hv hs)
  go_wp2_with fail
  refine HQ.out.mono ?_; rintro e0 w5 ⟨rfl, w6, hb, rfl⟩
  have HR6 := Lib.hid (HR2.out.below hb)
  have k1 := HR6.out.c1
  obtain ⟨q1, q2, q3, q4⟩ := come_bits (S := S) (n := 3) (x := true) B3.out h.out.bv h.out.bs h.out.inv h.out.ok (by decide)
  have R6 := HR6.out.num 1 (v ||| (y &&& (18446744073709551615 - s))) (by decide)
  rw [if_neg (by decide), if_pos rfl, if_neg (by decide)] at R6
  have HF : Hid (RetZ (.bool true) b e p t ce cp ct (comeF (S.setUp 3 true) 3) w (.returned (.bool true)) (w6.setCell ⟨b, 1, none⟩ (.int .u64 ((v ||| (y &&& (18446744073709551615 - s)) : Nat) : Int)))) :=
    ⟨rfl, ⟨_, _, _, raw_congr R6 (come_same S _ _).1 (come_same S _ _).2.1 (come_same S _ _).2.2, q3, q1, q2, (h.out.ok.setUp 3 _).come 3, q4⟩, cw_trans (cw_trans HC2.out (cw_below hb)) (cw_set b e p t w6 b 1 _ (.inl rfl) (by rw [k1]; rfl))⟩
  clear R6 k1 q1 q2 q3 q4 hb
  go_wp2_with fail
  go_ret
  exact HF.out
set_option maxRecDepth 100000 in
theorem line_40 (b e p t ce cp ct u v s : Nat) (S : St) (w : World) (h : Hid (IsRP w b e p t ce cp ct u v s S)) :
    Calls Tryz.prog 56 #[.pointer (some ⟨b, 0, none⟩), .int .i64 4, .bool false] w (RetZ (.bool true) b e p t ce cp ct (comeF (S.setUp 4 false) 4) w) := by
  have hu := h.out.bu.lt; have hv := h.out.bv.lt; have hs := h.out.bs.lt
  have a1 : bits .andNot .u64 (u : Int) 16 = ((u &&& 18446744073709551615 - 16 : Nat) : Int) := andNot64 u 16 (by omega) (by decide)
  have B1 := Lib.hid (h.out.bu.off (n := 4) (by decide))
  rw [show (18446744073709551615 - 2 ^ 4 : Nat) = 18446744073709551615 - 16 from rfl] at B1
  obtain ⟨z, hz⟩ : ∃ z, z = u &&& 18446744073709551615 - 16 := ⟨_, rfl⟩
  rw [← hz] at a1 B1
  have zl := B1.out.lt
  have K0 := cell_regrown h.out.raw.c0
  have h0 := Lib.hid h.out.raw
  clear hz hu
  go_enter Tryz.func56, Tryz.ntmps56
  go_wp2_with fail
  refine wp_region_below_head 10 1 #[true, true, true, true, true, true, true, true, true, true, false] (by kernel_rfl) (by kernel_rfl) rfl ?_
  simp only [List.take_succ_cons, List.take_zero]
  iterate 10 (go_big_quiet_step (fail))
  refine wpQuiet_nil ?_
  intro _ hw'
  obtain ⟨⟨dq, osq⟩, hw''⟩ := hw'
  subst hw''
  have hb := below_regrown w dq osq
  have hR := Lib.hid (h0.out.below hb)
  have HB := Lib.hid hb
  generalize grow (redrawn w dq) osq = w1 at *
  clear K0 hb
  have k1 := hR.out.c0
  have f1 := hR.out.fb 0
  have HC1 := Lib.hid (cw_trans (cw_below (T := own4 b e p t) HB.out) (cw_set b e p t w1 b 0 (.int .u64 (z : Nat)) (.inl rfl) (by rw [k1]; rfl)))
  have R1 := hR.out.num 0 z (by decide)
  rw [if_pos rfl, if_neg (by decide), if_neg (by decide)] at R1
  have HR1 := Lib.hid R1
  refine wpAny_ready (rs := [10]) (by decide +kernel) (by simp) ?_
  refine AllReady.cons rfl (fun K hK => ?_) AllReady.nil
  go_simp
  try go_wp2_with fail
  refine wpAny_done (by decide +kernel) ?_ _
  clear k1 f1 R1 hR HB h0
  generalize w1.setCell ⟨b, 0, none⟩ (.int .u64 (z : Nat)) = w2 at *
  have HQ := Lib.hid (come_raw b e p t ce cp ct z v s S w2 HR1 zl hv hs)
  go_wp2_with fail
  refine HQ.out.mono ?_; rintro e0 w5 ⟨rfl, w6, hb, rfl⟩
  have HR6 := Lib.hid (HR1.out.below hb)
  have k1 := HR6.out.c1
  obtain ⟨q1, q2, q3, q4⟩ := come_bits (S := S) (n := 4) (x := false) B1.out h.out.bv h.out.bs h.out.inv h.out.ok (by decide)
  have R6 := HR6.out.num 1 (v ||| (z &&& (18446744073709551615 - s))) (by decide)
  rw [if_neg (by decide), if_pos rfl, if_neg (by decide)] at R6
  have HF : Hid (RetZ (.bool true) b e p t ce cp ct (comeF (S.setUp 4 false) 4) w (.returned (.bool true)) (w6.setCell ⟨b, 1, none⟩ (.int .u64 ((v ||| (z &&& (18446744073709551615 - s)) : Nat) : Int)))) :=
    ⟨rfl, ⟨_, _, _, raw_congr R6 (come_same S _ _).1 (come_same S _ _).2.1 (come_same S _ _).2.2, q3, q1, q2, (h.out.ok.setUp 4 _).come 4, q4⟩, cw_trans (cw_trans HC1.out (cw_below hb)) (cw_set b e p t w6 b 1 _ (.inl rfl) (by rw [k1]; rfl))⟩
  clear R6 k1 q1 q2 q3 q4 hb
  go_wp2_with fail
  go_ret
  exact HF.out
set_option maxRecDepth 100000 in
theorem line_41 (b e p t ce cp ct u v s : Nat) (S : St) (w : World) (h : Hid (IsRP w b e p t ce cp ct u v s S)) :
    Calls Tryz.prog 56 #[.pointer (some ⟨b, 0, none⟩), .int .i64 4, .bool true] w (RetZ (.bool true) b e p t ce cp ct (comeF (S.setUp 4 true) 4) w) := by
  have hu := h.out.bu.lt; have hv := h.out.bv.lt; have hs := h.out.bs.lt
  have a1 : bits .andNot .u64 (u : Int) 16 = ((u &&& 18446744073709551615 - 16 : Nat) : Int) := andNot64 u 16 (by omega) (by decide)
  have B1 := Lib.hid (h.out.bu.off (n := 4) (by decide))
  rw [show (18446744073709551615 - 2 ^ 4 : Nat) = 18446744073709551615 - 16 from rfl] at B1
  obtain ⟨z, hz⟩ : ∃ z, z = u &&& 18446744073709551615 - 16 := ⟨_, rfl⟩
  rw [← hz] at a1 B1
  have zl := B1.out.lt
  have a2 : bits .or .u64 (z : Int) 16 = ((z ||| 16 : Nat) : Int) := u64_or_nat z 16 (by omega) (by decide)
  have B2 := Lib.hid (B1.out.on (n := 4) (by decide))
  rw [show (2 ^ 4 : Nat) = 16 from rfl] at B2
  obtain ⟨y, hy⟩ : ∃ y, y = z ||| 16 := ⟨_, rfl⟩
  rw [← hy] at a2 B2
  have yl := B2.out.lt
  have B3 : Hid (Bits y (set S.up 4 true)) := B2.out.congr (fun k _ => by
    by_cases q : k = 4
    · subst q; rw [set_same2, set_same2]
    · rw [set_ne2 _ _ _ _ q, set_ne2 _ _ _ _ q, set_ne2 _ _ _ _ q])
  clear hy B2
  have K0 := cell_regrown h.out.raw.c0
  have h0 := Lib.hid h.out.raw
  clear hz hu
  go_enter Tryz.func56, Tryz.ntmps56
  go_wp2_with fail
  refine wp_region_below_head 10 1 #[true, true, true, true, true, true, true, true, true, true, false] (by kernel_rfl) (by kernel_rfl) rfl ?_
  simp only [List.take_succ_cons, List.take_zero]
  iterate 10 (go_big_quiet_step (fail))
  refine wpQuiet_nil ?_
  intro _ hw'
  obtain ⟨⟨dq, osq⟩, hw''⟩ := hw'
  subst hw''
  have hb := below_regrown w dq osq
  have hR := Lib.hid (h0.out.below hb)
  have HB := Lib.hid hb
  generalize grow (redrawn w dq) osq = w1 at *
  clear K0 hb
  have k1 := hR.out.c0
  have f1 := hR.out.fb 0
  have HC1 := Lib.hid (cw_trans (cw_below (T := own4 b e p t) HB.out) (cw_set b e p t w1 b 0 (.int .u64 (z : Nat)) (.inl rfl) (by rw [k1]; rfl)))
  have R1 := hR.out.num 0 z (by decide)
  rw [if_pos rfl, if_neg (by decide), if_neg (by decide)] at R1
  have HR1 := Lib.hid R1
  refine wpAny_ready (rs := [10]) (by decide +kernel) (by simp) ?_
  refine AllReady.cons rfl (fun K hK => ?_) AllReady.nil
  go_simp
  try go_wp2_with fail
  refine wpAny_done (by decide +kernel) ?_ _
  clear k1 f1 R1 hR HB h0
  generalize w1.setCell ⟨b, 0, none⟩ (.int .u64 (z : Nat)) = w2 at *
  have K0 := cell_regrown HR1.out.c0
  go_wp2_with fail
  refine wp_region_below_head 10 1 #[true, true, true, true, true, true, true, true, true, true, false] (by kernel_rfl) (by kernel_rfl) rfl ?_
  simp only [List.take_succ_cons, List.take_zero]
  iterate 10 (go_big_quiet_step (fail))
  refine wpQuiet_nil ?_
  intro _ hw'
  obtain ⟨⟨dq, osq⟩, hw''⟩ := hw'
  subst hw''
  have hb := below_regrown w2 dq osq
  have hR := Lib.hid (HR1.out.below hb)
  have HB := Lib.hid hb
  generalize grow (redrawn w2 dq) osq = w3 at *
  clear K0 hb
  have k1 := hR.out.c0
  have f1 := hR.out.fb 0
  have HC2 := Lib.hid (cw_trans (cw_trans HC1.out (cw_below (T := own4 b e p t) HB.out)) (cw_set b e p t w3 b 0 (.int .u64 (y : Nat)) (.inl rfl) (by rw [k1]; rfl)))
  have R1 := hR.out.num 0 y (by decide)
  rw [if_pos rfl, if_neg (by decide), if_neg (by decide)] at R1
  have HR2 := Lib.hid R1
  refine wpAny_ready (rs := [10]) (by decide +kernel) (by simp) ?_
  refine AllReady.cons rfl (fun K hK => ?_) AllReady.nil
  go_simp
  try go_wp2_with fail
  refine wpAny_done (by decide +kernel) ?_ _
  clear k1 f1 R1 hR HB HR1 HC1
  generalize w3.setCell ⟨b, 0, none⟩ (.int .u64 (y : Nat)) = w4 at *
  have HQ := Lib.hid (come_raw b e p t ce cp ct y v s S w4 HR2 yl hv hs)
  go_wp2_with fail
  refine HQ.out.mono ?_; rintro e0 w5 ⟨rfl, w6, hb, rfl⟩
  have HR6 := Lib.hid (HR2.out.below hb)
  have k1 := HR6.out.c1
  obtain ⟨q1, q2, q3, q4⟩ := come_bits (S := S) (n := 4) (x := true) B3.out h.out.bv h.out.bs h.out.inv h.out.ok (by decide)
  have R6 := HR6.out.num 1 (v ||| (y &&& (18446744073709551615 - s))) (by decide)
  rw [if_neg (by decide), if_pos rfl, if_neg (by decide)] at R6
  have HF : Hid (RetZ (.bool true) b e p t ce cp ct (comeF (S.setUp 4 true) 4) w (.returned (.bool true)) (w6.setCell ⟨b, 1, none⟩ (.int .u64 ((v ||| (y &&& (18446744073709551615 - s)) : Nat) : Int)))) :=
    ⟨rfl, ⟨_, _, _, raw_congr R6 (come_same S _ _).1 (come_same S _ _).2.1 (come_same S _ _).2.2, q3, q1, q2, (h.out.ok.setUp 4 _).come 4, q4⟩, cw_trans (cw_trans HC2.out (cw_below hb)) (cw_set b e p t w6 b 1 _ (.inl rfl) (by rw [k1]; rfl))⟩
  clear R6 k1 q1 q2 q3 q4 hb
  go_wp2_with fail
  go_ret
  exact HF.out
set_option maxRecDepth 100000 in
theorem line_50 (b e p t ce cp ct u v s : Nat) (S : St) (w : World) (h : Hid (IsRP w b e p t ce cp ct u v s S)) :
    Calls Tryz.prog 56 #[.pointer (some ⟨b, 0, none⟩), .int .i64 5, .bool false] w (RetZ (.bool true) b e p t ce cp ct (comeF (S.setUp 5 false) 5) w) := by
  have hu := h.out.bu.lt; have hv := h.out.bv.lt; have hs := h.out.bs.lt
  have a1 : bits .andNot .u64 (u : Int) 32 = ((u &&& 18446744073709551615 - 32 : Nat) : Int) := andNot64 u 32 (by omega) (by decide)
  have B1 := Lib.hid (h.out.bu.off (n := 5) (by decide))
  rw [show (18446744073709551615 - 2 ^ 5 : Nat) = 18446744073709551615 - 32 from rfl] at B1
  obtain ⟨z, hz⟩ : ∃ z, z = u &&& 18446744073709551615 - 32 := ⟨_, rfl⟩
  rw [← hz] at a1 B1
  have zl := B1.out.lt
  have K0 := cell_regrown h.out.raw.c0
  have h0 := Lib.hid h.out.raw
  clear hz hu
  go_enter Tryz.func56, Tryz.ntmps56
  go_wp2_with fail
  refine wp_region_below_head 10 1 #[true, true, true, true, true, true, true, true, true, true, false] (by kernel_rfl) (by kernel_rfl) rfl ?_
  simp only [List.take_succ_cons, List.take_zero]
  iterate 10 (go_big_quiet_step (fail))
  refine wpQuiet_nil ?_
  intro _ hw'
  obtain ⟨⟨dq, osq⟩, hw''⟩ := hw'
  subst hw''
  have hb := below_regrown w dq osq
  have hR := Lib.hid (h0.out.below hb)
  have HB := Lib.hid hb
  generalize grow (redrawn w dq) osq = w1 at *
  clear K0 hb
  have k1 := hR.out.c0
  have f1 := hR.out.fb 0
  have HC1 := Lib.hid (cw_trans (cw_below (T := own4 b e p t) HB.out) (cw_set b e p t w1 b 0 (.int .u64 (z : Nat)) (.inl rfl) (by rw [k1]; rfl)))
  have R1 := hR.out.num 0 z (by decide)
  rw [if_pos rfl, if_neg (by decide), if_neg (by decide)] at R1
  have HR1 := Lib.hid R1
  refine wpAny_ready (rs := [10]) (by decide +kernel) (by simp) ?_
  refine AllReady.cons rfl (fun K hK => ?_) AllReady.nil
  go_simp
  try go_wp2_with fail
  refine wpAny_done (by decide +kernel) ?_ _
  clear k1 f1 R1 hR HB h0
  generalize w1.setCell ⟨b, 0, none⟩ (.int .u64 (z : Nat)) = w2 at *
  have HQ := Lib.hid (come_raw b e p t ce cp ct z v s S w2 HR1 zl hv hs)
  go_wp2_with fail
  refine HQ.out.mono ?_; rintro e0 w5 ⟨rfl, w6, hb, rfl⟩
  have HR6 := Lib.hid (HR1.out.below hb)
  have k1 := HR6.out.c1
  obtain ⟨q1, q2, q3, q4⟩ := come_bits (S := S) (n := 5) (x := false) B1.out h.out.bv h.out.bs h.out.inv h.out.ok (by decide)
  have R6 := HR6.out.num 1 (v ||| (z &&& (18446744073709551615 - s))) (by decide)
  rw [if_neg (by decide), if_pos rfl, if_neg (by decide)] at R6
  have HF : Hid (RetZ (.bool true) b e p t ce cp ct (comeF (S.setUp 5 false) 5) w (.returned (.bool true)) (w6.setCell ⟨b, 1, none⟩ (.int .u64 ((v ||| (z &&& (18446744073709551615 - s)) : Nat) : Int)))) :=
    ⟨rfl, ⟨_, _, _, raw_congr R6 (come_same S _ _).1 (come_same S _ _).2.1 (come_same S _ _).2.2, q3, q1, q2, (h.out.ok.setUp 5 _).come 5, q4⟩, cw_trans (cw_trans HC1.out (cw_below hb)) (cw_set b e p t w6 b 1 _ (.inl rfl) (by rw [k1]; rfl))⟩
  clear R6 k1 q1 q2 q3 q4 hb
  go_wp2_with fail
  go_ret
  exact HF.out
set_option maxRecDepth 100000 in
theorem line_51 (b e p t ce cp ct u v s : Nat) (S : St) (w : World) (h : Hid (IsRP w b e p t ce cp ct u v s S)) :
    Calls Tryz.prog 56 #[.pointer (some ⟨b, 0, none⟩), .int .i64 5, .bool true] w (RetZ (.bool true) b e p t ce cp ct (comeF (S.setUp 5 true) 5) w) := by
  have hu := h.out.bu.lt; have hv := h.out.bv.lt; have hs := h.out.bs.lt
  have a1 : bits .andNot .u64 (u : Int) 32 = ((u &&& 18446744073709551615 - 32 : Nat) : Int) := andNot64 u 32 (by omega) (by decide)
  have B1 := Lib.hid (h.out.bu.off (n := 5) (by decide))
  rw [show (18446744073709551615 - 2 ^ 5 : Nat) = 18446744073709551615 - 32 from rfl] at B1
  obtain ⟨z, hz⟩ : ∃ z, z = u &&& 18446744073709551615 - 32 := ⟨_, rfl⟩
  rw [← hz] at a1 B1
  have zl := B1.out.lt
  have a2 : bits .or .u64 (z : Int) 32 = ((z ||| 32 : Nat) : Int) := u64_or_nat z 32 (by omega) (by decide)
  have B2 := Lib.hid (B1.out.on (n := 5) (by decide))
  rw [show (2 ^ 5 : Nat) = 32 from rfl] at B2
  obtain ⟨y, hy⟩ : ∃ y, y = z ||| 32 := ⟨_, rfl⟩
  rw [← hy] at a2 B2
  have yl := B2.out.lt
  have B3 : Hid (Bits y (set S.up 5 true)) := B2.out.congr (fun k _ => by
    by_cases q : k = 5
    · subst q; rw [set_same2, set_same2]
    · rw [set_ne2 _ _ _ _ q, set_ne2 _ _ _ _ q, set_ne2 _ _ _ _ q])
  clear hy B2
  have K0 := cell_regrown h.out.raw.c0
  have h0 := Lib.hid h.out.raw
  clear hz hu
  go_enter Tryz.func56, Tryz.ntmps56
  go_wp2_with fail
  refine wp_region_below_head 10 1 #[true, true, true, true, true, true, true, true, true, true, false] (by kernel_rfl) (by kernel_rfl) rfl ?_
  simp only [List.take_succ_cons, List.take_zero]
  iterate 10 (go_big_quiet_step (fail))
  refine wpQuiet_nil ?_
  intro _ hw'
  obtain ⟨⟨dq, osq⟩, hw''⟩ := hw'
  subst hw''
  have hb := below_regrown w dq osq
  have hR := Lib.hid (h0.out.below hb)
  have HB := Lib.hid hb
  generalize grow (redrawn w dq) osq = w1 at *
  clear K0 hb
  have k1 := hR.out.c0
  have f1 := hR.out.fb 0
  have HC1 := Lib.hid (cw_trans (cw_below (T := own4 b e p t) HB.out) (cw_set b e p t w1 b 0 (.int .u64 (z : Nat)) (.inl rfl) (by rw [k1]; rfl)))
  have R1 := hR.out.num 0 z (by decide)
  rw [if_pos rfl, if_neg (by decide), if_neg (by decide)] at R1
  have HR1 := Lib.hid R1
  refine wpAny_ready (rs := [10]) (by decide +kernel) (by simp) ?_
  refine AllReady.cons rfl (fun K hK => ?_) AllReady.nil
  go_simp
  try go_wp2_with fail
  refine wpAny_done (by decide +kernel) ?_ _
  clear k1 f1 R1 hR HB h0
  generalize w1.setCell ⟨b, 0, none⟩ (.int .u64 (z : Nat)) = w2 at *
  have K0 := cell_regrown HR1.out.c0
  go_wp2_with fail
  refine wp_region_below_head 10 1 #[true, true, true, true, true, true, true, true, true, true, false] (by kernel_rfl) (by kernel_rfl) rfl ?_
  simp only [List.take_succ_cons, List.take_zero]
  iterate 10 (go_big_quiet_step (fail))
  refine wpQuiet_nil ?_
  intro _ hw'
  obtain ⟨⟨dq, osq⟩, hw''⟩ := hw'
  subst hw''
  have hb := below_regrown w2 dq osq
  have hR := Lib.hid (HR1.out.below hb)
  have HB := Lib.hid hb
  generalize grow (redrawn w2 dq) osq = w3 at *
  clear K0 hb
  have k1 := hR.out.c0
  have f1 := hR.out.fb 0
  have HC2 := Lib.hid (cw_trans (cw_trans HC1.out (cw_below (T := own4 b e p t) HB.out)) (cw_set b e p t w3 b 0 (.int .u64 (y : Nat)) (.inl rfl) (by rw [k1]; rfl)))
  have R1 := hR.out.num 0 y (by decide)
  rw [if_pos rfl, if_neg (by decide), if_neg (by decide)] at R1
  have HR2 := Lib.hid R1
  refine wpAny_ready (rs := [10]) (by decide +kernel) (by simp) ?_
  refine AllReady.cons rfl (fun K hK => ?_) AllReady.nil
  go_simp
  try go_wp2_with fail
  refine wpAny_done (by decide +kernel) ?_ _
  clear k1 f1 R1 hR HB HR1 HC1
  generalize w3.setCell ⟨b, 0, none⟩ (.int .u64 (y : Nat)) = w4 at *
  have HQ := Lib.hid (come_raw b e p t ce cp ct y v s S w4 HR2 yl hv hs)
  go_wp2_with fail
  refine HQ.out.mono ?_; rintro e0 w5 ⟨rfl, w6, hb, rfl⟩
  have HR6 := Lib.hid (HR2.out.below hb)
  have k1 := HR6.out.c1
  obtain ⟨q1, q2, q3, q4⟩ := come_bits (S := S) (n := 5) (x := true) B3.out h.out.bv h.out.bs h.out.inv h.out.ok (by decide)
  have R6 := HR6.out.num 1 (v ||| (y &&& (18446744073709551615 - s))) (by decide)
  rw [if_neg (by decide), if_pos rfl, if_neg (by decide)] at R6
  have HF : Hid (RetZ (.bool true) b e p t ce cp ct (comeF (S.setUp 5 true) 5) w (.returned (.bool true)) (w6.setCell ⟨b, 1, none⟩ (.int .u64 ((v ||| (y &&& (18446744073709551615 - s)) : Nat) : Int)))) :=
    ⟨rfl, ⟨_, _, _, raw_congr R6 (come_same S _ _).1 (come_same S _ _).2.1 (come_same S _ _).2.2, q3, q1, q2, (h.out.ok.setUp 5 _).come 5, q4⟩, cw_trans (cw_trans HC2.out (cw_below hb)) (cw_set b e p t w6 b 1 _ (.inl rfl) (by rw [k1]; rfl))⟩
  clear R6 k1 q1 q2 q3 q4 hb
  go_wp2_with fail
  go_ret
  exact HF.out
set_option maxRecDepth 100000 in
theorem line_60 (b e p t ce cp ct u v s : Nat) (S : St) (w : World) (h : Hid (IsRP w b e p t ce cp ct u v s S)) :
    Calls Tryz.prog 56 #[.pointer (some ⟨b, 0, none⟩), .int .i64 6, .bool false] w (RetZ (.bool true) b e p t ce cp ct (comeF (S.setUp 6 false) 6) w) := by
  have hu := h.out.bu.lt; have hv := h.out.bv.lt; have hs := h.out.bs.lt
  have a1 : bits .andNot .u64 (u : Int) 64 = ((u &&& 18446744073709551615 - 64 : Nat) : Int) := andNot64 u 64 (by omega) (by decide)
  have B1 := Lib.hid (h.out.bu.off (n := 6) (by decide))
  rw [show (18446744073709551615 - 2 ^ 6 : Nat) = 18446744073709551615 - 64 from rfl] at B1
  obtain ⟨z, hz⟩ : ∃ z, z = u &&& 18446744073709551615 - 64 := ⟨_, rfl⟩
  rw [← hz] at a1 B1
  have zl := B1.out.lt
  have K0 := cell_regrown h.out.raw.c0
  have h0 := Lib.hid h.out.raw
  clear hz hu
  go_enter Tryz.func56, Tryz.ntmps56
  go_wp2_with fail
  refine wp_region_below_head 10 1 #[true, true, true, true, true, true, true, true, true, true, false] (by kernel_rfl) (by kernel_rfl) rfl ?_
  simp only [List.take_succ_cons, List.take_zero]
  iterate 10 (go_big_quiet_step (fail))
  refine wpQuiet_nil ?_
  intro _ hw'
  obtain ⟨⟨dq, osq⟩, hw''⟩ := hw'
  subst hw''
  have hb := below_regrown w dq osq
  have hR := Lib.hid (h0.out.below hb)
  have HB := Lib.hid hb
  generalize grow (redrawn w dq) osq = w1 at *
  clear K0 hb
  have k1 := hR.out.c0
  have f1 := hR.out.fb 0
  have HC1 := Lib.hid (cw_trans (cw_below (T := own4 b e p t) HB.out) (cw_set b e p t w1 b 0 (.int .u64 (z : Nat)) (.inl rfl) (by rw [k1]; rfl)))
  have R1 := hR.out.num 0 z (by decide)
  rw [if_pos rfl, if_neg (by decide), if_neg (by decide)] at R1
  have HR1 := Lib.hid R1
  refine wpAny_ready (rs := [10]) (by decide +kernel) (by simp) ?_
  refine AllReady.cons rfl (fun K hK => ?_) AllReady.nil
  go_simp
  try go_wp2_with fail
  refine wpAny_done (by decide +kernel) ?_ _
  clear k1 f1 R1 hR HB h0
  generalize w1.setCell ⟨b, 0, none⟩ (.int .u64 (z : Nat)) = w2 at *
  have HQ := Lib.hid (come_raw b e p t ce cp ct z v s S w2 HR1 zl hv hs)
  go_wp2_with fail
  refine HQ.out.mono ?_; rintro e0 w5 ⟨rfl, w6, hb, rfl⟩
  have HR6 := Lib.hid (HR1.out.below hb)
  have k1 := HR6.out.c1
  obtain ⟨q1, q2, q3, q4⟩ := come_bits (S := S) (n := 6) (x := false) B1.out h.out.bv h.out.bs h.out.inv h.out.ok (by decide)
  have R6 := HR6.out.num 1 (v ||| (z &&& (18446744073709551615 - s))) (by decide)
  rw [if_neg (by decide), if_pos rfl, if_neg (by decide)] at R6
  have HF : Hid (RetZ (.bool true) b e p t ce cp ct (comeF (S.setUp 6 false) 6) w (.returned (.bool true)) (w6.setCell ⟨b, 1, none⟩ (.int .u64 ((v ||| (z &&& (18446744073709551615 - s)) : Nat) : Int)))) :=
    ⟨rfl, ⟨_, _, _, raw_congr R6 (come_same S _ _).1 (come_same S _ _).2.1 (come_same S _ _).2.2, q3, q1, q2, (h.out.ok.setUp 6 _).come 6, q4⟩, cw_trans (cw_trans HC1.out (cw_below hb)) (cw_set b e p t w6 b 1 _ (.inl rfl) (by rw [k1]; rfl))⟩
  clear R6 k1 q1 q2 q3 q4 hb
  go_wp2_with fail
  go_ret
  exact HF.out
set_option maxRecDepth 100000 in
theorem line_61 (b e p t ce cp ct u v s : Nat) (S : St) (w : World) (h : Hid (IsRP w b e p t ce cp ct u v s S)) :
    Calls Tryz.prog 56 #[.pointer (some ⟨b, 0, none⟩), .int .i64 6, .bool true] w (RetZ (.bool true) b e p t ce cp ct (comeF (S.setUp 6 true) 6) w) := by
  have hu := h.out.bu.lt; have hv := h.out.bv.lt; have hs := h.out.bs.lt
  have a1 : bits .andNot .u64 (u : Int) 64 = ((u &&& 18446744073709551615 - 64 : Nat) : Int) := andNot64 u 64 (by omega) (by decide)
  have B1 := Lib.hid (h.out.bu.off (n := 6) (by decide))
  rw [show (18446744073709551615 - 2 ^ 6 : Nat) = 18446744073709551615 - 64 from rfl] at B1
  obtain ⟨z, hz⟩ : ∃ z, z = u &&& 18446744073709551615 - 64 := ⟨_, rfl⟩
  rw [← hz] at a1 B1
  have zl := B1.out.lt
  have a2 : bits .or .u64 (z : Int) 64 = ((z ||| 64 : Nat) : Int) := u64_or_nat z 64 (by omega) (by decide)
  have B2 := Lib.hid (B1.out.on (n := 6) (by decide))
  rw [show (2 ^ 6 : Nat) = 64 from rfl] at B2
  obtain ⟨y, hy⟩ : ∃ y, y = z ||| 64 := ⟨_, rfl⟩
  rw [← hy] at a2 B2
  have yl := B2.out.lt
  have B3 : Hid (Bits y (set S.up 6 true)) := B2.out.congr (fun k _ => by
    by_cases q : k = 6
    · subst q; rw [set_same2, set_same2]
    · rw [set_ne2 _ _ _ _ q, set_ne2 _ _ _ _ q, set_ne2 _ _ _ _ q])
  clear hy B2
  have K0 := cell_regrown h.out.raw.c0
  have h0 := Lib.hid h.out.raw
  clear hz hu
  go_enter Tryz.func56, Tryz.ntmps56
  go_wp2_with fail
  refine wp_region_below_head 10 1 #[true, true, true, true, true, true, true, true, true, true, false] (by kernel_rfl) (by kernel_rfl) rfl ?_
  simp only [List.take_succ_cons, List.take_zero]
  iterate 10 (go_big_quiet_step (fail))
  refine wpQuiet_nil ?_
  intro _ hw'
  obtain ⟨⟨dq, osq⟩, hw''⟩ := hw'
  subst hw''
  have hb := below_regrown w dq osq
  have hR := Lib.hid (h0.out.below hb)
  have HB := Lib.hid hb
  generalize grow (redrawn w dq) osq = w1 at *
  clear K0 hb
  have k1 := hR.out.c0
  have f1 := hR.out.fb 0
  have HC1 := Lib.hid (cw_trans (cw_below (T := own4 b e p t) HB.out) (cw_set b e p t w1 b 0 (.int .u64 (z : Nat)) (.inl rfl) (by rw [k1]; rfl)))
  have R1 := hR.out.num 0 z (by decide)
  rw [if_pos rfl, if_neg (by decide), if_neg (by decide)] at R1
  have HR1 := Lib.hid R1
  refine wpAny_ready (rs := [10]) (by decide +kernel) (by simp) ?_
  refine AllReady.cons rfl (fun K hK => ?_) AllReady.nil
  go_simp
  try go_wp2_with fail
  refine wpAny_done (by decide +kernel) ?_ _
  clear k1 f1 R1 hR HB h0
  generalize w1.setCell ⟨b, 0, none⟩ (.int .u64 (z : Nat)) = w2 at *
  have K0 := cell_regrown HR1.out.c0
  go_wp2_with fail
  refine wp_region_below_head 10 1 #[true, true, true, true, true, true, true, true, true, true, false] (by kernel_rfl) (by kernel_rfl) rfl ?_
  simp only [List.take_succ_cons, List.take_zero]
  iterate 10 (go_big_quiet_step (fail))
  refine wpQuiet_nil ?_
  intro _ hw'
  obtain ⟨⟨dq, osq⟩, hw''⟩ := hw'
  subst hw''
  have hb := below_regrown w2 dq osq
  have hR := Lib.hid (HR1.out.below hb)
  have HB := Lib.hid hb
  generalize grow (redrawn w2 dq) osq = w3 at *
  clear K0 hb
  have k1 := hR.out.c0
  have f1 := hR.out.fb 0
  have HC2 := Lib.hid (cw_trans (cw_trans HC1.out (cw_below (T := own4 b e p t) HB.out)) (cw_set b e p t w3 b 0 (.int .u64 (y : Nat)) (.inl rfl) (by rw [k1]; rfl)))
  have R1 := hR.out.num 0 y (by decide)
  rw [if_pos rfl, if_neg (by decide), if_neg (by decide)] at R1
  have HR2 := Lib.hid R1
  refine wpAny_ready (rs := [10]) (by decide +kernel) (by simp) ?_
  refine AllReady.cons rfl (fun K hK => ?_) AllReady.nil
  go_simp
  try go_wp2_with fail
  refine wpAny_done (by decide +kernel) ?_ _
  clear k1 f1 R1 hR HB HR1 HC1
  generalize w3.setCell ⟨b, 0, none⟩ (.int .u64 (y : Nat)) = w4 at *
  have HQ := Lib.hid (come_raw b e p t ce cp ct y v s S w4 HR2 yl hv hs)
  go_wp2_with fail
  refine HQ.out.mono ?_; rintro e0 w5 ⟨rfl, w6, hb, rfl⟩
  have HR6 := Lib.hid (HR2.out.below hb)
  have k1 := HR6.out.c1
  obtain ⟨q1, q2, q3, q4⟩ := come_bits (S := S) (n := 6) (x := true) B3.out h.out.bv h.out.bs h.out.inv h.out.ok (by decide)
  have R6 := HR6.out.num 1 (v ||| (y &&& (18446744073709551615 - s))) (by decide)
  rw [if_neg (by decide), if_pos rfl, if_neg (by decide)] at R6
  have HF : Hid (RetZ (.bool true) b e p t ce cp ct (comeF (S.setUp 6 true) 6) w (.returned (.bool true)) (w6.setCell ⟨b, 1, none⟩ (.int .u64 ((v ||| (y &&& (18446744073709551615 - s)) : Nat) : Int)))) :=
    ⟨rfl, ⟨_, _, _, raw_congr R6 (come_same S _ _).1 (come_same S _ _).2.1 (come_same S _ _).2.2, q3, q1, q2, (h.out.ok.setUp 6 _).come 6, q4⟩, cw_trans (cw_trans HC2.out (cw_below hb)) (cw_set b e p t w6 b 1 _ (.inl rfl) (by rw [k1]; rfl))⟩
  clear R6 k1 q1 q2 q3 q4 hb
  go_wp2_with fail
  go_ret
  exact HF.out
set_option maxRecDepth 100000 in
theorem line_70 (b e p t ce cp ct u v s : Nat) (S : St) (w : World) (h : Hid (IsRP w b e p t ce cp ct u v s S)) :
    Calls Tryz.prog 56 #[.pointer (some ⟨b, 0, none⟩), .int .i64 7, .bool false] w (RetZ (.bool true) b e p t ce cp ct (comeF (S.setUp 7 false) 7) w) := by
  have hu := h.out.bu.lt; have hv := h.out.bv.lt; have hs := h.out.bs.lt
  have a1 : bits .andNot .u64 (u : Int) 128 = ((u &&& 18446744073709551615 - 128 : Nat) : Int) := andNot64 u 128 (by omega) (by decide)
  have B1 := Lib.hid (h.out.bu.off (n := 7) (by decide))
  rw [show (18446744073709551615 - 2 ^ 7 : Nat) = 18446744073709551615 - 128 from rfl] at B1
  obtain ⟨z, hz⟩ : ∃ z, z = u &&& 18446744073709551615 - 128 := ⟨_, rfl⟩
  rw [← hz] at a1 B1
  have zl := B1.out.lt
  have K0 := cell_regrown h.out.raw.c0
  have h0 := Lib.hid h.out.raw
  clear hz hu
  go_enter Tryz.func56, Tryz.ntmps56
  go_wp2_with fail
  refine wp_region_below_head 10 1 #[true, true, true, true, true, true, true, true, true, true, false] (by kernel_rfl) (by kernel_rfl) rfl ?_
  simp only [List.take_succ_cons, List.take_zero]
  iterate 10 (go_big_quiet_step (fail))
  refine wpQuiet_nil ?_
  intro _ hw'
  obtain ⟨⟨dq, osq⟩, hw''⟩ := hw'
  subst hw''
  have hb := below_regrown w dq osq
  have hR := Lib.hid (h0.out.below hb)
  have HB := Lib.hid hb
  generalize grow (redrawn w dq) osq = w1 at *
  clear K0 hb
  have k1 := hR.out.c0
  have f1 := hR.out.fb 0
  have HC1 := Lib.hid (cw_trans (cw_below (T := own4 b e p t) HB.out) (cw_set b e p t w1 b 0 (.int .u64 (z : Nat)) (.inl rfl) (by rw [k1]; rfl)))
  have R1 := hR.out.num 0 z (by decide)
  rw [if_pos rfl, if_neg (by decide), if_neg (by decide)] at R1
  have HR1 := Lib.hid R1
  refine wpAny_ready (rs := [10]) (by decide +kernel) (by simp) ?_
  refine AllReady.cons rfl (fun K hK => ?_) AllReady.nil
  go_simp
  try go_wp2_with fail
  refine wpAny_done (by decide +kernel) ?_ _
  clear k1 f1 R1 hR HB h0
  generalize w1.setCell ⟨b, 0, none⟩ (.int .u64 (z : Nat)) = w2 at *
  have HQ := Lib.hid (come_raw b e p t ce cp ct z v s S w2 HR1 zl hv hs)
  go_wp2_with fail
  refine HQ.out.mono ?_; rintro e0 w5 ⟨rfl, w6, hb, rfl⟩
  have HR6 := Lib.hid (HR1.out.below hb)
  have k1 := HR6.out.c1
  obtain ⟨q1, q2, q3, q4⟩ := come_bits (S := S) (n := 7) (x := false) B1.out h.out.bv h.out.bs h.out.inv h.out.ok (by decide)
  have R6 := HR6.out.num 1 (v ||| (z &&& (18446744073709551615 - s))) (by decide)
  rw [if_neg (by decide), if_pos rfl, if_neg (by decide)] at R6
  have HF : Hid (RetZ (.bool true) b e p t ce cp ct (comeF (S.setUp 7 false) 7) w (.returned (.bool true)) (w6.setCell ⟨b, 1, none⟩ (.int .u64 ((v ||| (z &&& (18446744073709551615 - s)) : Nat) : Int)))) :=
    ⟨rfl, ⟨_, _, _, raw_congr R6 (come_same S _ _).1 (come_same S _ _).2.1 (come_same S _ _).2.2, q3, q1, q2, (h.out.ok.setUp 7 _).come 7, q4⟩, cw_trans (cw_trans HC1.out (cw_below hb)) (cw_set b e p t w6 b 1 _ (.inl rfl) (by rw [k1]; rfl))⟩
  clear R6 k1 q1 q2 q3 q4 hb
  go_wp2_with fail
  go_ret
  exact HF.out
set_option maxRecDepth 100000 in
theorem line_71 (b e p t ce cp ct u v s : Nat) (S : St) (w : World) (h : Hid (IsRP w b e p t ce cp ct u v s S)) :
    Calls Tryz.prog 56 #[.pointer (some ⟨b, 0, none⟩), .int .i64 7, .bool true] w (RetZ (.bool true) b e p t ce cp ct (comeF (S.setUp 7 true) 7) w) := by
  have hu := h.out.bu.lt; have hv := h.out.bv.lt; have hs := h.out.bs.lt
  have a1 : bits .andNot .u64 (u : Int) 128 = ((u &&& 18446744073709551615 - 128 : Nat) : Int) := andNot64 u 128 (by omega) (by decide)
  have B1 := Lib.hid (h.out.bu.off (n := 7) (by decide))
  rw [show (18446744073709551615 - 2 ^ 7 : Nat) = 18446744073709551615 - 128 from rfl] at B1
  obtain ⟨z, hz⟩ : ∃ z, z = u &&& 18446744073709551615 - 128 := ⟨_, rfl⟩
  rw [← hz] at a1 B1
  have zl := B1.out.lt
  have a2 : bits .or .u64 (z : Int) 128 = ((z ||| 128 : Nat) : Int) := u64_or_nat z 128 (by omega) (by decide)
  have B2 := Lib.hid (B1.out.on (n := 7) (by decide))
  rw [show (2 ^ 7 : Nat) = 128 from rfl] at B2
  obtain ⟨y, hy⟩ : ∃ y, y = z ||| 128 := ⟨_, rfl⟩
  rw [← hy] at a2 B2
  have yl := B2.out.lt
  have B3 : Hid (Bits y (set S.up 7 true)) := B2.out.congr (fun k _ => by
    by_cases q : k = 7
    · subst q; rw [set_same2, set_same2]
    · rw [set_ne2 _ _ _ _ q, set_ne2 _ _ _ _ q, set_ne2 _ _ _ _ q])
  clear hy B2
  have K0 := cell_regrown h.out.raw.c0
  have h0 := Lib.hid h.out.raw
  clear hz hu
  go_enter Tryz.func56, Tryz.ntmps56
  go_wp2_with fail
  refine wp_region_below_head 10 1 #[true, true, true, true, true, true, true, true, true, true, false] (by kernel_rfl) (by kernel_rfl) rfl ?_
  simp only [List.take_succ_cons, List.take_zero]
  iterate 10 (go_big_quiet_step (fail))
  refine wpQuiet_nil ?_
  intro _ hw'
  obtain ⟨⟨dq, osq⟩, hw''⟩ := hw'
  subst hw''
  have hb := below_regrown w dq osq
  have hR := Lib.hid (h0.out.below hb)
  have HB := Lib.hid hb
  generalize grow (redrawn w dq) osq = w1 at *
  clear K0 hb
  have k1 := hR.out.c0
  have f1 := hR.out.fb 0
  have HC1 := Lib.hid (cw_trans (cw_below (T := own4 b e p t) HB.out) (cw_set b e p t w1 b 0 (.int .u64 (z : Nat)) (.inl rfl) (by rw [k1]; rfl)))
  have R1 := hR.out.num 0 z (by decide)
  rw [if_pos rfl, if_neg (by decide), if_neg (by decide)] at R1
  have HR1 := Lib.hid R1
  refine wpAny_ready (rs := [10]) (by decide +kernel) (by simp) ?_
  refine AllReady.cons rfl (fun K hK => ?_) AllReady.nil
  go_simp
  try go_wp2_with fail
  refine wpAny_done (by decide +kernel) ?_ _
  clear k1 f1 R1 hR HB h0
  generalize w1.setCell ⟨b, 0, none⟩ (.int .u64 (z : Nat)) = w2 at *
  have K0 := cell_regrown HR1.out.c0
  go_wp2_with fail
  refine wp_region_below_head 10 1 #[true, true, true, true, true, true, true, true, true, true, false] (by kernel_rfl) (by kernel_rfl) rfl ?_
  simp only [List.take_succ_cons, List.take_zero]
  iterate 10 (go_big_quiet_step (fail))
  refine wpQuiet_nil ?_
  intro _ hw'
  obtain ⟨⟨dq, osq⟩, hw''⟩ := hw'
  subst hw''
  have hb := below_regrown w2 dq osq
  have hR := Lib.hid (HR1.out.below hb)
  have HB := Lib.hid hb
  generalize grow (redrawn w2 dq) osq = w3 at *
  clear K0 hb
  have k1 := hR.out.c0
  have f1 := hR.out.fb 0
  have HC2 := Lib.hid (cw_trans (cw_trans HC1.out (cw_below (T := own4 b e p t) HB.out)) (cw_set b e p t w3 b 0 (.int .u64 (y : Nat)) (.inl rfl) (by rw [k1]; rfl)))
  have R1 := hR.out.num 0 y (by decide)
  rw [if_pos rfl, if_neg (by decide), if_neg (by decide)] at R1
  have HR2 := Lib.hid R1
  refine wpAny_ready (rs := [10]) (by decide +kernel) (by simp) ?_
  refine AllReady.cons rfl (fun K hK => ?_) AllReady.nil
  go_simp
  try go_wp2_with fail
  refine wpAny_done (by decide +kernel) ?_ _
  clear k1 f1 R1 hR HB HR1 HC1
  generalize w3.setCell ⟨b, 0, none⟩ (.int .u64 (y : Nat)) = w4 at *
  have HQ := Lib.hid (come_raw b e p t ce cp ct y v s S w4 HR2 yl hv hs)
  go_wp2_with fail
  refine HQ.out.mono ?_; rintro e0 w5 ⟨rfl, w6, hb, rfl⟩
  have HR6 := Lib.hid (HR2.out.below hb)
  have k1 := HR6.out.c1
  obtain ⟨q1, q2, q3, q4⟩ := come_bits (S := S) (n := 7) (x := true) B3.out h.out.bv h.out.bs h.out.inv h.out.ok (by decide)
  have R6 := HR6.out.num 1 (v ||| (y &&& (18446744073709551615 - s))) (by decide)
  rw [if_neg (by decide), if_pos rfl, if_neg (by decide)] at R6
  have HF : Hid (RetZ (.bool true) b e p t ce cp ct (comeF (S.setUp 7 true) 7) w (.returned (.bool true)) (w6.setCell ⟨b, 1, none⟩ (.int .u64 ((v ||| (y &&& (18446744073709551615 - s)) : Nat) : Int)))) :=
    ⟨rfl, ⟨_, _, _, raw_congr R6 (come_same S _ _).1 (come_same S _ _).2.1 (come_same S _ _).2.2, q3, q1, q2, (h.out.ok.setUp 7 _).come 7, q4⟩, cw_trans (cw_trans HC2.out (cw_below hb)) (cw_set b e p t w6 b 1 _ (.inl rfl) (by rw [k1]; rfl))⟩
  clear R6 k1 q1 q2 q3 q4 hb
  go_wp2_with fail
  go_ret
  exact HF.out
set_option maxRecDepth 100000 in
theorem line_80 (b e p t ce cp ct u v s : Nat) (S : St) (w : World) (h : Hid (IsRP w b e p t ce cp ct u v s S)) :
    Calls Tryz.prog 56 #[.pointer (some ⟨b, 0, none⟩), .int .i64 8, .bool false] w (RetZ (.bool true) b e p t ce cp ct (comeF (S.setUp 8 false) 8) w) := by
  have hu := h.out.bu.lt; have hv := h.out.bv.lt; have hs := h.out.bs.lt
  have a1 : bits .andNot .u64 (u : Int) 256 = ((u &&& 18446744073709551615 - 256 : Nat) : Int) := andNot64 u 256 (by omega) (by decide)
  have B1 := Lib.hid (h.out.bu.off (n := 8) (by decide))
  rw [show (18446744073709551615 - 2 ^ 8 : Nat) = 18446744073709551615 - 256 from rfl] at B1
  obtain ⟨z, hz⟩ : ∃ z, z = u &&& 18446744073709551615 - 256 := ⟨_, rfl⟩
  rw [← hz] at a1 B1
  have zl := B1.out.lt
  have K0 := cell_regrown h.out.raw.c0
  have h0 := Lib.hid h.out.raw
  clear hz hu
  go_enter Tryz.func56, Tryz.ntmps56
  go_wp2_with fail
  refine wp_region_below_head 10 1 #[true, true, true, true, true, true, true, true, true, true, false] (by kernel_rfl) (by kernel_rfl) rfl ?_
  simp only [List.take_succ_cons, List.take_zero]
  iterate 10 (go_big_quiet_step (fail))
  refine wpQuiet_nil ?_
  intro _ hw'
  obtain ⟨⟨dq, osq⟩, hw''⟩ := hw'
  subst hw''
  have hb := below_regrown w dq osq
  have hR := Lib.hid (h0.out.below hb)
  have HB := Lib.hid hb
  generalize grow (redrawn w dq) osq = w1 at *
  clear K0 hb
  have k1 := hR.out.c0
  have f1 := hR.out.fb 0
  have HC1 := Lib.hid (cw_trans (cw_below (T := own4 b e p t) HB.out) (cw_set b e p t w1 b 0 (.int .u64 (z : Nat)) (.inl rfl) (by rw [k1]; rfl)))
  have R1 := hR.out.num 0 z (by decide)
  rw [if_pos rfl, if_neg (by decide), if_neg (by decide)] at R1
  have HR1 := Lib.hid R1
  refine wpAny_ready (rs := [10]) (by decide +kernel) (by simp) ?_
  refine AllReady.cons rfl (fun K hK => ?_) AllReady.nil
  go_simp
  try go_wp2_with fail
  refine wpAny_done (by decide +kernel) ?_ _
  clear k1 f1 R1 hR HB h0
  generalize w1.setCell ⟨b, 0, none⟩ (.int .u64 (z : Nat)) = w2 at *
  have HQ := Lib.hid (come_raw b e p t ce cp ct z v s S w2 HR1 zl hv hs)
  go_wp2_with fail
  refine HQ.out.mono ?_; rintro e0 w5 ⟨rfl, w6, hb, rfl⟩
  have HR6 := Lib.hid (HR1.out.below hb)
  have k1 := HR6.out.c1
  obtain ⟨q1, q2, q3, q4⟩ := come_bits (S := S) (n := 8) (x := false) B1.out h.out.bv h.out.bs h.out.inv h.out.ok (by decide)
  have R6 := HR6.out.num 1 (v ||| (z &&& (18446744073709551615 - s))) (by decide)
  rw [if_neg (by decide), if_pos rfl, if_neg (by decide)] at R6
  have HF : Hid (RetZ (.bool true) b e p t ce cp ct (comeF (S.setUp 8 false) 8) w (.returned (.bool true)) (w6.setCell ⟨b, 1, none⟩ (.int .u64 ((v ||| (z &&& (18446744073709551615 - s)) : Nat) : Int)))) :=
    ⟨rfl, ⟨_, _, _, raw_congr R6 (come_same S _ _).1 (come_same S _ _).2.1 (come_same S _ _).2.2, q3, q1, q2, (h.out.ok.setUp 8 _).come 8, q4⟩, cw_trans (cw_trans HC1.out (cw_below hb)) (cw_set b e p t w6 b 1 _ (.inl rfl) (by rw [k1]; rfl))⟩
  clear R6 k1 q1 q2 q3 q4 hb
  go_wp2_with fail
  go_ret
  exact HF.out
set_option maxRecDepth 100000 in
theorem line_81 (b e p t ce cp ct u v s : Nat) (S : St) (w : World) (h : Hid (IsRP w b e p t ce cp ct u v s S)) :
    Calls Tryz.prog 56 #[.pointer (some ⟨b, 0, none⟩), .int .i64 8, .bool true] w (RetZ (.bool true) b e p t ce cp ct (comeF (S.setUp 8 true) 8) w) := by
  have hu := h.out.bu.lt; have hv := h.out.bv.lt; have hs := h.out.bs.lt
  have a1 : bits .andNot .u64 (u : Int) 256 = ((u &&& 18446744073709551615 - 256 : Nat) : Int) := andNot64 u 256 (by omega) (by decide)
  have B1 := Lib.hid (h.out.bu.off (n := 8) (by decide))
  rw [show (18446744073709551615 - 2 ^ 8 : Nat) = 18446744073709551615 - 256 from rfl] at B1
  obtain ⟨z, hz⟩ : ∃ z, z = u &&& 18446744073709551615 - 256 := ⟨_, rfl⟩
  rw [← hz] at a1 B1
  have zl := B1.out.lt
  have a2 : bits .or .u64 (z : Int) 256 = ((z ||| 256 : Nat) : Int) := u64_or_nat z 256 (by omega) (by decide)
  have B2 := Lib.hid (B1.out.on (n := 8) (by decide))
  rw [show (2 ^ 8 : Nat) = 256 from rfl] at B2
  obtain ⟨y, hy⟩ : ∃ y, y = z ||| 256 := ⟨_, rfl⟩
  rw [← hy] at a2 B2
  have yl := B2.out.lt
  have B3 : Hid (Bits y (set S.up 8 true)) := B2.out.congr (fun k _ => by
    by_cases q : k = 8
    · subst q; rw [set_same2, set_same2]
    · rw [set_ne2 _ _ _ _ q, set_ne2 _ _ _ _ q, set_ne2 _ _ _ _ q])
  clear hy B2
  have K0 := cell_regrown h.out.raw.c0
  have h0 := Lib.hid h.out.raw
  clear hz hu
  go_enter Tryz.func56, Tryz.ntmps56
  go_wp2_with fail
  refine wp_region_below_head 10 1 #[true, true, true, true, true, true, true, true, true, true, false] (by kernel_rfl) (by kernel_rfl) rfl ?_
  simp only [List.take_succ_cons, List.take_zero]
  iterate 10 (go_big_quiet_step (fail))
  refine wpQuiet_nil ?_
  intro _ hw'
  obtain ⟨⟨dq, osq⟩, hw''⟩ := hw'
  subst hw''
  have hb := below_regrown w dq osq
  have hR := Lib.hid (h0.out.below hb)
  have HB := Lib.hid hb
  generalize grow (redrawn w dq) osq = w1 at *
  clear K0 hb
  have k1 := hR.out.c0
  have f1 := hR.out.fb 0
  have HC1 := Lib.hid (cw_trans (cw_below (T := own4 b e p t) HB.out) (cw_set b e p t w1 b 0 (.int .u64 (z : Nat)) (.inl rfl) (by rw [k1]; rfl)))
  have R1 := hR.out.num 0 z (by decide)
  rw [if_pos rfl, if_neg (by decide), if_neg (by decide)] at R1
  have HR1 := Lib.hid R1
  refine wpAny_ready (rs := [10]) (by decide +kernel) (by simp) ?_
  refine AllReady.cons rfl (fun K hK => ?_) AllReady.nil
  go_simp
  try go_wp2_with fail
  refine wpAny_done (by decide +kernel) ?_ _
  clear k1 f1 R1 hR HB h0
  generalize w1.setCell ⟨b, 0, none⟩ (.int .u64 (z : Nat)) = w2 at *
  have K0 := cell_regrown HR1.out.c0
  go_wp2_with fail
  refine wp_region_below_head 10 1 #[true, true, true, true, true, true, true, true, true, true, false] (by kernel_rfl) (by kernel_rfl) rfl ?_
  simp only [List.take_succ_cons, List.take_zero]
  iterate 10 (go_big_quiet_step (fail))
  refine wpQuiet_nil ?_
  intro _ hw'
  obtain ⟨⟨dq, osq⟩, hw''⟩ := hw'
  subst hw''
  have hb := below_regrown w2 dq osq
  have hR := Lib.hid (HR1.out.below hb)
  have HB := Lib.hid hb
  generalize grow (redrawn w2 dq) osq = w3 at *
  clear K0 hb
  have k1 := hR.out.c0
  have f1 := hR.out.fb 0
  have HC2 := Lib.hid (cw_trans (cw_trans HC1.out (cw_below (T := own4 b e p t) HB.out)) (cw_set b e p t w3 b 0 (.int .u64 (y : Nat)) (.inl rfl) (by rw [k1]; rfl)))
  have R1 := hR.out.num 0 y (by decide)
  rw [if_pos rfl, if_neg (by decide), if_neg (by decide)] at R1
  have HR2 := Lib.hid R1
  refine wpAny_ready (rs := [10]) (by decide +kernel) (by simp) ?_
  refine AllReady.cons rfl (fun K hK => ?_) AllReady.nil
  go_simp
  try go_wp2_with fail
  refine wpAny_done (by decide +kernel) ?_ _
  clear k1 f1 R1 hR HB HR1 HC1
  generalize w3.setCell ⟨b, 0, none⟩ (.int .u64 (y : Nat)) = w4 at *
  have HQ := Lib.hid (come_raw b e p t ce cp ct y v s S w4 HR2 yl hv hs)
  go_wp2_with fail
  refine HQ.out.mono ?_; rintro e0 w5 ⟨rfl, w6, hb, rfl⟩
  have HR6 := Lib.hid (HR2.out.below hb)
  have k1 := HR6.out.c1
  obtain ⟨q1, q2, q3, q4⟩ := come_bits (S := S) (n := 8) (x := true) B3.out h.out.bv h.out.bs h.out.inv h.out.ok (by decide)
  have R6 := HR6.out.num 1 (v ||| (y &&& (18446744073709551615 - s))) (by decide)
  rw [if_neg (by decide), if_pos rfl, if_neg (by decide)] at R6
  have HF : Hid (RetZ (.bool true) b e p t ce cp ct (comeF (S.setUp 8 true) 8) w (.returned (.bool true)) (w6.setCell ⟨b, 1, none⟩ (.int .u64 ((v ||| (y &&& (18446744073709551615 - s)) : Nat) : Int)))) :=
    ⟨rfl, ⟨_, _, _, raw_congr R6 (come_same S _ _).1 (come_same S _ _).2.1 (come_same S _ _).2.2, q3, q1, q2, (h.out.ok.setUp 8 _).come 8, q4⟩, cw_trans (cw_trans HC2.out (cw_below hb)) (cw_set b e p t w6 b 1 _ (.inl rfl) (by rw [k1]; rfl))⟩
  clear R6 k1 q1 q2 q3 q4 hb
  go_wp2_with fail
  go_ret
  exact HF.out
theorem line_r (b e p t ce cp ct u v s n : Nat) (up : Bool) (S : St) (w : World) (h : Hid (IsRP w b e p t ce cp ct u v s S)) (hn : 1 ≤ n ∧ n < 9) :
    Calls Tryz.prog 56 #[.pointer (some ⟨b, 0, none⟩), .int .i64 n, .bool up] w (RetZ (.bool true) b e p t ce cp ct (comeF (S.setUp n up) n) w) := by
  have : n = 1 ∨ n = 2 ∨ n = 3 ∨ n = 4 ∨ n = 5 ∨ n = 6 ∨ n = 7 ∨ n = 8 := by omega
  rcases this with rfl | rfl | rfl | rfl | rfl | rfl | rfl | rfl <;> cases up
  · exact line_10 b e p t ce cp ct u v s S w h
  · exact line_11 b e p t ce cp ct u v s S w h
  · exact line_20 b e p t ce cp ct u v s S w h
  · exact line_21 b e p t ce cp ct u v s S w h
  · exact line_30 b e p t ce cp ct u v s S w h
  · exact line_31 b e p t ce cp ct u v s S w h
  · exact line_40 b e p t ce cp ct u v s S w h
  · exact line_41 b e p t ce cp ct u v s S w h
  · exact line_50 b e p t ce cp ct u v s S w h
  · exact line_51 b e p t ce cp ct u v s S w h
  · exact line_60 b e p t ce cp ct u v s S w h
  · exact line_61 b e p t ce cp ct u v s S w h
  · exact line_70 b e p t ce cp ct u v s S w h
  · exact line_71 b e p t ce cp ct u v s S w h
  · exact line_80 b e p t ce cp ct u v s S w h
  · exact line_81 b e p t ce cp ct u v s S w h
end Go.Proofs.YtoicpikkcefheaaGreat.P
