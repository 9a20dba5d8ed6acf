/- Taken from other texts: what is needed of them. -/
import Derived.Test.YtoicpikkcefheaaGreatPA
import Derived.Test.YtoicpikkcefheaaGreatPB
import Derived.Lib.QuietBelow
import Derived.Deep.QuietTactic
import Derived.BigQuiet
namespace Go.Proofs.YtoicpikkcefheaaGreat.P
set_option linter.unusedVariables false
set_option linter.unusedSimpArgs false
set_option maxRecDepth 20000
open Go.ChangeShapes Go.WideShapes Go.ChangeAt Go.RowKit Go.Sort
theorem q_int {W : World} {dd : Nat} {os : Array Obj} {f : FuncId} {args : Array Value} {n m : Nat} (h : n = m) (c : Calls Tryz.prog f args (grow (redrawn W dd) os) (RetI n (grow (redrawn W dd) os))) :
    Calls Tryz.prog f args (grow (redrawn W dd) os) fun e w'' => e = .returned (.int .i64 m) ∧ ∃ p : Regrown, w'' = grow (redrawn W p.d) p.os := Calls.regrown_of (c.mono fun _ _ h' => ⟨by rw [h'.1, h], h'.2⟩)
set_option maxRecDepth 100000 in
set_option maxHeartbeats 2000000 in
theorem pend_tt (b n m : Nat) (S : St) (w : World) (hP : Hid (IsP w b S)) (hO : Hid (OkS S)) (n9 : n < 9) (m9 : m < 9) (HN : Hid (best S 0 = n)) (HM : Hid (best S 1 = m)) (hA : decide (S.th 0 < S.pr n) = true) (hB : decide (S.th 1 < S.pr m) = true) : Calls Tryz.prog 68 #[.pointer (some ⟨b, 0, none⟩)] w (RetU 2560 w) := by
  have n9' : (n : Int) < 9 := by omega
  have m9' : (m : Int) < 9 := by omega
  have hA' : decide (((S.th 0 : Nat) : Int) < ((S.pr n : Nat) : Int)) = true := by rw [← hA]; exact decide_eq_decide.2 (by omega)
  have hB' : decide (((S.th 1 : Nat) : Int) < ((S.pr m : Nat) : Int)) = true := by rw [← hB]; exact decide_eq_decide.2 (by omega)
  have hx0 : ∀ w, (Instr.index 121 (.agg #[.int .i64 11, .int .i64 9]) (.int .i64 0)).run Tryz.prog w = .ok (.int .i64 11) w := fun _ => rfl
  have hx1 : ∀ w, (Instr.index 121 (.agg #[.int .i64 11, .int .i64 9]) (.int .i64 1)).run Tryz.prog w = .ok (.int .i64 9) w := fun _ => rfl
  go_enter Tryz.func68, Tryz.ntmps68
  go_wp2_with fail
  refine wp_loop_rounds 3 ?_
  rw [rounds_succ]
  go_wp2_with fail
  have c0 := hP.out.pr n n9
  have c1 : w.cell? ⟨b, 28, none⟩ = some (.int .u64 (S.th 0)) := hP.out.th 0 (by decide)
  have K0 := cell_regrown c0; have K1 := cell_regrown c1
  have q0 : ∀ dd os, Calls Tryz.prog 95 #[.pointer (some ⟨b, 0, none⟩), .int .i64 0] (grow (redrawn w dd) os) fun e w'' => e = .returned (.int .i64 n) ∧ ∃ p : Regrown, w'' = grow (redrawn w p.d) p.os := fun dd os =>
    q_int HN.out (best_c b 0 S _ (hP.out.below (below_regrown w dd os)) hO (by show 0 < 2; decide))
  refine wp_region_quiet_below (by kernel_rfl) (by kernel_rfl) ?_
  repeat (go_big_quiet_step (first | (go_at_call 95; exact q0 _ _)))
  refine wpQuiet_nil ?_
  intro _ hw'
  obtain ⟨⟨dq, osq⟩, hw''⟩ := hw'
  subst hw''
  have hb := below_regrown w dq osq
  generalize grow (redrawn w dq) osq = w1 at hb ⊢
  clear K0 K1 c0 c1 q0
  have HP1 : Hid (IsP w1 b S) := hP.out.below hb
  have HB1 := Lib.hid hb
  clear hb
  go_wp2_with fail
  rw [rounds_succ]
  go_wp2_with fail
  have c0 := HP1.out.pr m m9
  have c1 : w1.cell? ⟨b, 30, none⟩ = some (.int .u64 (S.th 1)) := HP1.out.th 1 (by decide)
  have K0 := cell_regrown c0; have K1 := cell_regrown c1
  have q0 : ∀ dd os, Calls Tryz.prog 95 #[.pointer (some ⟨b, 0, none⟩), .int .i64 1] (grow (redrawn w1 dd) os) fun e w'' => e = .returned (.int .i64 m) ∧ ∃ p : Regrown, w'' = grow (redrawn w1 p.d) p.os := fun dd os =>
    q_int HM.out (best_c b 1 S _ (HP1.out.below (below_regrown w1 dd os)) hO (by show 1 < 2; decide))
  refine wp_region_quiet_below (by kernel_rfl) (by kernel_rfl) ?_
  repeat (go_big_quiet_step (first | (go_at_call 95; exact q0 _ _)))
  refine wpQuiet_nil ?_
  intro _ hw'
  obtain ⟨⟨dq, osq⟩, hw''⟩ := hw'
  subst hw''
  have hb := below_regrown w1 dq osq
  generalize grow (redrawn w1 dq) osq = w2 at hb ⊢
  clear K0 K1 c0 c1 q0
  have HP2 : Hid (IsP w2 b S) := HP1.out.below hb
  have HB2 := Lib.hid hb
  clear hb
  go_wp2_with fail
  rw [rounds_succ]
  go_wp2_with fail
  go_ret
  exact retU_mk rfl (HB1.out.trans (HB2.out.mono HB1.out.size))
set_option maxRecDepth 100000 in
set_option maxHeartbeats 2000000 in
theorem pend_tf (b n m : Nat) (S : St) (w : World) (hP : Hid (IsP w b S)) (hO : Hid (OkS S)) (n9 : n < 9) (m9 : m < 9) (HN : Hid (best S 0 = n)) (HM : Hid (best S 1 = m)) (hA : decide (S.th 0 < S.pr n) = true) (hB : decide (S.th 1 < S.pr m) = false) : Calls Tryz.prog 68 #[.pointer (some ⟨b, 0, none⟩)] w (RetU 2048 w) := by
  have n9' : (n : Int) < 9 := by omega
  have m9' : (m : Int) < 9 := by omega
  have hA' : decide (((S.th 0 : Nat) : Int) < ((S.pr n : Nat) : Int)) = true := by rw [← hA]; exact decide_eq_decide.2 (by omega)
  have hB' : decide (((S.th 1 : Nat) : Int) < ((S.pr m : Nat) : Int)) = false := by rw [← hB]; exact decide_eq_decide.2 (by omega)
  have hx0 : ∀ w, (Instr.index 121 (.agg #[.int .i64 11, .int .i64 9]) (.int .i64 0)).run Tryz.prog w = .ok (.int .i64 11) w := fun _ => rfl
  have hx1 : ∀ w, (Instr.index 121 (.agg #[.int .i64 11, .int .i64 9]) (.int .i64 1)).run Tryz.prog w = .ok (.int .i64 9) w := fun _ => rfl
  go_enter Tryz.func68, Tryz.ntmps68
  go_wp2_with fail
  refine wp_loop_rounds 3 ?_
  rw [rounds_succ]
  go_wp2_with fail
  have c0 := hP.out.pr n n9
  have c1 : w.cell? ⟨b, 28, none⟩ = some (.int .u64 (S.th 0)) := hP.out.th 0 (by decide)
  have K0 := cell_regrown c0; have K1 := cell_regrown c1
  have q0 : ∀ dd os, Calls Tryz.prog 95 #[.pointer (some ⟨b, 0, none⟩), .int .i64 0] (grow (redrawn w dd) os) fun e w'' => e = .returned (.int .i64 n) ∧ ∃ p : Regrown, w'' = grow (redrawn w p.d) p.os := fun dd os =>
    q_int HN.out (best_c b 0 S _ (hP.out.below (below_regrown w dd os)) hO (by show 0 < 2; decide))
  refine wp_region_quiet_below (by kernel_rfl) (by kernel_rfl) ?_
  repeat (go_big_quiet_step (first | (go_at_call 95; exact q0 _ _)))
  refine wpQuiet_nil ?_
  intro _ hw'
  obtain ⟨⟨dq, osq⟩, hw''⟩ := hw'
  subst hw''
  have hb := below_regrown w dq osq
  generalize grow (redrawn w dq) osq = w1 at hb ⊢
  clear K0 K1 c0 c1 q0
  have HP1 : Hid (IsP w1 b S) := hP.out.below hb
  have HB1 := Lib.hid hb
  clear hb
  go_wp2_with fail
  rw [rounds_succ]
  go_wp2_with fail
  have c0 := HP1.out.pr m m9
  have c1 : w1.cell? ⟨b, 30, none⟩ = some (.int .u64 (S.th 1)) := HP1.out.th 1 (by decide)
  have K0 := cell_regrown c0; have K1 := cell_regrown c1
  have q0 : ∀ dd os, Calls Tryz.prog 95 #[.pointer (some ⟨b, 0, none⟩), .int .i64 1] (grow (redrawn w1 dd) os) fun e w'' => e = .returned (.int .i64 m) ∧ ∃ p : Regrown, w'' = grow (redrawn w1 p.d) p.os := fun dd os =>
    q_int HM.out (best_c b 1 S _ (HP1.out.below (below_regrown w1 dd os)) hO (by show 1 < 2; decide))
  refine wp_region_quiet_below (by kernel_rfl) (by kernel_rfl) ?_
  repeat (go_big_quiet_step (first | (go_at_call 95; exact q0 _ _)))
  refine wpQuiet_nil ?_
  intro _ hw'
  obtain ⟨⟨dq, osq⟩, hw''⟩ := hw'
  subst hw''
  have hb := below_regrown w1 dq osq
  generalize grow (redrawn w1 dq) osq = w2 at hb ⊢
  clear K0 K1 c0 c1 q0
  have HP2 : Hid (IsP w2 b S) := HP1.out.below hb
  have HB2 := Lib.hid hb
  clear hb
  go_wp2_with fail
  rw [rounds_succ]
  go_wp2_with fail
  go_ret
  exact retU_mk rfl (HB1.out.trans (HB2.out.mono HB1.out.size))
set_option maxRecDepth 100000 in
set_option maxHeartbeats 2000000 in
theorem pend_ft (b n m : Nat) (S : St) (w : World) (hP : Hid (IsP w b S)) (hO : Hid (OkS S)) (n9 : n < 9) (m9 : m < 9) (HN : Hid (best S 0 = n)) (HM : Hid (best S 1 = m)) (hA : decide (S.th 0 < S.pr n) = false) (hB : decide (S.th 1 < S.pr m) = true) : Calls Tryz.prog 68 #[.pointer (some ⟨b, 0, none⟩)] w (RetU 512 w) := by
  have n9' : (n : Int) < 9 := by omega
  have m9' : (m : Int) < 9 := by omega
  have hA' : decide (((S.th 0 : Nat) : Int) < ((S.pr n : Nat) : Int)) = false := by rw [← hA]; exact decide_eq_decide.2 (by omega)
  have hB' : decide (((S.th 1 : Nat) : Int) < ((S.pr m : Nat) : Int)) = true := by rw [← hB]; exact decide_eq_decide.2 (by omega)
  have hx0 : ∀ w, (Instr.index 121 (.agg #[.int .i64 11, .int .i64 9]) (.int .i64 0)).run Tryz.prog w = .ok (.int .i64 11) w := fun _ => rfl
  have hx1 : ∀ w, (Instr.index 121 (.agg #[.int .i64 11, .int .i64 9]) (.int .i64 1)).run Tryz.prog w = .ok (.int .i64 9) w := fun _ => rfl
  go_enter Tryz.func68, Tryz.ntmps68
  go_wp2_with fail
  refine wp_loop_rounds 3 ?_
  rw [rounds_succ]
  go_wp2_with fail
  have c0 := hP.out.pr n n9
  have c1 : w.cell? ⟨b, 28, none⟩ = some (.int .u64 (S.th 0)) := hP.out.th 0 (by decide)
  have K0 := cell_regrown c0; have K1 := cell_regrown c1
  have q0 : ∀ dd os, Calls Tryz.prog 95 #[.pointer (some ⟨b, 0, none⟩), .int .i64 0] (grow (redrawn w dd) os) fun e w'' => e = .returned (.int .i64 n) ∧ ∃ p : Regrown, w'' = grow (redrawn w p.d) p.os := fun dd os =>
    q_int HN.out (best_c b 0 S _ (hP.out.below (below_regrown w dd os)) hO (by show 0 < 2; decide))
  refine wp_region_quiet_below (by kernel_rfl) (by kernel_rfl) ?_
  repeat (go_big_quiet_step (first | (go_at_call 95; exact q0 _ _)))
  refine wpQuiet_nil ?_
  intro _ hw'
  obtain ⟨⟨dq, osq⟩, hw''⟩ := hw'
  subst hw''
  have hb := below_regrown w dq osq
  generalize grow (redrawn w dq) osq = w1 at hb ⊢
  clear K0 K1 c0 c1 q0
  have HP1 : Hid (IsP w1 b S) := hP.out.below hb
  have HB1 := Lib.hid hb
  clear hb
  go_wp2_with fail
  rw [rounds_succ]
  go_wp2_with fail
  have c0 := HP1.out.pr m m9
  have c1 : w1.cell? ⟨b, 30, none⟩ = some (.int .u64 (S.th 1)) := HP1.out.th 1 (by decide)
  have K0 := cell_regrown c0; have K1 := cell_regrown c1
  have q0 : ∀ dd os, Calls Tryz.prog 95 #[.pointer (some ⟨b, 0, none⟩), .int .i64 1] (grow (redrawn w1 dd) os) fun e w'' => e = .returned (.int .i64 m) ∧ ∃ p : Regrown, w'' = grow (redrawn w1 p.d) p.os := fun dd os =>
    q_int HM.out (best_c b 1 S _ (HP1.out.below (below_regrown w1 dd os)) hO (by show 1 < 2; decide))
  refine wp_region_quiet_below (by kernel_rfl) (by kernel_rfl) ?_
  repeat (go_big_quiet_step (first | (go_at_call 95; exact q0 _ _)))
  refine wpQuiet_nil ?_
  intro _ hw'
  obtain ⟨⟨dq, osq⟩, hw''⟩ := hw'
  subst hw''
  have hb := below_regrown w1 dq osq
  generalize grow (redrawn w1 dq) osq = w2 at hb ⊢
  clear K0 K1 c0 c1 q0
  have HP2 : Hid (IsP w2 b S) := HP1.out.below hb
  have HB2 := Lib.hid hb
  clear hb
  go_wp2_with fail
  rw [rounds_succ]
  go_wp2_with fail
  go_ret
  exact retU_mk rfl (HB1.out.trans (HB2.out.mono HB1.out.size))
set_option maxRecDepth 100000 in
set_option maxHeartbeats 2000000 in
theorem pend_ff (b n m : Nat) (S : St) (w : World) (hP : Hid (IsP w b S)) (hO : Hid (OkS S)) (n9 : n < 9) (m9 : m < 9) (HN : Hid (best S 0 = n)) (HM : Hid (best S 1 = m)) (hA : decide (S.th 0 < S.pr n) = false) (hB : decide (S.th 1 < S.pr m) = false) : Calls Tryz.prog 68 #[.pointer (some ⟨b, 0, none⟩)] w (RetU 0 w) := by
  have n9' : (n : Int) < 9 := by omega
  have m9' : (m : Int) < 9 := by omega
  have hA' : decide (((S.th 0 : Nat) : Int) < ((S.pr n : Nat) : Int)) = false := by rw [← hA]; exact decide_eq_decide.2 (by omega)
  have hB' : decide (((S.th 1 : Nat) : Int) < ((S.pr m : Nat) : Int)) = false := by rw [← hB]; exact decide_eq_decide.2 (by omega)
  have hx0 : ∀ w, (Instr.index 121 (.agg #[.int .i64 11, .int .i64 9]) (.int .i64 0)).run Tryz.prog w = .ok (.int .i64 11) w := fun _ => rfl
  have hx1 : ∀ w, (Instr.index 121 (.agg #[.int .i64 11, .int .i64 9]) (.int .i64 1)).run Tryz.prog w = .ok (.int .i64 9) w := fun _ => rfl
  go_enter Tryz.func68, Tryz.ntmps68
  go_wp2_with fail
  refine wp_loop_rounds 3 ?_
  rw [rounds_succ]
  go_wp2_with fail
  have c0 := hP.out.pr n n9
  have c1 : w.cell? ⟨b, 28, none⟩ = some (.int .u64 (S.th 0)) := hP.out.th 0 (by decide)
  have K0 := cell_regrown c0; have K1 := cell_regrown c1
  have q0 : ∀ dd os, Calls Tryz.prog 95 #[.pointer (some ⟨b, 0, none⟩), .int .i64 0] (grow (redrawn w dd) os) fun e w'' => e = .returned (.int .i64 n) ∧ ∃ p : Regrown, w'' = grow (redrawn w p.d) p.os := fun dd os =>
    q_int HN.out (best_c b 0 S _ (hP.out.below (below_regrown w dd os)) hO (by show 0 < 2; decide))
  refine wp_region_quiet_below (by kernel_rfl) (by kernel_rfl) ?_
  repeat (go_big_quiet_step (first | (go_at_call 95; exact q0 _ _)))
  refine wpQuiet_nil ?_
  intro _ hw'
  obtain ⟨⟨dq, osq⟩, hw''⟩ := hw'
  subst hw''
  have hb := below_regrown w dq osq
  generalize grow (redrawn w dq) osq = w1 at hb ⊢
  clear K0 K1 c0 c1 q0
  have HP1 : Hid (IsP w1 b S) := hP.out.below hb
  have HB1 := Lib.hid hb
  clear hb
  go_wp2_with fail
  rw [rounds_succ]
  go_wp2_with fail
  have c0 := HP1.out.pr m m9
  have c1 : w1.cell? ⟨b, 30, none⟩ = some (.int .u64 (S.th 1)) := HP1.out.th 1 (by decide)
  have K0 := cell_regrown c0; have K1 := cell_regrown c1
  have q0 : ∀ dd os, Calls Tryz.prog 95 #[.pointer (some ⟨b, 0, none⟩), .int .i64 1] (grow (redrawn w1 dd) os) fun e w'' => e = .returned (.int .i64 m) ∧ ∃ p : Regrown, w'' = grow (redrawn w1 p.d) p.os := fun dd os =>
    q_int HM.out (best_c b 1 S _ (HP1.out.below (below_regrown w1 dd os)) hO (by show 1 < 2; decide))
  refine wp_region_quiet_below (by kernel_rfl) (by kernel_rfl) ?_
  repeat (go_big_quiet_step (first | (go_at_call 95; exact q0 _ _)))
  refine wpQuiet_nil ?_
  intro _ hw'
  obtain ⟨⟨dq, osq⟩, hw''⟩ := hw'
  subst hw''
  have hb := below_regrown w1 dq osq
  generalize grow (redrawn w1 dq) osq = w2 at hb ⊢
  clear K0 K1 c0 c1 q0
  have HP2 : Hid (IsP w2 b S) := HP1.out.below hb
  have HB2 := Lib.hid hb
  clear hb
  go_wp2_with fail
  rw [rounds_succ]
  go_wp2_with fail
  go_ret
  exact retU_mk rfl (HB1.out.trans (HB2.out.mono HB1.out.size))
theorem pend_c (b : Nat) (S : St) (w : World) (hP : Hid (IsP w b S)) (hO : Hid (OkS S)) : Calls Tryz.prog 68 #[.pointer (some ⟨b, 0, none⟩)] w (RetU (pendF S) w) := by
  have e : pendF S = (bif aboveB S 0 then 2048 else 0) + (bif aboveB S 1 then 512 else 0) := rfl
  have n9 := best_lt S 0 7
  have m9 := best_lt S 1 7
  cases hA : aboveB S 0
  · cases hB : aboveB S 1
    · rw [hA, hB] at e; rw [e]; exact pend_ff b _ _ S w hP hO n9 m9 rfl rfl hA hB
    · rw [hA, hB] at e; rw [e]; exact pend_ft b _ _ S w hP hO n9 m9 rfl rfl hA hB
  · cases hB : aboveB S 1
    · rw [hA, hB] at e; rw [e]; exact pend_tf b _ _ S w hP hO n9 m9 rfl rfl hA hB
    · rw [hA, hB] at e; rw [e]; exact pend_tt b _ _ S w hP hO n9 m9 rfl rfl hA hB
end Go.Proofs.YtoicpikkcefheaaGreat.P
