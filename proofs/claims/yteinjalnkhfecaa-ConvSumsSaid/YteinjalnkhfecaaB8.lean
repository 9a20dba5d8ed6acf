/- The contracts of Compare. -/
import Derived.Test.YteinjalnkhfecaaB7
import Derived.Lib.QuietBelow
import Derived.Deep.QuietTactic
import Derived.BigQuiet
namespace Go.Proofs.Yteinjalnkhfecaa
open Go.ChangeShapes Go.WideShapes Go.ChangeAt Go.RowKit Go.Sort
set_option linter.unusedVariables false
set_option linter.unusedSimpArgs false
def sameV (d : Bool) (a b : Nat) : Bool := decide (rankV d a = rankV d b ∨ (farN d a = 0 ∧ farN d b = 0))
def belowV (d : Bool) (a b : Nat) : Bool := !sameV d a b && decide (rankV d a < rankV d b)
def cmpV (k : Int) (d : Bool) (a b : Nat) : Int :=
  if noneV d a = true ∨ noneV d b = true then 0 else if (k ≠ 70 ∧ sameV d a b = true) ∨ (k ≠ 69 ∧ belowV d a b = true) then 1 else 0
def cmpF (k : Int) (d : Bool) (a b : Nat) : Int := if noneV d a = true ∨ noneV d b = true then (if k = 69 then flagS (clsV d a) (clsV d b) else 16) else 0
theorem q_int {W : World} {dd : Nat} {os : Array Obj} {f : FuncId} {args : Array Value} {n m : Int} (h : n = m) (c : Calls Try.prog f args (grow (redrawn W dd) os) (RetI n (grow (redrawn W dd) os))) :
    Calls Try.prog f args (grow (redrawn W dd) os) fun e w'' => e = .returned (.int .i64 m) ∧ ∃ p : Regrown, w'' = grow (redrawn W p.d) p.os := Calls.regrown_of (c.mono fun _ _ h' => ⟨by rw [h'.1, h], h'.2⟩)
theorem q_u64 {W : World} {dd : Nat} {os : Array Obj} {f : FuncId} {args : Array Value} {n m : Nat} (h : n = m) (c : Calls Try.prog f args (grow (redrawn W dd) os) (RetU n (grow (redrawn W dd) os))) :
    Calls Try.prog f args (grow (redrawn W dd) os) fun e w'' => e = .returned (.int .u64 m) ∧ ∃ p : Regrown, w'' = grow (redrawn W p.d) p.os := Calls.regrown_of (c.mono fun _ _ h' => ⟨by rw [h'.1, h], h'.2⟩)
theorem or_zero (x y : Nat) (hx : x < 18446744073709551616) (hy : y < 18446744073709551616) : (bits .or .u64 (x : Int) (y : Int) == 0) = decide (x = 0 ∧ y = 0) := by
  rw [bits_or_u64_nat _ _ hx hy, Bool.eq_iff_iff]
  simp only [beq_iff_eq, decide_eq_true_eq, Int.natCast_eq_zero, Nat.or_eq_zero_iff]
theorem farN_lt (d : Bool) (a : Nat) : farN d a < 18446744073709551616 := by
  cases d
  · exact Nat.lt_trans (Nat.mod_lt _ (by decide)) (by decide : signB false < _)
  · exact Nat.lt_trans (Nat.mod_lt _ (by decide)) (by decide : signB true < _)
set_option maxRecDepth 100000 in
set_option maxHeartbeats 2000000 in
theorem Compare_69 (sz : Int) (d : Bool) (hsz : Hid (SzOk sz d)) (a b : Nat) (ha : Hid (a < 18446744073709551616)) (hb : Hid (b < 18446744073709551616)) (w : World) :
    Calls Try.prog 28 #[.int .i64 69, .int .i64 sz, .int .u64 a, .int .u64 b] w (RetL (cmpV 69 d a b) (cmpF 69 d a b) w) := by
  go_enter Try.func28, Try.ntmps28
  go_wp2_with fail
  refine (layoutOf_s sz d hsz _).mono ?_; rintro e w1 ⟨E, F, rfl, hd, hb1⟩; obtain ⟨hc1, hf1⟩ := bcell hb1; have hz1 := hb1.size; (try simp only [sz_alloc, sz_drew, sz_set] at hz1 hc1 hf1)
  clear hc1 hf1
  go_wp2_with fail
  refine (isNone_c d E F hd a ha _).mono ?_; rintro e w2 ⟨rfl, hb2⟩; obtain ⟨hc2, hf2⟩ := bcell hb2; have hz2 := hb2.size; (try simp only [sz_alloc, sz_drew, sz_set] at hz2 hc2 hf2); have l2_0 : w1.heap.size < w2.heap.size := (by omega); have n2_0 : ¬ w1.heap.size = w2.heap.size := (by omega); have m2_0 : ¬ w2.heap.size = w1.heap.size := (by omega); have k2_0 := fun o => hc2 (w1.heap.size) o (by omega); have f2_0 := fun o => hf2 (w1.heap.size) o (by omega); (try simp (disch := (first | rfl | omega | (simp only [sz_alloc, sz_drew, sz_set]; omega))) only [sz_alloc, sz_drew, sz_set, World.cell?_drew, World.frozen?_drew, World.cell?_alloc_at, World.cell?_alloc_past, World.frozen?_alloc_at, World.frozen?_alloc_past] at k2_0 f2_0)
  clear hc2 hf2
  cases hna : noneV d a
  · have HA := Lib.hid hna; clear hna
    go_wp2_with fail
    refine (isNone_c d E F hd b hb _).mono ?_; rintro e w3 ⟨rfl, hb3⟩; obtain ⟨hc3, hf3⟩ := bcell hb3; have hz3 := hb3.size; (try simp only [sz_alloc, sz_drew, sz_set] at hz3 hc3 hf3); have l3_0 : w1.heap.size < w3.heap.size := (by omega); have n3_0 : ¬ w1.heap.size = w3.heap.size := (by omega); have m3_0 : ¬ w3.heap.size = w1.heap.size := (by omega); have k3_0 := fun o => hc3 (w1.heap.size) o (by omega); have f3_0 := fun o => hf3 (w1.heap.size) o (by omega); (try simp (disch := (first | rfl | omega | (simp only [sz_alloc, sz_drew, sz_set]; omega))) only [sz_alloc, sz_drew, sz_set, World.cell?_drew, World.frozen?_drew, World.cell?_alloc_at, World.cell?_alloc_past, World.frozen?_alloc_at, World.frozen?_alloc_past, hc2, hf2] at k3_0 f3_0)
    clear hc3 hf3
    cases hnb : noneV d b
    · have HB := Lib.hid hnb; clear hnb
      have HV : Hid (cmpV 69 d a b = (if (69 ≠ (70 : Int) ∧ sameV d a b = true) ∨ (69 ≠ (69 : Int) ∧ belowV d a b = true) then 1 else 0) ∧ cmpF 69 d a b = 0) := by
        have hn : ¬ ((false : Bool) = true ∨ (false : Bool) = true) := by simp
        show _ ∧ _; unfold cmpV cmpF; rw [HA.out, HB.out, if_neg hn, if_neg hn]; exact ⟨rfl, rfl⟩
      go_wp2_with fail
      by_cases hr : rankV d a = rankV d b
      · have hs : sameV d a b = true := decide_eq_true (.inl hr)
        have HQ : Hid (cmpV 69 d a b = 1 ∧ cmpF 69 d a b = 0) := by
          refine ⟨HV.out.1.trans ?_, HV.out.2⟩; unfold belowV; rw [hs]; rfl
        have hrb : rankV d b = rankV d a := hr.symm
        clear hr hs
        generalize hra : rankV d a = ra at hrb
        have HRA := Lib.hid hra; have HRB := Lib.hid hrb; clear hra hrb
        have c0 : w3.cell? ⟨w1.heap.size, 0, none⟩ = some (.int .i64 E) := by rw [k3_0, k2_0]; rfl
        have c1 : w3.cell? ⟨w1.heap.size, 1, none⟩ = some (.int .i64 F) := by rw [k3_0, k2_0]; rfl
        have K0 := cell_regrown c0
        have K1 := cell_regrown c1
        have qra : ∀ dd os, Calls Try.prog 70 #[.agg #[.int .i64 E, .int .i64 F], .int .u64 a] (grow (redrawn w3 dd) os) fun e w'' => e = .returned (.int .i64 ra) ∧ ∃ p : Regrown, w'' = grow (redrawn w3 p.d) p.os := fun dd os => q_int HRA.out (rank_c d E F hd a ha _)
        have qrb : ∀ dd os, Calls Try.prog 70 #[.agg #[.int .i64 E, .int .i64 F], .int .u64 b] (grow (redrawn w3 dd) os) fun e w'' => e = .returned (.int .i64 ra) ∧ ∃ p : Regrown, w'' = grow (redrawn w3 p.d) p.os := fun dd os => q_int HRB.out (rank_c d E F hd b hb _)
        refine wp_region_quiet_below (by kernel_rfl) (by kernel_rfl) ?_
        repeat (go_big_quiet_step ((first | (go_at_call_of 70 (Value.int .u64 (a : Int)); exact qra _ _) | (go_at_call_of 70 (Value.int .u64 (b : Int)); exact qrb _ _))))
        refine wpQuiet_nil ?_
        intro _ hw'
        obtain ⟨⟨dq, osq⟩, hw''⟩ := hw'
        subst hw''
        have hb4 := below_regrown w3 dq osq
        generalize grow (redrawn w3 dq) osq = w4 at hb4 ⊢
        clear K0 K1 c0 c1 qra qrb
        obtain ⟨hc4, hf4⟩ := bcell hb4; have hz4 := hb4.size; (try simp only [sz_alloc, sz_drew, sz_set] at hz4 hc4 hf4); have l4_0 : w1.heap.size < w4.heap.size := (by omega); have n4_0 : ¬ w1.heap.size = w4.heap.size := (by omega); have m4_0 : ¬ w4.heap.size = w1.heap.size := (by omega); have k4_0 := fun o => hc4 (w1.heap.size) o (by omega); have f4_0 := fun o => hf4 (w1.heap.size) o (by omega); (try simp (disch := (first | rfl | omega | (simp only [sz_alloc, sz_drew, sz_set]; omega))) only [sz_alloc, sz_drew, sz_set, World.cell?_drew, World.frozen?_drew, World.cell?_alloc_at, World.cell?_alloc_past, World.frozen?_alloc_at, World.frozen?_alloc_past] at k4_0 f4_0)
        clear hc4 hf4
        go_wp2_with fail
        have c0 : w4.cell? ⟨w1.heap.size, 0, none⟩ = some (.int .i64 E) := by rw [k4_0, k3_0, k2_0]; rfl
        have c1 : w4.cell? ⟨w1.heap.size, 1, none⟩ = some (.int .i64 F) := by rw [k4_0, k3_0, k2_0]; rfl
        have K0 := cell_regrown c0
        have K1 := cell_regrown c1
        refine wp_region_quiet_below (by kernel_rfl) (by kernel_rfl) ?_
        repeat (go_big_quiet_step (fail))
        refine wpQuiet_nil ?_
        intro _ hw'
        obtain ⟨⟨dq, osq⟩, hw''⟩ := hw'
        subst hw''
        have hb5 := below_regrown w4 dq osq
        generalize grow (redrawn w4 dq) osq = w5 at hb5 ⊢
        clear K0 K1 c0 c1 
        obtain ⟨hc5, hf5⟩ := bcell hb5; have hz5 := hb5.size; (try simp only [sz_alloc, sz_drew, sz_set] at hz5 hc5 hf5); have l5_0 : w1.heap.size < w5.heap.size := (by omega); have n5_0 : ¬ w1.heap.size = w5.heap.size := (by omega); have m5_0 : ¬ w5.heap.size = w1.heap.size := (by omega); have k5_0 := fun o => hc5 (w1.heap.size) o (by omega); have f5_0 := fun o => hf5 (w1.heap.size) o (by omega); (try simp (disch := (first | rfl | omega | (simp only [sz_alloc, sz_drew, sz_set]; omega))) only [sz_alloc, sz_drew, sz_set, World.cell?_drew, World.frozen?_drew, World.cell?_alloc_at, World.cell?_alloc_past, World.frozen?_alloc_at, World.frozen?_alloc_past] at k5_0 f5_0)
        clear hc5 hf5
        all_goals go_wp2_with fail
        all_goals go_ret2
        all_goals exact retL_mk (by rw [HQ.out.1]) (by rw [HQ.out.2]) (by repeat (first | (with_reducible first | exact Below.refl _ _ | assumption | exact Nat.le_refl _ | refine Below.drew ?_ | refine Below.alloc ?_ ?_ _ | refine Below.setCell ?_ ?_ _ | refine le_alloc ?_ | refine le_set ?_ | refine le_drew ?_ | refine below_step (by assumption) ?_ ?_ | refine le_below (by assumption) ?_) | (dsimp only; omega)))
      · have hr1 : (rankV d a == rankV d b) = false := by rw [beq_eq_false_iff_ne]; exact hr
        by_cases hz : farN d a = 0 ∧ farN d b = 0
        · have hs : sameV d a b = true := decide_eq_true (.inr hz)
          have HQ : Hid (cmpV 69 d a b = 1 ∧ cmpF 69 d a b = 0) := by
            refine ⟨HV.out.1.trans ?_, HV.out.2⟩; unfold belowV; rw [hs]; rfl
          have hz1 : (bits .or .u64 ((farN d a : Nat) : Int) ((farN d b : Nat) : Int) == 0) = true := by rw [or_zero _ _ (farN_lt _ _) (farN_lt _ _)]; exact decide_eq_true hz
          clear hr hs hz
          generalize hra : rankV d a = ra at hr1
          generalize hrb : rankV d b = rb at hr1
          generalize hxa : farN d a = xa at hz1
          generalize hxb : farN d b = xb at hz1
          have HRA := Lib.hid hra; have HRB := Lib.hid hrb; have HXA := Lib.hid hxa; have HXB := Lib.hid hxb; clear hra hrb hxa hxb
          have c0 : w3.cell? ⟨w1.heap.size, 0, none⟩ = some (.int .i64 E) := by rw [k3_0, k2_0]; rfl
          have c1 : w3.cell? ⟨w1.heap.size, 1, none⟩ = some (.int .i64 F) := by rw [k3_0, k2_0]; rfl
          have K0 := cell_regrown c0
          have K1 := cell_regrown c1
          have qra : ∀ dd os, Calls Try.prog 70 #[.agg #[.int .i64 E, .int .i64 F], .int .u64 a] (grow (redrawn w3 dd) os) fun e w'' => e = .returned (.int .i64 ra) ∧ ∃ p : Regrown, w'' = grow (redrawn w3 p.d) p.os := fun dd os => q_int HRA.out (rank_c d E F hd a ha _)
          have qrb : ∀ dd os, Calls Try.prog 70 #[.agg #[.int .i64 E, .int .i64 F], .int .u64 b] (grow (redrawn w3 dd) os) fun e w'' => e = .returned (.int .i64 rb) ∧ ∃ p : Regrown, w'' = grow (redrawn w3 p.d) p.os := fun dd os => q_int HRB.out (rank_c d E F hd b hb _)
          have qfa : ∀ dd os, Calls Try.prog 66 #[.agg #[.int .i64 E, .int .i64 F], .int .u64 a] (grow (redrawn w3 dd) os) fun e w'' => e = .returned (.int .u64 (xa : Nat)) ∧ ∃ p : Regrown, w'' = grow (redrawn w3 p.d) p.os := fun dd os => q_u64 HXA.out (far_c d E F hd a ha _)
          have qfb : ∀ dd os, Calls Try.prog 66 #[.agg #[.int .i64 E, .int .i64 F], .int .u64 b] (grow (redrawn w3 dd) os) fun e w'' => e = .returned (.int .u64 (xb : Nat)) ∧ ∃ p : Regrown, w'' = grow (redrawn w3 p.d) p.os := fun dd os => q_u64 HXB.out (far_c d E F hd b hb _)
          refine wp_region_quiet_below (by kernel_rfl) (by kernel_rfl) ?_
          repeat (go_big_quiet_step ((first | (go_at_call_of 70 (Value.int .u64 (a : Int)); exact qra _ _) | (go_at_call_of 70 (Value.int .u64 (b : Int)); exact qrb _ _) | (go_at_call_of 66 (Value.int .u64 (a : Int)); exact qfa _ _) | (go_at_call_of 66 (Value.int .u64 (b : Int)); exact qfb _ _))))
          refine wpQuiet_nil ?_
          intro _ hw'
          obtain ⟨⟨dq, osq⟩, hw''⟩ := hw'
          subst hw''
          have hb4 := below_regrown w3 dq osq
          generalize grow (redrawn w3 dq) osq = w4 at hb4 ⊢
          clear K0 K1 c0 c1 qra qrb qfa qfb
          obtain ⟨hc4, hf4⟩ := bcell hb4; have hz4 := hb4.size; (try simp only [sz_alloc, sz_drew, sz_set] at hz4 hc4 hf4); have l4_0 : w1.heap.size < w4.heap.size := (by omega); have n4_0 : ¬ w1.heap.size = w4.heap.size := (by omega); have m4_0 : ¬ w4.heap.size = w1.heap.size := (by omega); have k4_0 := fun o => hc4 (w1.heap.size) o (by omega); have f4_0 := fun o => hf4 (w1.heap.size) o (by omega); (try simp (disch := (first | rfl | omega | (simp only [sz_alloc, sz_drew, sz_set]; omega))) only [sz_alloc, sz_drew, sz_set, World.cell?_drew, World.frozen?_drew, World.cell?_alloc_at, World.cell?_alloc_past, World.frozen?_alloc_at, World.frozen?_alloc_past] at k4_0 f4_0)
          clear hc4 hf4
          go_wp2_with fail
          have c0 : w4.cell? ⟨w1.heap.size, 0, none⟩ = some (.int .i64 E) := by rw [k4_0, k3_0, k2_0]; rfl
          have c1 : w4.cell? ⟨w1.heap.size, 1, none⟩ = some (.int .i64 F) := by rw [k4_0, k3_0, k2_0]; rfl
          have K0 := cell_regrown c0
          have K1 := cell_regrown c1
          refine wp_region_quiet_below (by kernel_rfl) (by kernel_rfl) ?_
          repeat (go_big_quiet_step (fail))
          refine wpQuiet_nil ?_
          intro _ hw'
          obtain ⟨⟨dq, osq⟩, hw''⟩ := hw'
          subst hw''
          have hb5 := below_regrown w4 dq osq
          generalize grow (redrawn w4 dq) osq = w5 at hb5 ⊢
          clear K0 K1 c0 c1 
          obtain ⟨hc5, hf5⟩ := bcell hb5; have hz5 := hb5.size; (try simp only [sz_alloc, sz_drew, sz_set] at hz5 hc5 hf5); have l5_0 : w1.heap.size < w5.heap.size := (by omega); have n5_0 : ¬ w1.heap.size = w5.heap.size := (by omega); have m5_0 : ¬ w5.heap.size = w1.heap.size := (by omega); have k5_0 := fun o => hc5 (w1.heap.size) o (by omega); have f5_0 := fun o => hf5 (w1.heap.size) o (by omega); (try simp (disch := (first | rfl | omega | (simp only [sz_alloc, sz_drew, sz_set]; omega))) only [sz_alloc, sz_drew, sz_set, World.cell?_drew, World.frozen?_drew, World.cell?_alloc_at, World.cell?_alloc_past, World.frozen?_alloc_at, World.frozen?_alloc_past] at k5_0 f5_0)
          clear hc5 hf5
          all_goals go_wp2_with fail
          all_goals go_ret2
          all_goals exact retL_mk (by rw [HQ.out.1]) (by rw [HQ.out.2]) (by repeat (first | (with_reducible first | exact Below.refl _ _ | assumption | exact Nat.le_refl _ | refine Below.drew ?_ | refine Below.alloc ?_ ?_ _ | refine Below.setCell ?_ ?_ _ | refine le_alloc ?_ | refine le_set ?_ | refine le_drew ?_ | refine below_step (by assumption) ?_ ?_ | refine le_below (by assumption) ?_) | (dsimp only; omega)))
        · have hs : sameV d a b = false := decide_eq_false (fun h => h.elim hr hz)
          have hz1 : (bits .or .u64 ((farN d a : Nat) : Int) ((farN d b : Nat) : Int) == 0) = false := by rw [or_zero _ _ (farN_lt _ _) (farN_lt _ _)]; exact decide_eq_false hz
          by_cases hl : rankV d a < rankV d b
          · have HQ : Hid (cmpV 69 d a b = 0 ∧ cmpF 69 d a b = 0) := by
              refine ⟨HV.out.1.trans ?_, HV.out.2⟩; unfold belowV; rw [hs, decide_eq_true hl]; rfl
            have hl1 := decide_eq_true hl
            clear hr hs hz hl
            generalize hra : rankV d a = ra at hr1 hl1
            generalize hrb : rankV d b = rb at hr1 hl1
            generalize hxa : farN d a = xa at hz1
            generalize hxb : farN d b = xb at hz1
            have HRA := Lib.hid hra; have HRB := Lib.hid hrb; have HXA := Lib.hid hxa; have HXB := Lib.hid hxb; clear hra hrb hxa hxb
            have c0 : w3.cell? ⟨w1.heap.size, 0, none⟩ = some (.int .i64 E) := by rw [k3_0, k2_0]; rfl
            have c1 : w3.cell? ⟨w1.heap.size, 1, none⟩ = some (.int .i64 F) := by rw [k3_0, k2_0]; rfl
            have K0 := cell_regrown c0
            have K1 := cell_regrown c1
            have qra : ∀ dd os, Calls Try.prog 70 #[.agg #[.int .i64 E, .int .i64 F], .int .u64 a] (grow (redrawn w3 dd) os) fun e w'' => e = .returned (.int .i64 ra) ∧ ∃ p : Regrown, w'' = grow (redrawn w3 p.d) p.os := fun dd os => q_int HRA.out (rank_c d E F hd a ha _)
            have qrb : ∀ dd os, Calls Try.prog 70 #[.agg #[.int .i64 E, .int .i64 F], .int .u64 b] (grow (redrawn w3 dd) os) fun e w'' => e = .returned (.int .i64 rb) ∧ ∃ p : Regrown, w'' = grow (redrawn w3 p.d) p.os := fun dd os => q_int HRB.out (rank_c d E F hd b hb _)
            have qfa : ∀ dd os, Calls Try.prog 66 #[.agg #[.int .i64 E, .int .i64 F], .int .u64 a] (grow (redrawn w3 dd) os) fun e w'' => e = .returned (.int .u64 (xa : Nat)) ∧ ∃ p : Regrown, w'' = grow (redrawn w3 p.d) p.os := fun dd os => q_u64 HXA.out (far_c d E F hd a ha _)
            have qfb : ∀ dd os, Calls Try.prog 66 #[.agg #[.int .i64 E, .int .i64 F], .int .u64 b] (grow (redrawn w3 dd) os) fun e w'' => e = .returned (.int .u64 (xb : Nat)) ∧ ∃ p : Regrown, w'' = grow (redrawn w3 p.d) p.os := fun dd os => q_u64 HXB.out (far_c d E F hd b hb _)
            refine wp_region_quiet_below (by kernel_rfl) (by kernel_rfl) ?_
            repeat (go_big_quiet_step ((first | (go_at_call_of 70 (Value.int .u64 (a : Int)); exact qra _ _) | (go_at_call_of 70 (Value.int .u64 (b : Int)); exact qrb _ _) | (go_at_call_of 66 (Value.int .u64 (a : Int)); exact qfa _ _) | (go_at_call_of 66 (Value.int .u64 (b : Int)); exact qfb _ _))))
            refine wpQuiet_nil ?_
            intro _ hw'
            obtain ⟨⟨dq, osq⟩, hw''⟩ := hw'
            subst hw''
            have hb4 := below_regrown w3 dq osq
            generalize grow (redrawn w3 dq) osq = w4 at hb4 ⊢
            clear K0 K1 c0 c1 qra qrb qfa qfb
            obtain ⟨hc4, hf4⟩ := bcell hb4; have hz4 := hb4.size; (try simp only [sz_alloc, sz_drew, sz_set] at hz4 hc4 hf4); have l4_0 : w1.heap.size < w4.heap.size := (by omega); have n4_0 : ¬ w1.heap.size = w4.heap.size := (by omega); have m4_0 : ¬ w4.heap.size = w1.heap.size := (by omega); have k4_0 := fun o => hc4 (w1.heap.size) o (by omega); have f4_0 := fun o => hf4 (w1.heap.size) o (by omega); (try simp (disch := (first | rfl | omega | (simp only [sz_alloc, sz_drew, sz_set]; omega))) only [sz_alloc, sz_drew, sz_set, World.cell?_drew, World.frozen?_drew, World.cell?_alloc_at, World.cell?_alloc_past, World.frozen?_alloc_at, World.frozen?_alloc_past] at k4_0 f4_0)
            clear hc4 hf4
            go_wp2_with fail
            have c0 : w4.cell? ⟨w1.heap.size, 0, none⟩ = some (.int .i64 E) := by rw [k4_0, k3_0, k2_0]; rfl
            have c1 : w4.cell? ⟨w1.heap.size, 1, none⟩ = some (.int .i64 F) := by rw [k4_0, k3_0, k2_0]; rfl
            have K0 := cell_regrown c0
            have K1 := cell_regrown c1
            have qra : ∀ dd os, Calls Try.prog 70 #[.agg #[.int .i64 E, .int .i64 F], .int .u64 a] (grow (redrawn w4 dd) os) fun e w'' => e = .returned (.int .i64 ra) ∧ ∃ p : Regrown, w'' = grow (redrawn w4 p.d) p.os := fun dd os => q_int HRA.out (rank_c d E F hd a ha _)
            have qrb : ∀ dd os, Calls Try.prog 70 #[.agg #[.int .i64 E, .int .i64 F], .int .u64 b] (grow (redrawn w4 dd) os) fun e w'' => e = .returned (.int .i64 rb) ∧ ∃ p : Regrown, w'' = grow (redrawn w4 p.d) p.os := fun dd os => q_int HRB.out (rank_c d E F hd b hb _)
            refine wp_region_quiet_below (by kernel_rfl) (by kernel_rfl) ?_
            repeat (go_big_quiet_step ((first | (go_at_call_of 70 (Value.int .u64 (a : Int)); exact qra _ _) | (go_at_call_of 70 (Value.int .u64 (b : Int)); exact qrb _ _))))
            refine wpQuiet_nil ?_
            intro _ hw'
            obtain ⟨⟨dq, osq⟩, hw''⟩ := hw'
            subst hw''
            have hb5 := below_regrown w4 dq osq
            generalize grow (redrawn w4 dq) osq = w5 at hb5 ⊢
            clear K0 K1 c0 c1 qra qrb
            obtain ⟨hc5, hf5⟩ := bcell hb5; have hz5 := hb5.size; (try simp only [sz_alloc, sz_drew, sz_set] at hz5 hc5 hf5); have l5_0 : w1.heap.size < w5.heap.size := (by omega); have n5_0 : ¬ w1.heap.size = w5.heap.size := (by omega); have m5_0 : ¬ w5.heap.size = w1.heap.size := (by omega); have k5_0 := fun o => hc5 (w1.heap.size) o (by omega); have f5_0 := fun o => hf5 (w1.heap.size) o (by omega); (try simp (disch := (first | rfl | omega | (simp only [sz_alloc, sz_drew, sz_set]; omega))) only [sz_alloc, sz_drew, sz_set, World.cell?_drew, World.frozen?_drew, World.cell?_alloc_at, World.cell?_alloc_past, World.frozen?_alloc_at, World.frozen?_alloc_past] at k5_0 f5_0)
            clear hc5 hf5
            all_goals go_wp2_with fail
            all_goals go_ret2
            all_goals exact retL_mk (by rw [HQ.out.1]) (by rw [HQ.out.2]) (by repeat (first | (with_reducible first | exact Below.refl _ _ | assumption | exact Nat.le_refl _ | refine Below.drew ?_ | refine Below.alloc ?_ ?_ _ | refine Below.setCell ?_ ?_ _ | refine le_alloc ?_ | refine le_set ?_ | refine le_drew ?_ | refine below_step (by assumption) ?_ ?_ | refine le_below (by assumption) ?_) | (dsimp only; omega)))
          · have HQ : Hid (cmpV 69 d a b = 0 ∧ cmpF 69 d a b = 0) := by
              refine ⟨HV.out.1.trans ?_, HV.out.2⟩; unfold belowV; rw [hs, decide_eq_false hl]; rfl
            have hl1 := decide_eq_false hl
            clear hr hs hz hl
            generalize hra : rankV d a = ra at hr1 hl1
            generalize hrb : rankV d b = rb at hr1 hl1
            generalize hxa : farN d a = xa at hz1
            generalize hxb : farN d b = xb at hz1
            have HRA := Lib.hid hra; have HRB := Lib.hid hrb; have HXA := Lib.hid hxa; have HXB := Lib.hid hxb; clear hra hrb hxa hxb
            have c0 : w3.cell? ⟨w1.heap.size, 0, none⟩ = some (.int .i64 E) := by rw [k3_0, k2_0]; rfl
            have c1 : w3.cell? ⟨w1.heap.size, 1, none⟩ = some (.int .i64 F) := by rw [k3_0, k2_0]; rfl
            have K0 := cell_regrown c0
            have K1 := cell_regrown c1
            have qra : ∀ dd os, Calls Try.prog 70 #[.agg #[.int .i64 E, .int .i64 F], .int .u64 a] (grow (redrawn w3 dd) os) fun e w'' => e = .returned (.int .i64 ra) ∧ ∃ p : Regrown, w'' = grow (redrawn w3 p.d) p.os := fun dd os => q_int HRA.out (rank_c d E F hd a ha _)
            have qrb : ∀ dd os, Calls Try.prog 70 #[.agg #[.int .i64 E, .int .i64 F], .int .u64 b] (grow (redrawn w3 dd) os) fun e w'' => e = .returned (.int .i64 rb) ∧ ∃ p : Regrown, w'' = grow (redrawn w3 p.d) p.os := fun dd os => q_int HRB.out (rank_c d E F hd b hb _)
            have qfa : ∀ dd os, Calls Try.prog 66 #[.agg #[.int .i64 E, .int .i64 F], .int .u64 a] (grow (redrawn w3 dd) os) fun e w'' => e = .returned (.int .u64 (xa : Nat)) ∧ ∃ p : Regrown, w'' = grow (redrawn w3 p.d) p.os := fun dd os => q_u64 HXA.out (far_c d E F hd a ha _)
            have qfb : ∀ dd os, Calls Try.prog 66 #[.agg #[.int .i64 E, .int .i64 F], .int .u64 b] (grow (redrawn w3 dd) os) fun e w'' => e = .returned (.int .u64 (xb : Nat)) ∧ ∃ p : Regrown, w'' = grow (redrawn w3 p.d) p.os := fun dd os => q_u64 HXB.out (far_c d E F hd b hb _)
            refine wp_region_quiet_below (by kernel_rfl) (by kernel_rfl) ?_
            repeat (go_big_quiet_step ((first | (go_at_call_of 70 (Value.int .u64 (a : Int)); exact qra _ _) | (go_at_call_of 70 (Value.int .u64 (b : Int)); exact qrb _ _) | (go_at_call_of 66 (Value.int .u64 (a : Int)); exact qfa _ _) | (go_at_call_of 66 (Value.int .u64 (b : Int)); exact qfb _ _))))
            refine wpQuiet_nil ?_
            intro _ hw'
            obtain ⟨⟨dq, osq⟩, hw''⟩ := hw'
            subst hw''
            have hb4 := below_regrown w3 dq osq
            generalize grow (redrawn w3 dq) osq = w4 at hb4 ⊢
            clear K0 K1 c0 c1 qra qrb qfa qfb
            obtain ⟨hc4, hf4⟩ := bcell hb4; have hz4 := hb4.size; (try simp only [sz_alloc, sz_drew, sz_set] at hz4 hc4 hf4); have l4_0 : w1.heap.size < w4.heap.size := (by omega); have n4_0 : ¬ w1.heap.size = w4.heap.size := (by omega); have m4_0 : ¬ w4.heap.size = w1.heap.size := (by omega); have k4_0 := fun o => hc4 (w1.heap.size) o (by omega); have f4_0 := fun o => hf4 (w1.heap.size) o (by omega); (try simp (disch := (first | rfl | omega | (simp only [sz_alloc, sz_drew, sz_set]; omega))) only [sz_alloc, sz_drew, sz_set, World.cell?_drew, World.frozen?_drew, World.cell?_alloc_at, World.cell?_alloc_past, World.frozen?_alloc_at, World.frozen?_alloc_past] at k4_0 f4_0)
            clear hc4 hf4
            go_wp2_with fail
            have c0 : w4.cell? ⟨w1.heap.size, 0, none⟩ = some (.int .i64 E) := by rw [k4_0, k3_0, k2_0]; rfl
            have c1 : w4.cell? ⟨w1.heap.size, 1, none⟩ = some (.int .i64 F) := by rw [k4_0, k3_0, k2_0]; rfl
            have K0 := cell_regrown c0
            have K1 := cell_regrown c1
            have qra : ∀ dd os, Calls Try.prog 70 #[.agg #[.int .i64 E, .int .i64 F], .int .u64 a] (grow (redrawn w4 dd) os) fun e w'' => e = .returned (.int .i64 ra) ∧ ∃ p : Regrown, w'' = grow (redrawn w4 p.d) p.os := fun dd os => q_int HRA.out (rank_c d E F hd a ha _)
            have qrb : ∀ dd os, Calls Try.prog 70 #[.agg #[.int .i64 E, .int .i64 F], .int .u64 b] (grow (redrawn w4 dd) os) fun e w'' => e = .returned (.int .i64 rb) ∧ ∃ p : Regrown, w'' = grow (redrawn w4 p.d) p.os := fun dd os => q_int HRB.out (rank_c d E F hd b hb _)
            refine wp_region_quiet_below (by kernel_rfl) (by kernel_rfl) ?_
            repeat (go_big_quiet_step ((first | (go_at_call_of 70 (Value.int .u64 (a : Int)); exact qra _ _) | (go_at_call_of 70 (Value.int .u64 (b : Int)); exact qrb _ _))))
            refine wpQuiet_nil ?_
            intro _ hw'
            obtain ⟨⟨dq, osq⟩, hw''⟩ := hw'
            subst hw''
            have hb5 := below_regrown w4 dq osq
            generalize grow (redrawn w4 dq) osq = w5 at hb5 ⊢
            clear K0 K1 c0 c1 qra qrb
            obtain ⟨hc5, hf5⟩ := bcell hb5; have hz5 := hb5.size; (try simp only [sz_alloc, sz_drew, sz_set] at hz5 hc5 hf5); have l5_0 : w1.heap.size < w5.heap.size := (by omega); have n5_0 : ¬ w1.heap.size = w5.heap.size := (by omega); have m5_0 : ¬ w5.heap.size = w1.heap.size := (by omega); have k5_0 := fun o => hc5 (w1.heap.size) o (by omega); have f5_0 := fun o => hf5 (w1.heap.size) o (by omega); (try simp (disch := (first | rfl | omega | (simp only [sz_alloc, sz_drew, sz_set]; omega))) only [sz_alloc, sz_drew, sz_set, World.cell?_drew, World.frozen?_drew, World.cell?_alloc_at, World.cell?_alloc_past, World.frozen?_alloc_at, World.frozen?_alloc_past] at k5_0 f5_0)
            clear hc5 hf5
            all_goals go_wp2_with fail
            all_goals go_ret2
            all_goals exact retL_mk (by rw [HQ.out.1]) (by rw [HQ.out.2]) (by repeat (first | (with_reducible first | exact Below.refl _ _ | assumption | exact Nat.le_refl _ | refine Below.drew ?_ | refine Below.alloc ?_ ?_ _ | refine Below.setCell ?_ ?_ _ | refine le_alloc ?_ | refine le_set ?_ | refine le_drew ?_ | refine below_step (by assumption) ?_ ?_ | refine le_below (by assumption) ?_) | (dsimp only; omega)))
    · have HB := Lib.hid hnb; clear hnb
      have HQ : Hid (cmpV 69 d a b = 0 ∧ cmpF 69 d a b = flagS (clsV d a) (clsV d b)) := by
        show _ ∧ _; unfold cmpV cmpF; rw [HB.out, if_pos (.inr rfl), if_pos (.inr rfl)]; exact ⟨rfl, rfl⟩
      go_wp2_with fail
      refine (ofSig2_c d E F hd a b ha hb _ w3.heap.size (by simp only [sz_alloc]; omega) (fun o => World.cell?_alloc_at _ _ _ _ rfl)).mono ?_
      rintro e w8 ⟨rfl, hb8⟩
      generalize flagS (clsV d a) (clsV d b) = fl at *
      go_wp2_with fail
      go_ret2
      exact retL_mk (by rw [HQ.out.1]) (by rw [HQ.out.2]) (by repeat (first | (with_reducible first | exact Below.refl _ _ | assumption | exact Nat.le_refl _ | refine Below.drew ?_ | refine Below.alloc ?_ ?_ _ | refine Below.setCell ?_ ?_ _ | refine le_alloc ?_ | refine le_set ?_ | refine le_drew ?_ | refine below_step (by assumption) ?_ ?_ | refine le_below (by assumption) ?_) | (dsimp only; omega)))
  · have HA := Lib.hid hna; clear hna
    have HQ : Hid (cmpV 69 d a b = 0 ∧ cmpF 69 d a b = flagS (clsV d a) (clsV d b)) := by
      show _ ∧ _; unfold cmpV cmpF; rw [HA.out, if_pos (.inl rfl), if_pos (.inl rfl)]; exact ⟨rfl, rfl⟩
    go_wp2_with fail
    refine (ofSig2_c d E F hd a b ha hb _ w2.heap.size (by simp only [sz_alloc]; omega) (fun o => World.cell?_alloc_at _ _ _ _ rfl)).mono ?_
    rintro e w8 ⟨rfl, hb8⟩
    generalize flagS (clsV d a) (clsV d b) = fl at *
    go_wp2_with fail
    go_ret2
    exact retL_mk (by rw [HQ.out.1]) (by rw [HQ.out.2]) (by repeat (first | (with_reducible first | exact Below.refl _ _ | assumption | exact Nat.le_refl _ | refine Below.drew ?_ | refine Below.alloc ?_ ?_ _ | refine Below.setCell ?_ ?_ _ | refine le_alloc ?_ | refine le_set ?_ | refine le_drew ?_ | refine below_step (by assumption) ?_ ?_ | refine le_below (by assumption) ?_) | (dsimp only; omega)))
set_option maxRecDepth 100000 in
set_option maxHeartbeats 2000000 in
theorem Compare_70 (sz : Int) (d : Bool) (hsz : Hid (SzOk sz d)) (a b : Nat) (ha : Hid (a < 18446744073709551616)) (hb : Hid (b < 18446744073709551616)) (w : World) :
    Calls Try.prog 28 #[.int .i64 70, .int .i64 sz, .int .u64 a, .int .u64 b] w (RetL (cmpV 70 d a b) (cmpF 70 d a b) w) := by
  go_enter Try.func28, Try.ntmps28
  go_wp2_with fail
  refine (layoutOf_s sz d hsz _).mono ?_; rintro e w1 ⟨E, F, rfl, hd, hb1⟩; obtain ⟨hc1, hf1⟩ := bcell hb1; have hz1 := hb1.size; (try simp only [sz_alloc, sz_drew, sz_set] at hz1 hc1 hf1)
  clear hc1 hf1
  go_wp2_with fail
  refine (isNone_c d E F hd a ha _).mono ?_; rintro e w2 ⟨rfl, hb2⟩; obtain ⟨hc2, hf2⟩ := bcell hb2; have hz2 := hb2.size; (try simp only [sz_alloc, sz_drew, sz_set] at hz2 hc2 hf2); have l2_0 : w1.heap.size < w2.heap.size := (by omega); have n2_0 : ¬ w1.heap.size = w2.heap.size := (by omega); have m2_0 : ¬ w2.heap.size = w1.heap.size := (by omega); have k2_0 := fun o => hc2 (w1.heap.size) o (by omega); have f2_0 := fun o => hf2 (w1.heap.size) o (by omega); (try simp (disch := (first | rfl | omega | (simp only [sz_alloc, sz_drew, sz_set]; omega))) only [sz_alloc, sz_drew, sz_set, World.cell?_drew, World.frozen?_drew, World.cell?_alloc_at, World.cell?_alloc_past, World.frozen?_alloc_at, World.frozen?_alloc_past] at k2_0 f2_0)
  clear hc2 hf2
  cases hna : noneV d a
  · have HA := Lib.hid hna; clear hna
    go_wp2_with fail
    refine (isNone_c d E F hd b hb _).mono ?_; rintro e w3 ⟨rfl, hb3⟩; obtain ⟨hc3, hf3⟩ := bcell hb3; have hz3 := hb3.size; (try simp only [sz_alloc, sz_drew, sz_set] at hz3 hc3 hf3); have l3_0 : w1.heap.size < w3.heap.size := (by omega); have n3_0 : ¬ w1.heap.size = w3.heap.size := (by omega); have m3_0 : ¬ w3.heap.size = w1.heap.size := (by omega); have k3_0 := fun o => hc3 (w1.heap.size) o (by omega); have f3_0 := fun o => hf3 (w1.heap.size) o (by omega); (try simp (disch := (first | rfl | omega | (simp only [sz_alloc, sz_drew, sz_set]; omega))) only [sz_alloc, sz_drew, sz_set, World.cell?_drew, World.frozen?_drew, World.cell?_alloc_at, World.cell?_alloc_past, World.frozen?_alloc_at, World.frozen?_alloc_past, hc2, hf2] at k3_0 f3_0)
    clear hc3 hf3
    cases hnb : noneV d b
    · have HB := Lib.hid hnb; clear hnb
      have HV : Hid (cmpV 70 d a b = (if (70 ≠ (70 : Int) ∧ sameV d a b = true) ∨ (70 ≠ (69 : Int) ∧ belowV d a b = true) then 1 else 0) ∧ cmpF 70 d a b = 0) := by
        have hn : ¬ ((false : Bool) = true ∨ (false : Bool) = true) := by simp
        show _ ∧ _; unfold cmpV cmpF; rw [HA.out, HB.out, if_neg hn, if_neg hn]; exact ⟨rfl, rfl⟩
      go_wp2_with fail
      by_cases hr : rankV d a = rankV d b
      · have hs : sameV d a b = true := decide_eq_true (.inl hr)
        have HQ : Hid (cmpV 70 d a b = 0 ∧ cmpF 70 d a b = 0) := by
          refine ⟨HV.out.1.trans ?_, HV.out.2⟩; unfold belowV; rw [hs]; rfl
        have hrb : rankV d b = rankV d a := hr.symm
        clear hr hs
        generalize hra : rankV d a = ra at hrb
        have HRA := Lib.hid hra; have HRB := Lib.hid hrb; clear hra hrb
        have c0 : w3.cell? ⟨w1.heap.size, 0, none⟩ = some (.int .i64 E) := by rw [k3_0, k2_0]; rfl
        have c1 : w3.cell? ⟨w1.heap.size, 1, none⟩ = some (.int .i64 F) := by rw [k3_0, k2_0]; rfl
        have K0 := cell_regrown c0
        have K1 := cell_regrown c1
        have qra : ∀ dd os, Calls Try.prog 70 #[.agg #[.int .i64 E, .int .i64 F], .int .u64 a] (grow (redrawn w3 dd) os) fun e w'' => e = .returned (.int .i64 ra) ∧ ∃ p : Regrown, w'' = grow (redrawn w3 p.d) p.os := fun dd os => q_int HRA.out (rank_c d E F hd a ha _)
        have qrb : ∀ dd os, Calls Try.prog 70 #[.agg #[.int .i64 E, .int .i64 F], .int .u64 b] (grow (redrawn w3 dd) os) fun e w'' => e = .returned (.int .i64 ra) ∧ ∃ p : Regrown, w'' = grow (redrawn w3 p.d) p.os := fun dd os => q_int HRB.out (rank_c d E F hd b hb _)
        refine wp_region_quiet_below (by kernel_rfl) (by kernel_rfl) ?_
        repeat (go_big_quiet_step ((first | (go_at_call_of 70 (Value.int .u64 (a : Int)); exact qra _ _) | (go_at_call_of 70 (Value.int .u64 (b : Int)); exact qrb _ _))))
        refine wpQuiet_nil ?_
        intro _ hw'
        obtain ⟨⟨dq, osq⟩, hw''⟩ := hw'
        subst hw''
        have hb4 := below_regrown w3 dq osq
        generalize grow (redrawn w3 dq) osq = w4 at hb4 ⊢
        clear K0 K1 c0 c1 qra qrb
        obtain ⟨hc4, hf4⟩ := bcell hb4; have hz4 := hb4.size; (try simp only [sz_alloc, sz_drew, sz_set] at hz4 hc4 hf4); have l4_0 : w1.heap.size < w4.heap.size := (by omega); have n4_0 : ¬ w1.heap.size = w4.heap.size := (by omega); have m4_0 : ¬ w4.heap.size = w1.heap.size := (by omega); have k4_0 := fun o => hc4 (w1.heap.size) o (by omega); have f4_0 := fun o => hf4 (w1.heap.size) o (by omega); (try simp (disch := (first | rfl | omega | (simp only [sz_alloc, sz_drew, sz_set]; omega))) only [sz_alloc, sz_drew, sz_set, World.cell?_drew, World.frozen?_drew, World.cell?_alloc_at, World.cell?_alloc_past, World.frozen?_alloc_at, World.frozen?_alloc_past] at k4_0 f4_0)
        clear hc4 hf4
        go_wp2_with fail
        have c0 : w4.cell? ⟨w1.heap.size, 0, none⟩ = some (.int .i64 E) := by rw [k4_0, k3_0, k2_0]; rfl
        have c1 : w4.cell? ⟨w1.heap.size, 1, none⟩ = some (.int .i64 F) := by rw [k4_0, k3_0, k2_0]; rfl
        have K0 := cell_regrown c0
        have K1 := cell_regrown c1
        refine wp_region_quiet_below (by kernel_rfl) (by kernel_rfl) ?_
        repeat (go_big_quiet_step (fail))
        refine wpQuiet_nil ?_
        intro _ hw'
        obtain ⟨⟨dq, osq⟩, hw''⟩ := hw'
        subst hw''
        have hb5 := below_regrown w4 dq osq
        generalize grow (redrawn w4 dq) osq = w5 at hb5 ⊢
        clear K0 K1 c0 c1 
        obtain ⟨hc5, hf5⟩ := bcell hb5; have hz5 := hb5.size; (try simp only [sz_alloc, sz_drew, sz_set] at hz5 hc5 hf5); have l5_0 : w1.heap.size < w5.heap.size := (by omega); have n5_0 : ¬ w1.heap.size = w5.heap.size := (by omega); have m5_0 : ¬ w5.heap.size = w1.heap.size := (by omega); have k5_0 := fun o => hc5 (w1.heap.size) o (by omega); have f5_0 := fun o => hf5 (w1.heap.size) o (by omega); (try simp (disch := (first | rfl | omega | (simp only [sz_alloc, sz_drew, sz_set]; omega))) only [sz_alloc, sz_drew, sz_set, World.cell?_drew, World.frozen?_drew, World.cell?_alloc_at, World.cell?_alloc_past, World.frozen?_alloc_at, World.frozen?_alloc_past] at k5_0 f5_0)
        clear hc5 hf5
        all_goals go_wp2_with fail
        all_goals go_ret2
        all_goals exact retL_mk (by rw [HQ.out.1]) (by rw [HQ.out.2]) (by repeat (first | (with_reducible first | exact Below.refl _ _ | assumption | exact Nat.le_refl _ | refine Below.drew ?_ | refine Below.alloc ?_ ?_ _ | refine Below.setCell ?_ ?_ _ | refine le_alloc ?_ | refine le_set ?_ | refine le_drew ?_ | refine below_step (by assumption) ?_ ?_ | refine le_below (by assumption) ?_) | (dsimp only; omega)))
      · have hr1 : (rankV d a == rankV d b) = false := by rw [beq_eq_false_iff_ne]; exact hr
        by_cases hz : farN d a = 0 ∧ farN d b = 0
        · have hs : sameV d a b = true := decide_eq_true (.inr hz)
          have HQ : Hid (cmpV 70 d a b = 0 ∧ cmpF 70 d a b = 0) := by
            refine ⟨HV.out.1.trans ?_, HV.out.2⟩; unfold belowV; rw [hs]; rfl
          have hz1 : (bits .or .u64 ((farN d a : Nat) : Int) ((farN d b : Nat) : Int) == 0) = true := by rw [or_zero _ _ (farN_lt _ _) (farN_lt _ _)]; exact decide_eq_true hz
          clear hr hs hz
          generalize hra : rankV d a = ra at hr1
          generalize hrb : rankV d b = rb at hr1
          generalize hxa : farN d a = xa at hz1
          generalize hxb : farN d b = xb at hz1
          have HRA := Lib.hid hra; have HRB := Lib.hid hrb; have HXA := Lib.hid hxa; have HXB := Lib.hid hxb; clear hra hrb hxa hxb
          have c0 : w3.cell? ⟨w1.heap.size, 0, none⟩ = some (.int .i64 E) := by rw [k3_0, k2_0]; rfl
          have c1 : w3.cell? ⟨w1.heap.size, 1, none⟩ = some (.int .i64 F) := by rw [k3_0, k2_0]; rfl
          have K0 := cell_regrown c0
          have K1 := cell_regrown c1
          have qra : ∀ dd os, Calls Try.prog 70 #[.agg #[.int .i64 E, .int .i64 F], .int .u64 a] (grow (redrawn w3 dd) os) fun e w'' => e = .returned (.int .i64 ra) ∧ ∃ p : Regrown, w'' = grow (redrawn w3 p.d) p.os := fun dd os => q_int HRA.out (rank_c d E F hd a ha _)
          have qrb : ∀ dd os, Calls Try.prog 70 #[.agg #[.int .i64 E, .int .i64 F], .int .u64 b] (grow (redrawn w3 dd) os) fun e w'' => e = .returned (.int .i64 rb) ∧ ∃ p : Regrown, w'' = grow (redrawn w3 p.d) p.os := fun dd os => q_int HRB.out (rank_c d E F hd b hb _)
          have qfa : ∀ dd os, Calls Try.prog 66 #[.agg #[.int .i64 E, .int .i64 F], .int .u64 a] (grow (redrawn w3 dd) os) fun e w'' => e = .returned (.int .u64 (xa : Nat)) ∧ ∃ p : Regrown, w'' = grow (redrawn w3 p.d) p.os := fun dd os => q_u64 HXA.out (far_c d E F hd a ha _)
          have qfb : ∀ dd os, Calls Try.prog 66 #[.agg #[.int .i64 E, .int .i64 F], .int .u64 b] (grow (redrawn w3 dd) os) fun e w'' => e = .returned (.int .u64 (xb : Nat)) ∧ ∃ p : Regrown, w'' = grow (redrawn w3 p.d) p.os := fun dd os => q_u64 HXB.out (far_c d E F hd b hb _)
          refine wp_region_quiet_below (by kernel_rfl) (by kernel_rfl) ?_
          repeat (go_big_quiet_step ((first | (go_at_call_of 70 (Value.int .u64 (a : Int)); exact qra _ _) | (go_at_call_of 70 (Value.int .u64 (b : Int)); exact qrb _ _) | (go_at_call_of 66 (Value.int .u64 (a : Int)); exact qfa _ _) | (go_at_call_of 66 (Value.int .u64 (b : Int)); exact qfb _ _))))
          refine wpQuiet_nil ?_
          intro _ hw'
          obtain ⟨⟨dq, osq⟩, hw''⟩ := hw'
          subst hw''
          have hb4 := below_regrown w3 dq osq
          generalize grow (redrawn w3 dq) osq = w4 at hb4 ⊢
          clear K0 K1 c0 c1 qra qrb qfa qfb
          obtain ⟨hc4, hf4⟩ := bcell hb4; have hz4 := hb4.size; (try simp only [sz_alloc, sz_drew, sz_set] at hz4 hc4 hf4); have l4_0 : w1.heap.size < w4.heap.size := (by omega); have n4_0 : ¬ w1.heap.size = w4.heap.size := (by omega); have m4_0 : ¬ w4.heap.size = w1.heap.size := (by omega); have k4_0 := fun o => hc4 (w1.heap.size) o (by omega); have f4_0 := fun o => hf4 (w1.heap.size) o (by omega); (try simp (disch := (first | rfl | omega | (simp only [sz_alloc, sz_drew, sz_set]; omega))) only [sz_alloc, sz_drew, sz_set, World.cell?_drew, World.frozen?_drew, World.cell?_alloc_at, World.cell?_alloc_past, World.frozen?_alloc_at, World.frozen?_alloc_past] at k4_0 f4_0)
          clear hc4 hf4
          go_wp2_with fail
          have c0 : w4.cell? ⟨w1.heap.size, 0, none⟩ = some (.int .i64 E) := by rw [k4_0, k3_0, k2_0]; rfl
          have c1 : w4.cell? ⟨w1.heap.size, 1, none⟩ = some (.int .i64 F) := by rw [k4_0, k3_0, k2_0]; rfl
          have K0 := cell_regrown c0
          have K1 := cell_regrown c1
          refine wp_region_quiet_below (by kernel_rfl) (by kernel_rfl) ?_
          repeat (go_big_quiet_step (fail))
          refine wpQuiet_nil ?_
          intro _ hw'
          obtain ⟨⟨dq, osq⟩, hw''⟩ := hw'
          subst hw''
          have hb5 := below_regrown w4 dq osq
          generalize grow (redrawn w4 dq) osq = w5 at hb5 ⊢
          clear K0 K1 c0 c1 
          obtain ⟨hc5, hf5⟩ := bcell hb5; have hz5 := hb5.size; (try simp only [sz_alloc, sz_drew, sz_set] at hz5 hc5 hf5); have l5_0 : w1.heap.size < w5.heap.size := (by omega); have n5_0 : ¬ w1.heap.size = w5.heap.size := (by omega); have m5_0 : ¬ w5.heap.size = w1.heap.size := (by omega); have k5_0 := fun o => hc5 (w1.heap.size) o (by omega); have f5_0 := fun o => hf5 (w1.heap.size) o (by omega); (try simp (disch := (first | rfl | omega | (simp only [sz_alloc, sz_drew, sz_set]; omega))) only [sz_alloc, sz_drew, sz_set, World.cell?_drew, World.frozen?_drew, World.cell?_alloc_at, World.cell?_alloc_past, World.frozen?_alloc_at, World.frozen?_alloc_past] at k5_0 f5_0)
          clear hc5 hf5
          all_goals go_wp2_with fail
          all_goals go_ret2
          all_goals exact retL_mk (by rw [HQ.out.1]) (by rw [HQ.out.2]) (by repeat (first | (with_reducible first | exact Below.refl _ _ | assumption | exact Nat.le_refl _ | refine Below.drew ?_ | refine Below.alloc ?_ ?_ _ | refine Below.setCell ?_ ?_ _ | refine le_alloc ?_ | refine le_set ?_ | refine le_drew ?_ | refine below_step (by assumption) ?_ ?_ | refine le_below (by assumption) ?_) | (dsimp only; omega)))
        · have hs : sameV d a b = false := decide_eq_false (fun h => h.elim hr hz)
          have hz1 : (bits .or .u64 ((farN d a : Nat) : Int) ((farN d b : Nat) : Int) == 0) = false := by rw [or_zero _ _ (farN_lt _ _) (farN_lt _ _)]; exact decide_eq_false hz
          by_cases hl : rankV d a < rankV d b
          · have HQ : Hid (cmpV 70 d a b = 1 ∧ cmpF 70 d a b = 0) := by
              refine ⟨HV.out.1.trans ?_, HV.out.2⟩; unfold belowV; rw [hs, decide_eq_true hl]; rfl
            have hl1 := decide_eq_true hl
            clear hr hs hz hl
            generalize hra : rankV d a = ra at hr1 hl1
            generalize hrb : rankV d b = rb at hr1 hl1
            generalize hxa : farN d a = xa at hz1
            generalize hxb : farN d b = xb at hz1
            have HRA := Lib.hid hra; have HRB := Lib.hid hrb; have HXA := Lib.hid hxa; have HXB := Lib.hid hxb; clear hra hrb hxa hxb
            have c0 : w3.cell? ⟨w1.heap.size, 0, none⟩ = some (.int .i64 E) := by rw [k3_0, k2_0]; rfl
            have c1 : w3.cell? ⟨w1.heap.size, 1, none⟩ = some (.int .i64 F) := by rw [k3_0, k2_0]; rfl
            have K0 := cell_regrown c0
            have K1 := cell_regrown c1
            have qra : ∀ dd os, Calls Try.prog 70 #[.agg #[.int .i64 E, .int .i64 F], .int .u64 a] (grow (redrawn w3 dd) os) fun e w'' => e = .returned (.int .i64 ra) ∧ ∃ p : Regrown, w'' = grow (redrawn w3 p.d) p.os := fun dd os => q_int HRA.out (rank_c d E F hd a ha _)
            have qrb : ∀ dd os, Calls Try.prog 70 #[.agg #[.int .i64 E, .int .i64 F], .int .u64 b] (grow (redrawn w3 dd) os) fun e w'' => e = .returned (.int .i64 rb) ∧ ∃ p : Regrown, w'' = grow (redrawn w3 p.d) p.os := fun dd os => q_int HRB.out (rank_c d E F hd b hb _)
            have qfa : ∀ dd os, Calls Try.prog 66 #[.agg #[.int .i64 E, .int .i64 F], .int .u64 a] (grow (redrawn w3 dd) os) fun e w'' => e = .returned (.int .u64 (xa : Nat)) ∧ ∃ p : Regrown, w'' = grow (redrawn w3 p.d) p.os := fun dd os => q_u64 HXA.out (far_c d E F hd a ha _)
            have qfb : ∀ dd os, Calls Try.prog 66 #[.agg #[.int .i64 E, .int .i64 F], .int .u64 b] (grow (redrawn w3 dd) os) fun e w'' => e = .returned (.int .u64 (xb : Nat)) ∧ ∃ p : Regrown, w'' = grow (redrawn w3 p.d) p.os := fun dd os => q_u64 HXB.out (far_c d E F hd b hb _)
            refine wp_region_quiet_below (by kernel_rfl) (by kernel_rfl) ?_
            repeat (go_big_quiet_step ((first | (go_at_call_of 70 (Value.int .u64 (a : Int)); exact qra _ _) | (go_at_call_of 70 (Value.int .u64 (b : Int)); exact qrb _ _) | (go_at_call_of 66 (Value.int .u64 (a : Int)); exact qfa _ _) | (go_at_call_of 66 (Value.int .u64 (b : Int)); exact qfb _ _))))
            refine wpQuiet_nil ?_
            intro _ hw'
            obtain ⟨⟨dq, osq⟩, hw''⟩ := hw'
            subst hw''
            have hb4 := below_regrown w3 dq osq
            generalize grow (redrawn w3 dq) osq = w4 at hb4 ⊢
            clear K0 K1 c0 c1 qra qrb qfa qfb
            obtain ⟨hc4, hf4⟩ := bcell hb4; have hz4 := hb4.size; (try simp only [sz_alloc, sz_drew, sz_set] at hz4 hc4 hf4); have l4_0 : w1.heap.size < w4.heap.size := (by omega); have n4_0 : ¬ w1.heap.size = w4.heap.size := (by omega); have m4_0 : ¬ w4.heap.size = w1.heap.size := (by omega); have k4_0 := fun o => hc4 (w1.heap.size) o (by omega); have f4_0 := fun o => hf4 (w1.heap.size) o (by omega); (try simp (disch := (first | rfl | omega | (simp only [sz_alloc, sz_drew, sz_set]; omega))) only [sz_alloc, sz_drew, sz_set, World.cell?_drew, World.frozen?_drew, World.cell?_alloc_at, World.cell?_alloc_past, World.frozen?_alloc_at, World.frozen?_alloc_past] at k4_0 f4_0)
            clear hc4 hf4
            go_wp2_with fail
            have c0 : w4.cell? ⟨w1.heap.size, 0, none⟩ = some (.int .i64 E) := by rw [k4_0, k3_0, k2_0]; rfl
            have c1 : w4.cell? ⟨w1.heap.size, 1, none⟩ = some (.int .i64 F) := by rw [k4_0, k3_0, k2_0]; rfl
            have K0 := cell_regrown c0
            have K1 := cell_regrown c1
            have qra : ∀ dd os, Calls Try.prog 70 #[.agg #[.int .i64 E, .int .i64 F], .int .u64 a] (grow (redrawn w4 dd) os) fun e w'' => e = .returned (.int .i64 ra) ∧ ∃ p : Regrown, w'' = grow (redrawn w4 p.d) p.os := fun dd os => q_int HRA.out (rank_c d E F hd a ha _)
            have qrb : ∀ dd os, Calls Try.prog 70 #[.agg #[.int .i64 E, .int .i64 F], .int .u64 b] (grow (redrawn w4 dd) os) fun e w'' => e = .returned (.int .i64 rb) ∧ ∃ p : Regrown, w'' = grow (redrawn w4 p.d) p.os := fun dd os => q_int HRB.out (rank_c d E F hd b hb _)
            refine wp_region_quiet_below (by kernel_rfl) (by kernel_rfl) ?_
            repeat (go_big_quiet_step ((first | (go_at_call_of 70 (Value.int .u64 (a : Int)); exact qra _ _) | (go_at_call_of 70 (Value.int .u64 (b : Int)); exact qrb _ _))))
            refine wpQuiet_nil ?_
            intro _ hw'
            obtain ⟨⟨dq, osq⟩, hw''⟩ := hw'
            subst hw''
            have hb5 := below_regrown w4 dq osq
            generalize grow (redrawn w4 dq) osq = w5 at hb5 ⊢
            clear K0 K1 c0 c1 qra qrb
            obtain ⟨hc5, hf5⟩ := bcell hb5; have hz5 := hb5.size; (try simp only [sz_alloc, sz_drew, sz_set] at hz5 hc5 hf5); have l5_0 : w1.heap.size < w5.heap.size := (by omega); have n5_0 : ¬ w1.heap.size = w5.heap.size := (by omega); have m5_0 : ¬ w5.heap.size = w1.heap.size := (by omega); have k5_0 := fun o => hc5 (w1.heap.size) o (by omega); have f5_0 := fun o => hf5 (w1.heap.size) o (by omega); (try simp (disch := (first | rfl | omega | (simp only [sz_alloc, sz_drew, sz_set]; omega))) only [sz_alloc, sz_drew, sz_set, World.cell?_drew, World.frozen?_drew, World.cell?_alloc_at, World.cell?_alloc_past, World.frozen?_alloc_at, World.frozen?_alloc_past] at k5_0 f5_0)
            clear hc5 hf5
            all_goals go_wp2_with fail
            all_goals go_ret2
            all_goals exact retL_mk (by rw [HQ.out.1]) (by rw [HQ.out.2]) (by repeat (first | (with_reducible first | exact Below.refl _ _ | assumption | exact Nat.le_refl _ | refine Below.drew ?_ | refine Below.alloc ?_ ?_ _ | refine Below.setCell ?_ ?_ _ | refine le_alloc ?_ | refine le_set ?_ | refine le_drew ?_ | refine below_step (by assumption) ?_ ?_ | refine le_below (by assumption) ?_) | (dsimp only; omega)))
          · have HQ : Hid (cmpV 70 d a b = 0 ∧ cmpF 70 d a b = 0) := by
              refine ⟨HV.out.1.trans ?_, HV.out.2⟩; unfold belowV; rw [hs, decide_eq_false hl]; rfl
            have hl1 := decide_eq_false hl
            clear hr hs hz hl
            generalize hra : rankV d a = ra at hr1 hl1
            generalize hrb : rankV d b = rb at hr1 hl1
            generalize hxa : farN d a = xa at hz1
            generalize hxb : farN d b = xb at hz1
            have HRA := Lib.hid hra; have HRB := Lib.hid hrb; have HXA := Lib.hid hxa; have HXB := Lib.hid hxb; clear hra hrb hxa hxb
            have c0 : w3.cell? ⟨w1.heap.size, 0, none⟩ = some (.int .i64 E) := by rw [k3_0, k2_0]; rfl
            have c1 : w3.cell? ⟨w1.heap.size, 1, none⟩ = some (.int .i64 F) := by rw [k3_0, k2_0]; rfl
            have K0 := cell_regrown c0
            have K1 := cell_regrown c1
            have qra : ∀ dd os, Calls Try.prog 70 #[.agg #[.int .i64 E, .int .i64 F], .int .u64 a] (grow (redrawn w3 dd) os) fun e w'' => e = .returned (.int .i64 ra) ∧ ∃ p : Regrown, w'' = grow (redrawn w3 p.d) p.os := fun dd os => q_int HRA.out (rank_c d E F hd a ha _)
            have qrb : ∀ dd os, Calls Try.prog 70 #[.agg #[.int .i64 E, .int .i64 F], .int .u64 b] (grow (redrawn w3 dd) os) fun e w'' => e = .returned (.int .i64 rb) ∧ ∃ p : Regrown, w'' = grow (redrawn w3 p.d) p.os := fun dd os => q_int HRB.out (rank_c d E F hd b hb _)
            have qfa : ∀ dd os, Calls Try.prog 66 #[.agg #[.int .i64 E, .int .i64 F], .int .u64 a] (grow (redrawn w3 dd) os) fun e w'' => e = .returned (.int .u64 (xa : Nat)) ∧ ∃ p : Regrown, w'' = grow (redrawn w3 p.d) p.os := fun dd os => q_u64 HXA.out (far_c d E F hd a ha _)
            have qfb : ∀ dd os, Calls Try.prog 66 #[.agg #[.int .i64 E, .int .i64 F], .int .u64 b] (grow (redrawn w3 dd) os) fun e w'' => e = .returned (.int .u64 (xb : Nat)) ∧ ∃ p : Regrown, w'' = grow (redrawn w3 p.d) p.os := fun dd os => q_u64 HXB.out (far_c d E F hd b hb _)
            refine wp_region_quiet_below (by kernel_rfl) (by kernel_rfl) ?_
            repeat (go_big_quiet_step ((first | (go_at_call_of 70 (Value.int .u64 (a : Int)); exact qra _ _) | (go_at_call_of 70 (Value.int .u64 (b : Int)); exact qrb _ _) | (go_at_call_of 66 (Value.int .u64 (a : Int)); exact qfa _ _) | (go_at_call_of 66 (Value.int .u64 (b : Int)); exact qfb _ _))))
            refine wpQuiet_nil ?_
            intro _ hw'
            obtain ⟨⟨dq, osq⟩, hw''⟩ := hw'
            subst hw''
            have hb4 := below_regrown w3 dq osq
            generalize grow (redrawn w3 dq) osq = w4 at hb4 ⊢
            clear K0 K1 c0 c1 qra qrb qfa qfb
            obtain ⟨hc4, hf4⟩ := bcell hb4; have hz4 := hb4.size; (try simp only [sz_alloc, sz_drew, sz_set] at hz4 hc4 hf4); have l4_0 : w1.heap.size < w4.heap.size := (by omega); have n4_0 : ¬ w1.heap.size = w4.heap.size := (by omega); have m4_0 : ¬ w4.heap.size = w1.heap.size := (by omega); have k4_0 := fun o => hc4 (w1.heap.size) o (by omega); have f4_0 := fun o => hf4 (w1.heap.size) o (by omega); (try simp (disch := (first | rfl | omega | (simp only [sz_alloc, sz_drew, sz_set]; omega))) only [sz_alloc, sz_drew, sz_set, World.cell?_drew, World.frozen?_drew, World.cell?_alloc_at, World.cell?_alloc_past, World.frozen?_alloc_at, World.frozen?_alloc_past] at k4_0 f4_0)
            clear hc4 hf4
            go_wp2_with fail
            have c0 : w4.cell? ⟨w1.heap.size, 0, none⟩ = some (.int .i64 E) := by rw [k4_0, k3_0, k2_0]; rfl
            have c1 : w4.cell? ⟨w1.heap.size, 1, none⟩ = some (.int .i64 F) := by rw [k4_0, k3_0, k2_0]; rfl
            have K0 := cell_regrown c0
            have K1 := cell_regrown c1
            have qra : ∀ dd os, Calls Try.prog 70 #[.agg #[.int .i64 E, .int .i64 F], .int .u64 a] (grow (redrawn w4 dd) os) fun e w'' => e = .returned (.int .i64 ra) ∧ ∃ p : Regrown, w'' = grow (redrawn w4 p.d) p.os := fun dd os => q_int HRA.out (rank_c d E F hd a ha _)
            have qrb : ∀ dd os, Calls Try.prog 70 #[.agg #[.int .i64 E, .int .i64 F], .int .u64 b] (grow (redrawn w4 dd) os) fun e w'' => e = .returned (.int .i64 rb) ∧ ∃ p : Regrown, w'' = grow (redrawn w4 p.d) p.os := fun dd os => q_int HRB.out (rank_c d E F hd b hb _)
            refine wp_region_quiet_below (by kernel_rfl) (by kernel_rfl) ?_
            repeat (go_big_quiet_step ((first | (go_at_call_of 70 (Value.int .u64 (a : Int)); exact qra _ _) | (go_at_call_of 70 (Value.int .u64 (b : Int)); exact qrb _ _))))
            refine wpQuiet_nil ?_
            intro _ hw'
            obtain ⟨⟨dq, osq⟩, hw''⟩ := hw'
            subst hw''
            have hb5 := below_regrown w4 dq osq
            generalize grow (redrawn w4 dq) osq = w5 at hb5 ⊢
            clear K0 K1 c0 c1 qra qrb
            obtain ⟨hc5, hf5⟩ := bcell hb5; have hz5 := hb5.size; (try simp only [sz_alloc, sz_drew, sz_set] at hz5 hc5 hf5); have l5_0 : w1.heap.size < w5.heap.size := (by omega); have n5_0 : ¬ w1.heap.size = w5.heap.size := (by omega); have m5_0 : ¬ w5.heap.size = w1.heap.size := (by omega); have k5_0 := fun o => hc5 (w1.heap.size) o (by omega); have f5_0 := fun o => hf5 (w1.heap.size) o (by omega); (try simp (disch := (first | rfl | omega | (simp only [sz_alloc, sz_drew, sz_set]; omega))) only [sz_alloc, sz_drew, sz_set, World.cell?_drew, World.frozen?_drew, World.cell?_alloc_at, World.cell?_alloc_past, World.frozen?_alloc_at, World.frozen?_alloc_past] at k5_0 f5_0)
            clear hc5 hf5
            all_goals go_wp2_with fail
            all_goals go_ret2
            all_goals exact retL_mk (by rw [HQ.out.1]) (by rw [HQ.out.2]) (by repeat (first | (with_reducible first | exact Below.refl _ _ | assumption | exact Nat.le_refl _ | refine Below.drew ?_ | refine Below.alloc ?_ ?_ _ | refine Below.setCell ?_ ?_ _ | refine le_alloc ?_ | refine le_set ?_ | refine le_drew ?_ | refine below_step (by assumption) ?_ ?_ | refine le_below (by assumption) ?_) | (dsimp only; omega)))
    · have HB := Lib.hid hnb; clear hnb
      have HQ : Hid (cmpV 70 d a b = 0 ∧ cmpF 70 d a b = 16) := by
        show _ ∧ _; unfold cmpV cmpF; rw [HB.out, if_pos (.inr rfl), if_pos (.inr rfl)]; exact ⟨rfl, rfl⟩
      go_wp2_with fail
      go_ret2
      exact retL_mk (by rw [HQ.out.1]) (by rw [HQ.out.2]) (by repeat (first | (with_reducible first | exact Below.refl _ _ | assumption | exact Nat.le_refl _ | refine Below.drew ?_ | refine Below.alloc ?_ ?_ _ | refine Below.setCell ?_ ?_ _ | refine le_alloc ?_ | refine le_set ?_ | refine le_drew ?_ | refine below_step (by assumption) ?_ ?_ | refine le_below (by assumption) ?_) | (dsimp only; omega)))
  · have HA := Lib.hid hna; clear hna
    have HQ : Hid (cmpV 70 d a b = 0 ∧ cmpF 70 d a b = 16) := by
      show _ ∧ _; unfold cmpV cmpF; rw [HA.out, if_pos (.inl rfl), if_pos (.inl rfl)]; exact ⟨rfl, rfl⟩
    go_wp2_with fail
    go_ret2
    exact retL_mk (by rw [HQ.out.1]) (by rw [HQ.out.2]) (by repeat (first | (with_reducible first | exact Below.refl _ _ | assumption | exact Nat.le_refl _ | refine Below.drew ?_ | refine Below.alloc ?_ ?_ _ | refine Below.setCell ?_ ?_ _ | refine le_alloc ?_ | refine le_set ?_ | refine le_drew ?_ | refine below_step (by assumption) ?_ ?_ | refine le_below (by assumption) ?_) | (dsimp only; omega)))
set_option maxRecDepth 100000 in
set_option maxHeartbeats 2000000 in
theorem Compare_71 (sz : Int) (d : Bool) (hsz : Hid (SzOk sz d)) (a b : Nat) (ha : Hid (a < 18446744073709551616)) (hb : Hid (b < 18446744073709551616)) (w : World) :
    Calls Try.prog 28 #[.int .i64 71, .int .i64 sz, .int .u64 a, .int .u64 b] w (RetL (cmpV 71 d a b) (cmpF 71 d a b) w) := by
  go_enter Try.func28, Try.ntmps28
  go_wp2_with fail
  refine (layoutOf_s sz d hsz _).mono ?_; rintro e w1 ⟨E, F, rfl, hd, hb1⟩; obtain ⟨hc1, hf1⟩ := bcell hb1; have hz1 := hb1.size; (try simp only [sz_alloc, sz_drew, sz_set] at hz1 hc1 hf1)
  clear hc1 hf1
  go_wp2_with fail
  refine (isNone_c d E F hd a ha _).mono ?_; rintro e w2 ⟨rfl, hb2⟩; obtain ⟨hc2, hf2⟩ := bcell hb2; have hz2 := hb2.size; (try simp only [sz_alloc, sz_drew, sz_set] at hz2 hc2 hf2); have l2_0 : w1.heap.size < w2.heap.size := (by omega); have n2_0 : ¬ w1.heap.size = w2.heap.size := (by omega); have m2_0 : ¬ w2.heap.size = w1.heap.size := (by omega); have k2_0 := fun o => hc2 (w1.heap.size) o (by omega); have f2_0 := fun o => hf2 (w1.heap.size) o (by omega); (try simp (disch := (first | rfl | omega | (simp only [sz_alloc, sz_drew, sz_set]; omega))) only [sz_alloc, sz_drew, sz_set, World.cell?_drew, World.frozen?_drew, World.cell?_alloc_at, World.cell?_alloc_past, World.frozen?_alloc_at, World.frozen?_alloc_past] at k2_0 f2_0)
  clear hc2 hf2
  cases hna : noneV d a
  · have HA := Lib.hid hna; clear hna
    go_wp2_with fail
    refine (isNone_c d E F hd b hb _).mono ?_; rintro e w3 ⟨rfl, hb3⟩; obtain ⟨hc3, hf3⟩ := bcell hb3; have hz3 := hb3.size; (try simp only [sz_alloc, sz_drew, sz_set] at hz3 hc3 hf3); have l3_0 : w1.heap.size < w3.heap.size := (by omega); have n3_0 : ¬ w1.heap.size = w3.heap.size := (by omega); have m3_0 : ¬ w3.heap.size = w1.heap.size := (by omega); have k3_0 := fun o => hc3 (w1.heap.size) o (by omega); have f3_0 := fun o => hf3 (w1.heap.size) o (by omega); (try simp (disch := (first | rfl | omega | (simp only [sz_alloc, sz_drew, sz_set]; omega))) only [sz_alloc, sz_drew, sz_set, World.cell?_drew, World.frozen?_drew, World.cell?_alloc_at, World.cell?_alloc_past, World.frozen?_alloc_at, World.frozen?_alloc_past, hc2, hf2] at k3_0 f3_0)
    clear hc3 hf3
    cases hnb : noneV d b
    · have HB := Lib.hid hnb; clear hnb
      have HV : Hid (cmpV 71 d a b = (if (71 ≠ (70 : Int) ∧ sameV d a b = true) ∨ (71 ≠ (69 : Int) ∧ belowV d a b = true) then 1 else 0) ∧ cmpF 71 d a b = 0) := by
        have hn : ¬ ((false : Bool) = true ∨ (false : Bool) = true) := by simp
        show _ ∧ _; unfold cmpV cmpF; rw [HA.out, HB.out, if_neg hn, if_neg hn]; exact ⟨rfl, rfl⟩
      go_wp2_with fail
      by_cases hr : rankV d a = rankV d b
      · have hs : sameV d a b = true := decide_eq_true (.inl hr)
        have HQ : Hid (cmpV 71 d a b = 1 ∧ cmpF 71 d a b = 0) := by
          refine ⟨HV.out.1.trans ?_, HV.out.2⟩; unfold belowV; rw [hs]; rfl
        have hrb : rankV d b = rankV d a := hr.symm
        clear hr hs
        generalize hra : rankV d a = ra at hrb
        have HRA := Lib.hid hra; have HRB := Lib.hid hrb; clear hra hrb
        have c0 : w3.cell? ⟨w1.heap.size, 0, none⟩ = some (.int .i64 E) := by rw [k3_0, k2_0]; rfl
        have c1 : w3.cell? ⟨w1.heap.size, 1, none⟩ = some (.int .i64 F) := by rw [k3_0, k2_0]; rfl
        have K0 := cell_regrown c0
        have K1 := cell_regrown c1
        have qra : ∀ dd os, Calls Try.prog 70 #[.agg #[.int .i64 E, .int .i64 F], .int .u64 a] (grow (redrawn w3 dd) os) fun e w'' => e = .returned (.int .i64 ra) ∧ ∃ p : Regrown, w'' = grow (redrawn w3 p.d) p.os := fun dd os => q_int HRA.out (rank_c d E F hd a ha _)
        have qrb : ∀ dd os, Calls Try.prog 70 #[.agg #[.int .i64 E, .int .i64 F], .int .u64 b] (grow (redrawn w3 dd) os) fun e w'' => e = .returned (.int .i64 ra) ∧ ∃ p : Regrown, w'' = grow (redrawn w3 p.d) p.os := fun dd os => q_int HRB.out (rank_c d E F hd b hb _)
        refine wp_region_quiet_below (by kernel_rfl) (by kernel_rfl) ?_
        repeat (go_big_quiet_step ((first | (go_at_call_of 70 (Value.int .u64 (a : Int)); exact qra _ _) | (go_at_call_of 70 (Value.int .u64 (b : Int)); exact qrb _ _))))
        refine wpQuiet_nil ?_
        intro _ hw'
        obtain ⟨⟨dq, osq⟩, hw''⟩ := hw'
        subst hw''
        have hb4 := below_regrown w3 dq osq
        generalize grow (redrawn w3 dq) osq = w4 at hb4 ⊢
        clear K0 K1 c0 c1 qra qrb
        obtain ⟨hc4, hf4⟩ := bcell hb4; have hz4 := hb4.size; (try simp only [sz_alloc, sz_drew, sz_set] at hz4 hc4 hf4); have l4_0 : w1.heap.size < w4.heap.size := (by omega); have n4_0 : ¬ w1.heap.size = w4.heap.size := (by omega); have m4_0 : ¬ w4.heap.size = w1.heap.size := (by omega); have k4_0 := fun o => hc4 (w1.heap.size) o (by omega); have f4_0 := fun o => hf4 (w1.heap.size) o (by omega); (try simp (disch := (first | rfl | omega | (simp only [sz_alloc, sz_drew, sz_set]; omega))) only [sz_alloc, sz_drew, sz_set, World.cell?_drew, World.frozen?_drew, World.cell?_alloc_at, World.cell?_alloc_past, World.frozen?_alloc_at, World.frozen?_alloc_past] at k4_0 f4_0)
        clear hc4 hf4
        go_wp2_with fail
        have c0 : w4.cell? ⟨w1.heap.size, 0, none⟩ = some (.int .i64 E) := by rw [k4_0, k3_0, k2_0]; rfl
        have c1 : w4.cell? ⟨w1.heap.size, 1, none⟩ = some (.int .i64 F) := by rw [k4_0, k3_0, k2_0]; rfl
        have K0 := cell_regrown c0
        have K1 := cell_regrown c1
        refine wp_region_quiet_below (by kernel_rfl) (by kernel_rfl) ?_
        repeat (go_big_quiet_step (fail))
        refine wpQuiet_nil ?_
        intro _ hw'
        obtain ⟨⟨dq, osq⟩, hw''⟩ := hw'
        subst hw''
        have hb5 := below_regrown w4 dq osq
        generalize grow (redrawn w4 dq) osq = w5 at hb5 ⊢
        clear K0 K1 c0 c1 
        obtain ⟨hc5, hf5⟩ := bcell hb5; have hz5 := hb5.size; (try simp only [sz_alloc, sz_drew, sz_set] at hz5 hc5 hf5); have l5_0 : w1.heap.size < w5.heap.size := (by omega); have n5_0 : ¬ w1.heap.size = w5.heap.size := (by omega); have m5_0 : ¬ w5.heap.size = w1.heap.size := (by omega); have k5_0 := fun o => hc5 (w1.heap.size) o (by omega); have f5_0 := fun o => hf5 (w1.heap.size) o (by omega); (try simp (disch := (first | rfl | omega | (simp only [sz_alloc, sz_drew, sz_set]; omega))) only [sz_alloc, sz_drew, sz_set, World.cell?_drew, World.frozen?_drew, World.cell?_alloc_at, World.cell?_alloc_past, World.frozen?_alloc_at, World.frozen?_alloc_past] at k5_0 f5_0)
        clear hc5 hf5
        all_goals go_wp2_with fail
        all_goals go_ret2
        all_goals exact retL_mk (by rw [HQ.out.1]) (by rw [HQ.out.2]) (by repeat (first | (with_reducible first | exact Below.refl _ _ | assumption | exact Nat.le_refl _ | refine Below.drew ?_ | refine Below.alloc ?_ ?_ _ | refine Below.setCell ?_ ?_ _ | refine le_alloc ?_ | refine le_set ?_ | refine le_drew ?_ | refine below_step (by assumption) ?_ ?_ | refine le_below (by assumption) ?_) | (dsimp only; omega)))
      · have hr1 : (rankV d a == rankV d b) = false := by rw [beq_eq_false_iff_ne]; exact hr
        by_cases hz : farN d a = 0 ∧ farN d b = 0
        · have hs : sameV d a b = true := decide_eq_true (.inr hz)
          have HQ : Hid (cmpV 71 d a b = 1 ∧ cmpF 71 d a b = 0) := by
            refine ⟨HV.out.1.trans ?_, HV.out.2⟩; unfold belowV; rw [hs]; rfl
          have hz1 : (bits .or .u64 ((farN d a : Nat) : Int) ((farN d b : Nat) : Int) == 0) = true := by rw [or_zero _ _ (farN_lt _ _) (farN_lt _ _)]; exact decide_eq_true hz
          clear hr hs hz
          generalize hra : rankV d a = ra at hr1
          generalize hrb : rankV d b = rb at hr1
          generalize hxa : farN d a = xa at hz1
          generalize hxb : farN d b = xb at hz1
          have HRA := Lib.hid hra; have HRB := Lib.hid hrb; have HXA := Lib.hid hxa; have HXB := Lib.hid hxb; clear hra hrb hxa hxb
          have c0 : w3.cell? ⟨w1.heap.size, 0, none⟩ = some (.int .i64 E) := by rw [k3_0, k2_0]; rfl
          have c1 : w3.cell? ⟨w1.heap.size, 1, none⟩ = some (.int .i64 F) := by rw [k3_0, k2_0]; rfl
          have K0 := cell_regrown c0
          have K1 := cell_regrown c1
          have qra : ∀ dd os, Calls Try.prog 70 #[.agg #[.int .i64 E, .int .i64 F], .int .u64 a] (grow (redrawn w3 dd) os) fun e w'' => e = .returned (.int .i64 ra) ∧ ∃ p : Regrown, w'' = grow (redrawn w3 p.d) p.os := fun dd os => q_int HRA.out (rank_c d E F hd a ha _)
          have qrb : ∀ dd os, Calls Try.prog 70 #[.agg #[.int .i64 E, .int .i64 F], .int .u64 b] (grow (redrawn w3 dd) os) fun e w'' => e = .returned (.int .i64 rb) ∧ ∃ p : Regrown, w'' = grow (redrawn w3 p.d) p.os := fun dd os => q_int HRB.out (rank_c d E F hd b hb _)
          have qfa : ∀ dd os, Calls Try.prog 66 #[.agg #[.int .i64 E, .int .i64 F], .int .u64 a] (grow (redrawn w3 dd) os) fun e w'' => e = .returned (.int .u64 (xa : Nat)) ∧ ∃ p : Regrown, w'' = grow (redrawn w3 p.d) p.os := fun dd os => q_u64 HXA.out (far_c d E F hd a ha _)
          have qfb : ∀ dd os, Calls Try.prog 66 #[.agg #[.int .i64 E, .int .i64 F], .int .u64 b] (grow (redrawn w3 dd) os) fun e w'' => e = .returned (.int .u64 (xb : Nat)) ∧ ∃ p : Regrown, w'' = grow (redrawn w3 p.d) p.os := fun dd os => q_u64 HXB.out (far_c d E F hd b hb _)
          refine wp_region_quiet_below (by kernel_rfl) (by kernel_rfl) ?_
          repeat (go_big_quiet_step ((first | (go_at_call_of 70 (Value.int .u64 (a : Int)); exact qra _ _) | (go_at_call_of 70 (Value.int .u64 (b : Int)); exact qrb _ _) | (go_at_call_of 66 (Value.int .u64 (a : Int)); exact qfa _ _) | (go_at_call_of 66 (Value.int .u64 (b : Int)); exact qfb _ _))))
          refine wpQuiet_nil ?_
          intro _ hw'
          obtain ⟨⟨dq, osq⟩, hw''⟩ := hw'
          subst hw''
          have hb4 := below_regrown w3 dq osq
          generalize grow (redrawn w3 dq) osq = w4 at hb4 ⊢
          clear K0 K1 c0 c1 qra qrb qfa qfb
          obtain ⟨hc4, hf4⟩ := bcell hb4; have hz4 := hb4.size; (try simp only [sz_alloc, sz_drew, sz_set] at hz4 hc4 hf4); have l4_0 : w1.heap.size < w4.heap.size := (by omega); have n4_0 : ¬ w1.heap.size = w4.heap.size := (by omega); have m4_0 : ¬ w4.heap.size = w1.heap.size := (by omega); have k4_0 := fun o => hc4 (w1.heap.size) o (by omega); have f4_0 := fun o => hf4 (w1.heap.size) o (by omega); (try simp (disch := (first | rfl | omega | (simp only [sz_alloc, sz_drew, sz_set]; omega))) only [sz_alloc, sz_drew, sz_set, World.cell?_drew, World.frozen?_drew, World.cell?_alloc_at, World.cell?_alloc_past, World.frozen?_alloc_at, World.frozen?_alloc_past] at k4_0 f4_0)
          clear hc4 hf4
          go_wp2_with fail
          have c0 : w4.cell? ⟨w1.heap.size, 0, none⟩ = some (.int .i64 E) := by rw [k4_0, k3_0, k2_0]; rfl
          have c1 : w4.cell? ⟨w1.heap.size, 1, none⟩ = some (.int .i64 F) := by rw [k4_0, k3_0, k2_0]; rfl
          have K0 := cell_regrown c0
          have K1 := cell_regrown c1
          refine wp_region_quiet_below (by kernel_rfl) (by kernel_rfl) ?_
          repeat (go_big_quiet_step (fail))
          refine wpQuiet_nil ?_
          intro _ hw'
          obtain ⟨⟨dq, osq⟩, hw''⟩ := hw'
          subst hw''
          have hb5 := below_regrown w4 dq osq
          generalize grow (redrawn w4 dq) osq = w5 at hb5 ⊢
          clear K0 K1 c0 c1 
          obtain ⟨hc5, hf5⟩ := bcell hb5; have hz5 := hb5.size; (try simp only [sz_alloc, sz_drew, sz_set] at hz5 hc5 hf5); have l5_0 : w1.heap.size < w5.heap.size := (by omega); have n5_0 : ¬ w1.heap.size = w5.heap.size := (by omega); have m5_0 : ¬ w5.heap.size = w1.heap.size := (by omega); have k5_0 := fun o => hc5 (w1.heap.size) o (by omega); have f5_0 := fun o => hf5 (w1.heap.size) o (by omega); (try simp (disch := (first | rfl | omega | (simp only [sz_alloc, sz_drew, sz_set]; omega))) only [sz_alloc, sz_drew, sz_set, World.cell?_drew, World.frozen?_drew, World.cell?_alloc_at, World.cell?_alloc_past, World.frozen?_alloc_at, World.frozen?_alloc_past] at k5_0 f5_0)
          clear hc5 hf5
          all_goals go_wp2_with fail
          all_goals go_ret2
          all_goals exact retL_mk (by rw [HQ.out.1]) (by rw [HQ.out.2]) (by repeat (first | (with_reducible first | exact Below.refl _ _ | assumption | exact Nat.le_refl _ | refine Below.drew ?_ | refine Below.alloc ?_ ?_ _ | refine Below.setCell ?_ ?_ _ | refine le_alloc ?_ | refine le_set ?_ | refine le_drew ?_ | refine below_step (by assumption) ?_ ?_ | refine le_below (by assumption) ?_) | (dsimp only; omega)))
        · have hs : sameV d a b = false := decide_eq_false (fun h => h.elim hr hz)
          have hz1 : (bits .or .u64 ((farN d a : Nat) : Int) ((farN d b : Nat) : Int) == 0) = false := by rw [or_zero _ _ (farN_lt _ _) (farN_lt _ _)]; exact decide_eq_false hz
          by_cases hl : rankV d a < rankV d b
          · have HQ : Hid (cmpV 71 d a b = 1 ∧ cmpF 71 d a b = 0) := by
              refine ⟨HV.out.1.trans ?_, HV.out.2⟩; unfold belowV; rw [hs, decide_eq_true hl]; rfl
            have hl1 := decide_eq_true hl
            clear hr hs hz hl
            generalize hra : rankV d a = ra at hr1 hl1
            generalize hrb : rankV d b = rb at hr1 hl1
            generalize hxa : farN d a = xa at hz1
            generalize hxb : farN d b = xb at hz1
            have HRA := Lib.hid hra; have HRB := Lib.hid hrb; have HXA := Lib.hid hxa; have HXB := Lib.hid hxb; clear hra hrb hxa hxb
            have c0 : w3.cell? ⟨w1.heap.size, 0, none⟩ = some (.int .i64 E) := by rw [k3_0, k2_0]; rfl
            have c1 : w3.cell? ⟨w1.heap.size, 1, none⟩ = some (.int .i64 F) := by rw [k3_0, k2_0]; rfl
            have K0 := cell_regrown c0
            have K1 := cell_regrown c1
            have qra : ∀ dd os, Calls Try.prog 70 #[.agg #[.int .i64 E, .int .i64 F], .int .u64 a] (grow (redrawn w3 dd) os) fun e w'' => e = .returned (.int .i64 ra) ∧ ∃ p : Regrown, w'' = grow (redrawn w3 p.d) p.os := fun dd os => q_int HRA.out (rank_c d E F hd a ha _)
            have qrb : ∀ dd os, Calls Try.prog 70 #[.agg #[.int .i64 E, .int .i64 F], .int .u64 b] (grow (redrawn w3 dd) os) fun e w'' => e = .returned (.int .i64 rb) ∧ ∃ p : Regrown, w'' = grow (redrawn w3 p.d) p.os := fun dd os => q_int HRB.out (rank_c d E F hd b hb _)
            have qfa : ∀ dd os, Calls Try.prog 66 #[.agg #[.int .i64 E, .int .i64 F], .int .u64 a] (grow (redrawn w3 dd) os) fun e w'' => e = .returned (.int .u64 (xa : Nat)) ∧ ∃ p : Regrown, w'' = grow (redrawn w3 p.d) p.os := fun dd os => q_u64 HXA.out (far_c d E F hd a ha _)
            have qfb : ∀ dd os, Calls Try.prog 66 #[.agg #[.int .i64 E, .int .i64 F], .int .u64 b] (grow (redrawn w3 dd) os) fun e w'' => e = .returned (.int .u64 (xb : Nat)) ∧ ∃ p : Regrown, w'' = grow (redrawn w3 p.d) p.os := fun dd os => q_u64 HXB.out (far_c d E F hd b hb _)
            refine wp_region_quiet_below (by kernel_rfl) (by kernel_rfl) ?_
            repeat (go_big_quiet_step ((first | (go_at_call_of 70 (Value.int .u64 (a : Int)); exact qra _ _) | (go_at_call_of 70 (Value.int .u64 (b : Int)); exact qrb _ _) | (go_at_call_of 66 (Value.int .u64 (a : Int)); exact qfa _ _) | (go_at_call_of 66 (Value.int .u64 (b : Int)); exact qfb _ _))))
            refine wpQuiet_nil ?_
            intro _ hw'
            obtain ⟨⟨dq, osq⟩, hw''⟩ := hw'
            subst hw''
            have hb4 := below_regrown w3 dq osq
            generalize grow (redrawn w3 dq) osq = w4 at hb4 ⊢
            clear K0 K1 c0 c1 qra qrb qfa qfb
            obtain ⟨hc4, hf4⟩ := bcell hb4; have hz4 := hb4.size; (try simp only [sz_alloc, sz_drew, sz_set] at hz4 hc4 hf4); have l4_0 : w1.heap.size < w4.heap.size := (by omega); have n4_0 : ¬ w1.heap.size = w4.heap.size := (by omega); have m4_0 : ¬ w4.heap.size = w1.heap.size := (by omega); have k4_0 := fun o => hc4 (w1.heap.size) o (by omega); have f4_0 := fun o => hf4 (w1.heap.size) o (by omega); (try simp (disch := (first | rfl | omega | (simp only [sz_alloc, sz_drew, sz_set]; omega))) only [sz_alloc, sz_drew, sz_set, World.cell?_drew, World.frozen?_drew, World.cell?_alloc_at, World.cell?_alloc_past, World.frozen?_alloc_at, World.frozen?_alloc_past] at k4_0 f4_0)
            clear hc4 hf4
            go_wp2_with fail
            have c0 : w4.cell? ⟨w1.heap.size, 0, none⟩ = some (.int .i64 E) := by rw [k4_0, k3_0, k2_0]; rfl
            have c1 : w4.cell? ⟨w1.heap.size, 1, none⟩ = some (.int .i64 F) := by rw [k4_0, k3_0, k2_0]; rfl
            have K0 := cell_regrown c0
            have K1 := cell_regrown c1
            have qra : ∀ dd os, Calls Try.prog 70 #[.agg #[.int .i64 E, .int .i64 F], .int .u64 a] (grow (redrawn w4 dd) os) fun e w'' => e = .returned (.int .i64 ra) ∧ ∃ p : Regrown, w'' = grow (redrawn w4 p.d) p.os := fun dd os => q_int HRA.out (rank_c d E F hd a ha _)
            have qrb : ∀ dd os, Calls Try.prog 70 #[.agg #[.int .i64 E, .int .i64 F], .int .u64 b] (grow (redrawn w4 dd) os) fun e w'' => e = .returned (.int .i64 rb) ∧ ∃ p : Regrown, w'' = grow (redrawn w4 p.d) p.os := fun dd os => q_int HRB.out (rank_c d E F hd b hb _)
            refine wp_region_quiet_below (by kernel_rfl) (by kernel_rfl) ?_
            repeat (go_big_quiet_step ((first | (go_at_call_of 70 (Value.int .u64 (a : Int)); exact qra _ _) | (go_at_call_of 70 (Value.int .u64 (b : Int)); exact qrb _ _))))
            refine wpQuiet_nil ?_
            intro _ hw'
            obtain ⟨⟨dq, osq⟩, hw''⟩ := hw'
            subst hw''
            have hb5 := below_regrown w4 dq osq
            generalize grow (redrawn w4 dq) osq = w5 at hb5 ⊢
            clear K0 K1 c0 c1 qra qrb
            obtain ⟨hc5, hf5⟩ := bcell hb5; have hz5 := hb5.size; (try simp only [sz_alloc, sz_drew, sz_set] at hz5 hc5 hf5); have l5_0 : w1.heap.size < w5.heap.size := (by omega); have n5_0 : ¬ w1.heap.size = w5.heap.size := (by omega); have m5_0 : ¬ w5.heap.size = w1.heap.size := (by omega); have k5_0 := fun o => hc5 (w1.heap.size) o (by omega); have f5_0 := fun o => hf5 (w1.heap.size) o (by omega); (try simp (disch := (first | rfl | omega | (simp only [sz_alloc, sz_drew, sz_set]; omega))) only [sz_alloc, sz_drew, sz_set, World.cell?_drew, World.frozen?_drew, World.cell?_alloc_at, World.cell?_alloc_past, World.frozen?_alloc_at, World.frozen?_alloc_past] at k5_0 f5_0)
            clear hc5 hf5
            all_goals go_wp2_with fail
            all_goals go_ret2
            all_goals exact retL_mk (by rw [HQ.out.1]) (by rw [HQ.out.2]) (by repeat (first | (with_reducible first | exact Below.refl _ _ | assumption | exact Nat.le_refl _ | refine Below.drew ?_ | refine Below.alloc ?_ ?_ _ | refine Below.setCell ?_ ?_ _ | refine le_alloc ?_ | refine le_set ?_ | refine le_drew ?_ | refine below_step (by assumption) ?_ ?_ | refine le_below (by assumption) ?_) | (dsimp only; omega)))
          · have HQ : Hid (cmpV 71 d a b = 0 ∧ cmpF 71 d a b = 0) := by
              refine ⟨HV.out.1.trans ?_, HV.out.2⟩; unfold belowV; rw [hs, decide_eq_false hl]; rfl
            have hl1 := decide_eq_false hl
            clear hr hs hz hl
            generalize hra : rankV d a = ra at hr1 hl1
            generalize hrb : rankV d b = rb at hr1 hl1
            generalize hxa : farN d a = xa at hz1
            generalize hxb : farN d b = xb at hz1
            have HRA := Lib.hid hra; have HRB := Lib.hid hrb; have HXA := Lib.hid hxa; have HXB := Lib.hid hxb; clear hra hrb hxa hxb
            have c0 : w3.cell? ⟨w1.heap.size, 0, none⟩ = some (.int .i64 E) := by rw [k3_0, k2_0]; rfl
            have c1 : w3.cell? ⟨w1.heap.size, 1, none⟩ = some (.int .i64 F) := by rw [k3_0, k2_0]; rfl
            have K0 := cell_regrown c0
            have K1 := cell_regrown c1
            have qra : ∀ dd os, Calls Try.prog 70 #[.agg #[.int .i64 E, .int .i64 F], .int .u64 a] (grow (redrawn w3 dd) os) fun e w'' => e = .returned (.int .i64 ra) ∧ ∃ p : Regrown, w'' = grow (redrawn w3 p.d) p.os := fun dd os => q_int HRA.out (rank_c d E F hd a ha _)
            have qrb : ∀ dd os, Calls Try.prog 70 #[.agg #[.int .i64 E, .int .i64 F], .int .u64 b] (grow (redrawn w3 dd) os) fun e w'' => e = .returned (.int .i64 rb) ∧ ∃ p : Regrown, w'' = grow (redrawn w3 p.d) p.os := fun dd os => q_int HRB.out (rank_c d E F hd b hb _)
            have qfa : ∀ dd os, Calls Try.prog 66 #[.agg #[.int .i64 E, .int .i64 F], .int .u64 a] (grow (redrawn w3 dd) os) fun e w'' => e = .returned (.int .u64 (xa : Nat)) ∧ ∃ p : Regrown, w'' = grow (redrawn w3 p.d) p.os := fun dd os => q_u64 HXA.out (far_c d E F hd a ha _)
            have qfb : ∀ dd os, Calls Try.prog 66 #[.agg #[.int .i64 E, .int .i64 F], .int .u64 b] (grow (redrawn w3 dd) os) fun e w'' => e = .returned (.int .u64 (xb : Nat)) ∧ ∃ p : Regrown, w'' = grow (redrawn w3 p.d) p.os := fun dd os => q_u64 HXB.out (far_c d E F hd b hb _)
            refine wp_region_quiet_below (by kernel_rfl) (by kernel_rfl) ?_
            repeat (go_big_quiet_step ((first | (go_at_call_of 70 (Value.int .u64 (a : Int)); exact qra _ _) | (go_at_call_of 70 (Value.int .u64 (b : Int)); exact qrb _ _) | (go_at_call_of 66 (Value.int .u64 (a : Int)); exact qfa _ _) | (go_at_call_of 66 (Value.int .u64 (b : Int)); exact qfb _ _))))
            refine wpQuiet_nil ?_
            intro _ hw'
            obtain ⟨⟨dq, osq⟩, hw''⟩ := hw'
            subst hw''
            have hb4 := below_regrown w3 dq osq
            generalize grow (redrawn w3 dq) osq = w4 at hb4 ⊢
            clear K0 K1 c0 c1 qra qrb qfa qfb
            obtain ⟨hc4, hf4⟩ := bcell hb4; have hz4 := hb4.size; (try simp only [sz_alloc, sz_drew, sz_set] at hz4 hc4 hf4); have l4_0 : w1.heap.size < w4.heap.size := (by omega); have n4_0 : ¬ w1.heap.size = w4.heap.size := (by omega); have m4_0 : ¬ w4.heap.size = w1.heap.size := (by omega); have k4_0 := fun o => hc4 (w1.heap.size) o (by omega); have f4_0 := fun o => hf4 (w1.heap.size) o (by omega); (try simp (disch := (first | rfl | omega | (simp only [sz_alloc, sz_drew, sz_set]; omega))) only [sz_alloc, sz_drew, sz_set, World.cell?_drew, World.frozen?_drew, World.cell?_alloc_at, World.cell?_alloc_past, World.frozen?_alloc_at, World.frozen?_alloc_past] at k4_0 f4_0)
            clear hc4 hf4
            go_wp2_with fail
            have c0 : w4.cell? ⟨w1.heap.size, 0, none⟩ = some (.int .i64 E) := by rw [k4_0, k3_0, k2_0]; rfl
            have c1 : w4.cell? ⟨w1.heap.size, 1, none⟩ = some (.int .i64 F) := by rw [k4_0, k3_0, k2_0]; rfl
            have K0 := cell_regrown c0
            have K1 := cell_regrown c1
            have qra : ∀ dd os, Calls Try.prog 70 #[.agg #[.int .i64 E, .int .i64 F], .int .u64 a] (grow (redrawn w4 dd) os) fun e w'' => e = .returned (.int .i64 ra) ∧ ∃ p : Regrown, w'' = grow (redrawn w4 p.d) p.os := fun dd os => q_int HRA.out (rank_c d E F hd a ha _)
            have qrb : ∀ dd os, Calls Try.prog 70 #[.agg #[.int .i64 E, .int .i64 F], .int .u64 b] (grow (redrawn w4 dd) os) fun e w'' => e = .returned (.int .i64 rb) ∧ ∃ p : Regrown, w'' = grow (redrawn w4 p.d) p.os := fun dd os => q_int HRB.out (rank_c d E F hd b hb _)
            refine wp_region_quiet_below (by kernel_rfl) (by kernel_rfl) ?_
            repeat (go_big_quiet_step ((first | (go_at_call_of 70 (Value.int .u64 (a : Int)); exact qra _ _) | (go_at_call_of 70 (Value.int .u64 (b : Int)); exact qrb _ _))))
            refine wpQuiet_nil ?_
            intro _ hw'
            obtain ⟨⟨dq, osq⟩, hw''⟩ := hw'
            subst hw''
            have hb5 := below_regrown w4 dq osq
            generalize grow (redrawn w4 dq) osq = w5 at hb5 ⊢
            clear K0 K1 c0 c1 qra qrb
            obtain ⟨hc5, hf5⟩ := bcell hb5; have hz5 := hb5.size; (try simp only [sz_alloc, sz_drew, sz_set] at hz5 hc5 hf5); have l5_0 : w1.heap.size < w5.heap.size := (by omega); have n5_0 : ¬ w1.heap.size = w5.heap.size := (by omega); have m5_0 : ¬ w5.heap.size = w1.heap.size := (by omega); have k5_0 := fun o => hc5 (w1.heap.size) o (by omega); have f5_0 := fun o => hf5 (w1.heap.size) o (by omega); (try simp (disch := (first | rfl | omega | (simp only [sz_alloc, sz_drew, sz_set]; omega))) only [sz_alloc, sz_drew, sz_set, World.cell?_drew, World.frozen?_drew, World.cell?_alloc_at, World.cell?_alloc_past, World.frozen?_alloc_at, World.frozen?_alloc_past] at k5_0 f5_0)
            clear hc5 hf5
            all_goals go_wp2_with fail
            all_goals go_ret2
            all_goals exact retL_mk (by rw [HQ.out.1]) (by rw [HQ.out.2]) (by repeat (first | (with_reducible first | exact Below.refl _ _ | assumption | exact Nat.le_refl _ | refine Below.drew ?_ | refine Below.alloc ?_ ?_ _ | refine Below.setCell ?_ ?_ _ | refine le_alloc ?_ | refine le_set ?_ | refine le_drew ?_ | refine below_step (by assumption) ?_ ?_ | refine le_below (by assumption) ?_) | (dsimp only; omega)))
    · have HB := Lib.hid hnb; clear hnb
      have HQ : Hid (cmpV 71 d a b = 0 ∧ cmpF 71 d a b = 16) := by
        show _ ∧ _; unfold cmpV cmpF; rw [HB.out, if_pos (.inr rfl), if_pos (.inr rfl)]; exact ⟨rfl, rfl⟩
      go_wp2_with fail
      go_ret2
      exact retL_mk (by rw [HQ.out.1]) (by rw [HQ.out.2]) (by repeat (first | (with_reducible first | exact Below.refl _ _ | assumption | exact Nat.le_refl _ | refine Below.drew ?_ | refine Below.alloc ?_ ?_ _ | refine Below.setCell ?_ ?_ _ | refine le_alloc ?_ | refine le_set ?_ | refine le_drew ?_ | refine below_step (by assumption) ?_ ?_ | refine le_below (by assumption) ?_) | (dsimp only; omega)))
  · have HA := Lib.hid hna; clear hna
    have HQ : Hid (cmpV 71 d a b = 0 ∧ cmpF 71 d a b = 16) := by
      show _ ∧ _; unfold cmpV cmpF; rw [HA.out, if_pos (.inl rfl), if_pos (.inl rfl)]; exact ⟨rfl, rfl⟩
    go_wp2_with fail
    go_ret2
    exact retL_mk (by rw [HQ.out.1]) (by rw [HQ.out.2]) (by repeat (first | (with_reducible first | exact Below.refl _ _ | assumption | exact Nat.le_refl _ | refine Below.drew ?_ | refine Below.alloc ?_ ?_ _ | refine Below.setCell ?_ ?_ _ | refine le_alloc ?_ | refine le_set ?_ | refine le_drew ?_ | refine below_step (by assumption) ?_ ?_ | refine le_below (by assumption) ?_) | (dsimp only; omega)))
end Go.Proofs.Yteinjalnkhfecaa
