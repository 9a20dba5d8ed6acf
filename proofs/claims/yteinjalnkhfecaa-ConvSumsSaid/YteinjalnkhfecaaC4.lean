/- The contracts of a range's end, of reading a number of a range. -/
import Derived.Test.YteinjalnkhfecaaC3
namespace Go.Proofs.Yteinjalnkhfecaa
open Go.ChangeShapes Go.WideShapes Go.ChangeAt Go.RowKit
set_option linter.unusedVariables false
set_option linter.unusedSimpArgs false
theorem farV_lt (wd u m : Bool) : farV wd u m < 18446744073709551616 := by cases wd <;> cases u <;> cases m <;> decide
def endV (wd u m : Bool) : Nat := numV wd m (farV wd u m)
set_option maxRecDepth 100000 in
theorem end_c (wd u m : Bool) (w : World) : Calls Try.prog 42 #[.agg #[.bool wd, .bool u], .bool m] w (RetU (endV wd u m) w) := by
  have F := Lib.hid (fun v => farthest_c wd u m v)
  have N := Lib.hid (fun v => number_c wd u m _ (farV_lt wd u m) v)
  have E : Hid (endV wd u m = numV wd m (farV wd u m)) := rfl
  generalize farV wd u m = a at *
  go_enter Try.func42, Try.ntmps42
  go_wp2_with fail
  go_region_held3 (fun w' => w'.cell? ⟨w.heap.size, 0, none⟩ = some (.bool wd) ∧ w'.cell? ⟨w.heap.size, 1, none⟩ = some (.bool u)) (go_keep)
    (first
      | (go_at_call 45; refine (F.out _).mono ?_; rintro e w1 ⟨rfl, hb1⟩; obtain ⟨hc1, hf1⟩ := bcell hb1; have hz1 := hb1.size; (try simp only [sz_alloc, sz_drew, sz_set] at hz1 hc1 hf1); have l1_0 : w.heap.size < w1.heap.size := (by omega); have n1_0 : ¬ w.heap.size = w1.heap.size := (by omega); have m1_0 : ¬ w1.heap.size = w.heap.size := (by omega); have k1_0 := fun o => hc1 (w.heap.size) o (by omega); have f1_0 := fun o => hf1 (w.heap.size) o (by omega); (try simp (disch := (first | rfl | omega | (simp only [sz_alloc, sz_drew, sz_set]; omega))) only [sz_alloc, sz_drew, sz_set, World.cell?_drew, World.frozen?_drew, World.cell?_alloc_at, World.cell?_alloc_past, World.frozen?_alloc_at, World.frozen?_alloc_past] at k1_0 f1_0))
      | (go_at_call 46; refine (N.out _).mono ?_; rintro e w2 ⟨rfl, hb2⟩; obtain ⟨hc2, hf2⟩ := bcell hb2; have hz2 := hb2.size; (try simp only [sz_alloc, sz_drew, sz_set] at hz2 hc2 hf2); have l2_0 : w.heap.size < w2.heap.size := (by omega); have n2_0 : ¬ w.heap.size = w2.heap.size := (by omega); have m2_0 : ¬ w2.heap.size = w.heap.size := (by omega); have k2_0 := fun o => hc2 (w.heap.size) o (by omega); have f2_0 := fun o => hf2 (w.heap.size) o (by omega); (try simp (disch := (first | rfl | omega | (simp only [sz_alloc, sz_drew, sz_set]; omega))) only [sz_alloc, sz_drew, sz_set, World.cell?_drew, World.frozen?_drew, World.cell?_alloc_at, World.cell?_alloc_past, World.frozen?_alloc_at, World.frozen?_alloc_past, hc1, hf1] at k2_0 f2_0)))
  all_goals go_wp2_with fail
  all_goals go_ret
  all_goals exact retU_mk (by rw [E.out]) (by repeat (first | (with_reducible first | exact Below.refl _ _ | assumption | exact Nat.le_refl _ | refine Below.drew ?_ | refine Below.alloc ?_ ?_ _ | refine below_drewN ?_ _ | refine Below.setCell ?_ ?_ _ | refine le_alloc ?_ | refine le_set ?_ | refine le_drew ?_ | refine le_drewN ?_ | refine below_step (by assumption) ?_ ?_ | refine le_below (by assumption) ?_) | (dsimp only; omega)))
/-- The number of a range that a register holds: its sign, its distance from 0. -/
def heldV (wd u : Bool) (x : Nat) : Nat := if wd then (if u then x % 4294967296 else wideV x) else x
def heldM (wd u : Bool) (x : Nat) : Bool := !u && decide (9223372036854775808 ≤ heldV wd u x)
def heldF (wd u : Bool) (x : Nat) : Nat := if heldM wd u x then 18446744073709551616 - heldV wd u x else heldV wd u x
theorem wideV_lt (x : Nat) : wideV x < 18446744073709551616 := by unfold wideV; split <;> omega
theorem neg_top (x : Nat) (hx : x < 18446744073709551616) : (wrap64 (x : Int) < 0) ↔ 9223372036854775808 ≤ x := by unfold wrap64; omega
theorem heldM_t {wd : Bool} {x : Nat} (h : 9223372036854775808 ≤ heldV wd false x) : true = heldM wd false x := by simp [heldM, h]
theorem heldM_f {wd : Bool} {x : Nat} (h : ¬ 9223372036854775808 ≤ heldV wd false x) : false = heldM wd false x := by simp [heldM, h]
theorem heldF_t {wd : Bool} {x : Nat} (h : 9223372036854775808 ≤ heldV wd false x) : heldF wd false x = (18446744073709551616 - heldV wd false x) % 18446744073709551616 := by rw [heldF, if_pos (heldM_t h).symm]; omega
theorem heldF_f {wd : Bool} {x : Nat} (h : ¬ 9223372036854775808 ≤ heldV wd false x) : heldF wd false x = heldV wd false x := by rw [heldF, ← heldM_f h]; rfl
theorem heldF_u (wd : Bool) (x : Nat) : heldF wd true x = heldV wd true x := rfl
set_option maxRecDepth 100000 in
theorem held_ff (x : Nat) (hx : x < 18446744073709551616) (w : World) : Calls Try.prog 56 #[.agg #[.bool false, .bool false], .int .u64 x] w (RetR (heldM false false x) 0 (heldF false false x) w) := by
  have hv : Hid (heldV false false x < 18446744073709551616) := hx
  have HW : Hid ((x : Int) = ((heldV false false x : Nat) : Int)) := rfl
  go_enter Try.func56, Try.ntmps56
  go_wp2_with fail
  · rename_i h
    rw [HW.out] at h
    have h' := (neg_top _ hv.out).1 h
    refine bodyPost_ret (v := .agg #[_, _, _]) (by simp [results, Try.results56, go_sem] <;> (first | rfl | (repeat' (first | rfl | apply And.intro)))) rfl (retR_mk (heldM_t h') rfl (by rw [HW.out, neg_form _ hv.out, heldF_t h']) (by repeat (first | (with_reducible first | exact Below.refl _ _ | assumption | exact Nat.le_refl _ | refine Below.drew ?_ | refine Below.alloc ?_ ?_ _ | refine Below.setCell ?_ ?_ _ | refine le_alloc ?_ | refine le_set ?_ | refine le_drew ?_ | refine below_step (by assumption) ?_ ?_ | refine le_below (by assumption) ?_) | (dsimp only; omega))))
  · rename_i h
    rw [HW.out] at h
    have h' : ¬ 9223372036854775808 ≤ heldV false false x := fun q => by have := (neg_top _ hv.out).2 q; omega
    refine bodyPost_ret (v := .agg #[_, _, _]) (by simp [results, Try.results56, go_sem] <;> (first | rfl | (repeat' (first | rfl | apply And.intro)))) rfl (retR_mk (heldM_f h') rfl (by rw [HW.out, heldF_f h']) (by repeat (first | (with_reducible first | exact Below.refl _ _ | assumption | exact Nat.le_refl _ | refine Below.drew ?_ | refine Below.alloc ?_ ?_ _ | refine Below.setCell ?_ ?_ _ | refine le_alloc ?_ | refine le_set ?_ | refine le_drew ?_ | refine below_step (by assumption) ?_ ?_ | refine le_below (by assumption) ?_) | (dsimp only; omega))))
set_option maxRecDepth 100000 in
theorem held_ft (x : Nat) (hx : x < 18446744073709551616) (w : World) : Calls Try.prog 56 #[.agg #[.bool false, .bool true], .int .u64 x] w (RetR (heldM false true x) 0 (heldF false true x) w) := by
  go_enter Try.func56, Try.ntmps56
  go_wp2_with fail
  refine bodyPost_ret (v := .agg #[_, _, _]) (by simp [results, Try.results56, go_sem] <;> (first | rfl | (repeat' (first | rfl | apply And.intro)))) rfl (retR_mk rfl rfl rfl (by repeat (first | (with_reducible first | exact Below.refl _ _ | assumption | exact Nat.le_refl _ | refine Below.drew ?_ | refine Below.alloc ?_ ?_ _ | refine Below.setCell ?_ ?_ _ | refine le_alloc ?_ | refine le_set ?_ | refine le_drew ?_ | refine below_step (by assumption) ?_ ?_ | refine le_below (by assumption) ?_) | (dsimp only; omega))))
set_option maxRecDepth 100000 in
theorem held_tf (x : Nat) (hx : x < 18446744073709551616) (w : World) : Calls Try.prog 56 #[.agg #[.bool true, .bool false], .int .u64 x] w (RetR (heldM true false x) 0 (heldF true false x) w) := by
  have hv : Hid (heldV true false x < 18446744073709551616) := wideV_lt x
  have HW : Hid (IntKind.u64.wrap (wrap64 (wrap32 (x : Int))) = ((heldV true false x : Nat) : Int)) := wide_form x
  go_enter Try.func56, Try.ntmps56
  go_wp2_with fail
  · rename_i h
    rw [HW.out] at h
    have h' := (neg_top _ hv.out).1 h
    refine bodyPost_ret (v := .agg #[_, _, _]) (by simp [results, Try.results56, go_sem] <;> (first | rfl | (repeat' (first | rfl | apply And.intro)))) rfl (retR_mk (heldM_t h') rfl (by rw [HW.out, neg_form _ hv.out, heldF_t h']) (by repeat (first | (with_reducible first | exact Below.refl _ _ | assumption | exact Nat.le_refl _ | refine Below.drew ?_ | refine Below.alloc ?_ ?_ _ | refine Below.setCell ?_ ?_ _ | refine le_alloc ?_ | refine le_set ?_ | refine le_drew ?_ | refine below_step (by assumption) ?_ ?_ | refine le_below (by assumption) ?_) | (dsimp only; omega))))
  · rename_i h
    rw [HW.out] at h
    have h' : ¬ 9223372036854775808 ≤ heldV true false x := fun q => by have := (neg_top _ hv.out).2 q; omega
    refine bodyPost_ret (v := .agg #[_, _, _]) (by simp [results, Try.results56, go_sem] <;> (first | rfl | (repeat' (first | rfl | apply And.intro)))) rfl (retR_mk (heldM_f h') rfl (by rw [HW.out, heldF_f h']) (by repeat (first | (with_reducible first | exact Below.refl _ _ | assumption | exact Nat.le_refl _ | refine Below.drew ?_ | refine Below.alloc ?_ ?_ _ | refine Below.setCell ?_ ?_ _ | refine le_alloc ?_ | refine le_set ?_ | refine le_drew ?_ | refine below_step (by assumption) ?_ ?_ | refine le_below (by assumption) ?_) | (dsimp only; omega))))
set_option maxRecDepth 100000 in
theorem held_tt (x : Nat) (hx : x < 18446744073709551616) (w : World) : Calls Try.prog 56 #[.agg #[.bool true, .bool true], .int .u64 x] w (RetR (heldM true true x) 0 (heldF true true x) w) := by
  go_enter Try.func56, Try.ntmps56
  go_wp2_with fail
  refine bodyPost_ret (v := .agg #[_, _, _]) (by simp [results, Try.results56, go_sem] <;> (first | rfl | (repeat' (first | rfl | apply And.intro)))) rfl (retR_mk rfl rfl (by rw [heldF_u]; show _ = ((x % 4294967296 : Nat) : Int); omega) (by repeat (first | (with_reducible first | exact Below.refl _ _ | assumption | exact Nat.le_refl _ | refine Below.drew ?_ | refine Below.alloc ?_ ?_ _ | refine Below.setCell ?_ ?_ _ | refine le_alloc ?_ | refine le_set ?_ | refine le_drew ?_ | refine below_step (by assumption) ?_ ?_ | refine le_below (by assumption) ?_) | (dsimp only; omega))))
theorem held_c (wd u : Bool) (x : Nat) (hx : x < 18446744073709551616) (w : World) : Calls Try.prog 56 #[.agg #[.bool wd, .bool u], .int .u64 x] w (RetR (heldM wd u x) 0 (heldF wd u x) w) := by
  cases wd <;> cases u
  · exact held_ff x hx w
  · exact held_ft x hx w
  · exact held_tf x hx w
  · exact held_tt x hx w
end Go.Proofs.Yteinjalnkhfecaa
