/- The contract of Do. -/
import Derived.Test.YtbbgcjdflcfnjaaB5
namespace Go.Proofs.Ytbbgcjdflcfnjaa
open Go.ChangeShapes Go.WideShapes Go.ChangeAt Go.RowKit
set_option linter.unusedVariables false
set_option linter.unusedSimpArgs false
set_option maxRecDepth 100000 in
theorem do_word (k : Int) (a b : Nat) (w : World) : Calls Try.prog 11 #[.int .i64 k, .bool true, .int .u64 a, .int .u64 b] w (RetO .u64 (doV k true a b) w) := by
  have hv : Hid (doV k true a b = (bothV 32 H32 k (a % 4294967296) (b % 4294967296)).map wide32) := rfl
  have e1 : (a : Int) % 4294967296 = ((a % 4294967296 : Nat) : Int) := low_conv a
  have e2 : (b : Int) % 4294967296 = ((b % 4294967296 : Nat) : Int) := low_conv b
  have h1 : Hid (a % 4294967296 < 4294967296) := Nat.mod_lt _ (by decide)
  have h2 : Hid (b % 4294967296 < 4294967296) := Nat.mod_lt _ (by decide)
  have hc := Lib.hid (fun w => both32_c k (a % 4294967296) (b % 4294967296) h1 h2 w)
  have hl := Lib.hid (fun n => bothV_lt (wd := 32) (half := H32) (k := k) (a := a % 4294967296) (b := b % 4294967296) (n := n) (by decide) h1.out)
  generalize a % 4294967296 = a1 at *
  generalize b % 4294967296 = b1 at *
  obtain ⟨o, ho⟩ : ∃ o, o = bothV 32 H32 k a1 b1 := ⟨_, rfl⟩
  rw [← ho] at hc hv hl
  clear ho
  cases o with
  | none =>
    go_enter Try.func11, Try.ntmps11
    go_wp2_with fail
    (try rw [e1, e2])
    refine (hc.out _).mono ?_; rintro e u1 h; obtain ⟨rfl, hb1⟩ := retO_none h
    go_wp2_with fail
    go_ret2
    exact retO_no hv.out rfl rfl (by repeat (first | (with_reducible first | exact Below.refl _ _ | assumption | exact Nat.le_refl _ | refine Below.drew ?_ | refine Below.alloc ?_ ?_ _ | refine below_drewN ?_ _ | refine Below.setCell ?_ ?_ _ | refine le_alloc ?_ | refine le_set ?_ | refine le_drew ?_ | refine le_drewN ?_ | refine below_step (by assumption) ?_ ?_ | refine le_below (by assumption) ?_) | (dsimp only; omega)))
  | some n =>
    have hw : Hid (wrap32 (n : Int) % 18446744073709551616 = ((wide32 n : Nat) : Int)) := wide_conv n (hl.out n rfl)
    go_enter Try.func11, Try.ntmps11
    go_wp2_with fail
    (try rw [e1, e2])
    refine (hc.out _).mono ?_; rintro e u1 h; obtain ⟨rfl, hb1⟩ := retO_some h
    go_wp2_with fail
    go_ret2
    exact retO_mk (wide32 n) hv.out (by (try simp only [IntKind.wrap_u64]); rw [sw64_mod]; exact hw.out) rfl (by repeat (first | (with_reducible first | exact Below.refl _ _ | assumption | exact Nat.le_refl _ | refine Below.drew ?_ | refine Below.alloc ?_ ?_ _ | refine below_drewN ?_ _ | refine Below.setCell ?_ ?_ _ | refine le_alloc ?_ | refine le_set ?_ | refine le_drew ?_ | refine le_drewN ?_ | refine below_step (by assumption) ?_ ?_ | refine le_below (by assumption) ?_) | (dsimp only; omega)))
set_option maxRecDepth 100000 in
theorem do_whole (k : Int) (a b : Nat) (ha : Hid (a < 18446744073709551616)) (hb : Hid (b < 18446744073709551616)) (w : World) : Calls Try.prog 11 #[.int .i64 k, .bool false, .int .u64 a, .int .u64 b] w (RetO .u64 (doV k false a b) w) := by
  have hv : Hid (doV k false a b = (bothV 64 H64 k a b).or (wholeV k a b)) := rfl
  have hc := Lib.hid (fun w => both64_c k a b ha hb w)
  have hd := Lib.hid (fun w => whole_c k a b ha hb w)
  obtain ⟨o, ho⟩ : ∃ o, o = bothV 64 H64 k a b := ⟨_, rfl⟩
  obtain ⟨p, hp⟩ : ∃ p, p = wholeV k a b := ⟨_, rfl⟩
  rw [← ho] at hc hv
  rw [← hp] at hd hv
  clear ho hp
  cases o with
  | some n =>
    go_enter Try.func11, Try.ntmps11
    go_wp2_with fail
    refine (hc.out _).mono ?_; rintro e u1 h; obtain ⟨rfl, hb1⟩ := retO_some h
    go_wp2_with fail
    go_ret2
    exact retO_mk n hv.out rfl rfl (by repeat (first | (with_reducible first | exact Below.refl _ _ | assumption | exact Nat.le_refl _ | refine Below.drew ?_ | refine Below.alloc ?_ ?_ _ | refine below_drewN ?_ _ | refine Below.setCell ?_ ?_ _ | refine le_alloc ?_ | refine le_set ?_ | refine le_drew ?_ | refine le_drewN ?_ | refine below_step (by assumption) ?_ ?_ | refine le_below (by assumption) ?_) | (dsimp only; omega)))
  | none =>
    cases p with
    | none =>
      go_enter Try.func11, Try.ntmps11
      go_wp2_with fail
      refine (hc.out _).mono ?_; rintro e u1 h; obtain ⟨rfl, hb1⟩ := retO_none h
      go_wp2_with fail
      refine (hd.out _).mono ?_; rintro e u2 h2; obtain ⟨rfl, hb2⟩ := retO_none h2
      go_wp2_with fail
      go_ret2
      exact retO_no hv.out rfl rfl (by repeat (first | (with_reducible first | exact Below.refl _ _ | assumption | exact Nat.le_refl _ | refine Below.drew ?_ | refine Below.alloc ?_ ?_ _ | refine below_drewN ?_ _ | refine Below.setCell ?_ ?_ _ | refine le_alloc ?_ | refine le_set ?_ | refine le_drew ?_ | refine le_drewN ?_ | refine below_step (by assumption) ?_ ?_ | refine le_below (by assumption) ?_) | (dsimp only; omega)))
    | some n =>
      go_enter Try.func11, Try.ntmps11
      go_wp2_with fail
      refine (hc.out _).mono ?_; rintro e u1 h; obtain ⟨rfl, hb1⟩ := retO_none h
      go_wp2_with fail
      refine (hd.out _).mono ?_; rintro e u2 h2; obtain ⟨rfl, hb2⟩ := retO_some h2
      go_wp2_with fail
      go_ret2
      exact retO_mk n hv.out rfl rfl (by repeat (first | (with_reducible first | exact Below.refl _ _ | assumption | exact Nat.le_refl _ | refine Below.drew ?_ | refine Below.alloc ?_ ?_ _ | refine below_drewN ?_ _ | refine Below.setCell ?_ ?_ _ | refine le_alloc ?_ | refine le_set ?_ | refine le_drew ?_ | refine le_drewN ?_ | refine below_step (by assumption) ?_ ?_ | refine le_below (by assumption) ?_) | (dsimp only; omega)))
theorem do_c (k : Int) (word : Bool) (a b : Nat) (ha : Hid (a < 18446744073709551616)) (hb : Hid (b < 18446744073709551616)) (w : World) : Calls Try.prog 11 #[.int .i64 k, .bool word, .int .u64 a, .int .u64 b] w (RetO .u64 (doV k word a b) w) := by
  cases word
  · exact do_whole k a b ha hb w
  · exact do_word k a b w
end Go.Proofs.Ytbbgcjdflcfnjaa
