/- Taken from other texts: what is needed of them. -/
import Derived.Test.YtoicpikkcefheaaGreatKA
import Derived.BigRegion
namespace Go.Proofs.YtoicpikkcefheaaGreat.K
set_option linter.unusedVariables false
set_option linter.unusedSimpArgs false
set_option maxRecDepth 20000
open Go.ChangeShapes Go.WideShapes Go.ChangeAt Go.RowKit
def RetR (n : Nat) (ok : Bool) (W : World) (e : Ending) (w' : World) : Prop := e = .returned (.tuple #[.int .u64 n, .bool ok]) ∧ Below W.heap.size W w'
theorem retR_mk {n : Nat} {x : Int} {a b : Bool} {W w' : World} (h1 : x = n) (h : a = b) (hb : Below W.heap.size W w') : RetR n b W (.returned (.tuple #[.int .u64 x, .bool a])) w' := ⟨by rw [h, h1], hb⟩
set_option maxRecDepth 100000 in
theorem read_1 (w : World) (b s a t : Nat) (h : IsC w b s a t) (hs : s < 2) (ha : a < 18446744073709551616) (ht : t < 18446744073709551616) : Calls Tryz.prog 119 #[.pointer (some ⟨b, 0, none⟩), .int .u64 0, .int .i64 4] w (RetR (rdK 1 s a t) true w) := by
  go_enter Tryz.func119, Tryz.ntmps119
  go_wp2_with fail
  refine (parts_c _).mono ?_; rintro e w1 ⟨m, rfl, hT, hb1⟩
  have look := look_1 hT
  have HC := Lib.hid (h.below hb1)
  have Hs := Lib.hid hs; have Ha := Lib.hid ha; have Ht := Lib.hid ht; clear hs ha ht h hT
  have Hb := Lib.hid hb1; clear hb1
  obtain ⟨h0, c0, c1, c2, f0, f1, f2⟩ := HC.out
  have nb : ¬ b = w1.heap.size := by omega
  have nb' : ¬ w1.heap.size = b := by omega
  go_wp2_with fail
  go_quiet (fail)
  go_wp2_with fail
  go_ret2
  exact retR_mk (by rw [and1 s (by have := Hs.out; omega)]; show ((s % 2 : Nat) : Int) = _; have := Hs.out; rw [Nat.mod_eq_of_lt this]; rfl) rfl (by have hbb := Hb.out; exact (by repeat (first | (with_reducible first | exact Below.refl _ _ | assumption | exact Nat.le_refl _ | refine Below.drew ?_ | refine Below.alloc ?_ ?_ _ | refine below_drewN ?_ _ | refine Below.setCell ?_ ?_ _ | refine le_alloc ?_ | refine le_set ?_ | refine le_drew ?_ | refine le_drewN ?_ | refine below_step (by assumption) ?_ ?_ | refine le_below (by assumption) ?_) | (dsimp only; omega))))
set_option maxRecDepth 100000 in
theorem read_2 (w : World) (b s a t : Nat) (h : IsC w b s a t) (hs : s < 2) (ha : a < 18446744073709551616) (ht : t < 18446744073709551616) : Calls Tryz.prog 119 #[.pointer (some ⟨b, 0, none⟩), .int .u64 16384, .int .i64 8] w (RetR (rdK 2 s a t) true w) := by
  go_enter Tryz.func119, Tryz.ntmps119
  go_wp2_with fail
  refine (parts_c _).mono ?_; rintro e w1 ⟨m, rfl, hT, hb1⟩
  have look := look_2 hT
  have HC := Lib.hid (h.below hb1)
  have Hs := Lib.hid hs; have Ha := Lib.hid ha; have Ht := Lib.hid ht; clear hs ha ht h hT
  have Hb := Lib.hid hb1; clear hb1
  obtain ⟨h0, c0, c1, c2, f0, f1, f2⟩ := HC.out
  have nb : ¬ b = w1.heap.size := by omega
  have nb' : ¬ w1.heap.size = b := by omega
  go_wp2_with fail
  go_quiet (fail)
  go_wp2_with fail
  go_ret2
  exact retR_mk (and64 a Ha.out) rfl (by have hbb := Hb.out; exact (by repeat (first | (with_reducible first | exact Below.refl _ _ | assumption | exact Nat.le_refl _ | refine Below.drew ?_ | refine Below.alloc ?_ ?_ _ | refine below_drewN ?_ _ | refine Below.setCell ?_ ?_ _ | refine le_alloc ?_ | refine le_set ?_ | refine le_drew ?_ | refine le_drewN ?_ | refine below_step (by assumption) ?_ ?_ | refine le_below (by assumption) ?_) | (dsimp only; omega))))
set_option maxRecDepth 100000 in
theorem read_3 (w : World) (b s a t : Nat) (h : IsC w b s a t) (hs : s < 2) (ha : a < 18446744073709551616) (ht : t < 18446744073709551616) : Calls Tryz.prog 119 #[.pointer (some ⟨b, 0, none⟩), .int .u64 16384, .int .i64 4] w (RetR (rdK 3 s a t) true w) := by
  go_enter Tryz.func119, Tryz.ntmps119
  go_wp2_with fail
  refine (parts_c _).mono ?_; rintro e w1 ⟨m, rfl, hT, hb1⟩
  have look := look_3 hT
  have HC := Lib.hid (h.below hb1)
  have Hs := Lib.hid hs; have Ha := Lib.hid ha; have Ht := Lib.hid ht; clear hs ha ht h hT
  have Hb := Lib.hid hb1; clear hb1
  obtain ⟨h0, c0, c1, c2, f0, f1, f2⟩ := HC.out
  have nb : ¬ b = w1.heap.size := by omega
  have nb' : ¬ w1.heap.size = b := by omega
  go_wp2_with fail
  go_quiet (fail)
  go_wp2_with fail
  go_ret2
  exact retR_mk (and32 a Ha.out) rfl (by have hbb := Hb.out; exact (by repeat (first | (with_reducible first | exact Below.refl _ _ | assumption | exact Nat.le_refl _ | refine Below.drew ?_ | refine Below.alloc ?_ ?_ _ | refine below_drewN ?_ _ | refine Below.setCell ?_ ?_ _ | refine le_alloc ?_ | refine le_set ?_ | refine le_drew ?_ | refine le_drewN ?_ | refine below_step (by assumption) ?_ ?_ | refine le_below (by assumption) ?_) | (dsimp only; omega))))
set_option maxRecDepth 100000 in
theorem read_4 (w : World) (b s a t : Nat) (h : IsC w b s a t) (hs : s < 2) (ha : a < 18446744073709551616) (ht : t < 18446744073709551616) : Calls Tryz.prog 119 #[.pointer (some ⟨b, 0, none⟩), .int .u64 16388, .int .i64 4] w (RetR (rdK 4 s a t) true w) := by
  go_enter Tryz.func119, Tryz.ntmps119
  go_wp2_with fail
  refine (parts_c _).mono ?_; rintro e w1 ⟨m, rfl, hT, hb1⟩
  have look := look_4 hT
  have HC := Lib.hid (h.below hb1)
  have Hs := Lib.hid hs; have Ha := Lib.hid ha; have Ht := Lib.hid ht; clear hs ha ht h hT
  have Hb := Lib.hid hb1; clear hb1
  obtain ⟨h0, c0, c1, c2, f0, f1, f2⟩ := HC.out
  have nb : ¬ b = w1.heap.size := by omega
  have nb' : ¬ w1.heap.size = b := by omega
  go_wp2_with fail
  go_quiet (fail)
  go_wp2_with fail
  go_ret2
  exact retR_mk (andhi a Ha.out) rfl (by have hbb := Hb.out; exact (by repeat (first | (with_reducible first | exact Below.refl _ _ | assumption | exact Nat.le_refl _ | refine Below.drew ?_ | refine Below.alloc ?_ ?_ _ | refine below_drewN ?_ _ | refine Below.setCell ?_ ?_ _ | refine le_alloc ?_ | refine le_set ?_ | refine le_drew ?_ | refine le_drewN ?_ | refine below_step (by assumption) ?_ ?_ | refine le_below (by assumption) ?_) | (dsimp only; omega))))
set_option maxRecDepth 100000 in
theorem read_5 (w : World) (b s a t : Nat) (h : IsC w b s a t) (hs : s < 2) (ha : a < 18446744073709551616) (ht : t < 18446744073709551616) : Calls Tryz.prog 119 #[.pointer (some ⟨b, 0, none⟩), .int .u64 49144, .int .i64 8] w (RetR (rdK 5 s a t) true w) := by
  go_enter Tryz.func119, Tryz.ntmps119
  go_wp2_with fail
  refine (parts_c _).mono ?_; rintro e w1 ⟨m, rfl, hT, hb1⟩
  have look := look_5 hT
  have HC := Lib.hid (h.below hb1)
  have Hs := Lib.hid hs; have Ha := Lib.hid ha; have Ht := Lib.hid ht; clear hs ha ht h hT
  have Hb := Lib.hid hb1; clear hb1
  obtain ⟨h0, c0, c1, c2, f0, f1, f2⟩ := HC.out
  have nb : ¬ b = w1.heap.size := by omega
  have nb' : ¬ w1.heap.size = b := by omega
  go_wp2_with fail
  go_quiet (fail)
  go_wp2_with fail
  go_ret2
  exact retR_mk (and64 t Ht.out) rfl (by have hbb := Hb.out; exact (by repeat (first | (with_reducible first | exact Below.refl _ _ | assumption | exact Nat.le_refl _ | refine Below.drew ?_ | refine Below.alloc ?_ ?_ _ | refine below_drewN ?_ _ | refine Below.setCell ?_ ?_ _ | refine le_alloc ?_ | refine le_set ?_ | refine le_drew ?_ | refine le_drewN ?_ | refine below_step (by assumption) ?_ ?_ | refine le_below (by assumption) ?_) | (dsimp only; omega))))
set_option maxRecDepth 100000 in
theorem read_6 (w : World) (b s a t : Nat) (h : IsC w b s a t) (hs : s < 2) (ha : a < 18446744073709551616) (ht : t < 18446744073709551616) : Calls Tryz.prog 119 #[.pointer (some ⟨b, 0, none⟩), .int .u64 49144, .int .i64 4] w (RetR (rdK 6 s a t) true w) := by
  go_enter Tryz.func119, Tryz.ntmps119
  go_wp2_with fail
  refine (parts_c _).mono ?_; rintro e w1 ⟨m, rfl, hT, hb1⟩
  have look := look_6 hT
  have HC := Lib.hid (h.below hb1)
  have Hs := Lib.hid hs; have Ha := Lib.hid ha; have Ht := Lib.hid ht; clear hs ha ht h hT
  have Hb := Lib.hid hb1; clear hb1
  obtain ⟨h0, c0, c1, c2, f0, f1, f2⟩ := HC.out
  have nb : ¬ b = w1.heap.size := by omega
  have nb' : ¬ w1.heap.size = b := by omega
  go_wp2_with fail
  go_quiet (fail)
  go_wp2_with fail
  go_ret2
  exact retR_mk (and32 t Ht.out) rfl (by have hbb := Hb.out; exact (by repeat (first | (with_reducible first | exact Below.refl _ _ | assumption | exact Nat.le_refl _ | refine Below.drew ?_ | refine Below.alloc ?_ ?_ _ | refine below_drewN ?_ _ | refine Below.setCell ?_ ?_ _ | refine le_alloc ?_ | refine le_set ?_ | refine le_drew ?_ | refine le_drewN ?_ | refine below_step (by assumption) ?_ ?_ | refine le_below (by assumption) ?_) | (dsimp only; omega))))
set_option maxRecDepth 100000 in
theorem read_7 (w : World) (b s a t : Nat) (h : IsC w b s a t) (hs : s < 2) (ha : a < 18446744073709551616) (ht : t < 18446744073709551616) : Calls Tryz.prog 119 #[.pointer (some ⟨b, 0, none⟩), .int .u64 49148, .int .i64 4] w (RetR (rdK 7 s a t) true w) := by
  go_enter Tryz.func119, Tryz.ntmps119
  go_wp2_with fail
  refine (parts_c _).mono ?_; rintro e w1 ⟨m, rfl, hT, hb1⟩
  have look := look_7 hT
  have HC := Lib.hid (h.below hb1)
  have Hs := Lib.hid hs; have Ha := Lib.hid ha; have Ht := Lib.hid ht; clear hs ha ht h hT
  have Hb := Lib.hid hb1; clear hb1
  obtain ⟨h0, c0, c1, c2, f0, f1, f2⟩ := HC.out
  have nb : ¬ b = w1.heap.size := by omega
  have nb' : ¬ w1.heap.size = b := by omega
  go_wp2_with fail
  go_quiet (fail)
  go_wp2_with fail
  go_ret2
  exact retR_mk (andhi t Ht.out) rfl (by have hbb := Hb.out; exact (by repeat (first | (with_reducible first | exact Below.refl _ _ | assumption | exact Nat.le_refl _ | refine Below.drew ?_ | refine Below.alloc ?_ ?_ _ | refine below_drewN ?_ _ | refine Below.setCell ?_ ?_ _ | refine le_alloc ?_ | refine le_set ?_ | refine le_drew ?_ | refine le_drewN ?_ | refine below_step (by assumption) ?_ ?_ | refine le_below (by assumption) ?_) | (dsimp only; omega))))
set_option maxRecDepth 100000 in
theorem read_0 (w : World) (b s a t : Nat) (h : IsC w b s a t) (hs : s < 2) (ha : a < 18446744073709551616) (ht : t < 18446744073709551616) (at_ : Nat) (sz : Int) (hx : at_ < 18446744073709551616) (hz : (Lit.int .i64 sz).wf = true) (n0 : ¬ (at_ = 0 ∧ sz = 4)) (n1 : ¬ (at_ = 16384 ∧ sz = 8)) (n2 : ¬ (at_ = 16384 ∧ sz = 4)) (n3 : ¬ (at_ = 16388 ∧ sz = 4)) (n4 : ¬ (at_ = 49144 ∧ sz = 8)) (n5 : ¬ (at_ = 49144 ∧ sz = 4)) (n6 : ¬ (at_ = 49148 ∧ sz = 4)) : Calls Tryz.prog 119 #[.pointer (some ⟨b, 0, none⟩), .int .u64 at_, .int .i64 sz] w (RetR 0 false w) := by
  go_enter Tryz.func119, Tryz.ntmps119
  go_wp2_with fail
  refine (parts_c _).mono ?_; rintro e w1 ⟨m, rfl, hT, hb1⟩
  have look := look_0 hT hx hz n0 n1 n2 n3 n4 n5 n6
  clear hx hz n0 n1 n2 n3 n4 n5 n6
  have HC := Lib.hid (h.below hb1)
  have Hs := Lib.hid hs; have Ha := Lib.hid ha; have Ht := Lib.hid ht; clear hs ha ht h hT
  have Hb := Lib.hid hb1; clear hb1
  obtain ⟨h0, c0, c1, c2, f0, f1, f2⟩ := HC.out
  have nb : ¬ b = w1.heap.size := by omega
  have nb' : ¬ w1.heap.size = b := by omega
  go_wp2_with fail
  go_ret2
  exact retR_mk rfl rfl (by have hbb := Hb.out; exact (by repeat (first | (with_reducible first | exact Below.refl _ _ | assumption | exact Nat.le_refl _ | refine Below.drew ?_ | refine Below.alloc ?_ ?_ _ | refine below_drewN ?_ _ | refine Below.setCell ?_ ?_ _ | refine le_alloc ?_ | refine le_set ?_ | refine le_drew ?_ | refine le_drewN ?_ | refine below_step (by assumption) ?_ ?_ | refine le_below (by assumption) ?_) | (dsimp only; omega))))
theorem read_c (w : World) (b s a t : Nat) (h : IsC w b s a t) (hs : s < 2) (ha : a < 18446744073709551616) (ht : t < 18446744073709551616) (at_ : Nat) (sz : Int) (hx : at_ < 18446744073709551616) (hz : (Lit.int .i64 sz).wf = true) : Calls Tryz.prog 119 #[.pointer (some ⟨b, 0, none⟩), .int .u64 at_, .int .i64 sz] w (RetR (rdK (kd at_ sz) s a t) (decide (kd at_ sz ≠ 0)) w) := by
  rcases kd_cases at_ sz with ⟨rfl, rfl, e⟩ | ⟨rfl, rfl, e⟩ | ⟨rfl, rfl, e⟩ | ⟨rfl, rfl, e⟩ | ⟨rfl, rfl, e⟩ | ⟨rfl, rfl, e⟩ | ⟨rfl, rfl, e⟩ | ⟨n0, n1, n2, n3, n4, n5, n6, e⟩ <;> rw [e]
  · exact read_1 w b s a t h hs ha ht
  · exact read_2 w b s a t h hs ha ht
  · exact read_3 w b s a t h hs ha ht
  · exact read_4 w b s a t h hs ha ht
  · exact read_5 w b s a t h hs ha ht
  · exact read_6 w b s a t h hs ha ht
  · exact read_7 w b s a t h hs ha ht
  · exact read_0 w b s a t h hs ha ht at_ sz hx hz n0 n1 n2 n3 n4 n5 n6
end Go.Proofs.YtoicpikkcefheaaGreat.K
namespace Go.Proofs.YtoicpikkcefheaaGreat.K
set_option linter.unusedVariables false
set_option linter.unusedSimpArgs false
set_option maxRecDepth 20000
open Go.ChangeShapes Go.WideShapes Go.ChangeAt Go.RowKit
def RetW (ok : Bool) (b s a t : Nat) (W : World) (e : Ending) (w' : World) : Prop := e = .returned (.bool ok) ∧ IsC w' b s a t ∧ W.grownBy w' (some b)
theorem grown_drewN {a b : World} {r : Option Nat} (h : a.grownBy b r) (n : Nat) : a.grownBy (b.drewN n) r := ⟨h.os, h.tape, h.output, h.size, h.block⟩
theorem IsC.drewN {w : World} {b x y z : Nat} (h : IsC w b x y z) (n : Nat) : IsC (w.drewN n) b x y z := h
theorem IsC.alloc {w : World} {b x y z : Nat} (h : IsC w b x y z) (o : Obj) : IsC (w.alloc o) b x y z := h.kept (World.grownBy_alloc w o none) (by simp)
set_option maxRecDepth 100000 in
theorem write_1 (w : World) (b s a t : Nat) (h : IsC w b s a t) (hs : s < 2) (ha : a < 18446744073709551616) (ht : t < 18446744073709551616) (v : Nat) (hv : v < 18446744073709551616) : Calls Tryz.prog 120 #[.pointer (some ⟨b, 0, none⟩), .int .u64 0, .int .i64 4, .int .u64 v] w (RetW true b (wrS 1 s v) (wrA 1 a v) (wrT 1 t v) w) := by
  go_enter Tryz.func120, Tryz.ntmps120
  go_wp2_with fail
  refine (parts_c _).mono ?_; rintro e w1 ⟨m, rfl, hT, hb1⟩
  have look := look_1 hT
  have HC := Lib.hid (h.below hb1)
  have Hs := Lib.hid hs; have Ha := Lib.hid ha; have Ht := Lib.hid ht; have Hv := Lib.hid hv; clear hs ha ht hv h hT
  have Hb := Lib.hid hb1; clear hb1
  obtain ⟨h0, c0, c1, c2, f0, f1, f2⟩ := HC.out
  have nb : ¬ b = w1.heap.size := by omega
  have nb' : ¬ w1.heap.size = b := by omega
  go_wp2_with fail
  go_quiet (fail)
  go_wp2_with fail
  go_region
  go_wp2_with fail
  go_ret
  exact ⟨rfl, ((HC.out.alloc _).drewN _).set0 (wr1_eq s v Hs.out Hv.out), grown_set (grown_drewN (grown_alloc (grown_any (grown_below Hb.out)) _) _) _ none _ none⟩
set_option maxRecDepth 100000 in
theorem write_2 (w : World) (b s a t : Nat) (h : IsC w b s a t) (hs : s < 2) (ha : a < 18446744073709551616) (ht : t < 18446744073709551616) (v : Nat) (hv : v < 18446744073709551616) : Calls Tryz.prog 120 #[.pointer (some ⟨b, 0, none⟩), .int .u64 16384, .int .i64 8, .int .u64 v] w (RetW true b (wrS 2 s v) (wrA 2 a v) (wrT 2 t v) w) := by
  go_enter Tryz.func120, Tryz.ntmps120
  go_wp2_with fail
  refine (parts_c _).mono ?_; rintro e w1 ⟨m, rfl, hT, hb1⟩
  have look := look_2 hT
  have HC := Lib.hid (h.below hb1)
  have Hs := Lib.hid hs; have Ha := Lib.hid ha; have Ht := Lib.hid ht; have Hv := Lib.hid hv; clear hs ha ht hv h hT
  have Hb := Lib.hid hb1; clear hb1
  obtain ⟨h0, c0, c1, c2, f0, f1, f2⟩ := HC.out
  have nb : ¬ b = w1.heap.size := by omega
  have nb' : ¬ w1.heap.size = b := by omega
  go_wp2_with fail
  go_quiet (fail)
  go_wp2_with fail
  go_region
  go_wp2_with fail
  go_ret
  exact ⟨rfl, ((HC.out.alloc _).drewN _).set1 (wr64_eq a v Ha.out Hv.out), grown_set (grown_drewN (grown_alloc (grown_any (grown_below Hb.out)) _) _) _ none _ none⟩
set_option maxRecDepth 100000 in
theorem write_3 (w : World) (b s a t : Nat) (h : IsC w b s a t) (hs : s < 2) (ha : a < 18446744073709551616) (ht : t < 18446744073709551616) (v : Nat) (hv : v < 18446744073709551616) : Calls Tryz.prog 120 #[.pointer (some ⟨b, 0, none⟩), .int .u64 16384, .int .i64 4, .int .u64 v] w (RetW true b (wrS 3 s v) (wrA 3 a v) (wrT 3 t v) w) := by
  go_enter Tryz.func120, Tryz.ntmps120
  go_wp2_with fail
  refine (parts_c _).mono ?_; rintro e w1 ⟨m, rfl, hT, hb1⟩
  have look := look_3 hT
  have HC := Lib.hid (h.below hb1)
  have Hs := Lib.hid hs; have Ha := Lib.hid ha; have Ht := Lib.hid ht; have Hv := Lib.hid hv; clear hs ha ht hv h hT
  have Hb := Lib.hid hb1; clear hb1
  obtain ⟨h0, c0, c1, c2, f0, f1, f2⟩ := HC.out
  have nb : ¬ b = w1.heap.size := by omega
  have nb' : ¬ w1.heap.size = b := by omega
  go_wp2_with fail
  go_quiet (fail)
  go_wp2_with fail
  go_region
  go_wp2_with fail
  go_ret
  exact ⟨rfl, ((HC.out.alloc _).drewN _).set1 (wrlo_eq a v Ha.out Hv.out), grown_set (grown_drewN (grown_alloc (grown_any (grown_below Hb.out)) _) _) _ none _ none⟩
set_option maxRecDepth 100000 in
theorem write_4 (w : World) (b s a t : Nat) (h : IsC w b s a t) (hs : s < 2) (ha : a < 18446744073709551616) (ht : t < 18446744073709551616) (v : Nat) (hv : v < 18446744073709551616) : Calls Tryz.prog 120 #[.pointer (some ⟨b, 0, none⟩), .int .u64 16388, .int .i64 4, .int .u64 v] w (RetW true b (wrS 4 s v) (wrA 4 a v) (wrT 4 t v) w) := by
  go_enter Tryz.func120, Tryz.ntmps120
  go_wp2_with fail
  refine (parts_c _).mono ?_; rintro e w1 ⟨m, rfl, hT, hb1⟩
  have look := look_4 hT
  have HC := Lib.hid (h.below hb1)
  have Hs := Lib.hid hs; have Ha := Lib.hid ha; have Ht := Lib.hid ht; have Hv := Lib.hid hv; clear hs ha ht hv h hT
  have Hb := Lib.hid hb1; clear hb1
  obtain ⟨h0, c0, c1, c2, f0, f1, f2⟩ := HC.out
  have nb : ¬ b = w1.heap.size := by omega
  have nb' : ¬ w1.heap.size = b := by omega
  go_wp2_with fail
  go_quiet (fail)
  go_wp2_with fail
  go_region
  go_wp2_with fail
  go_ret
  exact ⟨rfl, ((HC.out.alloc _).drewN _).set1 (wrhi_eq a v Ha.out Hv.out), grown_set (grown_drewN (grown_alloc (grown_any (grown_below Hb.out)) _) _) _ none _ none⟩
set_option maxRecDepth 100000 in
theorem write_5 (w : World) (b s a t : Nat) (h : IsC w b s a t) (hs : s < 2) (ha : a < 18446744073709551616) (ht : t < 18446744073709551616) (v : Nat) (hv : v < 18446744073709551616) : Calls Tryz.prog 120 #[.pointer (some ⟨b, 0, none⟩), .int .u64 49144, .int .i64 8, .int .u64 v] w (RetW true b (wrS 5 s v) (wrA 5 a v) (wrT 5 t v) w) := by
  go_enter Tryz.func120, Tryz.ntmps120
  go_wp2_with fail
  refine (parts_c _).mono ?_; rintro e w1 ⟨m, rfl, hT, hb1⟩
  have look := look_5 hT
  have HC := Lib.hid (h.below hb1)
  have Hs := Lib.hid hs; have Ha := Lib.hid ha; have Ht := Lib.hid ht; have Hv := Lib.hid hv; clear hs ha ht hv h hT
  have Hb := Lib.hid hb1; clear hb1
  obtain ⟨h0, c0, c1, c2, f0, f1, f2⟩ := HC.out
  have nb : ¬ b = w1.heap.size := by omega
  have nb' : ¬ w1.heap.size = b := by omega
  go_wp2_with fail
  go_quiet (fail)
  go_wp2_with fail
  go_region
  go_wp2_with fail
  go_ret
  exact ⟨rfl, ((HC.out.alloc _).drewN _).set2 (wr64_eq t v Ht.out Hv.out), grown_set (grown_drewN (grown_alloc (grown_any (grown_below Hb.out)) _) _) _ none _ none⟩
set_option maxRecDepth 100000 in
theorem write_6 (w : World) (b s a t : Nat) (h : IsC w b s a t) (hs : s < 2) (ha : a < 18446744073709551616) (ht : t < 18446744073709551616) (v : Nat) (hv : v < 18446744073709551616) : Calls Tryz.prog 120 #[.pointer (some ⟨b, 0, none⟩), .int .u64 49144, .int .i64 4, .int .u64 v] w (RetW true b (wrS 6 s v) (wrA 6 a v) (wrT 6 t v) w) := by
  go_enter Tryz.func120, Tryz.ntmps120
  go_wp2_with fail
  refine (parts_c _).mono ?_; rintro e w1 ⟨m, rfl, hT, hb1⟩
  have look := look_6 hT
  have HC := Lib.hid (h.below hb1)
  have Hs := Lib.hid hs; have Ha := Lib.hid ha; have Ht := Lib.hid ht; have Hv := Lib.hid hv; clear hs ha ht hv h hT
  have Hb := Lib.hid hb1; clear hb1
  obtain ⟨h0, c0, c1, c2, f0, f1, f2⟩ := HC.out
  have nb : ¬ b = w1.heap.size := by omega
  have nb' : ¬ w1.heap.size = b := by omega
  go_wp2_with fail
  go_quiet (fail)
  go_wp2_with fail
  go_region
  go_wp2_with fail
  go_ret
  exact ⟨rfl, ((HC.out.alloc _).drewN _).set2 (wrlo_eq t v Ht.out Hv.out), grown_set (grown_drewN (grown_alloc (grown_any (grown_below Hb.out)) _) _) _ none _ none⟩
set_option maxRecDepth 100000 in
theorem write_7 (w : World) (b s a t : Nat) (h : IsC w b s a t) (hs : s < 2) (ha : a < 18446744073709551616) (ht : t < 18446744073709551616) (v : Nat) (hv : v < 18446744073709551616) : Calls Tryz.prog 120 #[.pointer (some ⟨b, 0, none⟩), .int .u64 49148, .int .i64 4, .int .u64 v] w (RetW true b (wrS 7 s v) (wrA 7 a v) (wrT 7 t v) w) := by
  go_enter Tryz.func120, Tryz.ntmps120
  go_wp2_with fail
  refine (parts_c _).mono ?_; rintro e w1 ⟨m, rfl, hT, hb1⟩
  have look := look_7 hT
  have HC := Lib.hid (h.below hb1)
  have Hs := Lib.hid hs; have Ha := Lib.hid ha; have Ht := Lib.hid ht; have Hv := Lib.hid hv; clear hs ha ht hv h hT
  have Hb := Lib.hid hb1; clear hb1
  obtain ⟨h0, c0, c1, c2, f0, f1, f2⟩ := HC.out
  have nb : ¬ b = w1.heap.size := by omega
  have nb' : ¬ w1.heap.size = b := by omega
  go_wp2_with fail
  go_quiet (fail)
  go_wp2_with fail
  go_region
  go_wp2_with fail
  go_ret
  exact ⟨rfl, ((HC.out.alloc _).drewN _).set2 (wrhi_eq t v Ht.out Hv.out), grown_set (grown_drewN (grown_alloc (grown_any (grown_below Hb.out)) _) _) _ none _ none⟩
set_option maxRecDepth 100000 in
theorem write_0 (w : World) (b s a t : Nat) (h : IsC w b s a t) (hs : s < 2) (ha : a < 18446744073709551616) (ht : t < 18446744073709551616) (v : Nat) (hv : v < 18446744073709551616) (at_ : Nat) (sz : Int) (hx : at_ < 18446744073709551616) (hz : (Lit.int .i64 sz).wf = true) (n0 : ¬ (at_ = 0 ∧ sz = 4)) (n1 : ¬ (at_ = 16384 ∧ sz = 8)) (n2 : ¬ (at_ = 16384 ∧ sz = 4)) (n3 : ¬ (at_ = 16388 ∧ sz = 4)) (n4 : ¬ (at_ = 49144 ∧ sz = 8)) (n5 : ¬ (at_ = 49144 ∧ sz = 4)) (n6 : ¬ (at_ = 49148 ∧ sz = 4)) : Calls Tryz.prog 120 #[.pointer (some ⟨b, 0, none⟩), .int .u64 at_, .int .i64 sz, .int .u64 v] w (RetW false b s a t w) := by
  go_enter Tryz.func120, Tryz.ntmps120
  go_wp2_with fail
  refine (parts_c _).mono ?_; rintro e w1 ⟨m, rfl, hT, hb1⟩
  have look := look_0 hT hx hz n0 n1 n2 n3 n4 n5 n6
  clear hx hz n0 n1 n2 n3 n4 n5 n6
  have HC := Lib.hid (h.below hb1)
  have Hs := Lib.hid hs; have Ha := Lib.hid ha; have Ht := Lib.hid ht; have Hv := Lib.hid hv; clear hs ha ht hv h hT
  have Hb := Lib.hid hb1; clear hb1
  obtain ⟨h0, c0, c1, c2, f0, f1, f2⟩ := HC.out
  have nb : ¬ b = w1.heap.size := by omega
  have nb' : ¬ w1.heap.size = b := by omega
  go_wp2_with fail
  go_ret
  exact ⟨rfl, HC.out.alloc _, grown_alloc (grown_any (grown_below Hb.out)) _⟩
theorem write_c (w : World) (b s a t : Nat) (h : IsC w b s a t) (hs : s < 2) (ha : a < 18446744073709551616) (ht : t < 18446744073709551616) (v : Nat) (hv : v < 18446744073709551616) (at_ : Nat) (sz : Int) (hx : at_ < 18446744073709551616) (hz : (Lit.int .i64 sz).wf = true) : Calls Tryz.prog 120 #[.pointer (some ⟨b, 0, none⟩), .int .u64 at_, .int .i64 sz, .int .u64 v] w (RetW (decide (kd at_ sz ≠ 0)) b (wrS (kd at_ sz) s v) (wrA (kd at_ sz) a v) (wrT (kd at_ sz) t v) w) := by
  rcases kd_cases at_ sz with ⟨rfl, rfl, e⟩ | ⟨rfl, rfl, e⟩ | ⟨rfl, rfl, e⟩ | ⟨rfl, rfl, e⟩ | ⟨rfl, rfl, e⟩ | ⟨rfl, rfl, e⟩ | ⟨rfl, rfl, e⟩ | ⟨n0, n1, n2, n3, n4, n5, n6, e⟩ <;> rw [e]
  · exact write_1 w b s a t h hs ha ht v hv
  · exact write_2 w b s a t h hs ha ht v hv
  · exact write_3 w b s a t h hs ha ht v hv
  · exact write_4 w b s a t h hs ha ht v hv
  · exact write_5 w b s a t h hs ha ht v hv
  · exact write_6 w b s a t h hs ha ht v hv
  · exact write_7 w b s a t h hs ha ht v hv
  · exact write_0 w b s a t h hs ha ht v hv at_ sz hx hz n0 n1 n2 n3 n4 n5 n6
end Go.Proofs.YtoicpikkcefheaaGreat.K
