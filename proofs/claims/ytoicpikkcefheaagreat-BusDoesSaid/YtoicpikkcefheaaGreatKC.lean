/- Taken from other texts: what is needed of them. -/
import Derived.Test.YtoicpikkcefheaaGreatKA
import Derived.Test.YtoicpikkcefheaaGreatKB
namespace Go.Proofs.YtoicpikkcefheaaGreat.K
set_option linter.unusedVariables false
set_option linter.unusedSimpArgs false
set_option maxRecDepth 20000
open Go.ChangeShapes Go.WideShapes Go.ChangeAt Go.RowKit
def RetC (x y z : Nat) (W : World) (e : Ending) (w' : World) : Prop := ∃ b, e = .returned (.pointer (some ⟨b, 0, none⟩)) ∧ W.heap.size ≤ b ∧ IsC w' b x y z ∧ Below W.heap.size W w'
def RetT (b x y z : Nat) (W : World) (e : Ending) (w' : World) : Prop := e = .returned (.tuple #[]) ∧ IsC w' b x y z ∧ W.grownBy w' (some b)
def RetU (n : Nat) (W : World) (e : Ending) (w' : World) : Prop := e = .returned (.int .u64 n) ∧ Below W.heap.size W w'
theorem retU_mk {n : Nat} {x : Int} {W w' : World} (h : x = n) (hb : Below W.heap.size W w') : RetU n W (.returned (.int .u64 x)) w' := ⟨by rw [h], hb⟩
set_option maxRecDepth 100000 in
theorem new_c (w : World) : Calls Tryz.prog 71 #[] w (RetC 0 18446744073709551615 0 w) := by
  go_enter Tryz.func71, Tryz.ntmps71
  go_wp2_with fail
  go_ret
  exact ⟨_, rfl, Nat.le_refl _, isC_new w 0 18446744073709551615 0 _, (by repeat (first | (with_reducible first | exact Below.refl _ _ | assumption | exact Nat.le_refl _ | refine Below.drew ?_ | refine Below.alloc ?_ ?_ _ | refine below_drewN ?_ _ | refine Below.setCell ?_ ?_ _ | refine le_alloc ?_ | refine le_set ?_ | refine le_drew ?_ | refine le_drewN ?_ | refine below_step (by assumption) ?_ ?_ | refine le_below (by assumption) ?_) | (dsimp only; omega)))⟩
set_option maxRecDepth 100000 in
theorem tick_c (w : World) (b s a t : Nat) (h : IsC w b s a t) (ht : t < 18446744073709551616) : Calls Tryz.prog 54 #[.pointer (some ⟨b, 0, none⟩)] w (RetT b s a ((t + 1) % 18446744073709551616) w) := by
  have HC := Lib.hid h; have Ht := Lib.hid ht; clear ht
  obtain ⟨h0, c0, c1, c2, f0, f1, f2⟩ := h
  go_enter Tryz.func54, Tryz.ntmps54
  go_wp2_with fail
  go_region
  go_wp2_with fail
  go_end0
  exact ⟨rfl, (HC.out.drewN 1).set2 (by rw [IntKind.wrap_u64]; omega), grown_set (grown_drewN (grown_refl _ _) 1) _ none _ none⟩
theorem copy_c (w : World) (b s a t : Nat) (h : IsC w b s a t) : Calls Tryz.prog 87 #[.pointer (some ⟨b, 0, none⟩)] w (RetC s a t w) := by
  have HC := Lib.hid h
  obtain ⟨h0, c0, c1, c2, f0, f1, f2⟩ := h
  go_enter Tryz.func87, Tryz.ntmps87
  go_wp2_with fail
  go_ret
  exact ⟨_, rfl, Nat.le_refl _, isC_new w s a t _, (by repeat (first | (with_reducible first | exact Below.refl _ _ | assumption | exact Nat.le_refl _ | refine Below.drew ?_ | refine Below.alloc ?_ ?_ _ | refine below_drewN ?_ _ | refine Below.setCell ?_ ?_ _ | refine le_alloc ?_ | refine le_set ?_ | refine le_drew ?_ | refine le_drewN ?_ | refine below_step (by assumption) ?_ ?_ | refine le_below (by assumption) ?_) | (dsimp only; omega)))⟩
set_option maxRecDepth 100000 in
theorem pend_c (w : World) (b s a t : Nat) (h : IsC w b s a t) (hs : s < 2) : Calls Tryz.prog 67 #[.pointer (some ⟨b, 0, none⟩)] w (RetU (penV s a t) w) := by
  have HC := Lib.hid h; have Hs := Lib.hid hs
  obtain ⟨h0, c0, c1, c2, f0, f1, f2⟩ := h
  have hw : IntKind.u64.wrap ((s : Int) * 8) = (s : Int) * 8 := by rw [IntKind.wrap_u64]; omega
  clear hs
  go_enter Tryz.func67, Tryz.ntmps67
  by_cases hat : a ≤ t
  · have HP : Hid (penV s a t = s * 8 + 128) := by show _ = _; unfold penV; rw [if_pos hat]
    go_wp2_with fail
    go_quiet (fail)
    go_wp2_with fail
    go_ret
    refine retU_mk ?_ (by repeat (first | (with_reducible first | exact Below.refl _ _ | assumption | exact Nat.le_refl _ | refine Below.drew ?_ | refine Below.alloc ?_ ?_ _ | refine below_drewN ?_ _ | refine Below.setCell ?_ ?_ _ | refine le_alloc ?_ | refine le_set ?_ | refine le_drew ?_ | refine le_drewN ?_ | refine below_step (by assumption) ?_ ?_ | refine le_below (by assumption) ?_) | (dsimp only; omega)))
    rw [HP.out]
    have : s = 0 ∨ s = 1 := by have := Hs.out; omega
    rcases this with rfl | rfl <;> rfl
  · have hat' : decide (a ≤ t) = false := decide_eq_false hat
    have HP : Hid (penV s a t = s * 8) := by show _ = _; unfold penV; rw [if_neg hat]; rfl
    have hat2 : t < a := by omega
    clear hat
    go_wp2_with fail
    go_quiet (fail)
    go_wp2_with fail
    go_ret
    refine retU_mk ?_ (by repeat (first | (with_reducible first | exact Below.refl _ _ | assumption | exact Nat.le_refl _ | refine Below.drew ?_ | refine Below.alloc ?_ ?_ _ | refine below_drewN ?_ _ | refine Below.setCell ?_ ?_ _ | refine le_alloc ?_ | refine le_set ?_ | refine le_drew ?_ | refine le_drewN ?_ | refine below_step (by assumption) ?_ ?_ | refine le_below (by assumption) ?_) | (dsimp only; omega)))
    rw [HP.out]
    simp
end Go.Proofs.YtoicpikkcefheaaGreat.K
namespace Go.Proofs.YtoicpikkcefheaaGreat.K
set_option linter.unusedVariables false
set_option linter.unusedSimpArgs false
set_option maxRecDepth 20000
open Go.ChangeShapes Go.WideShapes Go.ChangeAt Go.RowKit
theorem pen_no {s a t : Nat} (h : t < a) : penV s a t = s * 8 := by unfold penV; rw [if_neg (by omega)]; rfl
theorem pen_yes {s a t : Nat} (h : a ≤ t) : penV s a t = s * 8 + 128 := by unfold penV; rw [if_pos h]
end Go.Proofs.YtoicpikkcefheaaGreat.K
namespace Go.Proofs.YtoicpikkcefheaaGreat.K
set_option linter.unusedVariables false
set_option linter.unusedSimpArgs false
set_option maxRecDepth 20000
open Go.ChangeShapes Go.WideShapes Go.ChangeAt Go.RowKit
def NoP (x : Nat) (p : Int) : Prop := ¬ (x = 0 ∧ p = 4) ∧ ¬ (x = 16384 ∧ p = 8) ∧ ¬ (x = 16384 ∧ p = 4) ∧ ¬ (x = 16388 ∧ p = 4) ∧ ¬ (x = 49144 ∧ p = 8) ∧ ¬ (x = 49144 ∧ p = 4) ∧ ¬ (x = 49148 ∧ p = 4)
end Go.Proofs.YtoicpikkcefheaaGreat.K
namespace Go.Proofs.YtoicpikkcefheaaGreat.K
set_option linter.unusedVariables false
set_option linter.unusedSimpArgs false
set_option maxRecDepth 20000
open Go.ChangeShapes Go.WideShapes Go.ChangeAt Go.RowKit
def RetI0 (t : IntKind) (n : Int) (W : World) (e : Ending) (w' : World) : Prop := e = .returned (.int t n) ∧ W = w'
theorem retI0_mk {t : IntKind} {x n : Int} {W : World} (h : x = n) : RetI0 t n W (.returned (.int t x)) W := ⟨by rw [h], rfl⟩
set_option maxRecDepth 100000 in
theorem whole_no_16384 (x : Nat) (p : Int) (h8 : ¬ (x = 16384 ∧ p = 8)) (h4 : ¬ (x = 16384 ∧ p = 4)) (h5 : ¬ (x = 16388 ∧ p = 4)) (w : World) : Calls Tryz.prog 77 #[.int .u64 x, .int .u64 16384, .int .i64 p] w (RetI0 .i64 0 w) := by
  by_cases e1 : x = 16384
  · have d8 : (p == 8) = false := by rw [beq_eq_false_iff_ne]; exact fun e => h8 ⟨e1, e⟩
    have d4 : (p == 4) = false := by rw [beq_eq_false_iff_ne]; exact fun e => h4 ⟨e1, e⟩
    have f8 : decide (p = 8) = false := decide_eq_false fun e => h8 ⟨e1, e⟩
    have f4 : decide (p = 4) = false := decide_eq_false fun e => h4 ⟨e1, e⟩
    clear h8 h4 h5
    subst e1
    go_enter Tryz.func77, Tryz.ntmps77
    go_wp2_with fail
    go_ret
    exact retI0_mk rfl
  · have d1 : ((x : Int) == 16384) = false := by rw [beq_eq_false_iff_ne]; omega
    have f1 : decide ((x : Int) = 16384) = false := decide_eq_false (by omega)
    by_cases e2 : x = 16388
    · have d4 : (p == 4) = false := by rw [beq_eq_false_iff_ne]; exact fun e => h5 ⟨e2, e⟩
      have f4 : decide (p = 4) = false := decide_eq_false fun e => h5 ⟨e2, e⟩
      clear h8 h4 h5 e1 d1 f1
      subst e2
      go_enter Tryz.func77, Tryz.ntmps77
      go_wp2_with fail
      go_ret
      exact retI0_mk rfl
    · have d2 : ((x : Int) == 16388) = false := by rw [beq_eq_false_iff_ne]; omega
      have f2 : decide ((x : Int) = 16388) = false := decide_eq_false (by omega)
      clear h8 h4 h5 e1 e2
      go_enter Tryz.func77, Tryz.ntmps77
      go_wp2_with fail
      go_ret
      exact retI0_mk rfl
set_option maxRecDepth 100000 in
theorem whole_no_49144 (x : Nat) (p : Int) (h8 : ¬ (x = 49144 ∧ p = 8)) (h4 : ¬ (x = 49144 ∧ p = 4)) (h5 : ¬ (x = 49148 ∧ p = 4)) (w : World) : Calls Tryz.prog 77 #[.int .u64 x, .int .u64 49144, .int .i64 p] w (RetI0 .i64 0 w) := by
  by_cases e1 : x = 49144
  · have d8 : (p == 8) = false := by rw [beq_eq_false_iff_ne]; exact fun e => h8 ⟨e1, e⟩
    have d4 : (p == 4) = false := by rw [beq_eq_false_iff_ne]; exact fun e => h4 ⟨e1, e⟩
    have f8 : decide (p = 8) = false := decide_eq_false fun e => h8 ⟨e1, e⟩
    have f4 : decide (p = 4) = false := decide_eq_false fun e => h4 ⟨e1, e⟩
    clear h8 h4 h5
    subst e1
    go_enter Tryz.func77, Tryz.ntmps77
    go_wp2_with fail
    go_ret
    exact retI0_mk rfl
  · have d1 : ((x : Int) == 49144) = false := by rw [beq_eq_false_iff_ne]; omega
    have f1 : decide ((x : Int) = 49144) = false := decide_eq_false (by omega)
    by_cases e2 : x = 49148
    · have d4 : (p == 4) = false := by rw [beq_eq_false_iff_ne]; exact fun e => h5 ⟨e2, e⟩
      have f4 : decide (p = 4) = false := decide_eq_false fun e => h5 ⟨e2, e⟩
      clear h8 h4 h5 e1 d1 f1
      subst e2
      go_enter Tryz.func77, Tryz.ntmps77
      go_wp2_with fail
      go_ret
      exact retI0_mk rfl
    · have d2 : ((x : Int) == 49148) = false := by rw [beq_eq_false_iff_ne]; omega
      have f2 : decide ((x : Int) = 49148) = false := decide_eq_false (by omega)
      clear h8 h4 h5 e1 e2
      go_enter Tryz.func77, Tryz.ntmps77
      go_wp2_with fail
      go_ret
      exact retI0_mk rfl
theorem whole_1_16384 (w : World) : Calls Tryz.prog 77 #[.int .u64 0, .int .u64 16384, .int .i64 4] w (RetI0 .i64 0 w) := by
  go_enter Tryz.func77, Tryz.ntmps77
  go_wp2_with fail
  go_ret
  exact retI0_mk rfl
theorem whole_1_49144 (w : World) : Calls Tryz.prog 77 #[.int .u64 0, .int .u64 49144, .int .i64 4] w (RetI0 .i64 0 w) := by
  go_enter Tryz.func77, Tryz.ntmps77
  go_wp2_with fail
  go_ret
  exact retI0_mk rfl
theorem whole_2_16384 (w : World) : Calls Tryz.prog 77 #[.int .u64 16384, .int .u64 16384, .int .i64 8] w (RetI0 .i64 1 w) := by
  go_enter Tryz.func77, Tryz.ntmps77
  go_wp2_with fail
  go_ret
  exact retI0_mk rfl
theorem whole_2_49144 (w : World) : Calls Tryz.prog 77 #[.int .u64 16384, .int .u64 49144, .int .i64 8] w (RetI0 .i64 0 w) := by
  go_enter Tryz.func77, Tryz.ntmps77
  go_wp2_with fail
  go_ret
  exact retI0_mk rfl
theorem whole_3_16384 (w : World) : Calls Tryz.prog 77 #[.int .u64 16384, .int .u64 16384, .int .i64 4] w (RetI0 .i64 2 w) := by
  go_enter Tryz.func77, Tryz.ntmps77
  go_wp2_with fail
  go_ret
  exact retI0_mk rfl
theorem whole_3_49144 (w : World) : Calls Tryz.prog 77 #[.int .u64 16384, .int .u64 49144, .int .i64 4] w (RetI0 .i64 0 w) := by
  go_enter Tryz.func77, Tryz.ntmps77
  go_wp2_with fail
  go_ret
  exact retI0_mk rfl
theorem whole_4_16384 (w : World) : Calls Tryz.prog 77 #[.int .u64 16388, .int .u64 16384, .int .i64 4] w (RetI0 .i64 3 w) := by
  go_enter Tryz.func77, Tryz.ntmps77
  go_wp2_with fail
  go_ret
  exact retI0_mk rfl
theorem whole_4_49144 (w : World) : Calls Tryz.prog 77 #[.int .u64 16388, .int .u64 49144, .int .i64 4] w (RetI0 .i64 0 w) := by
  go_enter Tryz.func77, Tryz.ntmps77
  go_wp2_with fail
  go_ret
  exact retI0_mk rfl
theorem whole_5_16384 (w : World) : Calls Tryz.prog 77 #[.int .u64 49144, .int .u64 16384, .int .i64 8] w (RetI0 .i64 0 w) := by
  go_enter Tryz.func77, Tryz.ntmps77
  go_wp2_with fail
  go_ret
  exact retI0_mk rfl
theorem whole_5_49144 (w : World) : Calls Tryz.prog 77 #[.int .u64 49144, .int .u64 49144, .int .i64 8] w (RetI0 .i64 1 w) := by
  go_enter Tryz.func77, Tryz.ntmps77
  go_wp2_with fail
  go_ret
  exact retI0_mk rfl
theorem whole_6_16384 (w : World) : Calls Tryz.prog 77 #[.int .u64 49144, .int .u64 16384, .int .i64 4] w (RetI0 .i64 0 w) := by
  go_enter Tryz.func77, Tryz.ntmps77
  go_wp2_with fail
  go_ret
  exact retI0_mk rfl
theorem whole_6_49144 (w : World) : Calls Tryz.prog 77 #[.int .u64 49144, .int .u64 49144, .int .i64 4] w (RetI0 .i64 2 w) := by
  go_enter Tryz.func77, Tryz.ntmps77
  go_wp2_with fail
  go_ret
  exact retI0_mk rfl
theorem whole_7_16384 (w : World) : Calls Tryz.prog 77 #[.int .u64 49148, .int .u64 16384, .int .i64 4] w (RetI0 .i64 0 w) := by
  go_enter Tryz.func77, Tryz.ntmps77
  go_wp2_with fail
  go_ret
  exact retI0_mk rfl
theorem whole_7_49144 (w : World) : Calls Tryz.prog 77 #[.int .u64 49148, .int .u64 49144, .int .i64 4] w (RetI0 .i64 3 w) := by
  go_enter Tryz.func77, Tryz.ntmps77
  go_wp2_with fail
  go_ret
  exact retI0_mk rfl
theorem get_1 (x : Nat) (hx : Hid (x < 18446744073709551616)) (w : World) : Calls Tryz.prog 98 #[.int .u64 x, .int .i64 1] w (RetI0 .u64 ((x : Nat) : Int) w) := by
  go_enter Tryz.func98, Tryz.ntmps98
  go_wp2_with fail
  go_ret
  exact retI0_mk (by have hx' := hx.out; first | rfl | omega | (simp only [IntKind.wrap_u64]; done) | (simp only [IntKind.wrap_u64]; omega))
theorem set_1 (x v : Nat) (hx : Hid (x < 18446744073709551616)) (hv : Hid (v < 18446744073709551616)) (w : World) : Calls Tryz.prog 78 #[.int .u64 x, .int .u64 v, .int .i64 1] w (RetI0 .u64 ((v : Nat) : Int) w) := by
  go_enter Tryz.func78, Tryz.ntmps78
  go_wp2_with fail
  go_ret
  refine retI0_mk ?_
  rfl
theorem get_2 (x : Nat) (hx : Hid (x < 18446744073709551616)) (w : World) : Calls Tryz.prog 98 #[.int .u64 x, .int .i64 2] w (RetI0 .u64 ((x % 4294967296 : Nat) : Int) w) := by
  go_enter Tryz.func98, Tryz.ntmps98
  go_wp2_with fail
  go_ret
  exact retI0_mk (by have hx' := hx.out; first | rfl | omega | (simp only [IntKind.wrap_u64]; done) | (simp only [IntKind.wrap_u64]; omega))
theorem set_2 (x v : Nat) (hx : Hid (x < 18446744073709551616)) (hv : Hid (v < 18446744073709551616)) (w : World) : Calls Tryz.prog 78 #[.int .u64 x, .int .u64 v, .int .i64 2] w (RetI0 .u64 ((loW x v : Nat) : Int) w) := by
  go_enter Tryz.func78, Tryz.ntmps78
  go_wp2_with fail
  go_ret
  refine retI0_mk ?_
  have hx' := hx.out; have hv' := hv.out; unfold loW; first | omega | (simp only [IntKind.wrap_u64]; omega)
theorem get_3 (x : Nat) (hx : Hid (x < 18446744073709551616)) (w : World) : Calls Tryz.prog 98 #[.int .u64 x, .int .i64 3] w (RetI0 .u64 ((x / 4294967296 : Nat) : Int) w) := by
  go_enter Tryz.func98, Tryz.ntmps98
  go_wp2_with fail
  go_ret
  exact retI0_mk (by have hx' := hx.out; first | rfl | omega | (simp only [IntKind.wrap_u64]; done) | (simp only [IntKind.wrap_u64]; omega))
theorem set_3 (x v : Nat) (hx : Hid (x < 18446744073709551616)) (hv : Hid (v < 18446744073709551616)) (w : World) : Calls Tryz.prog 78 #[.int .u64 x, .int .u64 v, .int .i64 3] w (RetI0 .u64 ((hiW x v : Nat) : Int) w) := by
  go_enter Tryz.func78, Tryz.ntmps78
  go_wp2_with fail
  go_ret
  refine retI0_mk ?_
  have hx' := hx.out; have hv' := hv.out; unfold hiW; first | omega | (simp only [IntKind.wrap_u64]; omega)
set_option maxRecDepth 100000 in
theorem readr_1 (w : World) (b s a t : Nat) (h : IsC w b s t a) (ha : Hid (a < 18446744073709551616)) (ht : Hid (t < 18446744073709551616)) : Calls Tryz.prog 84 #[.pointer (some ⟨b, 0, none⟩), .int .u64 0, .int .i64 4] w (RetR (rdK 1 s a t) true w) := by
  have HC := Lib.hid h
  obtain ⟨h0, c0, c1, c2, f0, f1, f2⟩ := h
  go_enter Tryz.func84, Tryz.ntmps84
  go_wp2_with fail
  refine (whole_1_16384 _).mono ?_; rintro e v ⟨rfl, rfl⟩
  go_wp2_with fail
  refine (whole_1_49144 _).mono ?_; rintro e v ⟨rfl, rfl⟩
  go_wp2_with fail
  go_ret2
  exact retR_mk rfl rfl (by repeat (first | (with_reducible first | exact Below.refl _ _ | assumption | exact Nat.le_refl _ | refine Below.drew ?_ | refine Below.alloc ?_ ?_ _ | refine below_drewN ?_ _ | refine Below.setCell ?_ ?_ _ | refine le_alloc ?_ | refine le_set ?_ | refine le_drew ?_ | refine le_drewN ?_ | refine below_step (by assumption) ?_ ?_ | refine le_below (by assumption) ?_) | (dsimp only; omega)))
set_option maxRecDepth 100000 in
theorem writer_1 (w : World) (b s a t : Nat) (h : IsC w b s t a) (hs : s < 2) (ha : Hid (a < 18446744073709551616)) (ht : Hid (t < 18446744073709551616)) (v : Nat) (hv : Hid (v < 18446744073709551616)) : Calls Tryz.prog 39 #[.pointer (some ⟨b, 0, none⟩), .int .u64 0, .int .i64 4, .int .u64 v] w (RetW true b (wrS 1 s v) (wrT 1 t v) (wrA 1 a v) w) := by
  have HC := Lib.hid h; clear hs
  obtain ⟨h0, c0, c1, c2, f0, f1, f2⟩ := h
  go_enter Tryz.func39, Tryz.ntmps39
  go_wp2_with fail
  refine (whole_1_16384 _).mono ?_; rintro e u ⟨rfl, rfl⟩
  go_wp2_with fail
  refine (whole_1_49144 _).mono ?_; rintro e u ⟨rfl, rfl⟩
  go_wp2_with fail
  go_ret
  exact ⟨rfl, HC.out.set0 (by show _ = ((v % 2 : Nat) : Int); simp), grown_set (grown_refl _ _) _ none _ none⟩
set_option maxRecDepth 100000 in
theorem readr_2 (w : World) (b s a t : Nat) (h : IsC w b s t a) (ha : Hid (a < 18446744073709551616)) (ht : Hid (t < 18446744073709551616)) : Calls Tryz.prog 84 #[.pointer (some ⟨b, 0, none⟩), .int .u64 16384, .int .i64 8] w (RetR (rdK 2 s a t) true w) := by
  have HC := Lib.hid h
  obtain ⟨h0, c0, c1, c2, f0, f1, f2⟩ := h
  go_enter Tryz.func84, Tryz.ntmps84
  go_wp2_with fail
  refine (whole_2_16384 _).mono ?_; rintro e v ⟨rfl, rfl⟩
  go_wp2_with fail
  refine (whole_2_49144 _).mono ?_; rintro e v ⟨rfl, rfl⟩
  go_wp2_with fail
  refine (get_1 a ha _).mono ?_; rintro e v ⟨rfl, rfl⟩
  go_wp2_with fail
  go_ret2
  exact retR_mk rfl rfl (by repeat (first | (with_reducible first | exact Below.refl _ _ | assumption | exact Nat.le_refl _ | refine Below.drew ?_ | refine Below.alloc ?_ ?_ _ | refine below_drewN ?_ _ | refine Below.setCell ?_ ?_ _ | refine le_alloc ?_ | refine le_set ?_ | refine le_drew ?_ | refine le_drewN ?_ | refine below_step (by assumption) ?_ ?_ | refine le_below (by assumption) ?_) | (dsimp only; omega)))
set_option maxRecDepth 100000 in
theorem writer_2 (w : World) (b s a t : Nat) (h : IsC w b s t a) (hs : s < 2) (ha : Hid (a < 18446744073709551616)) (ht : Hid (t < 18446744073709551616)) (v : Nat) (hv : Hid (v < 18446744073709551616)) : Calls Tryz.prog 39 #[.pointer (some ⟨b, 0, none⟩), .int .u64 16384, .int .i64 8, .int .u64 v] w (RetW true b (wrS 2 s v) (wrT 2 t v) (wrA 2 a v) w) := by
  have HC := Lib.hid h; clear hs
  obtain ⟨h0, c0, c1, c2, f0, f1, f2⟩ := h
  go_enter Tryz.func39, Tryz.ntmps39
  go_wp2_with fail
  refine (whole_2_16384 _).mono ?_; rintro e u ⟨rfl, rfl⟩
  go_wp2_with fail
  refine (whole_2_49144 _).mono ?_; rintro e u ⟨rfl, rfl⟩
  go_wp2_with fail
  refine (set_1 a v ha hv _).mono ?_; rintro e u ⟨rfl, rfl⟩
  go_wp2_with fail
  go_ret
  exact ⟨rfl, HC.out.set2 (by rfl), grown_set (grown_refl _ _) _ none _ none⟩
set_option maxRecDepth 100000 in
theorem readr_3 (w : World) (b s a t : Nat) (h : IsC w b s t a) (ha : Hid (a < 18446744073709551616)) (ht : Hid (t < 18446744073709551616)) : Calls Tryz.prog 84 #[.pointer (some ⟨b, 0, none⟩), .int .u64 16384, .int .i64 4] w (RetR (rdK 3 s a t) true w) := by
  have HC := Lib.hid h
  obtain ⟨h0, c0, c1, c2, f0, f1, f2⟩ := h
  go_enter Tryz.func84, Tryz.ntmps84
  go_wp2_with fail
  refine (whole_3_16384 _).mono ?_; rintro e v ⟨rfl, rfl⟩
  go_wp2_with fail
  refine (whole_3_49144 _).mono ?_; rintro e v ⟨rfl, rfl⟩
  go_wp2_with fail
  refine (get_2 a ha _).mono ?_; rintro e v ⟨rfl, rfl⟩
  go_wp2_with fail
  go_ret2
  exact retR_mk rfl rfl (by repeat (first | (with_reducible first | exact Below.refl _ _ | assumption | exact Nat.le_refl _ | refine Below.drew ?_ | refine Below.alloc ?_ ?_ _ | refine below_drewN ?_ _ | refine Below.setCell ?_ ?_ _ | refine le_alloc ?_ | refine le_set ?_ | refine le_drew ?_ | refine le_drewN ?_ | refine below_step (by assumption) ?_ ?_ | refine le_below (by assumption) ?_) | (dsimp only; omega)))
set_option maxRecDepth 100000 in
theorem writer_3 (w : World) (b s a t : Nat) (h : IsC w b s t a) (hs : s < 2) (ha : Hid (a < 18446744073709551616)) (ht : Hid (t < 18446744073709551616)) (v : Nat) (hv : Hid (v < 18446744073709551616)) : Calls Tryz.prog 39 #[.pointer (some ⟨b, 0, none⟩), .int .u64 16384, .int .i64 4, .int .u64 v] w (RetW true b (wrS 3 s v) (wrT 3 t v) (wrA 3 a v) w) := by
  have HC := Lib.hid h; clear hs
  obtain ⟨h0, c0, c1, c2, f0, f1, f2⟩ := h
  go_enter Tryz.func39, Tryz.ntmps39
  go_wp2_with fail
  refine (whole_3_16384 _).mono ?_; rintro e u ⟨rfl, rfl⟩
  go_wp2_with fail
  refine (whole_3_49144 _).mono ?_; rintro e u ⟨rfl, rfl⟩
  go_wp2_with fail
  refine (set_2 a v ha hv _).mono ?_; rintro e u ⟨rfl, rfl⟩
  go_wp2_with fail
  go_ret
  exact ⟨rfl, HC.out.set2 (by rfl), grown_set (grown_refl _ _) _ none _ none⟩
set_option maxRecDepth 100000 in
theorem readr_4 (w : World) (b s a t : Nat) (h : IsC w b s t a) (ha : Hid (a < 18446744073709551616)) (ht : Hid (t < 18446744073709551616)) : Calls Tryz.prog 84 #[.pointer (some ⟨b, 0, none⟩), .int .u64 16388, .int .i64 4] w (RetR (rdK 4 s a t) true w) := by
  have HC := Lib.hid h
  obtain ⟨h0, c0, c1, c2, f0, f1, f2⟩ := h
  go_enter Tryz.func84, Tryz.ntmps84
  go_wp2_with fail
  refine (whole_4_16384 _).mono ?_; rintro e v ⟨rfl, rfl⟩
  go_wp2_with fail
  refine (whole_4_49144 _).mono ?_; rintro e v ⟨rfl, rfl⟩
  go_wp2_with fail
  refine (get_3 a ha _).mono ?_; rintro e v ⟨rfl, rfl⟩
  go_wp2_with fail
  go_ret2
  exact retR_mk rfl rfl (by repeat (first | (with_reducible first | exact Below.refl _ _ | assumption | exact Nat.le_refl _ | refine Below.drew ?_ | refine Below.alloc ?_ ?_ _ | refine below_drewN ?_ _ | refine Below.setCell ?_ ?_ _ | refine le_alloc ?_ | refine le_set ?_ | refine le_drew ?_ | refine le_drewN ?_ | refine below_step (by assumption) ?_ ?_ | refine le_below (by assumption) ?_) | (dsimp only; omega)))
set_option maxRecDepth 100000 in
theorem writer_4 (w : World) (b s a t : Nat) (h : IsC w b s t a) (hs : s < 2) (ha : Hid (a < 18446744073709551616)) (ht : Hid (t < 18446744073709551616)) (v : Nat) (hv : Hid (v < 18446744073709551616)) : Calls Tryz.prog 39 #[.pointer (some ⟨b, 0, none⟩), .int .u64 16388, .int .i64 4, .int .u64 v] w (RetW true b (wrS 4 s v) (wrT 4 t v) (wrA 4 a v) w) := by
  have HC := Lib.hid h; clear hs
  obtain ⟨h0, c0, c1, c2, f0, f1, f2⟩ := h
  go_enter Tryz.func39, Tryz.ntmps39
  go_wp2_with fail
  refine (whole_4_16384 _).mono ?_; rintro e u ⟨rfl, rfl⟩
  go_wp2_with fail
  refine (whole_4_49144 _).mono ?_; rintro e u ⟨rfl, rfl⟩
  go_wp2_with fail
  refine (set_3 a v ha hv _).mono ?_; rintro e u ⟨rfl, rfl⟩
  go_wp2_with fail
  go_ret
  exact ⟨rfl, HC.out.set2 (by rfl), grown_set (grown_refl _ _) _ none _ none⟩
set_option maxRecDepth 100000 in
theorem readr_5 (w : World) (b s a t : Nat) (h : IsC w b s t a) (ha : Hid (a < 18446744073709551616)) (ht : Hid (t < 18446744073709551616)) : Calls Tryz.prog 84 #[.pointer (some ⟨b, 0, none⟩), .int .u64 49144, .int .i64 8] w (RetR (rdK 5 s a t) true w) := by
  have HC := Lib.hid h
  obtain ⟨h0, c0, c1, c2, f0, f1, f2⟩ := h
  go_enter Tryz.func84, Tryz.ntmps84
  go_wp2_with fail
  refine (whole_5_16384 _).mono ?_; rintro e v ⟨rfl, rfl⟩
  go_wp2_with fail
  refine (whole_5_49144 _).mono ?_; rintro e v ⟨rfl, rfl⟩
  go_wp2_with fail
  refine (get_1 t ht _).mono ?_; rintro e v ⟨rfl, rfl⟩
  go_wp2_with fail
  go_ret2
  exact retR_mk rfl rfl (by repeat (first | (with_reducible first | exact Below.refl _ _ | assumption | exact Nat.le_refl _ | refine Below.drew ?_ | refine Below.alloc ?_ ?_ _ | refine below_drewN ?_ _ | refine Below.setCell ?_ ?_ _ | refine le_alloc ?_ | refine le_set ?_ | refine le_drew ?_ | refine le_drewN ?_ | refine below_step (by assumption) ?_ ?_ | refine le_below (by assumption) ?_) | (dsimp only; omega)))
set_option maxRecDepth 100000 in
theorem writer_5 (w : World) (b s a t : Nat) (h : IsC w b s t a) (hs : s < 2) (ha : Hid (a < 18446744073709551616)) (ht : Hid (t < 18446744073709551616)) (v : Nat) (hv : Hid (v < 18446744073709551616)) : Calls Tryz.prog 39 #[.pointer (some ⟨b, 0, none⟩), .int .u64 49144, .int .i64 8, .int .u64 v] w (RetW true b (wrS 5 s v) (wrT 5 t v) (wrA 5 a v) w) := by
  have HC := Lib.hid h; clear hs
  obtain ⟨h0, c0, c1, c2, f0, f1, f2⟩ := h
  go_enter Tryz.func39, Tryz.ntmps39
  go_wp2_with fail
  refine (whole_5_16384 _).mono ?_; rintro e u ⟨rfl, rfl⟩
  go_wp2_with fail
  refine (whole_5_49144 _).mono ?_; rintro e u ⟨rfl, rfl⟩
  go_wp2_with fail
  refine (set_1 t v ht hv _).mono ?_; rintro e u ⟨rfl, rfl⟩
  go_wp2_with fail
  go_ret
  exact ⟨rfl, HC.out.set1 (by rfl), grown_set (grown_refl _ _) _ none _ none⟩
set_option maxRecDepth 100000 in
theorem readr_6 (w : World) (b s a t : Nat) (h : IsC w b s t a) (ha : Hid (a < 18446744073709551616)) (ht : Hid (t < 18446744073709551616)) : Calls Tryz.prog 84 #[.pointer (some ⟨b, 0, none⟩), .int .u64 49144, .int .i64 4] w (RetR (rdK 6 s a t) true w) := by
  have HC := Lib.hid h
  obtain ⟨h0, c0, c1, c2, f0, f1, f2⟩ := h
  go_enter Tryz.func84, Tryz.ntmps84
  go_wp2_with fail
  refine (whole_6_16384 _).mono ?_; rintro e v ⟨rfl, rfl⟩
  go_wp2_with fail
  refine (whole_6_49144 _).mono ?_; rintro e v ⟨rfl, rfl⟩
  go_wp2_with fail
  refine (get_2 t ht _).mono ?_; rintro e v ⟨rfl, rfl⟩
  go_wp2_with fail
  go_ret2
  exact retR_mk rfl rfl (by repeat (first | (with_reducible first | exact Below.refl _ _ | assumption | exact Nat.le_refl _ | refine Below.drew ?_ | refine Below.alloc ?_ ?_ _ | refine below_drewN ?_ _ | refine Below.setCell ?_ ?_ _ | refine le_alloc ?_ | refine le_set ?_ | refine le_drew ?_ | refine le_drewN ?_ | refine below_step (by assumption) ?_ ?_ | refine le_below (by assumption) ?_) | (dsimp only; omega)))
set_option maxRecDepth 100000 in
theorem writer_6 (w : World) (b s a t : Nat) (h : IsC w b s t a) (hs : s < 2) (ha : Hid (a < 18446744073709551616)) (ht : Hid (t < 18446744073709551616)) (v : Nat) (hv : Hid (v < 18446744073709551616)) : Calls Tryz.prog 39 #[.pointer (some ⟨b, 0, none⟩), .int .u64 49144, .int .i64 4, .int .u64 v] w (RetW true b (wrS 6 s v) (wrT 6 t v) (wrA 6 a v) w) := by
  have HC := Lib.hid h; clear hs
  obtain ⟨h0, c0, c1, c2, f0, f1, f2⟩ := h
  go_enter Tryz.func39, Tryz.ntmps39
  go_wp2_with fail
  refine (whole_6_16384 _).mono ?_; rintro e u ⟨rfl, rfl⟩
  go_wp2_with fail
  refine (whole_6_49144 _).mono ?_; rintro e u ⟨rfl, rfl⟩
  go_wp2_with fail
  refine (set_2 t v ht hv _).mono ?_; rintro e u ⟨rfl, rfl⟩
  go_wp2_with fail
  go_ret
  exact ⟨rfl, HC.out.set1 (by rfl), grown_set (grown_refl _ _) _ none _ none⟩
set_option maxRecDepth 100000 in
theorem readr_7 (w : World) (b s a t : Nat) (h : IsC w b s t a) (ha : Hid (a < 18446744073709551616)) (ht : Hid (t < 18446744073709551616)) : Calls Tryz.prog 84 #[.pointer (some ⟨b, 0, none⟩), .int .u64 49148, .int .i64 4] w (RetR (rdK 7 s a t) true w) := by
  have HC := Lib.hid h
  obtain ⟨h0, c0, c1, c2, f0, f1, f2⟩ := h
  go_enter Tryz.func84, Tryz.ntmps84
  go_wp2_with fail
  refine (whole_7_16384 _).mono ?_; rintro e v ⟨rfl, rfl⟩
  go_wp2_with fail
  refine (whole_7_49144 _).mono ?_; rintro e v ⟨rfl, rfl⟩
  go_wp2_with fail
  refine (get_3 t ht _).mono ?_; rintro e v ⟨rfl, rfl⟩
  go_wp2_with fail
  go_ret2
  exact retR_mk rfl rfl (by repeat (first | (with_reducible first | exact Below.refl _ _ | assumption | exact Nat.le_refl _ | refine Below.drew ?_ | refine Below.alloc ?_ ?_ _ | refine below_drewN ?_ _ | refine Below.setCell ?_ ?_ _ | refine le_alloc ?_ | refine le_set ?_ | refine le_drew ?_ | refine le_drewN ?_ | refine below_step (by assumption) ?_ ?_ | refine le_below (by assumption) ?_) | (dsimp only; omega)))
set_option maxRecDepth 100000 in
theorem writer_7 (w : World) (b s a t : Nat) (h : IsC w b s t a) (hs : s < 2) (ha : Hid (a < 18446744073709551616)) (ht : Hid (t < 18446744073709551616)) (v : Nat) (hv : Hid (v < 18446744073709551616)) : Calls Tryz.prog 39 #[.pointer (some ⟨b, 0, none⟩), .int .u64 49148, .int .i64 4, .int .u64 v] w (RetW true b (wrS 7 s v) (wrT 7 t v) (wrA 7 a v) w) := by
  have HC := Lib.hid h; clear hs
  obtain ⟨h0, c0, c1, c2, f0, f1, f2⟩ := h
  go_enter Tryz.func39, Tryz.ntmps39
  go_wp2_with fail
  refine (whole_7_16384 _).mono ?_; rintro e u ⟨rfl, rfl⟩
  go_wp2_with fail
  refine (whole_7_49144 _).mono ?_; rintro e u ⟨rfl, rfl⟩
  go_wp2_with fail
  refine (set_3 t v ht hv _).mono ?_; rintro e u ⟨rfl, rfl⟩
  go_wp2_with fail
  go_ret
  exact ⟨rfl, HC.out.set1 (by rfl), grown_set (grown_refl _ _) _ none _ none⟩
set_option maxRecDepth 100000 in
theorem readr_0 (w : World) (b s a t : Nat) (h : IsC w b s t a) (at_ : Nat) (sz : Int) (hn : Hid (NoP at_ sz))  : Calls Tryz.prog 84 #[.pointer (some ⟨b, 0, none⟩), .int .u64 at_, .int .i64 sz] w (RetR 0 false w) := by
  have HC := Lib.hid h; clear h
  by_cases e1 : at_ = 0
  · have d4 : (sz == 4) = false := by rw [beq_eq_false_iff_ne]; exact fun e => hn.out.1 ⟨e1, e⟩
    have f4 : decide (sz = 4) = false := decide_eq_false fun e => hn.out.1 ⟨e1, e⟩
    subst e1
    go_enter Tryz.func84, Tryz.ntmps84
    go_wp2_with fail
    refine (whole_no_16384 0 sz hn.out.2.1 hn.out.2.2.1 hn.out.2.2.2.1 _).mono ?_; rintro e u ⟨rfl, rfl⟩
    go_wp2_with fail
    refine (whole_no_49144 0 sz hn.out.2.2.2.2.1 hn.out.2.2.2.2.2.1 hn.out.2.2.2.2.2.2 _).mono ?_; rintro e u ⟨rfl, rfl⟩
    go_wp2_with fail
    go_ret2
    exact retR_mk rfl rfl (by repeat (first | (with_reducible first | exact Below.refl _ _ | assumption | exact Nat.le_refl _ | refine Below.drew ?_ | refine Below.alloc ?_ ?_ _ | refine below_drewN ?_ _ | refine Below.setCell ?_ ?_ _ | refine le_alloc ?_ | refine le_set ?_ | refine le_drew ?_ | refine le_drewN ?_ | refine below_step (by assumption) ?_ ?_ | refine le_below (by assumption) ?_) | (dsimp only; omega)))
  · have d1 : ((at_ : Int) == 0) = false := by rw [beq_eq_false_iff_ne]; omega
    have f1 : decide (at_ = 0) = false := decide_eq_false e1
    clear e1
    go_enter Tryz.func84, Tryz.ntmps84
    go_wp2_with fail
    refine (whole_no_16384 at_ sz hn.out.2.1 hn.out.2.2.1 hn.out.2.2.2.1 _).mono ?_; rintro e u ⟨rfl, rfl⟩
    go_wp2_with fail
    refine (whole_no_49144 at_ sz hn.out.2.2.2.2.1 hn.out.2.2.2.2.2.1 hn.out.2.2.2.2.2.2 _).mono ?_; rintro e u ⟨rfl, rfl⟩
    go_wp2_with fail
    go_ret2
    exact retR_mk rfl rfl (by repeat (first | (with_reducible first | exact Below.refl _ _ | assumption | exact Nat.le_refl _ | refine Below.drew ?_ | refine Below.alloc ?_ ?_ _ | refine below_drewN ?_ _ | refine Below.setCell ?_ ?_ _ | refine le_alloc ?_ | refine le_set ?_ | refine le_drew ?_ | refine le_drewN ?_ | refine below_step (by assumption) ?_ ?_ | refine le_below (by assumption) ?_) | (dsimp only; omega)))
set_option maxRecDepth 100000 in
theorem writer_0 (w : World) (b s a t : Nat) (h : IsC w b s t a) (at_ : Nat) (sz : Int) (hn : Hid (NoP at_ sz)) (v : Nat) : Calls Tryz.prog 39 #[.pointer (some ⟨b, 0, none⟩), .int .u64 at_, .int .i64 sz, .int .u64 v] w (RetW false b s t a w) := by
  have HC := Lib.hid h; clear h
  by_cases e1 : at_ = 0
  · have d4 : (sz == 4) = false := by rw [beq_eq_false_iff_ne]; exact fun e => hn.out.1 ⟨e1, e⟩
    have f4 : decide (sz = 4) = false := decide_eq_false fun e => hn.out.1 ⟨e1, e⟩
    subst e1
    go_enter Tryz.func39, Tryz.ntmps39
    go_wp2_with fail
    refine (whole_no_16384 0 sz hn.out.2.1 hn.out.2.2.1 hn.out.2.2.2.1 _).mono ?_; rintro e u ⟨rfl, rfl⟩
    go_wp2_with fail
    refine (whole_no_49144 0 sz hn.out.2.2.2.2.1 hn.out.2.2.2.2.2.1 hn.out.2.2.2.2.2.2 _).mono ?_; rintro e u ⟨rfl, rfl⟩
    go_wp2_with fail
    go_ret
    exact ⟨rfl, HC.out, grown_refl _ _⟩
  · have d1 : ((at_ : Int) == 0) = false := by rw [beq_eq_false_iff_ne]; omega
    have f1 : decide (at_ = 0) = false := decide_eq_false e1
    clear e1
    go_enter Tryz.func39, Tryz.ntmps39
    go_wp2_with fail
    refine (whole_no_16384 at_ sz hn.out.2.1 hn.out.2.2.1 hn.out.2.2.2.1 _).mono ?_; rintro e u ⟨rfl, rfl⟩
    go_wp2_with fail
    refine (whole_no_49144 at_ sz hn.out.2.2.2.2.1 hn.out.2.2.2.2.2.1 hn.out.2.2.2.2.2.2 _).mono ?_; rintro e u ⟨rfl, rfl⟩
    go_wp2_with fail
    go_ret
    exact ⟨rfl, HC.out, grown_refl _ _⟩
theorem noP_of {x : Nat} {p : Int} (n0 : ¬ (x = 0 ∧ p = 4)) (n1 : ¬ (x = 16384 ∧ p = 8)) (n2 : ¬ (x = 16384 ∧ p = 4)) (n3 : ¬ (x = 16388 ∧ p = 4)) (n4 : ¬ (x = 49144 ∧ p = 8)) (n5 : ¬ (x = 49144 ∧ p = 4)) (n6 : ¬ (x = 49148 ∧ p = 4)) : Hid (NoP x p) := ⟨n0, n1, n2, n3, n4, n5, n6⟩
theorem readr_c (w : World) (b s a t : Nat) (h : IsC w b s t a) (ha : Hid (a < 18446744073709551616)) (ht : Hid (t < 18446744073709551616)) (at_ : Nat) (sz : Int) : Calls Tryz.prog 84 #[.pointer (some ⟨b, 0, none⟩), .int .u64 at_, .int .i64 sz] w (RetR (rdK (kd at_ sz) s a t) (decide (kd at_ sz ≠ 0)) w) := by
  rcases kd_cases at_ sz with ⟨rfl, rfl, e⟩ | ⟨rfl, rfl, e⟩ | ⟨rfl, rfl, e⟩ | ⟨rfl, rfl, e⟩ | ⟨rfl, rfl, e⟩ | ⟨rfl, rfl, e⟩ | ⟨rfl, rfl, e⟩ | ⟨n0, n1, n2, n3, n4, n5, n6, e⟩ <;> rw [e]
  · exact readr_1 w b s a t h ha ht
  · exact readr_2 w b s a t h ha ht
  · exact readr_3 w b s a t h ha ht
  · exact readr_4 w b s a t h ha ht
  · exact readr_5 w b s a t h ha ht
  · exact readr_6 w b s a t h ha ht
  · exact readr_7 w b s a t h ha ht
  · exact readr_0 w b s a t h at_ sz (noP_of n0 n1 n2 n3 n4 n5 n6)
theorem writer_c (w : World) (b s a t : Nat) (h : IsC w b s t a) (hs : s < 2) (ha : Hid (a < 18446744073709551616)) (ht : Hid (t < 18446744073709551616)) (v : Nat) (hv : Hid (v < 18446744073709551616)) (at_ : Nat) (sz : Int) : Calls Tryz.prog 39 #[.pointer (some ⟨b, 0, none⟩), .int .u64 at_, .int .i64 sz, .int .u64 v] w (RetW (decide (kd at_ sz ≠ 0)) b (wrS (kd at_ sz) s v) (wrT (kd at_ sz) t v) (wrA (kd at_ sz) a v) w) := by
  rcases kd_cases at_ sz with ⟨rfl, rfl, e⟩ | ⟨rfl, rfl, e⟩ | ⟨rfl, rfl, e⟩ | ⟨rfl, rfl, e⟩ | ⟨rfl, rfl, e⟩ | ⟨rfl, rfl, e⟩ | ⟨rfl, rfl, e⟩ | ⟨n0, n1, n2, n3, n4, n5, n6, e⟩ <;> rw [e]
  · exact writer_1 w b s a t h hs ha ht v hv
  · exact writer_2 w b s a t h hs ha ht v hv
  · exact writer_3 w b s a t h hs ha ht v hv
  · exact writer_4 w b s a t h hs ha ht v hv
  · exact writer_5 w b s a t h hs ha ht v hv
  · exact writer_6 w b s a t h hs ha ht v hv
  · exact writer_7 w b s a t h hs ha ht v hv
  · exact writer_0 w b s a t h at_ sz (noP_of n0 n1 n2 n3 n4 n5 n6) v
end Go.Proofs.YtoicpikkcefheaaGreat.K
namespace Go.Proofs.YtoicpikkcefheaaGreat.K
set_option linter.unusedVariables false
set_option linter.unusedSimpArgs false
set_option maxRecDepth 20000
open Go.ChangeShapes Go.WideShapes Go.ChangeAt Go.RowKit
theorem newr_c (w : World) : Calls Tryz.prog 31 #[] w (RetC 0 0 18446744073709551615 w) := by
  go_enter Tryz.func31, Tryz.ntmps31
  go_wp2_with fail
  go_ret
  exact ⟨_, rfl, Nat.le_refl _, isC_new w 0 0 18446744073709551615 _, (by repeat (first | (with_reducible first | exact Below.refl _ _ | assumption | exact Nat.le_refl _ | refine Below.drew ?_ | refine Below.alloc ?_ ?_ _ | refine below_drewN ?_ _ | refine Below.setCell ?_ ?_ _ | refine le_alloc ?_ | refine le_set ?_ | refine le_drew ?_ | refine le_drewN ?_ | refine below_step (by assumption) ?_ ?_ | refine le_below (by assumption) ?_) | (dsimp only; omega)))⟩
set_option maxRecDepth 100000 in
theorem tickr_c (w : World) (b s a t : Nat) (h : IsC w b s t a) (ht : Hid (t < 18446744073709551616)) : Calls Tryz.prog 57 #[.pointer (some ⟨b, 0, none⟩)] w (RetT b s ((t + 1) % 18446744073709551616) a w) := by
  have HC := Lib.hid h
  obtain ⟨h0, c0, c1, c2, f0, f1, f2⟩ := h
  go_enter Tryz.func57, Tryz.ntmps57
  go_wp2_with fail
  go_end0
  exact ⟨rfl, HC.out.set1 (by rw [IntKind.wrap_u64]; omega), grown_set (grown_refl _ _) _ none _ none⟩
theorem copyr_c (w : World) (b s a t : Nat) (h : IsC w b s t a) : Calls Tryz.prog 50 #[.pointer (some ⟨b, 0, none⟩)] w (RetC s t a w) := by
  have HC := Lib.hid h
  obtain ⟨h0, c0, c1, c2, f0, f1, f2⟩ := h
  go_enter Tryz.func50, Tryz.ntmps50
  go_wp2_with fail
  go_region
  go_wp2_with fail
  go_ret
  exact ⟨_, rfl, Nat.le_refl _, isC_new w s t a _, (by repeat (first | (with_reducible first | exact Below.refl _ _ | assumption | exact Nat.le_refl _ | refine Below.drew ?_ | refine Below.alloc ?_ ?_ _ | refine below_drewN ?_ _ | refine Below.setCell ?_ ?_ _ | refine le_alloc ?_ | refine le_set ?_ | refine le_drew ?_ | refine le_drewN ?_ | refine below_step (by assumption) ?_ ?_ | refine le_below (by assumption) ?_) | (dsimp only; omega)))⟩
set_option maxRecDepth 100000 in
theorem pendr_c (w : World) (b s a t : Nat) (h : IsC w b s t a) (hs : s < 2) : Calls Tryz.prog 92 #[.pointer (some ⟨b, 0, none⟩)] w (RetU (penV s a t) w) := by
  have HC := Lib.hid h; have Hs := Lib.hid hs
  obtain ⟨h0, c0, c1, c2, f0, f1, f2⟩ := h
  have hw : IntKind.u64.wrap ((s : Int) * 8) = (s : Int) * 8 := by rw [IntKind.wrap_u64]; omega
  have hw2 : IntKind.u64.wrap ((s : Int) * 8 + 128) = (s : Int) * 8 + 128 := by rw [IntKind.wrap_u64]; omega
  clear hs
  go_enter Tryz.func92, Tryz.ntmps92
  by_cases hat : a ≤ t
  · have HP : Hid (penV s a t = s * 8 + 128) := pen_yes hat
    go_wp2_with fail
    go_quiet (fail)
    go_wp2_with fail
    go_ret
    refine retU_mk ?_ (by repeat (first | (with_reducible first | exact Below.refl _ _ | assumption | exact Nat.le_refl _ | refine Below.drew ?_ | refine Below.alloc ?_ ?_ _ | refine below_drewN ?_ _ | refine Below.setCell ?_ ?_ _ | refine le_alloc ?_ | refine le_set ?_ | refine le_drew ?_ | refine le_drewN ?_ | refine below_step (by assumption) ?_ ?_ | refine le_below (by assumption) ?_) | (dsimp only; omega)))
    rw [HP.out]
    simp
  · have HP : Hid (penV s a t = s * 8) := pen_no (by omega)
    have hat2 : t < a := by omega
    clear hat
    go_wp2_with fail
    go_quiet (fail)
    go_wp2_with fail
    go_ret
    refine retU_mk ?_ (by repeat (first | (with_reducible first | exact Below.refl _ _ | assumption | exact Nat.le_refl _ | refine Below.drew ?_ | refine Below.alloc ?_ ?_ _ | refine below_drewN ?_ _ | refine Below.setCell ?_ ?_ _ | refine le_alloc ?_ | refine le_set ?_ | refine le_drew ?_ | refine le_drewN ?_ | refine below_step (by assumption) ?_ ?_ | refine le_below (by assumption) ?_) | (dsimp only; omega)))
    rw [HP.out]
    simp
end Go.Proofs.YtoicpikkcefheaaGreat.K
namespace Go.Proofs.YtoicpikkcefheaaGreat.K
set_option linter.unusedVariables false
set_option linter.unusedSimpArgs false
set_option maxRecDepth 20000
open Go.ChangeShapes Go.WideShapes Go.ChangeAt Go.RowKit
theorem time_q (w : World) (b s a t : Nat) (h : IsC w b s a t) : Calls Tryz.prog 65 #[.pointer (some ⟨b, 0, none⟩)] w (fun e w' => e = .returned (.int .u64 t) ∧ w' = w) := by
  obtain ⟨h0, c0, c1, c2, f0, f1, f2⟩ := h
  go_enter Tryz.func65, Tryz.ntmps65
  go_wp2_with fail
  go_ret
  exact ⟨rfl, rfl⟩
set_option maxRecDepth 100000 in
theorem pend_q (w : World) (b s a t : Nat) (h : IsC w b s a t) (hs : s < 2) : Calls Tryz.prog 67 #[.pointer (some ⟨b, 0, none⟩)] w (fun e w' => e = .returned (.int .u64 (penV s a t : Nat)) ∧ ∃ m, w' = w.drewN m) := by
  have Hs := Lib.hid hs
  obtain ⟨h0, c0, c1, c2, f0, f1, f2⟩ := h
  have hw : IntKind.u64.wrap ((s : Int) * 8) = (s : Int) * 8 := by rw [IntKind.wrap_u64]; omega
  clear hs
  go_enter Tryz.func67, Tryz.ntmps67
  by_cases hat : a ≤ t
  · have HP : Hid (penV s a t = s * 8 + 128) := pen_yes hat
    go_wp2_with fail
    go_quiet (fail)
    go_wp2_with fail
    go_ret
    refine ⟨?_, _, rfl⟩
    rw [HP.out]
    have : s = 0 ∨ s = 1 := by have := Hs.out; omega
    rcases this with rfl | rfl <;> rfl
  · have HP : Hid (penV s a t = s * 8) := pen_no (by omega)
    have hat2 : t < a := by omega
    clear hat
    go_wp2_with fail
    go_quiet (fail)
    go_wp2_with fail
    go_ret
    refine ⟨?_, _, rfl⟩
    rw [HP.out]
    simp
set_option maxRecDepth 100000 in
theorem pendr_q (w : World) (b s a t : Nat) (h : IsC w b s t a) (hs : s < 2) : Calls Tryz.prog 92 #[.pointer (some ⟨b, 0, none⟩)] w (fun e w' => e = .returned (.int .u64 (penV s a t : Nat)) ∧ ∃ m, w' = w.drewN m) := by
  have Hs := Lib.hid hs
  obtain ⟨h0, c0, c1, c2, f0, f1, f2⟩ := h
  have hw : IntKind.u64.wrap ((s : Int) * 8) = (s : Int) * 8 := by rw [IntKind.wrap_u64]; omega
  have hw2 : IntKind.u64.wrap ((s : Int) * 8 + 128) = (s : Int) * 8 + 128 := by rw [IntKind.wrap_u64]; omega
  clear hs
  go_enter Tryz.func92, Tryz.ntmps92
  by_cases hat : a ≤ t
  · have HP : Hid (penV s a t = s * 8 + 128) := pen_yes hat
    go_wp2_with fail
    go_quiet (fail)
    go_wp2_with fail
    go_ret
    refine ⟨?_, _, rfl⟩
    rw [HP.out]
    have : s = 0 ∨ s = 1 := by have := Hs.out; omega
    rcases this with rfl | rfl <;> rfl
  · have HP : Hid (penV s a t = s * 8) := pen_no (by omega)
    have hat2 : t < a := by omega
    clear hat
    go_wp2_with fail
    go_quiet (fail)
    go_wp2_with fail
    go_ret
    refine ⟨?_, _, rfl⟩
    rw [HP.out]
    simp
end Go.Proofs.YtoicpikkcefheaaGreat.K
