/- Taken from other texts: what is needed of them. -/
import Derived.Test.YtkmbhhgkajmfjaaKA
import Derived.Test.YtkmbhhgkajmfjaaKB
namespace Go.Proofs.Ytkmbhhgkajmfjaa.K
set_option linter.unusedVariables false
set_option linter.unusedSimpArgs false
set_option maxRecDepth 20000
open Go.ChangeShapes Go.WideShapes Go.ChangeAt Go.RowKit
def RetC (x y z : Nat) (W : World) (e : Ending) (w' : World) : Prop := ∃ b, e = .returned (.pointer (some ⟨b, 0, none⟩)) ∧ W.heap.size ≤ b ∧ IsC w' b x y z ∧ Below W.heap.size W w'
def RetT (b x y z : Nat) (W : World) (e : Ending) (w' : World) : Prop := e = .returned (.tuple #[]) ∧ IsC w' b x y z ∧ W.grownBy w' (some b)
def RetU (n : Nat) (W : World) (e : Ending) (w' : World) : Prop := e = .returned (.int .u64 n) ∧ Below W.heap.size W w'
theorem retU_mk {n : Nat} {x : Int} {W w' : World} (h : x = n) (hb : Below W.heap.size W w') : RetU n W (.returned (.int .u64 x)) w' := ⟨by rw [h], hb⟩
set_option maxRecDepth 100000 in
theorem new_c (w : World) : Calls Try.prog 40 #[] w (RetC 0 18446744073709551615 0 w) := by
  go_enter Try.func40, Try.ntmps40
  go_wp2_with fail
  go_ret
  exact ⟨_, rfl, Nat.le_refl _, isC_new w 0 18446744073709551615 0 _, (by repeat (first | (with_reducible first | exact Below.refl _ _ | assumption | exact Nat.le_refl _ | refine Below.drew ?_ | refine Below.alloc ?_ ?_ _ | refine below_drewN ?_ _ | refine Below.setCell ?_ ?_ _ | refine le_alloc ?_ | refine le_set ?_ | refine le_drew ?_ | refine le_drewN ?_ | refine below_step (by assumption) ?_ ?_ | refine le_below (by assumption) ?_) | (dsimp only; omega)))⟩
set_option maxRecDepth 100000 in
theorem tick_c (w : World) (b s a t : Nat) (h : IsC w b s a t) (ht : t < 18446744073709551616) : Calls Try.prog 25 #[.pointer (some ⟨b, 0, none⟩)] w (RetT b s a ((t + 1) % 18446744073709551616) w) := by
  have HC := Lib.hid h; have Ht := Lib.hid ht; clear ht
  obtain ⟨h0, c0, c1, c2, f0, f1, f2⟩ := h
  go_enter Try.func25, Try.ntmps25
  go_wp2_with fail
  go_region
  go_wp2_with fail
  go_end0
  exact ⟨rfl, (HC.out.drewN 1).set2 (by rw [IntKind.wrap_u64]; omega), grown_set (grown_drewN (grown_refl _ _) 1) _ none _ none⟩
theorem copy_c (w : World) (b s a t : Nat) (h : IsC w b s a t) : Calls Try.prog 47 #[.pointer (some ⟨b, 0, none⟩)] w (RetC s a t w) := by
  have HC := Lib.hid h
  obtain ⟨h0, c0, c1, c2, f0, f1, f2⟩ := h
  go_enter Try.func47, Try.ntmps47
  go_wp2_with fail
  go_ret
  exact ⟨_, rfl, Nat.le_refl _, isC_new w s a t _, (by repeat (first | (with_reducible first | exact Below.refl _ _ | assumption | exact Nat.le_refl _ | refine Below.drew ?_ | refine Below.alloc ?_ ?_ _ | refine below_drewN ?_ _ | refine Below.setCell ?_ ?_ _ | refine le_alloc ?_ | refine le_set ?_ | refine le_drew ?_ | refine le_drewN ?_ | refine below_step (by assumption) ?_ ?_ | refine le_below (by assumption) ?_) | (dsimp only; omega)))⟩
set_option maxRecDepth 100000 in
theorem pend_c (w : World) (b s a t : Nat) (h : IsC w b s a t) (hs : s < 2) : Calls Try.prog 35 #[.pointer (some ⟨b, 0, none⟩)] w (RetU (penV s a t) w) := by
  have HC := Lib.hid h; have Hs := Lib.hid hs
  obtain ⟨h0, c0, c1, c2, f0, f1, f2⟩ := h
  have hw : IntKind.u64.wrap ((s : Int) * 8) = (s : Int) * 8 := by rw [IntKind.wrap_u64]; omega
  clear hs
  go_enter Try.func35, Try.ntmps35
  by_cases hat : a ≤ t
  · have HP : Hid (penV s a t = s * 8 + 128) := by show _ = _; unfold penV; rw [if_pos hat]
    go_wp2_with fail
    go_quiet (fail)
    go_wp2_with fail
    go_ret
    refine retU_mk ?_ (by repeat (first | (with_reducible first | exact Below.refl _ _ | assumption | exact Nat.le_refl _ | refine Below.drew ?_ | refine Below.alloc ?_ ?_ _ | refine below_drewN ?_ _ | refine Below.setCell ?_ ?_ _ | refine le_alloc ?_ | refine le_set ?_ | refine le_drew ?_ | refine le_drewN ?_ | refine below_step (by assumption) ?_ ?_ | refine le_below (by assumption) ?_) | (dsimp only; omega)))
    rw [HP.out]
    have : s = 0 ∨ s = 1 := by have := Hs.out; omega
    rcases this with rfl | rfl <;> rfl
  · have hat' : decide (a ≤ t) = false := decide_eq_false hat
    have HP : Hid (penV s a t = s * 8) := by show _ = _; unfold penV; rw [if_neg hat]; rfl
    have hat2 : t < a := by omega
    clear hat
    go_wp2_with fail
    go_quiet (fail)
    go_wp2_with fail
    go_ret
    refine retU_mk ?_ (by repeat (first | (with_reducible first | exact Below.refl _ _ | assumption | exact Nat.le_refl _ | refine Below.drew ?_ | refine Below.alloc ?_ ?_ _ | refine below_drewN ?_ _ | refine Below.setCell ?_ ?_ _ | refine le_alloc ?_ | refine le_set ?_ | refine le_drew ?_ | refine le_drewN ?_ | refine below_step (by assumption) ?_ ?_ | refine le_below (by assumption) ?_) | (dsimp only; omega)))
    rw [HP.out]
    simp
end Go.Proofs.Ytkmbhhgkajmfjaa.K
namespace Go.Proofs.Ytkmbhhgkajmfjaa.K
set_option linter.unusedVariables false
set_option linter.unusedSimpArgs false
set_option maxRecDepth 20000
open Go.ChangeShapes Go.WideShapes Go.ChangeAt Go.RowKit
theorem pen_no {s a t : Nat} (h : t < a) : penV s a t = s * 8 := by unfold penV; rw [if_neg (by omega)]; rfl
theorem pen_yes {s a t : Nat} (h : a ≤ t) : penV s a t = s * 8 + 128 := by unfold penV; rw [if_pos h]
end Go.Proofs.Ytkmbhhgkajmfjaa.K
namespace Go.Proofs.Ytkmbhhgkajmfjaa.K
set_option linter.unusedVariables false
set_option linter.unusedSimpArgs false
set_option maxRecDepth 20000
open Go.ChangeShapes Go.WideShapes Go.ChangeAt Go.RowKit
theorem time_q (w : World) (b s a t : Nat) (h : IsC w b s a t) : Calls Try.prog 34 #[.pointer (some ⟨b, 0, none⟩)] w (fun e w' => e = .returned (.int .u64 t) ∧ w' = w) := by
  obtain ⟨h0, c0, c1, c2, f0, f1, f2⟩ := h
  go_enter Try.func34, Try.ntmps34
  go_wp2_with fail
  go_ret
  exact ⟨rfl, rfl⟩
set_option maxRecDepth 100000 in
theorem pend_q (w : World) (b s a t : Nat) (h : IsC w b s a t) (hs : s < 2) : Calls Try.prog 35 #[.pointer (some ⟨b, 0, none⟩)] w (fun e w' => e = .returned (.int .u64 (penV s a t : Nat)) ∧ ∃ m, w' = w.drewN m) := by
  have Hs := Lib.hid hs
  obtain ⟨h0, c0, c1, c2, f0, f1, f2⟩ := h
  have hw : IntKind.u64.wrap ((s : Int) * 8) = (s : Int) * 8 := by rw [IntKind.wrap_u64]; omega
  clear hs
  go_enter Try.func35, Try.ntmps35
  by_cases hat : a ≤ t
  · have HP : Hid (penV s a t = s * 8 + 128) := pen_yes hat
    go_wp2_with fail
    go_quiet (fail)
    go_wp2_with fail
    go_ret
    refine ⟨?_, _, rfl⟩
    rw [HP.out]
    have : s = 0 ∨ s = 1 := by have := Hs.out; omega
    rcases this with rfl | rfl <;> rfl
  · have HP : Hid (penV s a t = s * 8) := pen_no (by omega)
    have hat2 : t < a := by omega
    clear hat
    go_wp2_with fail
    go_quiet (fail)
    go_wp2_with fail
    go_ret
    refine ⟨?_, _, rfl⟩
    rw [HP.out]
    simp
end Go.Proofs.Ytkmbhhgkajmfjaa.K
