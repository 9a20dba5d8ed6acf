/- The reference's New, Tick, Pending, Copy. -/
import Derived.Test.YtilfeanampomjaaC3
import Derived.Test.YtilfeanampomjaaB5
namespace Go.Proofs.Ytilfeanampomjaa
open Go.ChangeShapes Go.WideShapes Go.ChangeAt Go.RowKit
set_option linter.unusedVariables false
set_option linter.unusedSimpArgs false
theorem newr_c (w : World) : Calls Try.prog 10 #[] w (RetC 0 0 18446744073709551615 w) := by
  go_enter Try.func10, Try.ntmps10
  go_wp2_with fail
  go_ret
  exact ⟨_, rfl, Nat.le_refl _, isC_new w 0 0 18446744073709551615 _, (by repeat (first | (with_reducible first | exact Below.refl _ _ | assumption | exact Nat.le_refl _ | refine Below.drew ?_ | refine Below.alloc ?_ ?_ _ | refine below_drewN ?_ _ | refine Below.setCell ?_ ?_ _ | refine le_alloc ?_ | refine le_set ?_ | refine le_drew ?_ | refine le_drewN ?_ | refine below_step (by assumption) ?_ ?_ | refine le_below (by assumption) ?_) | (dsimp only; omega)))⟩
set_option maxRecDepth 100000 in
theorem tickr_c (w : World) (b s a t : Nat) (h : IsC w b s t a) (ht : Hid (t < 18446744073709551616)) : Calls Try.prog 18 #[.pointer (some ⟨b, 0, none⟩)] w (RetT b s ((t + 1) % 18446744073709551616) a w) := by
  have HC := Lib.hid h
  obtain ⟨h0, c0, c1, c2, f0, f1, f2⟩ := h
  go_enter Try.func18, Try.ntmps18
  go_wp2_with fail
  go_end0
  exact ⟨rfl, HC.out.set1 (by rw [IntKind.wrap_u64]; omega), grown_set (grown_refl _ _) _ none _ none⟩
theorem copyr_c (w : World) (b s a t : Nat) (h : IsC w b s t a) : Calls Try.prog 16 #[.pointer (some ⟨b, 0, none⟩)] w (RetC s t a w) := by
  have HC := Lib.hid h
  obtain ⟨h0, c0, c1, c2, f0, f1, f2⟩ := h
  go_enter Try.func16, Try.ntmps16
  go_wp2_with fail
  go_region
  go_wp2_with fail
  go_ret
  exact ⟨_, rfl, Nat.le_refl _, isC_new w s t a _, (by repeat (first | (with_reducible first | exact Below.refl _ _ | assumption | exact Nat.le_refl _ | refine Below.drew ?_ | refine Below.alloc ?_ ?_ _ | refine below_drewN ?_ _ | refine Below.setCell ?_ ?_ _ | refine le_alloc ?_ | refine le_set ?_ | refine le_drew ?_ | refine le_drewN ?_ | refine below_step (by assumption) ?_ ?_ | refine le_below (by assumption) ?_) | (dsimp only; omega)))⟩
set_option maxRecDepth 100000 in
theorem pendr_c (w : World) (b s a t : Nat) (h : IsC w b s t a) (hs : s < 2) : Calls Try.prog 20 #[.pointer (some ⟨b, 0, none⟩)] w (RetU (penV s a t) w) := by
  have HC := Lib.hid h; have Hs := Lib.hid hs
  obtain ⟨h0, c0, c1, c2, f0, f1, f2⟩ := h
  have hw : IntKind.u64.wrap ((s : Int) * 8) = (s : Int) * 8 := by rw [IntKind.wrap_u64]; omega
  have hw2 : IntKind.u64.wrap ((s : Int) * 8 + 128) = (s : Int) * 8 + 128 := by rw [IntKind.wrap_u64]; omega
  clear hs
  go_enter Try.func20, Try.ntmps20
  by_cases hat : a ≤ t
  · have HP : Hid (penV s a t = s * 8 + 128) := pen_yes hat
    go_wp2_with fail
    go_quiet (fail)
    go_wp2_with fail
    go_ret
    refine retU_mk ?_ (by repeat (first | (with_reducible first | exact Below.refl _ _ | assumption | exact Nat.le_refl _ | refine Below.drew ?_ | refine Below.alloc ?_ ?_ _ | refine below_drewN ?_ _ | refine Below.setCell ?_ ?_ _ | refine le_alloc ?_ | refine le_set ?_ | refine le_drew ?_ | refine le_drewN ?_ | refine below_step (by assumption) ?_ ?_ | refine le_below (by assumption) ?_) | (dsimp only; omega)))
    rw [HP.out]
    simp
  · have HP : Hid (penV s a t = s * 8) := pen_no (by omega)
    have hat2 : t < a := by omega
    clear hat
    go_wp2_with fail
    go_quiet (fail)
    go_wp2_with fail
    go_ret
    refine retU_mk ?_ (by repeat (first | (with_reducible first | exact Below.refl _ _ | assumption | exact Nat.le_refl _ | refine Below.drew ?_ | refine Below.alloc ?_ ?_ _ | refine below_drewN ?_ _ | refine Below.setCell ?_ ?_ _ | refine le_alloc ?_ | refine le_set ?_ | refine le_drew ?_ | refine le_drewN ?_ | refine below_step (by assumption) ?_ ?_ | refine le_below (by assumption) ?_) | (dsimp only; omega)))
    rw [HP.out]
    simp
end Go.Proofs.Ytilfeanampomjaa
