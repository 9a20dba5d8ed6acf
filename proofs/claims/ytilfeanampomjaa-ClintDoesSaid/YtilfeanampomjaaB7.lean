/- Calls that only read, in strict form; ends. -/
import Derived.Test.YtilfeanampomjaaB6
namespace Go.Proofs.Ytilfeanampomjaa
open Go.ChangeShapes Go.WideShapes Go.ChangeAt Go.RowKit
set_option linter.unusedVariables false
set_option linter.unusedSimpArgs false
theorem time_q (w : World) (b s a t : Nat) (h : IsC w b s a t) : Calls Try.prog 21 #[.pointer (some ⟨b, 0, none⟩)] w (fun e w' => e = .returned (.int .u64 t) ∧ w' = w) := by
  obtain ⟨h0, c0, c1, c2, f0, f1, f2⟩ := h
  go_enter Try.func21, Try.ntmps21
  go_wp2_with fail
  go_ret
  exact ⟨rfl, rfl⟩
set_option maxRecDepth 100000 in
theorem pend_q (w : World) (b s a t : Nat) (h : IsC w b s a t) (hs : s < 2) : Calls Try.prog 19 #[.pointer (some ⟨b, 0, none⟩)] w (fun e w' => e = .returned (.int .u64 (penV s a t : Nat)) ∧ ∃ m, w' = w.drewN m) := by
  have Hs := Lib.hid hs
  obtain ⟨h0, c0, c1, c2, f0, f1, f2⟩ := h
  have hw : IntKind.u64.wrap ((s : Int) * 8) = (s : Int) * 8 := by rw [IntKind.wrap_u64]; omega
  clear hs
  go_enter Try.func19, Try.ntmps19
  by_cases hat : a ≤ t
  · have HP : Hid (penV s a t = s * 8 + 128) := pen_yes hat
    go_wp2_with fail
    go_quiet (fail)
    go_wp2_with fail
    go_ret
    refine ⟨?_, _, rfl⟩
    rw [HP.out]
    have : s = 0 ∨ s = 1 := by have := Hs.out; omega
    rcases this with rfl | rfl <;> rfl
  · have HP : Hid (penV s a t = s * 8) := pen_no (by omega)
    have hat2 : t < a := by omega
    clear hat
    go_wp2_with fail
    go_quiet (fail)
    go_wp2_with fail
    go_ret
    refine ⟨?_, _, rfl⟩
    rw [HP.out]
    simp
set_option maxRecDepth 100000 in
theorem pendr_q (w : World) (b s a t : Nat) (h : IsC w b s t a) (hs : s < 2) : Calls Try.prog 20 #[.pointer (some ⟨b, 0, none⟩)] w (fun e w' => e = .returned (.int .u64 (penV s a t : Nat)) ∧ ∃ m, w' = w.drewN m) := by
  have Hs := Lib.hid hs
  obtain ⟨h0, c0, c1, c2, f0, f1, f2⟩ := h
  have hw : IntKind.u64.wrap ((s : Int) * 8) = (s : Int) * 8 := by rw [IntKind.wrap_u64]; omega
  have hw2 : IntKind.u64.wrap ((s : Int) * 8 + 128) = (s : Int) * 8 + 128 := by rw [IntKind.wrap_u64]; omega
  clear hs
  go_enter Try.func20, Try.ntmps20
  by_cases hat : a ≤ t
  · have HP : Hid (penV s a t = s * 8 + 128) := pen_yes hat
    go_wp2_with fail
    go_quiet (fail)
    go_wp2_with fail
    go_ret
    refine ⟨?_, _, rfl⟩
    rw [HP.out]
    have : s = 0 ∨ s = 1 := by have := Hs.out; omega
    rcases this with rfl | rfl <;> rfl
  · have HP : Hid (penV s a t = s * 8) := pen_no (by omega)
    have hat2 : t < a := by omega
    clear hat
    go_wp2_with fail
    go_quiet (fail)
    go_wp2_with fail
    go_ret
    refine ⟨?_, _, rfl⟩
    rw [HP.out]
    simp
set_option maxRecDepth 100000 in
theorem ends_c (w : World) (m r s a t : Nat) (HM : Hid (IsC w m s a t)) (HR : Hid (IsC w r s t a)) (hs : Hid (s < 2)) (ha : Hid (a < 18446744073709551616)) (ht : Hid (t < 18446744073709551616)) : Calls Try.prog 22 #[.pointer (some ⟨m, 0, none⟩), .pointer (some ⟨r, 0, none⟩)] w (RetB true w) := by
  go_enter Try.func22, Try.ntmps22
  go_wp2_with fail
  refine ((read_2 _ m s a t HM.out hs.out ha.out ht.out).mono (fun _ _ h => retR_to (n' := a) rfl h)).mono ?_; rintro e w1 ⟨rfl, bq⟩
  replace HM := Lib.hid (HM.out.below bq); replace HR := Lib.hid (HR.out.below bq); have HB := Lib.hid bq; clear bq
  go_wp2_with fail
  refine ((read_1 _ m s a t HM.out hs.out ha.out ht.out).mono (fun _ _ h => retR_to (n' := s) rfl h)).mono ?_; rintro e w2 ⟨rfl, bq⟩
  replace HM := Lib.hid (HM.out.below bq); replace HR := Lib.hid (HR.out.below bq); replace HB := Lib.hid (HB.out.trans (bq.mono HB.out.size)); clear bq
  obtain ⟨p, hp⟩ : ∃ p, penV s a t = p := ⟨_, rfl⟩
  have PM : Hid (∀ n, Calls Try.prog 19 #[.pointer (some ⟨m, 0, none⟩)] (w2.drewN n) (fun e w' => e = .returned (.int .u64 (p : Nat)) ∧ ∃ k, w' = (w2.drewN n).drewN k)) := fun n => hp ▸ pend_q _ m s a t (HM.out.drewN n) hs.out
  have PR : Hid (∀ n, Calls Try.prog 20 #[.pointer (some ⟨r, 0, none⟩)] (w2.drewN n) (fun e w' => e = .returned (.int .u64 (p : Nat)) ∧ ∃ k, w' = (w2.drewN n).drewN k)) := fun n => hp ▸ pendr_q _ r s a t (HR.out.drewN n) hs.out
  clear hp
  obtain ⟨h0, c0, c1, c2, f0, f1, f2⟩ := HR.out
  go_wp2_with fail
  go_quiet (first | (go_at_call 21; exact Calls.quiet_of_same (time_q _ m s a t (HM.out.drewN _))) | (go_at_call 19; exact Calls.quiet_of (PM.out _)) | (go_at_call 20; exact Calls.quiet_of (PR.out _)))
  go_wp2_with fail
  go_ret
  exact retB_mk rfl (by have hbb := HB.out; exact (by repeat (first | (with_reducible first | exact Below.refl _ _ | assumption | exact Nat.le_refl _ | refine Below.drew ?_ | refine Below.alloc ?_ ?_ _ | refine below_drewN ?_ _ | refine Below.setCell ?_ ?_ _ | refine le_alloc ?_ | refine le_set ?_ | refine le_drew ?_ | refine le_drewN ?_ | refine below_step (by assumption) ?_ ?_ | refine le_below (by assumption) ?_) | (dsimp only; omega))))
end Go.Proofs.Ytilfeanampomjaa
