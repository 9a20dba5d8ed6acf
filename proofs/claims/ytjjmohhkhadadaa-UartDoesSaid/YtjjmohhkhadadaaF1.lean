/- The answers that the document fixes. -/
import Derived.Test.YtjjmohhkhadadaaE2
namespace Go.Proofs.Ytjjmohhkhadadaa
open Go.ChangeShapes Go.WideShapes Go.ChangeAt Go.RowKit
set_option linter.unusedVariables false
set_option linter.unusedSimpArgs false
def T1 : Ur := ⟨[97], false, 0, 0, []⟩
def T2 : Ur := ⟨[97], false, 1, 0, []⟩
def T3 : Ur := ⟨[], false, 1, 0, []⟩
def T4 : Ur := ⟨[], false, 1, 0, [72]⟩
set_option maxRecDepth 100000 in
set_option maxHeartbeats 1000000 in
theorem fixed_c (w : World) : Calls Try.prog 7 #[] w (RetB true w) := by
  go_enter Try.func7, Try.ntmps7
  go_wp2_with fail
  refine (newA (all_nil (Below.refl _ w))).mono ?_; rintro e w1 ⟨b, rfl, h⟩
  have HA : Hid (All w [eU b U0] w1) := h; clear h
  go_wp2_with fail
  refine (giveA (x := 97) HA.out 0 rfl (by show _ < _; decide)).mono ?_; rintro e w2 ⟨rfl, h⟩
  replace HA : Hid (All w [eU b T1] w2) := h; clear h
  go_wp2_with fail
  refine (readA HA.out 0 rfl 5 1).mono ?_; rintro e w3 ⟨rfl, h⟩
  replace HA : Hid (All w [eU b T1] w3) := h; clear h
  rw [show (valK (kd 5 1) T1) = 97 from by decide, show okK (kd 5 1) = true from by decide]
  go_wp2_with fail
  refine (writeA (v := 3) HA.out 0 rfl 1 1 (by show _ < _; decide) (by show _ < _; decide)).mono ?_; rintro e w4 ⟨rfl, h⟩
  replace HA : Hid (All w [eU b T2] w4) := h; clear h
  rw [show okK (kd 1 1) = true from by decide]
  go_wp2_with fail
  refine (upA HA.out 0 rfl).mono ?_; rintro e w5 ⟨rfl, h⟩
  subst h
  rw [show upF T2 = true from by decide]
  go_wp2_with fail
  refine (copyA HA.out 0 rfl).mono ?_; rintro e w6 ⟨o, rfl, h⟩
  replace HA : Hid (All w [eU b T2, eU o T2] w6) := h; clear h
  go_wp2_with fail
  refine (readA HA.out 0 rfl 0 1).mono ?_; rintro e w7 ⟨rfl, h⟩
  replace HA : Hid (All w [eU b T3, eU o T2] w7) := h; clear h
  rw [show (valK (kd 0 1) T2) = 97 from by decide, show okK (kd 0 1) = true from by decide]
  go_wp2_with fail
  refine (writeA (v := 328) HA.out 0 rfl 0 1 (by show _ < _; decide) (by show _ < _; decide)).mono ?_; rintro e w8 ⟨rfl, h⟩
  replace HA : Hid (All w [eU b T4, eU o T2] w8) := h; clear h
  rw [show okK (kd 0 1) = true from by decide]
  go_wp2_with fail
  refine (upA HA.out 0 rfl).mono ?_; rintro e w9 ⟨rfl, h⟩
  subst h
  rw [show upF T4 = false from by decide]
  go_wp2_with fail
  refine (sentA HA.out 0 rfl (by show _ < _; decide)).mono ?_; rintro e w10 ⟨a1, n1, c1, g1, rfl, s1, s2, hb⟩
  have hcv : (convert 35 9 (.slice a1 n1 c1)).run Try.prog w10 = .ok (.string ⟨#[72]⟩) w10 := conv_b s1
  replace HA := Lib.hid (HA.out.below hb); clear s1 s2 hb
  go_wp2_with fail
  refine (upA HA.out 1 rfl).mono ?_; rintro e w11 ⟨rfl, h⟩
  subst h
  rw [show upF T2 = true from by decide]
  go_wp2_with fail
  refine (sentA HA.out 1 rfl (by show _ < _; decide)).mono ?_; rintro e w12 ⟨a2, n2, c2, g2, rfl, s1, s2, hb⟩
  obtain rfl : n2 = 0 := s1.len.symm
  replace HA := Lib.hid (HA.out.below hb); clear s1 s2 hb
  go_wp2_with fail
  go_ret
  exact retB_mk rfl HA.out.out
end Go.Proofs.Ytjjmohhkhadadaa
