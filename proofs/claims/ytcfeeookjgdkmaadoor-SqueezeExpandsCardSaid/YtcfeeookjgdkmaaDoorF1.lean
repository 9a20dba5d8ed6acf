/- The answers that the document fixes. -/
import Derived.Test.YtcfeeookjgdkmaaDoorB12
namespace Go.Proofs.YtcfeeookjgdkmaaDoor
open Go.ChangeShapes Go.WideShapes Go.ChangeAt Go.RowKit
set_option linter.unusedVariables false
set_option linter.unusedSimpArgs false
theorem fix_1 (w : World) (hG : Hid (G w)) : Calls Tryd.prog 7 #[.int .u16 4417] w (RetP 4278255891 true w) := by
  have h := Expand_c 4417 (by show _ < _; decide) w hG
  rw [show expandF 4417 = (4278255891, true) by decide +kernel] at h; exact h
theorem fix_2 (w : World) (hG : Hid (G w)) : Calls Tryd.prog 7 #[.int .u16 32768] w (RetP 0 false w) := by
  have h := Expand_c 32768 (by show _ < _; decide) w hG
  rw [show expandF 32768 = (0, false) by decide +kernel] at h; exact h
theorem fix_3 (w : World) (hG : Hid (G w)) : Calls Tryd.prog 12 #[.int .u32 32871] w (RetQ 32898 true w) := by
  have h := Shrink_c 32871 (by show _ < _; decide) w hG
  rw [show shrinkF 32871 = (32898, true) by decide +kernel] at h; exact h
set_option maxRecDepth 100000 in
set_option maxHeartbeats 1000000 in
theorem fixed_c (w : World) (hG : Hid (G w)) : Calls Tryd.prog 9 #[] w (RetB true w) := by
  go_enter Tryd.func9, Tryd.ntmps9
  go_wp2_with fail
  refine (fix_1 _ hG).mono ?_; rintro e w1 ⟨rfl, hb1⟩
  go_wp2_with fail
  refine (fix_2 _ (g_below hG.out hb1 hG.out.1)).mono ?_; rintro e w2 ⟨rfl, hb2⟩
  have hb2w : Below w.heap.size w w2 := below_step hb2 hb1 hb1.size
  go_wp2_with fail
  refine (fix_3 _ (g_below hG.out hb2w hG.out.1)).mono ?_; rintro e w3 ⟨rfl, hb3⟩
  have hb3w : Below w.heap.size w w3 := below_step hb3 hb2w hb2w.size
  go_wp2_with fail
  refine (Short_c 1 (by show _ < _; decide) _).mono ?_; rintro e u1 ⟨rfl, rfl⟩
  go_wp2_with fail
  refine (Short_c 3 (by show _ < _; decide) _).mono ?_; rintro e u2 ⟨rfl, rfl⟩
  go_wp2_with fail
  go_ret
  exact retB_mk rfl hb3w
end Go.Proofs.YtcfeeookjgdkmaaDoor
