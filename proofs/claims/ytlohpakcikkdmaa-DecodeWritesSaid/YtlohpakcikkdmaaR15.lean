/- The reference's rows, of whatever whole returns. -/
import Derived.Test.YtlohpakcikkdmaaR2
import Derived.Test.YtlohpakcikkdmaaR8
import Derived.Test.YtlohpakcikkdmaaR9
namespace Go.Proofs.Ytlohpakcikkdmaa
open Go.ChangeShapes Go.WideShapes Go.ChangeAt Go.RowKit
set_option linter.unusedVariables false
set_option linter.unusedSimpArgs false
def RetO (L : List QRow) (W : World) (e : Ending) (w' : World) : Prop := ∃ v, e = .returned v ∧ OwnT w' W.heap.size v L ∧ Below W.heap.size W w'
theorem sy_len : 0 < (sy4 2).length ∧ (sy4 2).length ≤ 100 := by decide +kernel
theorem f4_len : 0 < fl4.length ∧ fl4.length ≤ 100 := by decide +kernel
theorem f8_len : 0 < fl8.length ∧ fl8.length ≤ 100 := by decide +kernel
set_option maxRecDepth 100000 in
set_option maxHeartbeats 1000000 in
theorem rows_q (WL : List QRow) (hl : Hid (WL.length ≤ 200)) (hW : Hid (∀ v, Calls Try.prog 27 #[] v (RetO WL v))) (w : World) : Calls Try.prog 19 #[] w (RetO (WL ++ sy4 2 ++ fl4 ++ fl8) w) := by
  have s1 := Lib.hid sy_len; have s2 := Lib.hid f4_len; have s3 := Lib.hid f8_len
  go_enter Try.func19, Try.ntmps19
  go_wp2_with fail
  refine (hW.out _).mono ?_; rintro e w1 ⟨v1, rfl, h1, hb1⟩
  have H1 := Lib.hid h1; clear h1
  go_wp2_with fail
  refine (system_c _).mono ?_; rintro e w2 ⟨v2, rfl, h2, hb2⟩
  have H2 := Lib.hid h2; clear h2
  have hw2 : Below w.heap.size w w2 := below_step hb2 hb1 hb1.size
  go_wp2_with (at_builtin; refine append_q rfl (.tmp 3) (.tmp 4) rfl w.heap.size v1 WL (by simp [Act.eval, Act.put]) (own_below H1.out hb2) (by have := hl.out; omega) w1.heap.size v2 (sy4 2) (by simp [Act.eval, Act.put]) H2.out (by have := s1.out; omega) hw2.size ?_; intro v3 w3 q1 q2 q3)
  have H3 := Lib.hid q1
  have hw3 : Below w.heap.size w w3 := below_step (grown_below (own_below H1.out hb2) q2 hw2.size) hw2 (Nat.le_refl _)
  clear q1 q2 q3
  refine (float4_c _).mono ?_; rintro e w4 ⟨v4, rfl, h4, hb4⟩
  have H4 := Lib.hid h4; clear h4
  have hw4 : Below w.heap.size w w4 := below_step hb4 hw3 hw3.size
  go_wp2_with (at_builtin; refine append_q rfl (.tmp 6) (.tmp 7) rfl w.heap.size v3 (WL ++ sy4 2) (by simp [Act.eval, Act.put]) (own_below H3.out hb4) (by rw [List.length_append]; have := hl.out; have := s1.out; omega) w3.heap.size v4 fl4 (by simp [Act.eval, Act.put]) H4.out (by have := s2.out; omega) hw4.size ?_; intro v5 w5 q1 q2 q3)
  have H5 := Lib.hid q1
  have hw5 : Below w.heap.size w w5 := below_step (grown_below (own_below H3.out hb4) q2 hw4.size) hw4 (Nat.le_refl _)
  clear q1 q2 q3
  refine (float8_c _).mono ?_; rintro e w6 ⟨v6, rfl, h6, hb6⟩
  have H6 := Lib.hid h6; clear h6
  have hw6 : Below w.heap.size w w6 := below_step hb6 hw5 hw5.size
  go_wp2_with (at_builtin; refine append_q rfl (.tmp 9) (.tmp 10) rfl w.heap.size v5 (WL ++ sy4 2 ++ fl4) (by simp [Act.eval, Act.put]) (own_below H5.out hb6) (by rw [List.length_append, List.length_append]; have := hl.out; have := s1.out; have := s2.out; omega) w5.heap.size v6 fl8 (by simp [Act.eval, Act.put]) H6.out (by have := s3.out; omega) hw6.size ?_; intro v7 w7 q1 q2 q3)
  have hw7 : Below w.heap.size w w7 := below_step (grown_below (own_below H5.out hb6) q2 hw6.size) hw6 (Nat.le_refl _)
  go_ret
  exact ⟨_, rfl, q1, hw7⟩
end Go.Proofs.Ytlohpakcikkdmaa
