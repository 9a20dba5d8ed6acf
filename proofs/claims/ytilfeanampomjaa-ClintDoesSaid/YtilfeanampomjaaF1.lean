/- The answers that the document fixes. -/
import Derived.Test.YtilfeanampomjaaB4
namespace Go.Proofs.Ytilfeanampomjaa
open Go.ChangeShapes Go.WideShapes Go.ChangeAt Go.RowKit
set_option linter.unusedVariables false
set_option linter.unusedSimpArgs false
theorem retR_to {n n' : Nat} {b : Bool} {W w' : World} {e : Ending} (h : n = n') (r : RetR n b W e w') : RetR n' b W e w' := by subst h; exact r
theorem retU_to {n n' : Nat} {W w' : World} {e : Ending} (h : n = n') (r : RetU n W e w') : RetU n' W e w' := by subst h; exact r
theorem retT_to {b x y z z' : Nat} {W w' : World} {e : Ending} (h : z = z') (r : RetT b x y z W e w') : RetT b x y z' W e w' := by subst h; exact r
theorem retW_to {ok : Bool} {b x y z x' y' z' : Nat} {W w' : World} {e : Ending} (h1 : x = x') (h2 : y = y') (h3 : z = z') (r : RetW ok b x y z W e w') : RetW ok b x' y' z' W e w' := by subst h1 h2 h3; exact r
set_option maxRecDepth 100000 in
theorem fixed_c (w : World) : Calls Try.prog 8 #[] w (RetB true w) := by
  go_enter Try.func8, Try.ntmps8
  go_wp2_with fail
  refine (new_c _).mono ?_; rintro e0 w1 ⟨c, rfl, gc, hc, bq⟩
  have Gc : Hid (w.heap.size ≤ c) := gc
  have Hc := Lib.hid hc; clear gc hc
  have HB := Lib.hid bq; clear bq
  go_wp2_with fail
  refine ((read_2 _ c 0 18446744073709551615 0 Hc.out (by decide) (by decide) (by decide)).mono (fun _ _ h => retR_to (n' := 18446744073709551615) rfl h)).mono ?_; rintro e0 w2 ⟨rfl, bq⟩
  replace Hc := Lib.hid (Hc.out.below bq)
  replace HB := Lib.hid (HB.out.trans (bq.mono HB.out.size)); clear bq
  go_wp2_with fail
  refine ((write_1 _ c 0 18446744073709551615 0 Hc.out (by decide) (by decide) (by decide) 7 (by decide)).mono (fun _ _ h => retW_to (x' := 1) (y' := 18446744073709551615) (z' := 0) rfl rfl rfl h)).mono ?_; rintro e0 w3 ⟨rfl, h1, hg⟩
  replace Hc : Hid (IsC w3 c (1) (18446744073709551615) (0)) := h1; clear h1
  replace HB := Lib.hid (HB.out.grown hg HB.out.size (fun k hk => by cases hk; exact Gc.out)); clear hg
  go_wp2_with fail
  refine ((write_2 _ c 1 18446744073709551615 0 Hc.out (by decide) (by decide) (by decide) 2 (by decide)).mono (fun _ _ h => retW_to (x' := 1) (y' := 2) (z' := 0) rfl rfl rfl h)).mono ?_; rintro e0 w4 ⟨rfl, h1, hg⟩
  replace Hc : Hid (IsC w4 c (1) (2) (0)) := h1; clear h1
  replace HB := Lib.hid (HB.out.grown hg HB.out.size (fun k hk => by cases hk; exact Gc.out)); clear hg
  go_wp2_with fail
  refine ((pend_c _ c 1 2 0 Hc.out (by decide)).mono (fun _ _ h => retU_to (n' := 8) rfl h)).mono ?_; rintro e0 w5 ⟨rfl, bq⟩
  replace Hc := Lib.hid (Hc.out.below bq)
  replace HB := Lib.hid (HB.out.trans (bq.mono HB.out.size)); clear bq
  go_wp2_with fail
  refine ((tick_c _ c 1 2 0 Hc.out (by decide)).mono (fun _ _ h => retT_to (z' := 1) rfl h)).mono ?_; rintro e0 w6 ⟨rfl, h1, hg⟩
  replace Hc : Hid (IsC w6 c (1) (2) (1)) := h1; clear h1
  replace HB := Lib.hid (HB.out.grown hg HB.out.size (fun k hk => by cases hk; exact Gc.out)); clear hg
  go_wp2_with fail
  refine ((tick_c _ c 1 2 1 Hc.out (by decide)).mono (fun _ _ h => retT_to (z' := 2) rfl h)).mono ?_; rintro e0 w7 ⟨rfl, h1, hg⟩
  replace Hc : Hid (IsC w7 c (1) (2) (2)) := h1; clear h1
  replace HB := Lib.hid (HB.out.grown hg HB.out.size (fun k hk => by cases hk; exact Gc.out)); clear hg
  go_wp2_with fail
  refine (copy_c _ c 1 2 2 Hc.out).mono ?_; rintro e0 w8 ⟨o, rfl, go, ho, bq⟩
  have Lc := Lib.hid Hc.out.1
  replace Hc := Lib.hid (Hc.out.below bq)
  have Noc : True := trivial
  have Go : Hid (w.heap.size ≤ o) := Nat.le_trans HB.out.size go
  have Ho := Lib.hid ho; clear ho go
  replace HB := Lib.hid (HB.out.trans (bq.mono HB.out.size)); clear bq
  go_wp2_with fail
  refine ((pend_c _ c 1 2 2 Hc.out (by decide)).mono (fun _ _ h => retU_to (n' := 136) rfl h)).mono ?_; rintro e0 w9 ⟨rfl, bq⟩
  replace Hc := Lib.hid (Hc.out.below bq)
  replace Ho := Lib.hid (Ho.out.below bq)
  replace HB := Lib.hid (HB.out.trans (bq.mono HB.out.size)); clear bq
  go_wp2_with fail
  refine (time_c _ c 1 2 2 Hc.out).mono ?_; rintro e0 w10 ⟨rfl, bq⟩
  replace Hc := Lib.hid (Hc.out.below bq)
  replace Ho := Lib.hid (Ho.out.below bq)
  replace HB := Lib.hid (HB.out.trans (bq.mono HB.out.size)); clear bq
  go_wp2_with fail
  refine (time_c _ o 1 2 2 Ho.out).mono ?_; rintro e0 w11 ⟨rfl, bq⟩
  replace Hc := Lib.hid (Hc.out.below bq)
  replace Ho := Lib.hid (Ho.out.below bq)
  replace HB := Lib.hid (HB.out.trans (bq.mono HB.out.size)); clear bq
  go_wp2_with fail
  go_ret
  exact retB_mk rfl HB.out
end Go.Proofs.Ytilfeanampomjaa
