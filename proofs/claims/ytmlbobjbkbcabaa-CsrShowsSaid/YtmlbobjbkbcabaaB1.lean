/- The small functions' contracts. -/
import Derived.Test.YtmlbobjbkbcabaaM0
namespace Go.Proofs.Ytmlbobjbkbcabaa
open Go.ChangeShapes Go.WideShapes Go.ChangeAt Go.RowKit P
set_option linter.unusedVariables false
set_option linter.unusedSimpArgs false
theorem mix_c (a b m : Nat) (ha : Hid (a < 18446744073709551616)) (hb : Hid (b < 18446744073709551616)) (hm : Hid (m < 18446744073709551616)) (w : World) : Calls Try.prog 33 #[.int .u64 a, .int .u64 b, .int .u64 m] w (RetUX (mixN a b m) w) := by
  have h1 := u_andNot a m ha.out hm.out
  have h2 := u_and b m hb.out hm.out
  have h3 := u_or _ _ (and_lt a (18446744073709551615 - m) ha.out) (and_lt b m hb.out)
  have H : Hid (bits .or .u64 (bits .andNot .u64 (a : Int) (m : Int)) (bits .and .u64 (b : Int) (m : Int)) = ((mixN a b m : Nat) : Int)) := by show _ = _; rw [h1, h2]; exact h3
  clear h1 h2 h3
  go_enter Try.func33, Try.ntmps33
  go_wp2_with fail
  go_ret
  exact retUX_mk H.out
theorem mixr_c (a b m : Nat) (ha : Hid (a < 18446744073709551616)) (hb : Hid (b < 18446744073709551616)) (hm : Hid (m < 18446744073709551616)) (w : World) : Calls Try.prog 40 #[.int .u64 a, .int .u64 b, .int .u64 m] w (RetUX (mixN a b m) w) := by
  have h1 := u_andNot a m ha.out hm.out
  have h2 := u_and b m hb.out hm.out
  have h3 := u_or _ _ (and_lt a (18446744073709551615 - m) ha.out) (and_lt b m hb.out)
  have H : Hid (bits .or .u64 (bits .andNot .u64 (a : Int) (m : Int)) (bits .and .u64 (b : Int) (m : Int)) = ((mixN a b m : Nat) : Int)) := by show _ = _; rw [h1, h2]; exact h3
  clear h1 h2 h3
  go_enter Try.func40, Try.ntmps40
  go_wp2_with fail
  go_ret
  exact retUX_mk H.out
theorem fld_walk (u : Nat) (hu : u < 18446744073709551616) : bits .or .u64 (bits .and .u64 (u : Int) 8288682) 42949672960 = ((fldN u : Nat) : Int) := by
  have h1 := u_and u 8288682 hu (by decide)
  have h2 := u_or (u &&& 8288682) 42949672960 (and_lt _ _ hu) (by decide)
  rw [← h1] at h2; exact h2
theorem dirty_walk (x : Nat) (hx : x < 18446744073709551616) : bits .or .u64 (x : Int) 9223372036854775808 = ((x ||| 9223372036854775808 : Nat) : Int) := u_or x 9223372036854775808 hx (by decide)
theorem status_c (old v : Nat) (ho : Hid (old < 18446744073709551616)) (hv : Hid (v < 18446744073709551616)) (w : World) : Calls Try.prog 34 #[.int .u64 old, .int .u64 v] w (RetUX (stB old v) w) := by
  have HM := Lib.hid (fun u => mix_c v old 6144 hv ho (by show _ < _; decide) u)
  obtain ⟨x, hx⟩ : ∃ x, v &&& 6144 = x := ⟨_, rfl⟩
  have b1 : bits .and .u64 (v : Int) 6144 = (x : Int) := by rw [← hx]; exact u_and v 6144 hv.out (by decide)
  obtain ⟨m, hm⟩ : ∃ m, mixN v old 6144 = m := ⟨_, rfl⟩
  obtain ⟨T, hT⟩ : ∃ T, ((x : Int) == 4096) = T := ⟨_, rfl⟩
  have hT' : (x == 4096) = T := by rw [← hT]; exact (cast_beq x 4096).symm
  rw [hm] at HM
  have HS : Hid (stB old v = stlN (bif T then m else v)) := by show _ = _; unfold stB; rw [hx, hT', hm]
  have hml : m < 18446744073709551616 := by rw [← hm]; exact mix_lt _ _ _ hv.out ho.out
  obtain ⟨u, hu⟩ : ∃ u, (bif T then m else v) = u := ⟨_, rfl⟩
  rw [hu] at HS
  have ul : u < 18446744073709551616 := by rw [← hu]; cases T; exact hv.out; exact hml
  have f1 := fld_walk u ul
  have d1 := dirty_walk (fldN u) (fld_lt u)
  have fl := fld_lt u
  obtain ⟨f, hf⟩ : ∃ f, fldN u = f := ⟨_, rfl⟩
  rw [hf] at f1 d1 fl
  have f2 := u_and f 24576 fl (by decide)
  obtain ⟨y, hy⟩ : ∃ y, f &&& 24576 = y := ⟨_, rfl⟩
  obtain ⟨D, hD⟩ : ∃ D, ((y : Int) == 24576) = D := ⟨_, rfl⟩
  have hD' : (y == 24576) = D := by rw [← hD]; exact (cast_beq y 24576).symm
  rw [hy] at f2
  replace f2 : bits .and .u64 (f : Int) 24576 = (y : Int) := f2
  have HE : Hid (stB old v = bif D then f ||| 9223372036854775808 else f) := by show _ = _; rw [HS.out]; unfold stlN; rw [hf, hy, hD']
  have H1 := Lib.hid d1
  clear hx hT' hm hml ul fl hf hy hD' d1 HS ho hv
  cases T
  · simp only [cond_false] at hu
    subst hu
    cases D
    · go_enter Try.func34, Try.ntmps34
      go_wp2_with fail
      go_ret
      exact retUX_mk (by rw [HE.out]; rfl)
    · go_enter Try.func34, Try.ntmps34
      go_wp2_with fail
      go_ret
      exact retUX_mk (by rw [HE.out]; exact H1.out)
  · simp only [cond_true] at hu
    subst hu
    cases D
    · go_enter Try.func34, Try.ntmps34
      go_wp2_with fail
      refine (HM.out _).mono ?_; rintro e w1 ⟨rfl, h⟩; replace h := h.symm; subst h
      go_wp2_with fail
      go_ret
      exact retUX_mk (by rw [HE.out]; rfl)
    · go_enter Try.func34, Try.ntmps34
      go_wp2_with fail
      refine (HM.out _).mono ?_; rintro e w1 ⟨rfl, h⟩; replace h := h.symm; subst h
      go_wp2_with fail
      go_ret
      exact retUX_mk (by rw [HE.out]; exact H1.out)
theorem settle_c (u : Nat) (hu : Hid (u < 18446744073709551616)) (w : World) : Calls Try.prog 42 #[.int .u64 u] w (RetUX (stlN u) w) := by
  have f1 := fld_walk u hu.out
  have d1 := dirty_walk (fldN u) (fld_lt u)
  have fl := fld_lt u
  obtain ⟨f, hf⟩ : ∃ f, fldN u = f := ⟨_, rfl⟩
  rw [hf] at f1 d1 fl
  have f2 := u_and f 24576 fl (by decide)
  obtain ⟨y, hy⟩ : ∃ y, f &&& 24576 = y := ⟨_, rfl⟩
  obtain ⟨D, hD⟩ : ∃ D, ((y : Int) == 24576) = D := ⟨_, rfl⟩
  have hD' : (y == 24576) = D := by rw [← hD]; exact (cast_beq y 24576).symm
  rw [hy] at f2
  replace f2 : bits .and .u64 (f : Int) 24576 = (y : Int) := f2
  have HE : Hid (stlN u = bif D then f ||| 9223372036854775808 else f) := by show _ = _; unfold stlN; rw [hf, hy, hD']
  have H1 := Lib.hid d1
  clear fl hf hy hD' d1 hu
  cases D
  · go_enter Try.func42, Try.ntmps42
    go_wp2_with fail
    go_ret
    exact retUX_mk (by rw [HE.out]; rfl)
  · go_enter Try.func42, Try.ntmps42
    go_wp2_with fail
    go_ret
    exact retUX_mk (by rw [HE.out]; exact H1.out)
end Go.Proofs.Ytmlbobjbkbcabaa
