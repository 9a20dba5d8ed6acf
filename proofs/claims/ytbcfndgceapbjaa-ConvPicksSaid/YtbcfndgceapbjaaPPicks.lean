/- PROVED: 'ConvPicks' returns true whatever the four numbers are: Pick and Compare answer as the reference does, of every kind, size and floats. No condition. -/
import Derived.Test.YtbcfndgceapbjaaF2
import Derived.Test.YtbcfndgceapbjaaB12
namespace Go.Proofs.Ytbcfndgceapbjaa
open Go.ChangeShapes Go.WideShapes Go.ChangeAt Go.RowKit
set_option linter.unusedVariables false
set_option linter.unusedSimpArgs false
theorem u64_of_wf2 {a : Int} (h : (Lit.int .u64 a).wf = true) : ∃ n : Nat, a = n ∧ Hid (n < 18446744073709551616) := by
  simp [Lit.wf, IntKind.min, IntKind.max, IntKind.signed, IntKind.bits] at h
  obtain ⟨h0, h1⟩ := h
  exact ⟨a.toNat, by omega, by show _ < _; omega⟩
theorem Pick_no_s (k sz : Int) (h4 : (sz == 4) = false) (h8 : (sz == 8) = false) (a b : Nat) (w : World) : Calls Try.prog 26 #[.int .i64 k, .int .i64 sz, .int .u64 a, .int .u64 b] w (RetL 0 0 w) := by
  go_enter Try.func26, Try.ntmps26
  go_wp2_with fail
  refine (layoutOf_no sz h4 h8 _).mono ?_; rintro e w1 ⟨rfl, hb1⟩
  go_wp2_with fail
  go_ret2
  exact retL_mk rfl rfl (by repeat (first | (with_reducible first | exact Below.refl _ _ | assumption | exact Nat.le_refl _ | refine Below.drew ?_ | refine Below.alloc ?_ ?_ _ | refine Below.setCell ?_ ?_ _ | refine le_alloc ?_ | refine le_set ?_ | refine le_drew ?_ | refine below_step (by assumption) ?_ ?_ | refine le_below (by assumption) ?_) | (dsimp only; omega)))
theorem Pick_no_k (k sz : Int) (d : Bool) (hsz : Hid (SzOk sz d)) (k1 : (k == 67) = false) (k2 : (k == 68) = false) (a b : Nat) (w : World) : Calls Try.prog 26 #[.int .i64 k, .int .i64 sz, .int .u64 a, .int .u64 b] w (RetL 0 0 w) := by
  have n1 : (k != 67) = true := by rw [bne, k1]; rfl
  have n2 : (k != 68) = true := by rw [bne, k2]; rfl
  go_enter Try.func26, Try.ntmps26
  go_wp2_with fail
  refine (layoutOf_s sz d hsz _).mono ?_; rintro e w1 ⟨E, F, rfl, hd, hb1⟩
  go_wp2_with fail
  go_ret2
  exact retL_mk rfl rfl (by repeat (first | (with_reducible first | exact Below.refl _ _ | assumption | exact Nat.le_refl _ | refine Below.drew ?_ | refine Below.alloc ?_ ?_ _ | refine Below.setCell ?_ ?_ _ | refine le_alloc ?_ | refine le_set ?_ | refine le_drew ?_ | refine below_step (by assumption) ?_ ?_ | refine le_below (by assumption) ?_) | (dsimp only; omega)))
theorem RPick_no_s (k sz : Int) (h4 : (sz == 4) = false) (h8 : (sz == 8) = false) (a b : Nat) (w : World) : Calls Try.prog 27 #[.int .i64 k, .int .i64 sz, .int .u64 a, .int .u64 b] w (RetL 0 0 w) := by
  go_enter Try.func27, Try.ntmps27
  go_wp2_with fail
  refine (right_no sz h4 h8 _).mono ?_; rintro e w1 ⟨rfl, hb1⟩
  go_wp2_with fail
  go_ret2
  exact retL_mk rfl rfl (by repeat (first | (with_reducible first | exact Below.refl _ _ | assumption | exact Nat.le_refl _ | refine Below.drew ?_ | refine Below.alloc ?_ ?_ _ | refine Below.setCell ?_ ?_ _ | refine le_alloc ?_ | refine le_set ?_ | refine le_drew ?_ | refine below_step (by assumption) ?_ ?_ | refine le_below (by assumption) ?_) | (dsimp only; omega)))
theorem RPick_no_k (k sz : Int) (d : Bool) (hsz : Hid (SzOk sz d)) (k1 : (k == 67) = false) (k2 : (k == 68) = false) (a b : Nat) (w : World) : Calls Try.prog 27 #[.int .i64 k, .int .i64 sz, .int .u64 a, .int .u64 b] w (RetL 0 0 w) := by
  have n1 : (k != 67) = true := by rw [bne, k1]; rfl
  have n2 : (k != 68) = true := by rw [bne, k2]; rfl
  go_enter Try.func27, Try.ntmps27
  go_wp2_with fail
  refine (rright_c sz d hsz _).mono ?_; rintro e w1 ⟨rfl, hb1⟩
  go_wp2_with fail
  go_ret2
  exact retL_mk rfl rfl (by repeat (first | (with_reducible first | exact Below.refl _ _ | assumption | exact Nat.le_refl _ | refine Below.drew ?_ | refine Below.alloc ?_ ?_ _ | refine Below.setCell ?_ ?_ _ | refine le_alloc ?_ | refine le_set ?_ | refine le_drew ?_ | refine below_step (by assumption) ?_ ?_ | refine le_below (by assumption) ?_) | (dsimp only; omega)))
theorem Compare_no_s (k sz : Int) (h4 : (sz == 4) = false) (h8 : (sz == 8) = false) (a b : Nat) (w : World) : Calls Try.prog 28 #[.int .i64 k, .int .i64 sz, .int .u64 a, .int .u64 b] w (RetL 0 0 w) := by
  go_enter Try.func28, Try.ntmps28
  go_wp2_with fail
  refine (layoutOf_no sz h4 h8 _).mono ?_; rintro e w1 ⟨rfl, hb1⟩
  go_wp2_with fail
  go_ret2
  exact retL_mk rfl rfl (by repeat (first | (with_reducible first | exact Below.refl _ _ | assumption | exact Nat.le_refl _ | refine Below.drew ?_ | refine Below.alloc ?_ ?_ _ | refine Below.setCell ?_ ?_ _ | refine le_alloc ?_ | refine le_set ?_ | refine le_drew ?_ | refine below_step (by assumption) ?_ ?_ | refine le_below (by assumption) ?_) | (dsimp only; omega)))
theorem Compare_no_k (k sz : Int) (d : Bool) (hsz : Hid (SzOk sz d)) (k1 : (k == 69) = false) (k2 : (k == 70) = false) (k3 : (k == 71) = false) (a b : Nat) (w : World) : Calls Try.prog 28 #[.int .i64 k, .int .i64 sz, .int .u64 a, .int .u64 b] w (RetL 0 0 w) := by
  have n1 : (k != 69) = true := by rw [bne, k1]; rfl
  have n2 : (k != 70) = true := by rw [bne, k2]; rfl
  have n3 : (k != 71) = true := by rw [bne, k3]; rfl
  go_enter Try.func28, Try.ntmps28
  go_wp2_with fail
  refine (layoutOf_s sz d hsz _).mono ?_; rintro e w1 ⟨E, F, rfl, hd, hb1⟩
  go_wp2_with fail
  go_ret2
  exact retL_mk rfl rfl (by repeat (first | (with_reducible first | exact Below.refl _ _ | assumption | exact Nat.le_refl _ | refine Below.drew ?_ | refine Below.alloc ?_ ?_ _ | refine Below.setCell ?_ ?_ _ | refine le_alloc ?_ | refine le_set ?_ | refine le_drew ?_ | refine below_step (by assumption) ?_ ?_ | refine le_below (by assumption) ?_) | (dsimp only; omega)))
theorem RCompare_no_s (k sz : Int) (h4 : (sz == 4) = false) (h8 : (sz == 8) = false) (a b : Nat) (w : World) : Calls Try.prog 29 #[.int .i64 k, .int .i64 sz, .int .u64 a, .int .u64 b] w (RetL 0 0 w) := by
  go_enter Try.func29, Try.ntmps29
  go_wp2_with fail
  refine (right_no sz h4 h8 _).mono ?_; rintro e w1 ⟨rfl, hb1⟩
  go_wp2_with fail
  go_ret2
  exact retL_mk rfl rfl (by repeat (first | (with_reducible first | exact Below.refl _ _ | assumption | exact Nat.le_refl _ | refine Below.drew ?_ | refine Below.alloc ?_ ?_ _ | refine Below.setCell ?_ ?_ _ | refine le_alloc ?_ | refine le_set ?_ | refine le_drew ?_ | refine below_step (by assumption) ?_ ?_ | refine le_below (by assumption) ?_) | (dsimp only; omega)))
theorem RCompare_no_k (k sz : Int) (d : Bool) (hsz : Hid (SzOk sz d)) (hk : k < 69 ∨ 71 < k) (a b : Nat) (w : World) : Calls Try.prog 29 #[.int .i64 k, .int .i64 sz, .int .u64 a, .int .u64 b] w (RetL 0 0 w) := by
  rcases hk with h | h
  · go_enter Try.func29, Try.ntmps29
    go_wp2_with fail
    refine (rright_c sz d hsz _).mono ?_; rintro e w1 ⟨rfl, hb1⟩
    go_wp2_with fail
    go_ret2
    exact retL_mk rfl rfl (by repeat (first | (with_reducible first | exact Below.refl _ _ | assumption | exact Nat.le_refl _ | refine Below.drew ?_ | refine Below.alloc ?_ ?_ _ | refine Below.setCell ?_ ?_ _ | refine le_alloc ?_ | refine le_set ?_ | refine le_drew ?_ | refine below_step (by assumption) ?_ ?_ | refine le_below (by assumption) ?_) | (dsimp only; omega)))
  · have h2 : ¬ k < 69 := by omega
    go_enter Try.func29, Try.ntmps29
    go_wp2_with fail
    refine (rright_c sz d hsz _).mono ?_; rintro e w1 ⟨rfl, hb1⟩
    go_wp2_with fail
    go_ret2
    exact retL_mk rfl rfl (by repeat (first | (with_reducible first | exact Below.refl _ _ | assumption | exact Nat.le_refl _ | refine Below.drew ?_ | refine Below.alloc ?_ ?_ _ | refine Below.setCell ?_ ?_ _ | refine le_alloc ?_ | refine le_set ?_ | refine le_drew ?_ | refine below_step (by assumption) ?_ ?_ | refine le_below (by assumption) ?_) | (dsimp only; omega)))
theorem pick_both (k sz : Int) (a b : Nat) (ha : Hid (a < 18446744073709551616)) (hb : Hid (b < 18446744073709551616)) : ∃ n m : Int,
    (∀ w, Calls Try.prog 26 #[.int .i64 k, .int .i64 sz, .int .u64 a, .int .u64 b] w (RetL n m w)) ∧ (∀ w, Calls Try.prog 27 #[.int .i64 k, .int .i64 sz, .int .u64 a, .int .u64 b] w (RetL n m w)) := by
  by_cases hs : ∃ d, SzOk sz d
  · obtain ⟨d, hd⟩ := hs
    by_cases k1 : k = 67
    · subst k1; exact ⟨_, _, fun w => Pick_67 sz d hd a b ha hb w, fun w => RPick_67 sz d hd a b ha hb w⟩
    · by_cases k2 : k = 68
      · subst k2; exact ⟨_, _, fun w => Pick_68 sz d hd a b ha hb w, fun w => RPick_68 sz d hd a b ha hb w⟩
      · have e1 : (k == 67) = false := by rw [beq_eq_false_iff_ne]; exact k1
        have e2 : (k == 68) = false := by rw [beq_eq_false_iff_ne]; exact k2
        exact ⟨0, 0, fun w => Pick_no_k k sz d hd e1 e2 a b w, fun w => RPick_no_k k sz d hd e1 e2 a b w⟩
  · have h4 : (sz == 4) = false := by rw [beq_eq_false_iff_ne]; intro e; exact hs ⟨false, e⟩
    have h8 : (sz == 8) = false := by rw [beq_eq_false_iff_ne]; intro e; exact hs ⟨true, e⟩
    exact ⟨0, 0, fun w => Pick_no_s k sz h4 h8 a b w, fun w => RPick_no_s k sz h4 h8 a b w⟩
theorem compare_both (k sz : Int) (a b : Nat) (ha : Hid (a < 18446744073709551616)) (hb : Hid (b < 18446744073709551616)) : ∃ n m : Int,
    (∀ w, Calls Try.prog 28 #[.int .i64 k, .int .i64 sz, .int .u64 a, .int .u64 b] w (RetL n m w)) ∧ (∀ w, Calls Try.prog 29 #[.int .i64 k, .int .i64 sz, .int .u64 a, .int .u64 b] w (RetL n m w)) := by
  by_cases hs : ∃ d, SzOk sz d
  · obtain ⟨d, hd⟩ := hs
    by_cases k1 : k = 69
    · subst k1; exact ⟨_, _, fun w => Compare_69 sz d hd a b ha hb w, fun w => RCompare_69 sz d hd a b ha hb w⟩
    · by_cases k2 : k = 70
      · subst k2; exact ⟨_, _, fun w => Compare_70 sz d hd a b ha hb w, fun w => RCompare_70 sz d hd a b ha hb w⟩
      · by_cases k3 : k = 71
        · subst k3; exact ⟨_, _, fun w => Compare_71 sz d hd a b ha hb w, fun w => RCompare_71 sz d hd a b ha hb w⟩
        · have e1 : (k == 69) = false := by rw [beq_eq_false_iff_ne]; exact k1
          have e2 : (k == 70) = false := by rw [beq_eq_false_iff_ne]; exact k2
          have e3 : (k == 71) = false := by rw [beq_eq_false_iff_ne]; exact k3
          exact ⟨0, 0, fun w => Compare_no_k k sz d hd e1 e2 e3 a b w, fun w => RCompare_no_k k sz d hd (by omega) a b w⟩
  · have h4 : (sz == 4) = false := by rw [beq_eq_false_iff_ne]; intro e; exact hs ⟨false, e⟩
    have h8 : (sz == 8) = false := by rw [beq_eq_false_iff_ne]; intro e; exact hs ⟨true, e⟩
    exact ⟨0, 0, fun w => Compare_no_s k sz h4 h8 a b w, fun w => RCompare_no_s k sz h4 h8 a b w⟩
theorem convPicks_walk (a0 a1 a2 a3 : Int) (w0 : (Lit.int .i64 a0).wf = true) (w1 : (Lit.int .i64 a1).wf = true) (w2 : (Lit.int .u64 a2).wf = true) (w3 : (Lit.int .u64 a3).wf = true) (w : World) :
    Calls Try.prog 7 #[.int .i64 a0, .int .i64 a1, .int .u64 a2, .int .u64 a3] w (RetB true w) := by
  obtain ⟨a, rfl, ha⟩ := u64_of_wf2 w2
  obtain ⟨b, rfl, hb⟩ := u64_of_wf2 w3
  obtain ⟨n, m, s1, s2⟩ := pick_both a0 a1 a b ha hb
  obtain ⟨x, y, c1, c2⟩ := compare_both a0 a1 a b ha hb
  have S1 := Lib.hid s1; have S2 := Lib.hid s2; have C1 := Lib.hid c1; have C2 := Lib.hid c2
  clear s1 s2 c1 c2
  go_enter Try.func7, Try.ntmps7
  go_wp2_with fail
  refine (awake_c _).mono ?_; rintro e w1 ⟨rfl, hb1⟩
  go_wp2_with fail
  refine (S1.out _).mono ?_; rintro e w2 ⟨rfl, hb2⟩
  go_wp2_with fail
  refine (S2.out _).mono ?_; rintro e w3 ⟨rfl, hb3⟩
  go_wp2_with fail
  refine (C1.out _).mono ?_; rintro e w4 ⟨rfl, hb4⟩
  go_wp2_with fail
  refine (C2.out _).mono ?_; rintro e w5 ⟨rfl, hb5⟩
  go_wp2_with fail
  go_ret
  refine retB_mk ?_ (by repeat (first | (with_reducible first | exact Below.refl _ _ | assumption | exact Nat.le_refl _ | refine Below.drew ?_ | refine Below.alloc ?_ ?_ _ | refine Below.setCell ?_ ?_ _ | refine le_alloc ?_ | refine le_set ?_ | refine le_drew ?_ | refine below_step (by assumption) ?_ ?_ | refine le_below (by assumption) ?_) | (dsimp only; omega)))
  simp
end Go.Proofs.Ytbcfndgceapbjaa
namespace Go.Proofs.Ytbcfndgceapbjaa.convPicks
open Go.ChangeShapes Go.WideShapes Go.ChangeAt Go.RowKit
set_option linter.unusedVariables false
theorem own : ownKnob Try.prog.godebug = none := by kernel_rfl
set_option maxRecDepth 100000 in
theorem lifted (os : Os) (started : os.Started) (H : Type) (enc : TypeId × Value → H) :
    ReturnsInHanded {} Try.checked os 7 .any (Rows.convPicksSpec.pre6 enc Try.prog Try.f7 Rows.convPicksRow.domain false) (Rows.convPicksSpec.post enc Try.prog Try.f7 false true false false) := by
  refine returnsInHanded_of_change (C := Try.checked) own started (by kernel_rfl) Try.func7
    (ChangeSpec.witness6 (enc := enc) (C := Try.checked) false ⟨#[], #[.int .i64 0, .int .i64 0, .int .u64 0, .int .u64 0], []⟩ 8 (by kernel_rfl) (by kernel_rfl) (by kernel_rfl) (by kernel_rfl)) ?_
  intro W base args ds gs before hval0 hW hcnd _
  have hval : ∀ (j : Nat) t v, Try.f7.params[j]? = some t → args[j]? = some v → Value.okWide Try.prog W .any base t v := hval0
  have hW' := hW
  obtain ⟨p, q, hA0, hV, rfl, hfz, hnd⟩ := hW
  have hA : DataW.TrodAll enc Try.prog W 0 (fun _ => true) true Try.f7.params.toList args.toList ds p := hA0
  rw [Try.params7] at hA hval
  obtain ⟨v0, vs0, d0, ds0, p0, q0, hargs, rfl, rfl, h0, r0⟩ := trodAll_cons hA
  obtain ⟨v1, vs1, d1, ds1, p1, q1, rfl, rfl, rfl, h1, r1⟩ := trodAll_cons r0
  obtain ⟨v2, vs2, d2, ds2, p2, q2, rfl, rfl, rfl, h2, r2⟩ := trodAll_cons r1
  obtain ⟨v3, vs3, d3, ds3, p3, q3, rfl, rfl, rfl, h3, r3⟩ := trodAll_cons r2
  obtain ⟨rfl, rfl, rfl⟩ := trodAll_nil r3
  obtain rfl : args = #[v0, v1, v2, v3] := by cases args; simp_all
  obtain ⟨rfl, rfl⟩ := trodVars_none hV
  obtain ⟨a0, rfl, rfl, rfl, w0⟩ := open_int Try.underlying3 (hval 0 3 v0 rfl rfl) h0
  obtain ⟨a1, rfl, rfl, rfl, w1⟩ := open_int Try.underlying3 (hval 1 3 v1 rfl rfl) h1
  obtain ⟨a2, rfl, rfl, rfl, w2⟩ := open_int Try.underlying22 (hval 2 22 v2 rfl rfl) h2
  obtain ⟨a3, rfl, rfl, rfl, w3⟩ := open_int Try.underlying22 (hval 3 22 v3 rfl rfl) h3
  clear hA0 hval0
  simp only [List.append_nil] at hW'
  refine (convPicks_walk a0 a1 a2 a3 w0 w1 w2 w3 W).mono fun e W' ⟨he, hg⟩ => ?_
  subst he
  exact ⟨_, rfl, post_nums hW' (fun _ _ _ => (trodAll_cons_mk (shut_bool Try.underlying4 _) trodAll_mk0)) (fun sp => (trodAll_cons_mk (shut_int Try.underlying3 w0) (trodAll_cons_mk (shut_int Try.underlying3 w1) (trodAll_cons_mk (shut_int Try.underlying22 w2) (trodAll_cons_mk (shut_int Try.underlying22 w3) trodAll_mk0))))) (fun _ => rfl) hg (ok_one (by kernel_rfl) rfl (okWide_bool_mk Try.underlying4 _))⟩
theorem over : Rows.convPicksRow.holds Try.pinned (OpenSpec.ofChange Rows.convPicksSpec) :=
  OpenClaim.holds_of_wide 7 Try.f7 rfl rfl rfl rfl rfl rfl rfl ⟨rfl, rfl, rfl, rfl, rfl⟩ rfl rfl rfl rfl rfl (by kernel_rfl) Try.func7 (by kernel_rfl)
    (of_decide_eq_true (by kernel_rfl)) (by unfold Func.isWrapper; first | (rw [if_pos (by decide +kernel)]; kernel_rfl) | (rw [if_neg (by decide +kernel)]; exact ⟨rfl, rfl⟩))
    (fun os started H enc _ => lifted os started H enc)
theorem proved : Rows.ConvPicksSaid := over
#print axioms proved
end Go.Proofs.Ytbcfndgceapbjaa.convPicks
