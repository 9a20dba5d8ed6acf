/- The reference's FromInt. -/
import Derived.Test.YteinjalnkhfecaaZ5
import Derived.Test.YteinjalnkhfecaaZ2
import Derived.Test.YteinjalnkhfecaaQK16
namespace Go.Proofs.Yteinjalnkhfecaa
open Go.ChangeShapes Go.WideShapes Go.ChangeAt Go.RowKit
set_option linter.unusedVariables false
set_option linter.unusedSimpArgs false
def frmR (d : Bool) (rm : Int) (wd u : Bool) (x : Nat) : Nat × Int := if heldV wd u x = 0 then (0, 0) else Q.roundR d rm (heldM wd u x) (heldF wd u x) 0 false
theorem and_word (x : Nat) (hx : x < 18446744073709551616) : bits .and .u64 (x : Int) 4294967295 = ((x % 4294967296 : Nat) : Int) := and_mask x 32 hx (by decide)
theorem big_far {w : World} {g n p A B : Nat} {b : Bool} (h : Q.IsBig w g n p A) (hA : A ≠ 0) (hc : w.cell? ⟨B, 0, none⟩ = some (.bool b)) : Hid (g ≠ B) := by
  show g ≠ B
  rintro rfl
  obtain ⟨⟨h1, h2, h3, h4⟩, h5⟩ := h
  have hn : n ≠ 0 := by
    rintro rfl
    exact hA (by simpa [Q.shd] using h4)
  rw [h3 0 (by omega)] at hc
  cases hc
theorem big_set1 {w : World} {g n p A B : Nat} (h : Q.IsBig w g n p A) (hne : g ≠ B) (o : Nat) (v : Value) : Q.IsBig (w.setCell ⟨B, o, none⟩ v) g n p A := by
  obtain ⟨⟨h1, h2, h3, h4⟩, h5⟩ := h
  refine ⟨⟨by rw [sz_set]; exact h1, h2, fun i hi => ?_, h4⟩, h5⟩
  rw [World.cell?_setCell_other _ _ _ _ (by intro e; cases e; exact hne rfl)]
  exact h3 i hi
theorem wide_mod (x : Nat) : wideV (x % 4294967296) = wideV x := by unfold wideV; rw [Nat.mod_mod]
set_option maxRecDepth 100000 in
set_option maxHeartbeats 1000000 in
theorem frm_00 (sz : Int) (d : Bool) (hsz : Hid (SzOk sz d)) (rm : Int) (hrm : Hid (0 ≤ rm ∧ rm ≤ 4)) (x X : Nat) (hx : Hid (x < 18446744073709551616)) (hX : heldV false false x = X) (lX : Hid (X < 18446744073709551616)) (w : World) :
    Calls Try.prog 19 #[.int .i64 sz, .int .i64 rm, .bool false, .bool false, .int .u64 x] w (RetP (frmR d rm false false x) w) := by
  have HO : Hid (frmR d rm false false x = if X = 0 then (0, 0) else Q.roundR d rm (heldM false false x) (heldF false false x) 0 false) := by show _ = _; unfold frmR; rw [hX]
  obtain rfl : X = x := by rw [← hX]; rfl
  by_cases hs : 9223372036854775808 ≤ X
  · have HM : heldM false false X = true := (heldM_t (by rw [hX]; exact hs)).symm
    have HF : heldF false false X = 18446744073709551616 - X := by rw [heldF_t (by rw [hX]; exact hs), hX]; have := lX.out; omega
    obtain ⟨Y, hY⟩ : ∃ Y, 18446744073709551616 - X = Y := ⟨_, rfl⟩
    rw [hY] at HF
    rw [HM, HF, if_neg (by omega)] at HO
    have NE : IntKind.u64.wrap (-(X : Int)) = (Y : Int) := by rw [neg_form X lX.out, ← hY]; have := lX.out; congr 1; omega
    have lY : Hid (Y < 18446744073709551616) := by show _ < _; omega
    have hF0 : Hid (Y ≠ 0) := by have := lX.out; show _ ≠ _; omega
    have s1 : wrap64 (X : Int) < 0 := (neg_top X lX.out).2 hs
    have s2 : decide (wrap64 (X : Int) < 0) = true := decide_eq_true s1
    have g0 : ((X : Int) == 0) = false := by rw [beq_eq_false_iff_ne]; omega
    clear HM HF hX hY hs
    go_enter Try.func19, Try.ntmps19
    go_wp2_with fail
    refine (rright_m sz d hsz rm hrm _).mono ?_; rintro e w1 ⟨rfl, bq⟩
    have HB := Lib.hid bq; clear bq
    go_wp2_with fail
    refine (Q.ofInt_c X lX _).mono ?_; rintro e w2 ⟨g, n, p, rfl, hA, bq⟩
    replace HB := Lib.hid (HB.out.trans (bq.mono HB.out.size)); clear bq
    have HB2 := HB
    have l1 := len3 hA.out (Nat.lt_of_lt_of_le lX.out (by decide))
    clear hA l1
    have b0 := Q.below_one w2 (Obj.cells #[.bool false, .slice (some ⟨g, 0, none⟩) n p, .int .i64 0] 67)
    have Z0 := Lib.hid (new_AtN w2 false g n p 0 67)
    have F0 : Hid (∀ o, (w2.alloc (Obj.cells #[.bool false, .slice (some ⟨g, 0, none⟩) n p, .int .i64 0] 67)).frozen? ⟨w2.heap.size, o, none⟩ = false) := fun o => by rw [World.frozen?_alloc_at _ _ _ _ rfl]
    replace HB := Lib.hid (HB.out.trans (b0.mono HB.out.size)); clear b0
    go_upto_region 9 with fail
    rename_i K0 k0
    generalize hB0 : w2.heap.size = B at *
    have gB : w.heap.size ≤ B := by have h1 := HB2.out.size; omega
    generalize (w2.alloc (Obj.cells #[Value.bool false, .slice (some ⟨g, 0, none⟩) n p, .int .i64 0] 67)) = w2' at *
    clear hB0
    go_wp2_with fail
    refine (Q.ofInt_c Y lY _).mono ?_; rintro e w3 ⟨g2, n2, p2, rfl, hA, bq⟩
    have f0 := fun o => (bq.frozen (p := ⟨B, o, none⟩) Z0.out.1).trans (F0.out o)
    replace Z0 := Lib.hid (Z0.out.below bq)
    replace HB := Lib.hid (HB.out.trans (bq.mono HB.out.size)); clear bq
    have l1 := len3 hA.out (Nat.lt_of_lt_of_le lY.out (by decide))
    obtain ⟨z0, z1, z2, z3⟩ := Z0.out
    have fa := f0 0; have fb := f0 1; have fc := f0 2
    have NB : Hid (g2 ≠ B) := big_far hA.out hF0.out z1
    go_wp2_with fail
    have hB := Lib.hid (big_set1 (big_set1 (big_set1 hA.out NB.out 0 (.bool true)) NB.out 1 (.slice (some ⟨g2, 0, none⟩) n2 p2)) NB.out 2 (.int .i64 0))
    replace HB := Lib.hid (((HB.out.setCell (p := ⟨B, 0, none⟩) gB (.bool true)).setCell (p := ⟨B, 1, none⟩) gB (.slice (some ⟨g2, 0, none⟩) n2 p2)).setCell (p := ⟨B, 2, none⟩) gB (.int .i64 0))
    refine (Q.round_s _ sz d hsz rm true _ _ _ Y 0 false hB (by omega) hF0 (Lib.hid (fun q => nomatch q)) (by omega) (by omega)).mono ?_; rintro e w4 ⟨rfl, bq⟩
    replace HB := Lib.hid (HB.out.trans (bq.mono HB.out.size)); clear bq
    go_wp2_with fail
    go_ret2
    exact retP_mk (by rw [HO.out]) (by rw [HO.out]) HB.out
  · have HM : heldM false false X = false := (heldM_f (by rw [hX]; exact hs)).symm
    have HF : heldF false false X = X := by rw [heldF_f (by rw [hX]; exact hs), hX]
    rw [HM, HF] at HO
    have s1 : ¬ wrap64 (X : Int) < 0 := fun q => hs ((neg_top X lX.out).1 q)
    have s2 : decide (wrap64 (X : Int) < 0) = false := decide_eq_false s1
    clear HM HF hX hs
    go_enter Try.func19, Try.ntmps19
    go_wp2_with fail
    refine (rright_m sz d hsz rm hrm _).mono ?_; rintro e w1 ⟨rfl, bq⟩
    have HB := Lib.hid bq; clear bq
    go_wp2_with fail
    refine (Q.ofInt_c X lX _).mono ?_; rintro e w2 ⟨g, n, p, rfl, hA, bq⟩
    replace HB := Lib.hid (HB.out.trans (bq.mono HB.out.size)); clear bq
    have HB2 := HB
    have l1 := len3 hA.out (Nat.lt_of_lt_of_le lX.out (by decide))
    have b0 := Q.below_one w2 (Obj.cells #[.bool false, .slice (some ⟨g, 0, none⟩) n p, .int .i64 0] 67)
    have hB := Lib.hid (Q.big_below hA.out b0 (Nat.le_refl _))
    replace HB := Lib.hid (HB.out.trans (b0.mono HB.out.size)); clear b0
    by_cases h0 : X = 0
    · subst h0
      rw [if_pos rfl] at HO
      go_wp2_with fail
      go_ret2
      exact retP_mk (by rw [HO.out]; rfl) (by rw [HO.out]) HB.out
    · have g0 : ((X : Int) == 0) = false := by rw [beq_eq_false_iff_ne]; omega
      rw [if_neg h0] at HO
      have hF0 : Hid (X ≠ 0) := by show _ ≠ _; omega
      go_wp2_with fail
      refine (Q.round_s _ sz d hsz rm false _ _ _ X 0 false hB (by omega) hF0 (Lib.hid (fun q => nomatch q)) (by omega) (by omega)).mono ?_; rintro e w4 ⟨rfl, bq⟩
      replace HB := Lib.hid (HB.out.trans (bq.mono HB.out.size)); clear bq
      go_wp2_with fail
      go_ret2
      exact retP_mk (by rw [HO.out]) (by rw [HO.out]) HB.out
set_option maxRecDepth 100000 in
set_option maxHeartbeats 1000000 in
theorem frm_01 (sz : Int) (d : Bool) (hsz : Hid (SzOk sz d)) (rm : Int) (hrm : Hid (0 ≤ rm ∧ rm ≤ 4)) (x X : Nat) (hx : Hid (x < 18446744073709551616)) (hX : heldV false true x = X) (lX : Hid (X < 18446744073709551616)) (w : World) :
    Calls Try.prog 19 #[.int .i64 sz, .int .i64 rm, .bool false, .bool true, .int .u64 x] w (RetP (frmR d rm false true x) w) := by
  have HO : Hid (frmR d rm false true x = if X = 0 then (0, 0) else Q.roundR d rm (heldM false true x) (heldF false true x) 0 false) := by show _ = _; unfold frmR; rw [hX]
  have HM : heldM false true x = false := rfl
  have HF : heldF false true x = X := by rw [heldF_u]; exact hX
  obtain rfl : X = x := by rw [← hX]; rfl
  rw [HM, HF] at HO; clear HM HF hX
  go_enter Try.func19, Try.ntmps19
  go_wp2_with fail
  refine (rright_m sz d hsz rm hrm _).mono ?_; rintro e w1 ⟨rfl, bq⟩
  have HB := Lib.hid bq; clear bq
  go_wp2_with fail
  refine (Q.ofInt_c X lX _).mono ?_; rintro e w2 ⟨g, n, p, rfl, hA, bq⟩
  replace HB := Lib.hid (HB.out.trans (bq.mono HB.out.size)); clear bq
  have HB2 := HB
  have l1 := len3 hA.out (Nat.lt_of_lt_of_le lX.out (by decide))
  have b0 := Q.below_one w2 (Obj.cells #[.bool false, .slice (some ⟨g, 0, none⟩) n p, .int .i64 0] 67)
  have hB := Lib.hid (Q.big_below hA.out b0 (Nat.le_refl _))
  replace HB := Lib.hid (HB.out.trans (b0.mono HB.out.size)); clear b0
  by_cases h0 : X = 0
  · subst h0
    rw [if_pos rfl] at HO
    go_wp2_with fail
    go_ret2
    exact retP_mk (by rw [HO.out]; rfl) (by rw [HO.out]) HB.out
  · have g0 : ((X : Int) == 0) = false := by rw [beq_eq_false_iff_ne]; omega
    rw [if_neg h0] at HO
    have hF0 : Hid (X ≠ 0) := by show _ ≠ _; omega
    go_wp2_with fail
    refine (Q.round_s _ sz d hsz rm false _ _ _ X 0 false hB (by omega) hF0 (Lib.hid (fun q => nomatch q)) (by omega) (by omega)).mono ?_; rintro e w4 ⟨rfl, bq⟩
    replace HB := Lib.hid (HB.out.trans (bq.mono HB.out.size)); clear bq
    go_wp2_with fail
    go_ret2
    exact retP_mk (by rw [HO.out]) (by rw [HO.out]) HB.out
set_option maxRecDepth 100000 in
set_option maxHeartbeats 1000000 in
theorem frm_10 (sz : Int) (d : Bool) (hsz : Hid (SzOk sz d)) (rm : Int) (hrm : Hid (0 ≤ rm ∧ rm ≤ 4)) (x X : Nat) (hx : Hid (x < 18446744073709551616)) (hX : heldV true false x = X) (lX : Hid (X < 18446744073709551616)) (w : World) :
    Calls Try.prog 19 #[.int .i64 sz, .int .i64 rm, .bool true, .bool false, .int .u64 x] w (RetP (frmR d rm true false x) w) := by
  have HO : Hid (frmR d rm true false x = if X = 0 then (0, 0) else Q.roundR d rm (heldM true false x) (heldF true false x) 0 false) := by show _ = _; unfold frmR; rw [hX]
  have EA := and_word x hx.out
  obtain ⟨x', hx'⟩ : ∃ x', x % 4294967296 = x' := ⟨_, rfl⟩
  rw [hx'] at EA
  have EX : wideV x' = X := by rw [← hx', wide_mod]; exact hX
  have HE := Lib.hid (fun v => extend_r x' v)
  rw [EX] at HE
  by_cases hs : 9223372036854775808 ≤ X
  · have HM : heldM true false x = true := (heldM_t (by rw [hX]; exact hs)).symm
    have HF : heldF true false x = 18446744073709551616 - X := by rw [heldF_t (by rw [hX]; exact hs), hX]; have := lX.out; omega
    obtain ⟨Y, hY⟩ : ∃ Y, 18446744073709551616 - X = Y := ⟨_, rfl⟩
    rw [hY] at HF
    rw [HM, HF, if_neg (by omega)] at HO
    have NE : IntKind.u64.wrap (-(X : Int)) = (Y : Int) := by rw [neg_form X lX.out, ← hY]; have := lX.out; congr 1; omega
    have lY : Hid (Y < 18446744073709551616) := by show _ < _; omega
    have hF0 : Hid (Y ≠ 0) := by have := lX.out; show _ ≠ _; omega
    have s1 : wrap64 (X : Int) < 0 := (neg_top X lX.out).2 hs
    have s2 : decide (wrap64 (X : Int) < 0) = true := decide_eq_true s1
    have g0 : ((X : Int) == 0) = false := by rw [beq_eq_false_iff_ne]; omega
    clear HM HF hX hY hs
    go_enter Try.func19, Try.ntmps19
    go_wp2_with fail
    refine (rright_m sz d hsz rm hrm _).mono ?_; rintro e w1 ⟨rfl, bq⟩
    have HB := Lib.hid bq; clear bq
    go_wp2_with fail
    refine (HE.out _).mono ?_; rintro e v ⟨rfl, rfl⟩
    go_wp2_with fail
    refine (Q.ofInt_c X lX _).mono ?_; rintro e w2 ⟨g, n, p, rfl, hA, bq⟩
    replace HB := Lib.hid (HB.out.trans (bq.mono HB.out.size)); clear bq
    have HB2 := HB
    have l1 := len3 hA.out (Nat.lt_of_lt_of_le lX.out (by decide))
    clear hA l1
    have b0 := Q.below_one w2 (Obj.cells #[.bool false, .slice (some ⟨g, 0, none⟩) n p, .int .i64 0] 67)
    have Z0 := Lib.hid (new_AtN w2 false g n p 0 67)
    have F0 : Hid (∀ o, (w2.alloc (Obj.cells #[.bool false, .slice (some ⟨g, 0, none⟩) n p, .int .i64 0] 67)).frozen? ⟨w2.heap.size, o, none⟩ = false) := fun o => by rw [World.frozen?_alloc_at _ _ _ _ rfl]
    replace HB := Lib.hid (HB.out.trans (b0.mono HB.out.size)); clear b0
    go_upto_region 9 with fail
    rename_i K0 k0
    generalize hB0 : w2.heap.size = B at *
    have gB : w.heap.size ≤ B := by have h1 := HB2.out.size; omega
    generalize (w2.alloc (Obj.cells #[Value.bool false, .slice (some ⟨g, 0, none⟩) n p, .int .i64 0] 67)) = w2' at *
    clear hB0
    go_wp2_with fail
    refine (Q.ofInt_c Y lY _).mono ?_; rintro e w3 ⟨g2, n2, p2, rfl, hA, bq⟩
    have f0 := fun o => (bq.frozen (p := ⟨B, o, none⟩) Z0.out.1).trans (F0.out o)
    replace Z0 := Lib.hid (Z0.out.below bq)
    replace HB := Lib.hid (HB.out.trans (bq.mono HB.out.size)); clear bq
    have l1 := len3 hA.out (Nat.lt_of_lt_of_le lY.out (by decide))
    obtain ⟨z0, z1, z2, z3⟩ := Z0.out
    have fa := f0 0; have fb := f0 1; have fc := f0 2
    have NB : Hid (g2 ≠ B) := big_far hA.out hF0.out z1
    go_wp2_with fail
    have hB := Lib.hid (big_set1 (big_set1 (big_set1 hA.out NB.out 0 (.bool true)) NB.out 1 (.slice (some ⟨g2, 0, none⟩) n2 p2)) NB.out 2 (.int .i64 0))
    replace HB := Lib.hid (((HB.out.setCell (p := ⟨B, 0, none⟩) gB (.bool true)).setCell (p := ⟨B, 1, none⟩) gB (.slice (some ⟨g2, 0, none⟩) n2 p2)).setCell (p := ⟨B, 2, none⟩) gB (.int .i64 0))
    refine (Q.round_s _ sz d hsz rm true _ _ _ Y 0 false hB (by omega) hF0 (Lib.hid (fun q => nomatch q)) (by omega) (by omega)).mono ?_; rintro e w4 ⟨rfl, bq⟩
    replace HB := Lib.hid (HB.out.trans (bq.mono HB.out.size)); clear bq
    go_wp2_with fail
    go_ret2
    exact retP_mk (by rw [HO.out]) (by rw [HO.out]) HB.out
  · have HM : heldM true false x = false := (heldM_f (by rw [hX]; exact hs)).symm
    have HF : heldF true false x = X := by rw [heldF_f (by rw [hX]; exact hs), hX]
    rw [HM, HF] at HO
    have s1 : ¬ wrap64 (X : Int) < 0 := fun q => hs ((neg_top X lX.out).1 q)
    have s2 : decide (wrap64 (X : Int) < 0) = false := decide_eq_false s1
    clear HM HF hX hs
    go_enter Try.func19, Try.ntmps19
    go_wp2_with fail
    refine (rright_m sz d hsz rm hrm _).mono ?_; rintro e w1 ⟨rfl, bq⟩
    have HB := Lib.hid bq; clear bq
    go_wp2_with fail
    refine (HE.out _).mono ?_; rintro e v ⟨rfl, rfl⟩
    go_wp2_with fail
    refine (Q.ofInt_c X lX _).mono ?_; rintro e w2 ⟨g, n, p, rfl, hA, bq⟩
    replace HB := Lib.hid (HB.out.trans (bq.mono HB.out.size)); clear bq
    have HB2 := HB
    have l1 := len3 hA.out (Nat.lt_of_lt_of_le lX.out (by decide))
    have b0 := Q.below_one w2 (Obj.cells #[.bool false, .slice (some ⟨g, 0, none⟩) n p, .int .i64 0] 67)
    have hB := Lib.hid (Q.big_below hA.out b0 (Nat.le_refl _))
    replace HB := Lib.hid (HB.out.trans (b0.mono HB.out.size)); clear b0
    by_cases h0 : X = 0
    · subst h0
      rw [if_pos rfl] at HO
      go_wp2_with fail
      go_ret2
      exact retP_mk (by rw [HO.out]; rfl) (by rw [HO.out]) HB.out
    · have g0 : ((X : Int) == 0) = false := by rw [beq_eq_false_iff_ne]; omega
      rw [if_neg h0] at HO
      have hF0 : Hid (X ≠ 0) := by show _ ≠ _; omega
      go_wp2_with fail
      refine (Q.round_s _ sz d hsz rm false _ _ _ X 0 false hB (by omega) hF0 (Lib.hid (fun q => nomatch q)) (by omega) (by omega)).mono ?_; rintro e w4 ⟨rfl, bq⟩
      replace HB := Lib.hid (HB.out.trans (bq.mono HB.out.size)); clear bq
      go_wp2_with fail
      go_ret2
      exact retP_mk (by rw [HO.out]) (by rw [HO.out]) HB.out
set_option maxRecDepth 100000 in
set_option maxHeartbeats 1000000 in
theorem frm_11 (sz : Int) (d : Bool) (hsz : Hid (SzOk sz d)) (rm : Int) (hrm : Hid (0 ≤ rm ∧ rm ≤ 4)) (x X : Nat) (hx : Hid (x < 18446744073709551616)) (hX : heldV true true x = X) (lX : Hid (X < 18446744073709551616)) (w : World) :
    Calls Try.prog 19 #[.int .i64 sz, .int .i64 rm, .bool true, .bool true, .int .u64 x] w (RetP (frmR d rm true true x) w) := by
  have HO : Hid (frmR d rm true true x = if X = 0 then (0, 0) else Q.roundR d rm (heldM true true x) (heldF true true x) 0 false) := by show _ = _; unfold frmR; rw [hX]
  have EA := and_word x hx.out
  obtain ⟨x', hx'⟩ : ∃ x', x % 4294967296 = x' := ⟨_, rfl⟩
  rw [hx'] at EA
  have HM : heldM true true x = false := rfl
  have HF : heldF true true x = X := by rw [heldF_u]; exact hX
  obtain rfl : X = x' := by rw [← hX, ← hx']; rfl
  rw [HM, HF] at HO; clear HM HF hX hx'
  go_enter Try.func19, Try.ntmps19
  go_wp2_with fail
  refine (rright_m sz d hsz rm hrm _).mono ?_; rintro e w1 ⟨rfl, bq⟩
  have HB := Lib.hid bq; clear bq
  go_wp2_with fail
  refine (Q.ofInt_c X lX _).mono ?_; rintro e w2 ⟨g, n, p, rfl, hA, bq⟩
  replace HB := Lib.hid (HB.out.trans (bq.mono HB.out.size)); clear bq
  have HB2 := HB
  have l1 := len3 hA.out (Nat.lt_of_lt_of_le lX.out (by decide))
  have b0 := Q.below_one w2 (Obj.cells #[.bool false, .slice (some ⟨g, 0, none⟩) n p, .int .i64 0] 67)
  have hB := Lib.hid (Q.big_below hA.out b0 (Nat.le_refl _))
  replace HB := Lib.hid (HB.out.trans (b0.mono HB.out.size)); clear b0
  by_cases h0 : X = 0
  · subst h0
    rw [if_pos rfl] at HO
    go_wp2_with fail
    go_ret2
    exact retP_mk (by rw [HO.out]; rfl) (by rw [HO.out]) HB.out
  · have g0 : ((X : Int) == 0) = false := by rw [beq_eq_false_iff_ne]; omega
    rw [if_neg h0] at HO
    have hF0 : Hid (X ≠ 0) := by show _ ≠ _; omega
    go_wp2_with fail
    refine (Q.round_s _ sz d hsz rm false _ _ _ X 0 false hB (by omega) hF0 (Lib.hid (fun q => nomatch q)) (by omega) (by omega)).mono ?_; rintro e w4 ⟨rfl, bq⟩
    replace HB := Lib.hid (HB.out.trans (bq.mono HB.out.size)); clear bq
    go_wp2_with fail
    go_ret2
    exact retP_mk (by rw [HO.out]) (by rw [HO.out]) HB.out
theorem FromInt_r (sz : Int) (d : Bool) (hsz : Hid (SzOk sz d)) (rm : Int) (hrm : Hid (0 ≤ rm ∧ rm ≤ 4)) (wd u : Bool) (x : Nat) (hx : Hid (x < 18446744073709551616)) (w : World) :
    Calls Try.prog 19 #[.int .i64 sz, .int .i64 rm, .bool wd, .bool u, .int .u64 x] w (RetP (frmR d rm wd u x) w) := by
  have lX : Hid (heldV wd u x < 18446744073709551616) := by
    have := hx.out
    show _ < _
    unfold heldV
    split
    · split
      · omega
      · exact wideV_lt x
    · exact this
  cases wd <;> cases u
  · exact frm_00 sz d hsz rm hrm x _ hx rfl lX w
  · exact frm_01 sz d hsz rm hrm x _ hx rfl lX w
  · exact frm_10 sz d hsz rm hrm x _ hx rfl lX w
  · exact frm_11 sz d hsz rm hrm x _ hx rfl lX w
theorem fromInt_eq (d : Bool) (rm : Int) (hr : 0 ≤ rm ∧ rm ≤ 4) (wd u : Bool) (x : Nat) (hx : x < 18446744073709551616) : roundV d rm (heldM wd u x) 0 (heldF wd u x) = frmR d rm wd u x := by
  unfold frmR
  by_cases h : heldV wd u x = 0
  · rw [if_pos h]
    have hm : heldM wd u x = false := by unfold heldM; rw [h]; cases u <;> rfl
    have hf : heldF wd u x = 0 := by unfold heldF; rw [hm, h]; rfl
    rw [hm, hf]; rfl
  · rw [if_neg h]
    have hl := heldF_lt wd u x hx
    refine roundV_R d rm _ 0 _ ?_ hl hr
    unfold heldF
    split
    · next q =>
      have lV : heldV wd u x < 18446744073709551616 := by unfold heldV; split; split; omega; exact wideV_lt x; exact hx
      omega
    · exact h
end Go.Proofs.Yteinjalnkhfecaa
