/- TlbPages from what the code's six functions do. -/
import Derived.Test.YtdplcdgdndeopaaC10
import Derived.Test.YtdplcdgdndeopaaC11
import Derived.Test.YtdplcdgdndeopaaC12
import Derived.Test.YtdplcdgdndeopaaC13
import Derived.Test.YtdplcdgdndeopaaC14
namespace Go.Proofs.Ytdplcdgdndeopaa
open Go.ChangeShapes Go.WideShapes Go.ChangeAt Go.RowKit Go.Sort
set_option linter.unusedVariables false
set_option linter.unusedSimpArgs false
theorem k5_eq (ad P : Nat) (hP : 1 ≤ P) : IntKind.u64.wrap (IntKind.u64.wrap ((ad : Int) + ((P - 1 : Nat) : Int)) + 1) = (((ad + P) % 18446744073709551616 : Nat) : Int) := by
  simp only [IntKind.wrap_u64]; omega
theorem k6_eq (ad : Nat) : IntKind.u64.wrap ((ad : Int) - 1) = (((ad + 18446744073709551615) % 18446744073709551616 : Nat) : Int) := by
  simp only [IntKind.wrap_u64]; omega
theorem lv_wf {l : Int} (h : 0 ≤ l ∧ l ≤ 2) : (Lit.int .i64 l).wf = true := by
  have : l = 0 ∨ l = 1 ∨ l = 2 := by omega
  rcases this with rfl | rfl | rfl <;> decide
theorem allOne {T : Nat → St → Th} (O : TlbOk T) {w : World} {X1 : St} (hX : X1.Ok) {x : En} (ha : allS X1 = [x]) : Hid (∀ (l : List Th) (u : World) (i b : Nat), Grp w l u → l[i]? = some (T b X1) → Calls Try.prog 20 #[.pointer (some ⟨b, 0, none⟩)] u (fun e w' => ∃ g c, e = .returned (.slice (some ⟨g, 0, none⟩) 1 c) ∧ Grp w l w' ∧ w'.cell? ⟨g, 0, none⟩ = some (.int .u64 (x.ad : Nat)) ∧ w'.cell? ⟨g, 1, none⟩ = some (.int .i64 x.lv) ∧ w'.cell? ⟨g, 2, none⟩ = some (.int .u64 (x.sp : Nat)) ∧ w'.cell? ⟨g, 3, none⟩ = some (.bool x.gl) ∧ w'.cell? ⟨g, 4, none⟩ = some (.int .u64 (x.lf : Nat)))) := fun l u i b h hi => by
  refine (allG O h i hi hX).mono ?_
  rintro e w' ⟨v, rfl, h1, h2, h3⟩
  rw [ha] at h1
  obtain ⟨a, c, rfl⟩ := h1.slice
  obtain ⟨-, q⟩ := h1.cells
  obtain ⟨g, rfl, -, -, r⟩ := q Nat.one_pos
  have r0 := r 0 x rfl 0 (by decide)
  have r1 := r 0 x rfl 1 (by decide)
  have r2 := r 0 x rfl 2 (by decide)
  have r3 := r 0 x rfl 3 (by decide)
  have r4 := r 0 x rfl 4 (by decide)
  simp only [Nat.zero_mul, Nat.zero_add] at r0 r1 r2 r3 r4
  exact ⟨g, c, rfl, h2, r0, r1, r2, r3, r4⟩
theorem findOne {T : Nat → St → Th} (O : TlbOk T) {w : World} {X1 : St} (hX : X1.Ok) (s a : Nat) (hs : s < 18446744073709551616) (ha : a < 18446744073709551616) {x : En} {r : Bool} (h1 : findE X1 s a = x) (h2 : findB X1 s a = r) :
    Hid (∀ (l : List Th) (u : World) (i b : Nat), Grp w l u → l[i]? = some (T b X1) → Calls Try.prog 14 #[.pointer (some ⟨b, 0, none⟩), .int .u64 (s : Nat), .int .u64 (a : Nat)] u (fun e w' => e = .returned (.tuple #[.agg x.v, .bool r]) ∧ Grp w l w')) := fun l u i b h hi => by
  have := findG O h i hi hX s a hs ha
  rw [h1, h2] at this; exact this
set_option maxRecDepth 100000 in
theorem pk_0 (ad0 sp0 lf aw s2 a2 : Nat) (gl : Bool) (h1 : ad0 < 18446744073709551616) (h5 : a2 < 18446744073709551616) (h6 : aw < 18446744073709551616) : ∃ ad sp aw' a1 a2' a3 a4 : Nat,
    (okP ⟨ad, 0, sp, gl, lf⟩ = true ∧ hasB ⟨ad, 0, sp, gl, lf⟩ a1 = true ∧ hasB ⟨ad, 0, sp, gl, lf⟩ a2 = (a2' == ad) ∧ hasB ⟨ad, 0, sp, gl, lf⟩ a3 = false ∧ hasB ⟨ad, 0, sp, gl, lf⟩ a4 = false) ∧
    bits .andNot .u64 (ad0 : Int) 4095 = (ad : Int) ∧ bits .and .u64 (aw : Int) 4095 = (aw' : Int) ∧ bits .andNot .u64 (a2 : Int) 4095 = (a2' : Int) ∧ bits .or .u64 (ad : Int) (aw' : Int) = (a1 : Int) ∧ IntKind.u64.wrap (IntKind.u64.wrap ((ad : Int) + 4095) + 1) = (a3 : Int) ∧ IntKind.u64.wrap ((ad : Int) - 1) = (a4 : Int) ∧ (sp0 : Int) % 65536 = (sp : Int) ∧
    a1 < 18446744073709551616 ∧ a3 < 18446744073709551616 ∧ a4 < 18446744073709551616 ∧ ad < 18446744073709551616 ∧ sp < 18446744073709551616 := by
  have b1 : ad0 / 4096 * 4096 + aw % 4096 < 18446744073709551616 := by omega
  have b0 : ad0 / 4096 * 4096 < 18446744073709551616 := Nat.lt_of_le_of_lt (Nat.div_mul_le_self _ _) h1
  have b5 : sp0 % 65536 < 18446744073709551616 := Nat.lt_of_lt_of_le (Nat.mod_lt _ (by decide)) (by decide)
  exact ⟨ad0 / 4096 * 4096, sp0 % 65536, aw % 4096, ad0 / 4096 * 4096 + aw % 4096, a2 / 4096 * 4096, (ad0 / 4096 * 4096 + 4096) % 18446744073709551616, (ad0 / 4096 * 4096 + 18446744073709551615) % 18446744073709551616, pg_0 ad0 sp0 lf aw s2 a2 gl h1 h5,
    low_not ad0 12 h1 (by decide), low_and aw 12 h6 (by decide), low_not a2 12 h5 (by decide), low_or (ad0 / 4096 * 4096) (aw % 4096) 12 (Nat.mul_mod_left _ _) (Nat.mod_lt _ (Nat.two_pow_pos 12)) b1, k5_eq (ad0 / 4096 * 4096) 4096 (by decide), k6_eq (ad0 / 4096 * 4096), by simp, b1, Nat.mod_lt _ (by decide), Nat.mod_lt _ (by decide), b0, b5⟩
set_option maxRecDepth 100000 in
theorem pgs_0 {T : Nat → St → Th} (O : TlbOk T) (w : World) (kd lv : Int) (ad0 sp0 lf s2 a2 aw : Nat) (gl : Bool) (hq : lv.tmod 3 = 0) (h1 : ad0 < 18446744073709551616) (h2 : sp0 < 18446744073709551616) (h3 : lf < 18446744073709551616) (h4 : s2 < 18446744073709551616) (h5 : a2 < 18446744073709551616) (h6 : aw < 18446744073709551616) :
    Calls Try.prog 6 #[.agg #[.int .i64 kd, .int .u64 (ad0 : Nat), .int .i64 lv, .int .u64 (sp0 : Nat), .bool gl, .int .u64 (lf : Nat)], .int .u64 (s2 : Nat), .int .u64 (a2 : Nat), .int .u64 (aw : Nat)] w (RetB true w) := by
  obtain ⟨ad, sp, aw', a1, a2', a3, a4, ⟨p1, p2, p3, p4, p5⟩, k1, k2, k3, k4, k5, k6, k7, b1, b3, b4, b0, b5⟩ := pk_0 ad0 sp0 lf aw s2 a2 gl h1 h5 h6
  have hw : En.Wf ⟨ad, 0, sp, gl, lf⟩ := ⟨b0, lv_wf (l := 0) (by decide), b5, h3⟩
  have e1 := cast_beq a2' ad
  have e2 := cast_beq s2 sp
  have m2 : meantB ⟨ad, 0, sp, gl, lf⟩ s2 = (gl || s2 == sp) := by show (gl || sp == s2) = _; rw [Bool.beq_comm]
  generalize (a2' == ad) = q1 at e1 p3
  generalize (s2 == sp) = q2 at e2 m2
  have hX : (oneS ⟨ad, 0, sp, gl, lf⟩ lf).Ok := by rw [← put_one _ lf p1]; exact putS_ok _ (S0_ok lf h3) _ hw
  have m1 : meantB ⟨ad, 0, sp, gl, lf⟩ sp = true := by show (gl || sp == sp) = true; simp
  have f1 := one_find ⟨ad, 0, sp, gl, lf⟩ lf sp a1
  have f2 := one_find ⟨ad, 0, sp, gl, lf⟩ lf s2 a2
  have f3 := one_find ⟨ad, 0, sp, gl, lf⟩ lf sp a3
  have f4 := one_find ⟨ad, 0, sp, gl, lf⟩ lf sp a4
  rw [p2, m1] at f1
  rw [p3, m2] at f2
  rw [p4] at f3
  rw [p5] at f4
  have hp := put_one ⟨ad, 0, sp, gl, lf⟩ lf p1
  have hall := one_all ⟨ad, 0, sp, gl, lf⟩ lf
  generalize oneS ⟨ad, 0, sp, gl, lf⟩ lf = X1 at f1 f2 f3 f4 hp hall hX
  refine pages_0 O w kd lv ad0 sp0 lf s2 a2 aw ad sp aw' a1 a2' a3 a4 gl q1 q2 X1 hq k1 k7 k2 k4 k3 e1 e2 k5 k6
    (Lib.hid fun l u h => newG O h lf h3) (Lib.hid fun l u i b h hi => ?_)
    (findOne O hX _ _ b5 b1 f1.1 f1.2) (findOne O hX _ _ h4 h5 ?_ f2.2) (findOne O hX _ _ b5 b3 f3.1 f3.2) (findOne O hX _ _ b5 b4 f4.1 f4.2) (allOne O hX hall)
  · have := putG O h i hi (S0_ok lf h3) ⟨ad, 0, sp, gl, lf⟩ hw
    rw [p1, hp] at this; exact this
  · rw [f2.1]
    cases (q1 && (gl || q2)) <;> rfl
set_option maxRecDepth 100000 in
theorem pk_1 (ad0 sp0 lf aw s2 a2 : Nat) (gl : Bool) (h1 : ad0 < 18446744073709551616) (h5 : a2 < 18446744073709551616) (h6 : aw < 18446744073709551616) : ∃ ad sp aw' a1 a2' a3 a4 : Nat,
    (okP ⟨ad, 1, sp, gl, lf⟩ = true ∧ hasB ⟨ad, 1, sp, gl, lf⟩ a1 = true ∧ hasB ⟨ad, 1, sp, gl, lf⟩ a2 = (a2' == ad) ∧ hasB ⟨ad, 1, sp, gl, lf⟩ a3 = false ∧ hasB ⟨ad, 1, sp, gl, lf⟩ a4 = false) ∧
    bits .andNot .u64 (ad0 : Int) 2097151 = (ad : Int) ∧ bits .and .u64 (aw : Int) 2097151 = (aw' : Int) ∧ bits .andNot .u64 (a2 : Int) 2097151 = (a2' : Int) ∧ bits .or .u64 (ad : Int) (aw' : Int) = (a1 : Int) ∧ IntKind.u64.wrap (IntKind.u64.wrap ((ad : Int) + 2097151) + 1) = (a3 : Int) ∧ IntKind.u64.wrap ((ad : Int) - 1) = (a4 : Int) ∧ (sp0 : Int) % 65536 = (sp : Int) ∧
    a1 < 18446744073709551616 ∧ a3 < 18446744073709551616 ∧ a4 < 18446744073709551616 ∧ ad < 18446744073709551616 ∧ sp < 18446744073709551616 := by
  have b1 : ad0 / 2097152 * 2097152 + aw % 2097152 < 18446744073709551616 := by omega
  have b0 : ad0 / 2097152 * 2097152 < 18446744073709551616 := Nat.lt_of_le_of_lt (Nat.div_mul_le_self _ _) h1
  have b5 : sp0 % 65536 < 18446744073709551616 := Nat.lt_of_lt_of_le (Nat.mod_lt _ (by decide)) (by decide)
  exact ⟨ad0 / 2097152 * 2097152, sp0 % 65536, aw % 2097152, ad0 / 2097152 * 2097152 + aw % 2097152, a2 / 2097152 * 2097152, (ad0 / 2097152 * 2097152 + 2097152) % 18446744073709551616, (ad0 / 2097152 * 2097152 + 18446744073709551615) % 18446744073709551616, pg_1 ad0 sp0 lf aw s2 a2 gl h1 h5,
    low_not ad0 21 h1 (by decide), low_and aw 21 h6 (by decide), low_not a2 21 h5 (by decide), low_or (ad0 / 2097152 * 2097152) (aw % 2097152) 21 (Nat.mul_mod_left _ _) (Nat.mod_lt _ (Nat.two_pow_pos 21)) b1, k5_eq (ad0 / 2097152 * 2097152) 2097152 (by decide), k6_eq (ad0 / 2097152 * 2097152), by simp, b1, Nat.mod_lt _ (by decide), Nat.mod_lt _ (by decide), b0, b5⟩
set_option maxRecDepth 100000 in
theorem pgs_1 {T : Nat → St → Th} (O : TlbOk T) (w : World) (kd lv : Int) (ad0 sp0 lf s2 a2 aw : Nat) (gl : Bool) (hq : lv.tmod 3 = 1) (h1 : ad0 < 18446744073709551616) (h2 : sp0 < 18446744073709551616) (h3 : lf < 18446744073709551616) (h4 : s2 < 18446744073709551616) (h5 : a2 < 18446744073709551616) (h6 : aw < 18446744073709551616) :
    Calls Try.prog 6 #[.agg #[.int .i64 kd, .int .u64 (ad0 : Nat), .int .i64 lv, .int .u64 (sp0 : Nat), .bool gl, .int .u64 (lf : Nat)], .int .u64 (s2 : Nat), .int .u64 (a2 : Nat), .int .u64 (aw : Nat)] w (RetB true w) := by
  obtain ⟨ad, sp, aw', a1, a2', a3, a4, ⟨p1, p2, p3, p4, p5⟩, k1, k2, k3, k4, k5, k6, k7, b1, b3, b4, b0, b5⟩ := pk_1 ad0 sp0 lf aw s2 a2 gl h1 h5 h6
  have hw : En.Wf ⟨ad, 1, sp, gl, lf⟩ := ⟨b0, lv_wf (l := 1) (by decide), b5, h3⟩
  have e1 := cast_beq a2' ad
  have e2 := cast_beq s2 sp
  have m2 : meantB ⟨ad, 1, sp, gl, lf⟩ s2 = (gl || s2 == sp) := by show (gl || sp == s2) = _; rw [Bool.beq_comm]
  generalize (a2' == ad) = q1 at e1 p3
  generalize (s2 == sp) = q2 at e2 m2
  have hX : (oneS ⟨ad, 1, sp, gl, lf⟩ lf).Ok := by rw [← put_one _ lf p1]; exact putS_ok _ (S0_ok lf h3) _ hw
  have m1 : meantB ⟨ad, 1, sp, gl, lf⟩ sp = true := by show (gl || sp == sp) = true; simp
  have f1 := one_find ⟨ad, 1, sp, gl, lf⟩ lf sp a1
  have f2 := one_find ⟨ad, 1, sp, gl, lf⟩ lf s2 a2
  have f3 := one_find ⟨ad, 1, sp, gl, lf⟩ lf sp a3
  have f4 := one_find ⟨ad, 1, sp, gl, lf⟩ lf sp a4
  rw [p2, m1] at f1
  rw [p3, m2] at f2
  rw [p4] at f3
  rw [p5] at f4
  have hp := put_one ⟨ad, 1, sp, gl, lf⟩ lf p1
  have hall := one_all ⟨ad, 1, sp, gl, lf⟩ lf
  generalize oneS ⟨ad, 1, sp, gl, lf⟩ lf = X1 at f1 f2 f3 f4 hp hall hX
  refine pages_1 O w kd lv ad0 sp0 lf s2 a2 aw ad sp aw' a1 a2' a3 a4 gl q1 q2 X1 hq k1 k7 k2 k4 k3 e1 e2 k5 k6
    (Lib.hid fun l u h => newG O h lf h3) (Lib.hid fun l u i b h hi => ?_)
    (findOne O hX _ _ b5 b1 f1.1 f1.2) (findOne O hX _ _ h4 h5 ?_ f2.2) (findOne O hX _ _ b5 b3 f3.1 f3.2) (findOne O hX _ _ b5 b4 f4.1 f4.2) (allOne O hX hall)
  · have := putG O h i hi (S0_ok lf h3) ⟨ad, 1, sp, gl, lf⟩ hw
    rw [p1, hp] at this; exact this
  · rw [f2.1]
    cases (q1 && (gl || q2)) <;> rfl
set_option maxRecDepth 100000 in
theorem pgs_m1 {T : Nat → St → Th} (O : TlbOk T) (w : World) (kd lv : Int) (ad0 sp0 lf s2 a2 aw : Nat) (gl : Bool) (hq : lv.tmod 3 = (-1)) (h1 : ad0 < 18446744073709551616) (h2 : sp0 < 18446744073709551616) (h3 : lf < 18446744073709551616) (h4 : s2 < 18446744073709551616) (h5 : a2 < 18446744073709551616) (h6 : aw < 18446744073709551616) :
    Calls Try.prog 6 #[.agg #[.int .i64 kd, .int .u64 (ad0 : Nat), .int .i64 lv, .int .u64 (sp0 : Nat), .bool gl, .int .u64 (lf : Nat)], .int .u64 (s2 : Nat), .int .u64 (a2 : Nat), .int .u64 (aw : Nat)] w (RetB true w) := by
  obtain ⟨ad, sp, aw', a1, a2', a3, a4, ⟨p1, p2, p3, p4, p5⟩, k1, k2, k3, k4, k5, k6, k7, b1, b3, b4, b0, b5⟩ := pk_1 ad0 sp0 lf aw s2 a2 gl h1 h5 h6
  have hw : En.Wf ⟨ad, 1, sp, gl, lf⟩ := ⟨b0, lv_wf (l := 1) (by decide), b5, h3⟩
  have e1 := cast_beq a2' ad
  have e2 := cast_beq s2 sp
  have m2 : meantB ⟨ad, 1, sp, gl, lf⟩ s2 = (gl || s2 == sp) := by show (gl || sp == s2) = _; rw [Bool.beq_comm]
  generalize (a2' == ad) = q1 at e1 p3
  generalize (s2 == sp) = q2 at e2 m2
  have hX : (oneS ⟨ad, 1, sp, gl, lf⟩ lf).Ok := by rw [← put_one _ lf p1]; exact putS_ok _ (S0_ok lf h3) _ hw
  have m1 : meantB ⟨ad, 1, sp, gl, lf⟩ sp = true := by show (gl || sp == sp) = true; simp
  have f1 := one_find ⟨ad, 1, sp, gl, lf⟩ lf sp a1
  have f2 := one_find ⟨ad, 1, sp, gl, lf⟩ lf s2 a2
  have f3 := one_find ⟨ad, 1, sp, gl, lf⟩ lf sp a3
  have f4 := one_find ⟨ad, 1, sp, gl, lf⟩ lf sp a4
  rw [p2, m1] at f1
  rw [p3, m2] at f2
  rw [p4] at f3
  rw [p5] at f4
  have hp := put_one ⟨ad, 1, sp, gl, lf⟩ lf p1
  have hall := one_all ⟨ad, 1, sp, gl, lf⟩ lf
  generalize oneS ⟨ad, 1, sp, gl, lf⟩ lf = X1 at f1 f2 f3 f4 hp hall hX
  refine pages_m1 O w kd lv ad0 sp0 lf s2 a2 aw ad sp aw' a1 a2' a3 a4 gl q1 q2 X1 hq k1 k7 k2 k4 k3 e1 e2 k5 k6
    (Lib.hid fun l u h => newG O h lf h3) (Lib.hid fun l u i b h hi => ?_)
    (findOne O hX _ _ b5 b1 f1.1 f1.2) (findOne O hX _ _ h4 h5 ?_ f2.2) (findOne O hX _ _ b5 b3 f3.1 f3.2) (findOne O hX _ _ b5 b4 f4.1 f4.2) (allOne O hX hall)
  · have := putG O h i hi (S0_ok lf h3) ⟨ad, 1, sp, gl, lf⟩ hw
    rw [p1, hp] at this; exact this
  · rw [f2.1]
    cases (q1 && (gl || q2)) <;> rfl
set_option maxRecDepth 100000 in
theorem pk_2 (ad0 sp0 lf aw s2 a2 : Nat) (gl : Bool) (h1 : ad0 < 18446744073709551616) (h5 : a2 < 18446744073709551616) (h6 : aw < 18446744073709551616) : ∃ ad sp aw' a1 a2' a3 a4 : Nat,
    (okP ⟨ad, 2, sp, gl, lf⟩ = true ∧ hasB ⟨ad, 2, sp, gl, lf⟩ a1 = true ∧ hasB ⟨ad, 2, sp, gl, lf⟩ a2 = (a2' == ad) ∧ hasB ⟨ad, 2, sp, gl, lf⟩ a3 = false ∧ hasB ⟨ad, 2, sp, gl, lf⟩ a4 = false) ∧
    bits .andNot .u64 (ad0 : Int) 1073741823 = (ad : Int) ∧ bits .and .u64 (aw : Int) 1073741823 = (aw' : Int) ∧ bits .andNot .u64 (a2 : Int) 1073741823 = (a2' : Int) ∧ bits .or .u64 (ad : Int) (aw' : Int) = (a1 : Int) ∧ IntKind.u64.wrap (IntKind.u64.wrap ((ad : Int) + 1073741823) + 1) = (a3 : Int) ∧ IntKind.u64.wrap ((ad : Int) - 1) = (a4 : Int) ∧ (sp0 : Int) % 65536 = (sp : Int) ∧
    a1 < 18446744073709551616 ∧ a3 < 18446744073709551616 ∧ a4 < 18446744073709551616 ∧ ad < 18446744073709551616 ∧ sp < 18446744073709551616 := by
  have b1 : ad0 / 1073741824 * 1073741824 + aw % 1073741824 < 18446744073709551616 := by omega
  have b0 : ad0 / 1073741824 * 1073741824 < 18446744073709551616 := Nat.lt_of_le_of_lt (Nat.div_mul_le_self _ _) h1
  have b5 : sp0 % 65536 < 18446744073709551616 := Nat.lt_of_lt_of_le (Nat.mod_lt _ (by decide)) (by decide)
  exact ⟨ad0 / 1073741824 * 1073741824, sp0 % 65536, aw % 1073741824, ad0 / 1073741824 * 1073741824 + aw % 1073741824, a2 / 1073741824 * 1073741824, (ad0 / 1073741824 * 1073741824 + 1073741824) % 18446744073709551616, (ad0 / 1073741824 * 1073741824 + 18446744073709551615) % 18446744073709551616, pg_2 ad0 sp0 lf aw s2 a2 gl h1 h5,
    low_not ad0 30 h1 (by decide), low_and aw 30 h6 (by decide), low_not a2 30 h5 (by decide), low_or (ad0 / 1073741824 * 1073741824) (aw % 1073741824) 30 (Nat.mul_mod_left _ _) (Nat.mod_lt _ (Nat.two_pow_pos 30)) b1, k5_eq (ad0 / 1073741824 * 1073741824) 1073741824 (by decide), k6_eq (ad0 / 1073741824 * 1073741824), by simp, b1, Nat.mod_lt _ (by decide), Nat.mod_lt _ (by decide), b0, b5⟩
set_option maxRecDepth 100000 in
theorem pgs_2 {T : Nat → St → Th} (O : TlbOk T) (w : World) (kd lv : Int) (ad0 sp0 lf s2 a2 aw : Nat) (gl : Bool) (hq : lv.tmod 3 = 2) (h1 : ad0 < 18446744073709551616) (h2 : sp0 < 18446744073709551616) (h3 : lf < 18446744073709551616) (h4 : s2 < 18446744073709551616) (h5 : a2 < 18446744073709551616) (h6 : aw < 18446744073709551616) :
    Calls Try.prog 6 #[.agg #[.int .i64 kd, .int .u64 (ad0 : Nat), .int .i64 lv, .int .u64 (sp0 : Nat), .bool gl, .int .u64 (lf : Nat)], .int .u64 (s2 : Nat), .int .u64 (a2 : Nat), .int .u64 (aw : Nat)] w (RetB true w) := by
  obtain ⟨ad, sp, aw', a1, a2', a3, a4, ⟨p1, p2, p3, p4, p5⟩, k1, k2, k3, k4, k5, k6, k7, b1, b3, b4, b0, b5⟩ := pk_2 ad0 sp0 lf aw s2 a2 gl h1 h5 h6
  have hw : En.Wf ⟨ad, 2, sp, gl, lf⟩ := ⟨b0, lv_wf (l := 2) (by decide), b5, h3⟩
  have e1 := cast_beq a2' ad
  have e2 := cast_beq s2 sp
  have m2 : meantB ⟨ad, 2, sp, gl, lf⟩ s2 = (gl || s2 == sp) := by show (gl || sp == s2) = _; rw [Bool.beq_comm]
  generalize (a2' == ad) = q1 at e1 p3
  generalize (s2 == sp) = q2 at e2 m2
  have hX : (oneS ⟨ad, 2, sp, gl, lf⟩ lf).Ok := by rw [← put_one _ lf p1]; exact putS_ok _ (S0_ok lf h3) _ hw
  have m1 : meantB ⟨ad, 2, sp, gl, lf⟩ sp = true := by show (gl || sp == sp) = true; simp
  have f1 := one_find ⟨ad, 2, sp, gl, lf⟩ lf sp a1
  have f2 := one_find ⟨ad, 2, sp, gl, lf⟩ lf s2 a2
  have f3 := one_find ⟨ad, 2, sp, gl, lf⟩ lf sp a3
  have f4 := one_find ⟨ad, 2, sp, gl, lf⟩ lf sp a4
  rw [p2, m1] at f1
  rw [p3, m2] at f2
  rw [p4] at f3
  rw [p5] at f4
  have hp := put_one ⟨ad, 2, sp, gl, lf⟩ lf p1
  have hall := one_all ⟨ad, 2, sp, gl, lf⟩ lf
  generalize oneS ⟨ad, 2, sp, gl, lf⟩ lf = X1 at f1 f2 f3 f4 hp hall hX
  refine pages_2 O w kd lv ad0 sp0 lf s2 a2 aw ad sp aw' a1 a2' a3 a4 gl q1 q2 X1 hq k1 k7 k2 k4 k3 e1 e2 k5 k6
    (Lib.hid fun l u h => newG O h lf h3) (Lib.hid fun l u i b h hi => ?_)
    (findOne O hX _ _ b5 b1 f1.1 f1.2) (findOne O hX _ _ h4 h5 ?_ f2.2) (findOne O hX _ _ b5 b3 f3.1 f3.2) (findOne O hX _ _ b5 b4 f4.1 f4.2) (allOne O hX hall)
  · have := putG O h i hi (S0_ok lf h3) ⟨ad, 2, sp, gl, lf⟩ hw
    rw [p1, hp] at this; exact this
  · rw [f2.1]
    cases (q1 && (gl || q2)) <;> rfl
set_option maxRecDepth 100000 in
theorem pgs_m2 {T : Nat → St → Th} (O : TlbOk T) (w : World) (kd lv : Int) (ad0 sp0 lf s2 a2 aw : Nat) (gl : Bool) (hq : lv.tmod 3 = (-2)) (h1 : ad0 < 18446744073709551616) (h2 : sp0 < 18446744073709551616) (h3 : lf < 18446744073709551616) (h4 : s2 < 18446744073709551616) (h5 : a2 < 18446744073709551616) (h6 : aw < 18446744073709551616) :
    Calls Try.prog 6 #[.agg #[.int .i64 kd, .int .u64 (ad0 : Nat), .int .i64 lv, .int .u64 (sp0 : Nat), .bool gl, .int .u64 (lf : Nat)], .int .u64 (s2 : Nat), .int .u64 (a2 : Nat), .int .u64 (aw : Nat)] w (RetB true w) := by
  obtain ⟨ad, sp, aw', a1, a2', a3, a4, ⟨p1, p2, p3, p4, p5⟩, k1, k2, k3, k4, k5, k6, k7, b1, b3, b4, b0, b5⟩ := pk_2 ad0 sp0 lf aw s2 a2 gl h1 h5 h6
  have hw : En.Wf ⟨ad, 2, sp, gl, lf⟩ := ⟨b0, lv_wf (l := 2) (by decide), b5, h3⟩
  have e1 := cast_beq a2' ad
  have e2 := cast_beq s2 sp
  have m2 : meantB ⟨ad, 2, sp, gl, lf⟩ s2 = (gl || s2 == sp) := by show (gl || sp == s2) = _; rw [Bool.beq_comm]
  generalize (a2' == ad) = q1 at e1 p3
  generalize (s2 == sp) = q2 at e2 m2
  have hX : (oneS ⟨ad, 2, sp, gl, lf⟩ lf).Ok := by rw [← put_one _ lf p1]; exact putS_ok _ (S0_ok lf h3) _ hw
  have m1 : meantB ⟨ad, 2, sp, gl, lf⟩ sp = true := by show (gl || sp == sp) = true; simp
  have f1 := one_find ⟨ad, 2, sp, gl, lf⟩ lf sp a1
  have f2 := one_find ⟨ad, 2, sp, gl, lf⟩ lf s2 a2
  have f3 := one_find ⟨ad, 2, sp, gl, lf⟩ lf sp a3
  have f4 := one_find ⟨ad, 2, sp, gl, lf⟩ lf sp a4
  rw [p2, m1] at f1
  rw [p3, m2] at f2
  rw [p4] at f3
  rw [p5] at f4
  have hp := put_one ⟨ad, 2, sp, gl, lf⟩ lf p1
  have hall := one_all ⟨ad, 2, sp, gl, lf⟩ lf
  generalize oneS ⟨ad, 2, sp, gl, lf⟩ lf = X1 at f1 f2 f3 f4 hp hall hX
  refine pages_m2 O w kd lv ad0 sp0 lf s2 a2 aw ad sp aw' a1 a2' a3 a4 gl q1 q2 X1 hq k1 k7 k2 k4 k3 e1 e2 k5 k6
    (Lib.hid fun l u h => newG O h lf h3) (Lib.hid fun l u i b h hi => ?_)
    (findOne O hX _ _ b5 b1 f1.1 f1.2) (findOne O hX _ _ h4 h5 ?_ f2.2) (findOne O hX _ _ b5 b3 f3.1 f3.2) (findOne O hX _ _ b5 b4 f4.1 f4.2) (allOne O hX hall)
  · have := putG O h i hi (S0_ok lf h3) ⟨ad, 2, sp, gl, lf⟩ hw
    rw [p1, hp] at this; exact this
  · rw [f2.1]
    cases (q1 && (gl || q2)) <;> rfl
theorem pages_core {T : Nat → St → Th} (O : TlbOk T) (w : World) (kd lv : Int) (ad0 sp0 lf s2 a2 aw : Nat) (gl : Bool) (h1 : ad0 < 18446744073709551616) (h2 : sp0 < 18446744073709551616) (h3 : lf < 18446744073709551616) (h4 : s2 < 18446744073709551616) (h5 : a2 < 18446744073709551616) (h6 : aw < 18446744073709551616) :
    Calls Try.prog 6 #[.agg #[.int .i64 kd, .int .u64 (ad0 : Nat), .int .i64 lv, .int .u64 (sp0 : Nat), .bool gl, .int .u64 (lf : Nat)], .int .u64 (s2 : Nat), .int .u64 (a2 : Nat), .int .u64 (aw : Nat)] w (RetB true w) := by
  have hc : lv.tmod 3 = 0 ∨ lv.tmod 3 = 1 ∨ lv.tmod 3 = 2 ∨ lv.tmod 3 = -1 ∨ lv.tmod 3 = -2 := by
    by_cases h : 0 ≤ lv
    · rw [Int.tmod_eq_emod_of_nonneg h]; omega
    · have e : lv = -(-lv) := by omega
      rw [e, Int.neg_tmod, Int.tmod_eq_emod_of_nonneg (by omega)]; omega
  rcases hc with h | h | h | h | h
  · exact pgs_0 O w kd lv ad0 sp0 lf s2 a2 aw gl h h1 h2 h3 h4 h5 h6
  · exact pgs_1 O w kd lv ad0 sp0 lf s2 a2 aw gl h h1 h2 h3 h4 h5 h6
  · exact pgs_2 O w kd lv ad0 sp0 lf s2 a2 aw gl h h1 h2 h3 h4 h5 h6
  · exact pgs_m1 O w kd lv ad0 sp0 lf s2 a2 aw gl h h1 h2 h3 h4 h5 h6
  · exact pgs_m2 O w kd lv ad0 sp0 lf s2 a2 aw gl h h1 h2 h3 h4 h5 h6
end Go.Proofs.Ytdplcdgdndeopaa
