/- Taken from other texts: what is needed of them. -/
import Derived.Test.YthhlcchofilimaaGreatDoorUA
import Derived.Test.YthhlcchofilimaaGreatDoorUB
import Derived.Test.YthhlcchofilimaaGreatDoorUC
import Derived.Test.YthhlcchofilimaaGreatDoorUD
import Derived.Test.YthhlcchofilimaaGreatDoorUE
import Derived.Test.YthhlcchofilimaaGreatDoorUG
import Derived.Test.YthhlcchofilimaaGreatDoorUI
import Derived.Test.YthhlcchofilimaaGreatDoorUJ
import Derived.Deep.RegionHeld3
namespace Go.Proofs.YthhlcchofilimaaGreatDoor.U
set_option linter.unusedVariables false
set_option linter.unusedSimpArgs false
set_option maxRecDepth 20000
open Go.ChangeShapes Go.WideShapes Go.ChangeAt Go.RowKit
open M (Fp Dj Cw Up Th Grp GrpAt jn exT)
set_option maxRecDepth 20000
/-- Is there a register at that place, of that size? -/
def okD (x : Nat) (z : Int) : Bool := if dvK x = 1 then decide (K.kd (farN x 33554432) z ≠ 0) else if dvK x = 2 then decide (P.pk (farN x 201326592) z ≠ 0) else if dvK x = 3 then T.okK (T.kd (farN x 268435456) z) else false
/-- What is read there, and what the devices then are. -/
def Dv.val (D : Dv) (x : Nat) (z : Int) : Nat := if dvK x = 1 then K.rdK (K.kd (farN x 33554432) z) D.s D.a D.t else if dvK x = 2 then P.valP (P.pk (farN x 201326592) z) D.S else if dvK x = 3 then T.valK (T.kd (farN x 268435456) z) D.U else 0
def Dv.rd (D : Dv) (x : Nat) (z : Int) : Dv := if dvK x = 2 then { D with S := P.nextP (P.pk (farN x 201326592) z) D.S } else if dvK x = 3 then { D with U := T.nextK (T.kd (farN x 268435456) z) D.U } else D
/-- What a write leaves of them. -/
def Dv.wr (D : Dv) (x : Nat) (z : Int) (v : Nat) : Dv := if dvK x = 1 then { D with s := K.wrS (K.kd (farN x 33554432) z) D.s v, a := K.wrA (K.kd (farN x 33554432) z) D.a v, t := K.wrT (K.kd (farN x 33554432) z) D.t v } else if dvK x = 2 then { D with S := P.wrP (P.pk (farN x 201326592) z) D.S v } else if dvK x = 3 then { D with U := T.wrK (T.kd (farN x 268435456) z) D.U v } else D
theorem dvK_cases (x : Nat) : (dvK x = 1 ∧ 33554432 ≤ x ∧ x < 33619968) ∨ (dvK x = 2 ∧ 201326592 ≤ x ∧ x < 205520896) ∨ (dvK x = 3 ∧ 268435456 ≤ x ∧ x < 268435464) ∨ (dvK x = 0 ∧ ¬ (33554432 ≤ x ∧ x < 33619968) ∧ ¬ (201326592 ≤ x ∧ x < 205520896) ∧ ¬ (268435456 ≤ x ∧ x < 268435464)) := by
  unfold dvK
  by_cases h1 : 33554432 ≤ x ∧ x < 33619968
  · exact .inl ⟨by rw [if_pos h1], h1⟩
  by_cases h2 : 201326592 ≤ x ∧ x < 205520896
  · exact .inr (.inl ⟨by rw [if_neg h1, if_pos h2], h2⟩)
  by_cases h3 : 268435456 ≤ x ∧ x < 268435464
  · exact .inr (.inr (.inl ⟨by rw [if_neg h1, if_neg h2, if_pos h3], h3⟩))
  exact .inr (.inr (.inr ⟨by rw [if_neg h1, if_neg h2, if_neg h3], h1, h2, h3⟩))
theorem far_lt (x k : Nat) : farN x k < W64 := Nat.mod_lt _ (by decide)
theorem nread (x : Nat) (z : Int) (w : World) : Calls Tryz.prog 145 #[.agg #[], .int .u64 x, .int .i64 z] w (fun e w' => e = .returned (.tuple #[.int .u64 0, .bool false]) ∧ Below w.heap.size w w') := by
  go_enter Tryz.func145, Tryz.ntmps145
  go_wp2_with fail
  go_ret2
  exact ⟨rfl, (by repeat (first | (with_reducible first | exact Below.refl _ _ | assumption | exact Nat.le_refl _ | refine Below.drew ?_ | refine Below.alloc ?_ ?_ _ | refine below_drewN ?_ _ | refine Below.setCell ?_ ?_ _ | refine le_alloc ?_ | refine le_set ?_ | refine le_drew ?_ | refine le_drewN ?_ | refine below_step (by assumption) ?_ ?_ | refine le_below (by assumption) ?_) | (dsimp only; omega)))⟩
theorem dl_cells {R0 W0 : Fp} {w0 w : World} {b o c p u : Nat} {D : Dv} {l : List Th} (h : Grp R0 W0 w0 (eDv b o c p u D.one :: l) w) : ∃ R W : Fp, (eDv b o c p u D.one).P R W w := h.get 0 rfl
theorem dread_1 (b o c p u : Nat) (D : Dv) (R W : Fp) (w0 w : World) (hG : Hid (Grp R W w0 (dl b o c p u D) w)) (x : Nat) (z : Int) (hx : Hid (x < W64)) (hz : Hid ((Lit.int .i64 z).wf = true)) (hk : Hid (33554432 ≤ x ∧ x < 33619968)) : Calls Tryz.prog 74 #[.pointer (some ⟨b, o, none⟩), .int .u64 x, .int .i64 z] w (fun e w' => e = .returned (.tuple #[.int .u64 (K.rdK (K.kd (farN x 33554432) z) D.s D.a D.t : Nat), .bool (decide (K.kd (farN x 33554432) z ≠ 0))]) ∧ Grp R W w0 (dl b o c p u (Dv.fol D)) w') := by
  obtain ⟨R1, W1, hD⟩ := dl_cells hG.out
  have HF := Lib.hid (find_1 b o c p u D.one R1 W1 x hx hk.out w (Lib.hid hD))
  clear hD hx hk
  have hfl := far_lt x 33554432
  generalize farN x 33554432 = far at *
  have HR : Hid (Calls Tryz.prog 127 #[.pointer (some ⟨c, 0, none⟩), .int .u64 (far : Nat), .int .i64 z] w (fun e w' => e = .returned (.tuple #[.int .u64 (K.rdK (K.kd (far) z) D.s D.a D.t : Nat), .bool (decide (K.kd (far) z ≠ 0))]) ∧ Grp R W w0 (dl b o c p u D) w')) := ((hG.out.step 1 rfl _ (fun R W q => readC q far z hfl hz.out)))
  clear hz hG hfl
  generalize K.rdK (K.kd (far) z) D.s D.a D.t = vv at *
  generalize (decide (K.kd (far) z ≠ 0)) = bb at *
  go_enter Tryz.func74, Tryz.ntmps74
  go_wp2_with fail
  refine HF.out.mono ?_; rintro e w1 ⟨rfl, e1⟩; subst e1
  go_wp2_with fail
  refine HR.out.mono ?_; rintro e w1 ⟨rfl, g1⟩
  have G1 := Lib.hid g1; clear g1
  go_wp2_with fail
  refine (follow_g b o c p u D R W w0 w1 G1).mono ?_; rintro e w2 ⟨rfl, g2⟩
  have G2 := Lib.hid g2; clear g2
  go_wp2_with fail
  go_ret2
  exact ⟨rfl, G2.out⟩
theorem dread_2 (b o c p u : Nat) (D : Dv) (R W : Fp) (w0 w : World) (hG : Hid (Grp R W w0 (dl b o c p u D) w)) (x : Nat) (z : Int) (hx : Hid (x < W64)) (hz : Hid ((Lit.int .i64 z).wf = true)) (hk : Hid (201326592 ≤ x ∧ x < 205520896)) : Calls Tryz.prog 74 #[.pointer (some ⟨b, o, none⟩), .int .u64 x, .int .i64 z] w (fun e w' => e = .returned (.tuple #[.int .u64 (P.valP (P.pk (farN x 201326592) z) D.S : Nat), .bool (decide (P.pk (farN x 201326592) z ≠ 0))]) ∧ Grp R W w0 (dl b o c p u (Dv.fol { D with S := P.nextP (P.pk (farN x 201326592) z) D.S })) w') := by
  obtain ⟨R1, W1, hD⟩ := dl_cells hG.out
  have HF := Lib.hid (find_2 b o c p u D.one R1 W1 x hx hk.out w (Lib.hid hD))
  clear hD hx hk
  have hfl := far_lt x 201326592
  generalize farN x 201326592 = far at *
  have HR : Hid (Calls Tryz.prog 131 #[.pointer (some ⟨p, 0, none⟩), .int .u64 (far : Nat), .int .i64 z] w (fun e w' => e = .returned (.tuple #[.int .u64 (P.valP (P.pk (far) z) D.S : Nat), .bool (decide (P.pk (far) z ≠ 0))]) ∧ Grp R W w0 (dl b o c p u { D with S := P.nextP (P.pk (far) z) D.S }) w')) := ((hG.out.step 2 rfl _ (fun R W q => readP q far z)))
  clear hz hG hfl
  generalize P.valP (P.pk (far) z) D.S = vv at *
  generalize (decide (P.pk (far) z ≠ 0)) = bb at *
  go_enter Tryz.func74, Tryz.ntmps74
  go_wp2_with fail
  refine HF.out.mono ?_; rintro e w1 ⟨rfl, e1⟩; subst e1
  go_wp2_with fail
  refine HR.out.mono ?_; rintro e w1 ⟨rfl, g1⟩
  have G1 := Lib.hid g1; clear g1
  go_wp2_with fail
  refine (follow_g b o c p u { D with S := P.nextP (P.pk (far) z) D.S } R W w0 w1 G1).mono ?_; rintro e w2 ⟨rfl, g2⟩
  have G2 := Lib.hid g2; clear g2
  go_wp2_with fail
  go_ret2
  exact ⟨rfl, G2.out⟩
theorem dread_3 (b o c p u : Nat) (D : Dv) (R W : Fp) (w0 w : World) (hG : Hid (Grp R W w0 (dl b o c p u D) w)) (x : Nat) (z : Int) (hx : Hid (x < W64)) (hz : Hid ((Lit.int .i64 z).wf = true)) (hk : Hid (268435456 ≤ x ∧ x < 268435464)) : Calls Tryz.prog 74 #[.pointer (some ⟨b, o, none⟩), .int .u64 x, .int .i64 z] w (fun e w' => e = .returned (.tuple #[.int .u64 (T.valK (T.kd (farN x 268435456) z) D.U : Nat), .bool (T.okK (T.kd (farN x 268435456) z))]) ∧ Grp R W w0 (dl b o c p u (Dv.fol { D with U := T.nextK (T.kd (farN x 268435456) z) D.U })) w') := by
  obtain ⟨R1, W1, hD⟩ := dl_cells hG.out
  have HF := Lib.hid (find_3 b o c p u D.one R1 W1 x hx hk.out w (Lib.hid hD))
  clear hD hx hk
  have hfl := far_lt x 268435456
  generalize farN x 268435456 = far at *
  have HR : Hid (Calls Tryz.prog 138 #[.pointer (some ⟨u, 0, none⟩), .int .u64 (far : Nat), .int .i64 z] w (fun e w' => e = .returned (.tuple #[.int .u64 (T.valK (T.kd (far) z) D.U : Nat), .bool (T.okK (T.kd (far) z))]) ∧ Grp R W w0 (dl b o c p u { D with U := T.nextK (T.kd (far) z) D.U }) w')) := ((hG.out.step 3 rfl _ (fun R W q => readU q far z)))
  clear hz hG hfl
  generalize T.valK (T.kd (far) z) D.U = vv at *
  generalize (T.okK (T.kd (far) z)) = bb at *
  go_enter Tryz.func74, Tryz.ntmps74
  go_wp2_with fail
  refine HF.out.mono ?_; rintro e w1 ⟨rfl, e1⟩; subst e1
  go_wp2_with fail
  refine HR.out.mono ?_; rintro e w1 ⟨rfl, g1⟩
  have G1 := Lib.hid g1; clear g1
  go_wp2_with fail
  refine (follow_g b o c p u { D with U := T.nextK (T.kd (far) z) D.U } R W w0 w1 G1).mono ?_; rintro e w2 ⟨rfl, g2⟩
  have G2 := Lib.hid g2; clear g2
  go_wp2_with fail
  go_ret2
  exact ⟨rfl, G2.out⟩
theorem dread_0 (b o c p u : Nat) (D : Dv) (R W : Fp) (w0 w : World) (hG : Hid (Grp R W w0 (dl b o c p u D) w)) (x : Nat) (z : Int) (hx : Hid (x < W64)) (hk : Hid (¬ (33554432 ≤ x ∧ x < 33619968) ∧ ¬ (201326592 ≤ x ∧ x < 205520896) ∧ ¬ (268435456 ≤ x ∧ x < 268435464))) : Calls Tryz.prog 74 #[.pointer (some ⟨b, o, none⟩), .int .u64 x, .int .i64 z] w (fun e w' => e = .returned (.tuple #[.int .u64 0, .bool false]) ∧ Grp R W w0 (dl b o c p u D.fol) w') := by
  obtain ⟨R1, W1, hD⟩ := dl_cells hG.out
  have HF := Lib.hid (find_0 b o c p u D.one R1 W1 x hx hk.out w (Lib.hid hD))
  clear hD hx hk
  go_enter Tryz.func74, Tryz.ntmps74
  go_wp2_with fail
  refine HF.out.mono ?_; rintro e w1 ⟨rfl, e1⟩; subst e1
  go_wp2_with fail
  refine (nread x z _).mono ?_; rintro e w1 ⟨rfl, hb⟩
  go_wp2_with fail
  refine (follow_g b o c p u D R W w0 _ (Lib.hid (hG.out.below hb))).mono ?_; rintro e w2 ⟨rfl, g2⟩
  have G2 := Lib.hid g2; clear g2
  go_wp2_with fail
  go_ret2
  exact ⟨rfl, G2.out⟩
theorem dread_g (b o c p u : Nat) (D : Dv) (R W : Fp) (w0 w : World) (hG : Hid (Grp R W w0 (dl b o c p u D) w)) (x : Nat) (z : Int) (hx : Hid (x < W64)) (hz : Hid ((Lit.int .i64 z).wf = true)) : Calls Tryz.prog 74 #[.pointer (some ⟨b, o, none⟩), .int .u64 x, .int .i64 z] w (fun e w' => e = .returned (.tuple #[.int .u64 (D.val x z : Nat), .bool (okD x z)]) ∧ Grp R W w0 (dl b o c p u (D.rd x z).fol) w') := by
  rcases dvK_cases x with ⟨e, h⟩ | ⟨e, h⟩ | ⟨e, h⟩ | ⟨e, h⟩
  · have e1 : D.val x z = K.rdK (K.kd (farN x 33554432) z) D.s D.a D.t := by unfold Dv.val; rw [e]; rw [if_pos rfl]
    have e2 : okD x z = decide (K.kd (farN x 33554432) z ≠ 0) := by unfold okD; rw [e]; rw [if_pos rfl]
    have e3 : D.rd x z = D := by unfold Dv.rd; rw [e]; rw [if_neg (by decide), if_neg (by decide)]
    rw [e1, e2, e3]
    exact dread_1 b o c p u D R W w0 w hG x z hx hz (Lib.hid h)
  · have e1 : D.val x z = P.valP (P.pk (farN x 201326592) z) D.S := by unfold Dv.val; rw [e]; rw [if_neg (by decide), if_pos rfl]
    have e2 : okD x z = decide (P.pk (farN x 201326592) z ≠ 0) := by unfold okD; rw [e]; rw [if_neg (by decide), if_pos rfl]
    have e3 : D.rd x z = { D with S := P.nextP (P.pk (farN x 201326592) z) D.S } := by unfold Dv.rd; rw [e]; rw [if_pos rfl]
    rw [e1, e2, e3]
    exact dread_2 b o c p u D R W w0 w hG x z hx hz (Lib.hid h)
  · have e1 : D.val x z = T.valK (T.kd (farN x 268435456) z) D.U := by unfold Dv.val; rw [e]; rw [if_neg (by decide), if_neg (by decide), if_pos rfl]
    have e2 : okD x z = T.okK (T.kd (farN x 268435456) z) := by unfold okD; rw [e]; rw [if_neg (by decide), if_neg (by decide), if_pos rfl]
    have e3 : D.rd x z = { D with U := T.nextK (T.kd (farN x 268435456) z) D.U } := by unfold Dv.rd; rw [e]; rw [if_neg (by decide), if_pos rfl]
    rw [e1, e2, e3]
    exact dread_3 b o c p u D R W w0 w hG x z hx hz (Lib.hid h)
  · have e1 : D.val x z = 0 := by unfold Dv.val; rw [e]; rw [if_neg (by decide), if_neg (by decide), if_neg (by decide)]
    have e2 : okD x z = false := by unfold okD; rw [e]; rw [if_neg (by decide), if_neg (by decide), if_neg (by decide)]
    have e3 : D.rd x z = D := by unfold Dv.rd; rw [e]; rw [if_neg (by decide), if_neg (by decide)]
    rw [e1, e2, e3]
    exact dread_0 b o c p u D R W w0 w hG x z hx (Lib.hid h)
end Go.Proofs.YthhlcchofilimaaGreatDoor.U
