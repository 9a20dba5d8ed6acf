/- The document's bus: which device; a device's register; the first line. -/
import Derived.Test.YtoicpikkcefheaaGreatSA
import Derived.StillTailTactics
namespace Go.Proofs.YtoicpikkcefheaaGreat
open Go.ChangeShapes Go.WideShapes Go.ChangeAt Go.RowKit Go.Sort
open M (Fp Dj Cw Up Th Grp GrpAt jn exT)
set_option linter.unusedVariables false
set_option linter.unusedSimpArgs false
set_option maxRecDepth 20000
def dvPl (x : Nat) : Nat := if dvK x = 1 then farN x 33554432 else if dvK x = 2 then farN x 201326592 else if dvK x = 3 then farN x 268435456 else 0
def RetDv (x : Nat) (W : World) (e : Ending) (w' : World) : Prop := e = .returned (.tuple #[.int .i64 (dvK x : Nat), .int .u64 (dvPl x : Nat)]) ∧ w' = W
theorem retDv_mk {x d p : Nat} {W : World} (h1 : dvK x = d) (h2 : dvPl x = p) : RetDv x W (.returned (.tuple #[.int .i64 (d : Nat), .int .u64 (p : Nat)])) W := ⟨by rw [h1, h2], rfl⟩
theorem device_0 (x : Nat) (hx : x < W64) (hk : x < 33554432) (w : World) : Calls Tryz.prog 38 #[.int .u64 x] w (RetDv x w) := by
  unfold W64 at hx
  have l0 : decide ((33554432 : Int) ≤ x) = false := decide_eq_false (by omega)
  have n0 : ¬ (33554432 : Int) ≤ x := by omega
  have m0 : ¬ 33554432 ≤ x := by omega
  have l1 : decide ((x : Int) < 33619968) = true := decide_eq_true (by omega)
  have n1 : (x : Int) < 33619968 := by omega
  have m1 : x < 33619968 := by omega
  have l2 : decide ((201326592 : Int) ≤ x) = false := decide_eq_false (by omega)
  have n2 : ¬ (201326592 : Int) ≤ x := by omega
  have m2 : ¬ 201326592 ≤ x := by omega
  have l3 : decide ((x : Int) < 205520896) = true := decide_eq_true (by omega)
  have n3 : (x : Int) < 205520896 := by omega
  have m3 : x < 205520896 := by omega
  have l4 : decide ((268435456 : Int) ≤ x) = false := decide_eq_false (by omega)
  have n4 : ¬ (268435456 : Int) ≤ x := by omega
  have m4 : ¬ 268435456 ≤ x := by omega
  have l5 : decide ((x : Int) < 268435464) = true := decide_eq_true (by omega)
  have n5 : (x : Int) < 268435464 := by omega
  have m5 : x < 268435464 := by omega
  have e1 : dvK x = 0 := by rcases dvK_cases x with ⟨e, h⟩ | ⟨e, h⟩ | ⟨e, h⟩ | ⟨e, h⟩ <;> first | exact e | omega
  have HF : Hid (∀ w, RetDv x w (.returned (.tuple #[.int .i64 0, .int .u64 0])) w) := fun w => retDv_mk e1 (by unfold dvPl; rw [e1]; rw [if_neg (by decide), if_neg (by decide), if_neg (by decide)])
  clear e1
  clear hk hx
  go_enter Tryz.func38, Tryz.ntmps38
  go_wp2_with fail
  go_ret2
  exact HF.out _
theorem device_1 (x : Nat) (hx : x < W64) (hk : 33554432 ≤ x ∧ x < 33619968) (w : World) : Calls Tryz.prog 38 #[.int .u64 x] w (RetDv x w) := by
  unfold W64 at hx
  have l0 : decide ((33554432 : Int) ≤ x) = true := decide_eq_true (by omega)
  have n0 : (33554432 : Int) ≤ x := by omega
  have m0 : 33554432 ≤ x := by omega
  have l1 : decide ((x : Int) < 33619968) = true := decide_eq_true (by omega)
  have n1 : (x : Int) < 33619968 := by omega
  have m1 : x < 33619968 := by omega
  have l2 : decide ((201326592 : Int) ≤ x) = false := decide_eq_false (by omega)
  have n2 : ¬ (201326592 : Int) ≤ x := by omega
  have m2 : ¬ 201326592 ≤ x := by omega
  have l3 : decide ((x : Int) < 205520896) = true := decide_eq_true (by omega)
  have n3 : (x : Int) < 205520896 := by omega
  have m3 : x < 205520896 := by omega
  have l4 : decide ((268435456 : Int) ≤ x) = false := decide_eq_false (by omega)
  have n4 : ¬ (268435456 : Int) ≤ x := by omega
  have m4 : ¬ 268435456 ≤ x := by omega
  have l5 : decide ((x : Int) < 268435464) = true := decide_eq_true (by omega)
  have n5 : (x : Int) < 268435464 := by omega
  have m5 : x < 268435464 := by omega
  have q1 : IntKind.u64.wrap ((x : Int) - 33554432) = ((farN x 33554432 : Nat) : Int) := by rw [IntKind.wrap_u64]; unfold farN; omega
  have e1 : dvK x = 1 := by rcases dvK_cases x with ⟨e, h⟩ | ⟨e, h⟩ | ⟨e, h⟩ | ⟨e, h⟩ <;> first | exact e | omega
  have HF : Hid (∀ w, RetDv x w (.returned (.tuple #[.int .i64 1, .int .u64 (farN x 33554432 : Nat)])) w) := fun w => retDv_mk e1 (by unfold dvPl; rw [e1]; rw [if_pos rfl])
  generalize farN x 33554432 = y at *
  clear e1
  clear hk hx
  go_enter Tryz.func38, Tryz.ntmps38
  go_wp2_with fail
  go_ret2
  exact HF.out _
theorem device_2 (x : Nat) (hx : x < W64) (hk : 33619968 ≤ x ∧ x < 201326592) (w : World) : Calls Tryz.prog 38 #[.int .u64 x] w (RetDv x w) := by
  unfold W64 at hx
  have l0 : decide ((33554432 : Int) ≤ x) = true := decide_eq_true (by omega)
  have n0 : (33554432 : Int) ≤ x := by omega
  have m0 : 33554432 ≤ x := by omega
  have l1 : decide ((x : Int) < 33619968) = false := decide_eq_false (by omega)
  have n1 : ¬ (x : Int) < 33619968 := by omega
  have m1 : ¬ x < 33619968 := by omega
  have l2 : decide ((201326592 : Int) ≤ x) = false := decide_eq_false (by omega)
  have n2 : ¬ (201326592 : Int) ≤ x := by omega
  have m2 : ¬ 201326592 ≤ x := by omega
  have l3 : decide ((x : Int) < 205520896) = true := decide_eq_true (by omega)
  have n3 : (x : Int) < 205520896 := by omega
  have m3 : x < 205520896 := by omega
  have l4 : decide ((268435456 : Int) ≤ x) = false := decide_eq_false (by omega)
  have n4 : ¬ (268435456 : Int) ≤ x := by omega
  have m4 : ¬ 268435456 ≤ x := by omega
  have l5 : decide ((x : Int) < 268435464) = true := decide_eq_true (by omega)
  have n5 : (x : Int) < 268435464 := by omega
  have m5 : x < 268435464 := by omega
  have e1 : dvK x = 0 := by rcases dvK_cases x with ⟨e, h⟩ | ⟨e, h⟩ | ⟨e, h⟩ | ⟨e, h⟩ <;> first | exact e | omega
  have HF : Hid (∀ w, RetDv x w (.returned (.tuple #[.int .i64 0, .int .u64 0])) w) := fun w => retDv_mk e1 (by unfold dvPl; rw [e1]; rw [if_neg (by decide), if_neg (by decide), if_neg (by decide)])
  clear e1
  clear hk hx
  go_enter Tryz.func38, Tryz.ntmps38
  go_wp2_with fail
  go_ret2
  exact HF.out _
theorem device_3 (x : Nat) (hx : x < W64) (hk : 201326592 ≤ x ∧ x < 205520896) (w : World) : Calls Tryz.prog 38 #[.int .u64 x] w (RetDv x w) := by
  unfold W64 at hx
  have l0 : decide ((33554432 : Int) ≤ x) = true := decide_eq_true (by omega)
  have n0 : (33554432 : Int) ≤ x := by omega
  have m0 : 33554432 ≤ x := by omega
  have l1 : decide ((x : Int) < 33619968) = false := decide_eq_false (by omega)
  have n1 : ¬ (x : Int) < 33619968 := by omega
  have m1 : ¬ x < 33619968 := by omega
  have l2 : decide ((201326592 : Int) ≤ x) = true := decide_eq_true (by omega)
  have n2 : (201326592 : Int) ≤ x := by omega
  have m2 : 201326592 ≤ x := by omega
  have l3 : decide ((x : Int) < 205520896) = true := decide_eq_true (by omega)
  have n3 : (x : Int) < 205520896 := by omega
  have m3 : x < 205520896 := by omega
  have l4 : decide ((268435456 : Int) ≤ x) = false := decide_eq_false (by omega)
  have n4 : ¬ (268435456 : Int) ≤ x := by omega
  have m4 : ¬ 268435456 ≤ x := by omega
  have l5 : decide ((x : Int) < 268435464) = true := decide_eq_true (by omega)
  have n5 : (x : Int) < 268435464 := by omega
  have m5 : x < 268435464 := by omega
  have q1 : IntKind.u64.wrap ((x : Int) - 201326592) = ((farN x 201326592 : Nat) : Int) := by rw [IntKind.wrap_u64]; unfold farN; omega
  have e1 : dvK x = 2 := by rcases dvK_cases x with ⟨e, h⟩ | ⟨e, h⟩ | ⟨e, h⟩ | ⟨e, h⟩ <;> first | exact e | omega
  have HF : Hid (∀ w, RetDv x w (.returned (.tuple #[.int .i64 2, .int .u64 (farN x 201326592 : Nat)])) w) := fun w => retDv_mk e1 (by unfold dvPl; rw [e1]; rw [if_neg (by decide), if_pos rfl])
  generalize farN x 201326592 = y at *
  clear e1
  clear hk hx
  go_enter Tryz.func38, Tryz.ntmps38
  go_wp2_with fail
  go_ret2
  exact HF.out _
theorem device_4 (x : Nat) (hx : x < W64) (hk : 205520896 ≤ x ∧ x < 268435456) (w : World) : Calls Tryz.prog 38 #[.int .u64 x] w (RetDv x w) := by
  unfold W64 at hx
  have l0 : decide ((33554432 : Int) ≤ x) = true := decide_eq_true (by omega)
  have n0 : (33554432 : Int) ≤ x := by omega
  have m0 : 33554432 ≤ x := by omega
  have l1 : decide ((x : Int) < 33619968) = false := decide_eq_false (by omega)
  have n1 : ¬ (x : Int) < 33619968 := by omega
  have m1 : ¬ x < 33619968 := by omega
  have l2 : decide ((201326592 : Int) ≤ x) = true := decide_eq_true (by omega)
  have n2 : (201326592 : Int) ≤ x := by omega
  have m2 : 201326592 ≤ x := by omega
  have l3 : decide ((x : Int) < 205520896) = false := decide_eq_false (by omega)
  have n3 : ¬ (x : Int) < 205520896 := by omega
  have m3 : ¬ x < 205520896 := by omega
  have l4 : decide ((268435456 : Int) ≤ x) = false := decide_eq_false (by omega)
  have n4 : ¬ (268435456 : Int) ≤ x := by omega
  have m4 : ¬ 268435456 ≤ x := by omega
  have l5 : decide ((x : Int) < 268435464) = true := decide_eq_true (by omega)
  have n5 : (x : Int) < 268435464 := by omega
  have m5 : x < 268435464 := by omega
  have e1 : dvK x = 0 := by rcases dvK_cases x with ⟨e, h⟩ | ⟨e, h⟩ | ⟨e, h⟩ | ⟨e, h⟩ <;> first | exact e | omega
  have HF : Hid (∀ w, RetDv x w (.returned (.tuple #[.int .i64 0, .int .u64 0])) w) := fun w => retDv_mk e1 (by unfold dvPl; rw [e1]; rw [if_neg (by decide), if_neg (by decide), if_neg (by decide)])
  clear e1
  clear hk hx
  go_enter Tryz.func38, Tryz.ntmps38
  go_wp2_with fail
  go_ret2
  exact HF.out _
theorem device_5 (x : Nat) (hx : x < W64) (hk : 268435456 ≤ x ∧ x < 268435464) (w : World) : Calls Tryz.prog 38 #[.int .u64 x] w (RetDv x w) := by
  unfold W64 at hx
  have l0 : decide ((33554432 : Int) ≤ x) = true := decide_eq_true (by omega)
  have n0 : (33554432 : Int) ≤ x := by omega
  have m0 : 33554432 ≤ x := by omega
  have l1 : decide ((x : Int) < 33619968) = false := decide_eq_false (by omega)
  have n1 : ¬ (x : Int) < 33619968 := by omega
  have m1 : ¬ x < 33619968 := by omega
  have l2 : decide ((201326592 : Int) ≤ x) = true := decide_eq_true (by omega)
  have n2 : (201326592 : Int) ≤ x := by omega
  have m2 : 201326592 ≤ x := by omega
  have l3 : decide ((x : Int) < 205520896) = false := decide_eq_false (by omega)
  have n3 : ¬ (x : Int) < 205520896 := by omega
  have m3 : ¬ x < 205520896 := by omega
  have l4 : decide ((268435456 : Int) ≤ x) = true := decide_eq_true (by omega)
  have n4 : (268435456 : Int) ≤ x := by omega
  have m4 : 268435456 ≤ x := by omega
  have l5 : decide ((x : Int) < 268435464) = true := decide_eq_true (by omega)
  have n5 : (x : Int) < 268435464 := by omega
  have m5 : x < 268435464 := by omega
  have q1 : IntKind.u64.wrap ((x : Int) - 268435456) = ((farN x 268435456 : Nat) : Int) := by rw [IntKind.wrap_u64]; unfold farN; omega
  have e1 : dvK x = 3 := by rcases dvK_cases x with ⟨e, h⟩ | ⟨e, h⟩ | ⟨e, h⟩ | ⟨e, h⟩ <;> first | exact e | omega
  have HF : Hid (∀ w, RetDv x w (.returned (.tuple #[.int .i64 3, .int .u64 (farN x 268435456 : Nat)])) w) := fun w => retDv_mk e1 (by unfold dvPl; rw [e1]; rw [if_neg (by decide), if_neg (by decide), if_pos rfl])
  generalize farN x 268435456 = y at *
  clear e1
  clear hk hx
  go_enter Tryz.func38, Tryz.ntmps38
  go_wp2_with fail
  go_ret2
  exact HF.out _
theorem device_6 (x : Nat) (hx : x < W64) (hk : 268435464 ≤ x) (w : World) : Calls Tryz.prog 38 #[.int .u64 x] w (RetDv x w) := by
  unfold W64 at hx
  have l0 : decide ((33554432 : Int) ≤ x) = true := decide_eq_true (by omega)
  have n0 : (33554432 : Int) ≤ x := by omega
  have m0 : 33554432 ≤ x := by omega
  have l1 : decide ((x : Int) < 33619968) = false := decide_eq_false (by omega)
  have n1 : ¬ (x : Int) < 33619968 := by omega
  have m1 : ¬ x < 33619968 := by omega
  have l2 : decide ((201326592 : Int) ≤ x) = true := decide_eq_true (by omega)
  have n2 : (201326592 : Int) ≤ x := by omega
  have m2 : 201326592 ≤ x := by omega
  have l3 : decide ((x : Int) < 205520896) = false := decide_eq_false (by omega)
  have n3 : ¬ (x : Int) < 205520896 := by omega
  have m3 : ¬ x < 205520896 := by omega
  have l4 : decide ((268435456 : Int) ≤ x) = true := decide_eq_true (by omega)
  have n4 : (268435456 : Int) ≤ x := by omega
  have m4 : 268435456 ≤ x := by omega
  have l5 : decide ((x : Int) < 268435464) = false := decide_eq_false (by omega)
  have n5 : ¬ (x : Int) < 268435464 := by omega
  have m5 : ¬ x < 268435464 := by omega
  have e1 : dvK x = 0 := by rcases dvK_cases x with ⟨e, h⟩ | ⟨e, h⟩ | ⟨e, h⟩ | ⟨e, h⟩ <;> first | exact e | omega
  have HF : Hid (∀ w, RetDv x w (.returned (.tuple #[.int .i64 0, .int .u64 0])) w) := fun w => retDv_mk e1 (by unfold dvPl; rw [e1]; rw [if_neg (by decide), if_neg (by decide), if_neg (by decide)])
  clear e1
  clear hk hx
  go_enter Tryz.func38, Tryz.ntmps38
  go_wp2_with fail
  go_ret2
  exact HF.out _
theorem device_c (x : Nat) (hx : x < W64) (w : World) : Calls Tryz.prog 38 #[.int .u64 x] w (RetDv x w) := by
  by_cases h0 : x < 33554432
  · exact device_0 x hx h0 w
  by_cases h1 : x < 33619968
  · exact device_1 x hx ⟨by omega, h1⟩ w
  by_cases h2 : x < 201326592
  · exact device_2 x hx ⟨by omega, h2⟩ w
  by_cases h3 : x < 205520896
  · exact device_3 x hx ⟨by omega, h3⟩ w
  by_cases h4 : x < 268435456
  · exact device_4 x hx ⟨by omega, h4⟩ w
  by_cases h5 : x < 268435464
  · exact device_5 x hx ⟨by omega, h5⟩ w
  exact device_6 x hx (by omega) w
/-- The three devices, behind something and before something. -/
abbrev dz (A : Th) (c p u N : Nat) (D : Dv) (l : List Th) : List Th := A :: eK c D.s D.a D.t :: eZ p D.S :: eV u N D.U :: l
theorem look_0 (A : Th) (r c p u N : Nat) (D : Dv) (l : List Th) (R W : Fp) (w0 w : World) (hG : Hid (Grp R W w0 (dz A c p u N D l) w)) (hN : Hid (N < 70368744177664)) (c1 : w.cell? ⟨r, 1, none⟩ = some (.pointer (some ⟨c, 0, none⟩))) (c2 : w.cell? ⟨r, 2, none⟩ = some (.pointer (some ⟨p, 0, none⟩))) (c3 : w.cell? ⟨r, 3, none⟩ = some (.pointer (some ⟨u, 0, none⟩))) (x : Nat) (z : Int) (hx : x < W64) (hd : dvK x = 0) : Calls Tryz.prog 46 #[.pointer (some ⟨r, 0, none⟩), .int .u64 x, .int .i64 z] w (fun e w' => e = .returned (.tuple #[.int .u64 (D.val x z : Nat), .bool (okD x z)]) ∧ Grp R W w0 (dz A c p u N (D.rd x z) l) w') := by
  have HD := Lib.hid (device_c x hx w)
  unfold RetDv at HD
  rw [hd] at HD
  have e1 : D.val x z = 0 := by unfold Dv.val; rw [hd]; rw [if_neg (by decide), if_neg (by decide), if_neg (by decide)]
  have e2 : okD x z = false := by unfold okD; rw [hd]; rw [if_neg (by decide), if_neg (by decide), if_neg (by decide)]
  have e3 : D.rd x z = D := by unfold Dv.rd; rw [hd]; rw [if_neg (by decide), if_neg (by decide)]
  rw [e1, e2, e3]
  clear e1 e2 e3 hx hd hN
  generalize dvPl x = y at *
  go_enter Tryz.func46, Tryz.ntmps46
  go_wp2_with fail
  refine HD.out.mono ?_; rintro e w1 ⟨rfl, q⟩; subst q
  go_wp2_with fail
  go_ret2
  exact ⟨rfl, hG.out⟩
theorem look_1 (A : Th) (r c p u N : Nat) (D : Dv) (l : List Th) (R W : Fp) (w0 w : World) (hG : Hid (Grp R W w0 (dz A c p u N D l) w)) (hN : Hid (N < 70368744177664)) (c1 : w.cell? ⟨r, 1, none⟩ = some (.pointer (some ⟨c, 0, none⟩))) (c2 : w.cell? ⟨r, 2, none⟩ = some (.pointer (some ⟨p, 0, none⟩))) (c3 : w.cell? ⟨r, 3, none⟩ = some (.pointer (some ⟨u, 0, none⟩))) (x : Nat) (z : Int) (hx : x < W64) (hd : dvK x = 1) : Calls Tryz.prog 46 #[.pointer (some ⟨r, 0, none⟩), .int .u64 x, .int .i64 z] w (fun e w' => e = .returned (.tuple #[.int .u64 (D.val x z : Nat), .bool (okD x z)]) ∧ Grp R W w0 (dz A c p u N (D.rd x z) l) w') := by
  have HD := Lib.hid (device_c x hx w)
  unfold RetDv at HD
  rw [hd] at HD
  rw [show dvPl x = farN x 33554432 by unfold dvPl; rw [hd]; rw [if_pos rfl]] at HD
  have e1 : D.val x z = K.rdK (K.kd (farN x 33554432) z) D.s D.a D.t := by unfold Dv.val; rw [hd]; rw [if_pos rfl]
  have e2 : okD x z = decide (K.kd (farN x 33554432) z ≠ 0) := by unfold okD; rw [hd]; rw [if_pos rfl]
  have e3 : D.rd x z = D := by unfold Dv.rd; rw [hd]; rw [if_neg (by decide), if_neg (by decide)]
  have HR : Hid (Calls Tryz.prog 84 #[.pointer (some ⟨c, 0, none⟩), .int .u64 (farN x 33554432 : Nat), .int .i64 z] w (fun e w' => e = .returned (.tuple #[.int .u64 (D.val x z : Nat), .bool (okD x z)]) ∧ Grp R W w0 (dz A c p u N (D.rd x z) l) w')) := by
    rw [e1, e2, e3]
    exact hG.out.step 1 rfl _ (fun R W q => readK q (farN x 33554432) z)
  clear e1 e2 e3 hG hx hd hN
  generalize farN x 33554432 = y at *
  generalize D.val x z = vv at *
  generalize okD x z = bb at *
  generalize dz A c p u N (D.rd x z) l = ll at *
  go_enter Tryz.func46, Tryz.ntmps46
  go_wp2_with fail
  refine HD.out.mono ?_; rintro e w1 ⟨rfl, q⟩; subst q
  go_wp2_with fail
  refine HR.out.mono ?_; rintro e w2 ⟨rfl, g⟩
  have G := Lib.hid g; clear g
  go_wp2_with fail
  go_ret2
  exact ⟨rfl, G.out⟩
theorem look_2 (A : Th) (r c p u N : Nat) (D : Dv) (l : List Th) (R W : Fp) (w0 w : World) (hG : Hid (Grp R W w0 (dz A c p u N D l) w)) (hN : Hid (N < 70368744177664)) (c1 : w.cell? ⟨r, 1, none⟩ = some (.pointer (some ⟨c, 0, none⟩))) (c2 : w.cell? ⟨r, 2, none⟩ = some (.pointer (some ⟨p, 0, none⟩))) (c3 : w.cell? ⟨r, 3, none⟩ = some (.pointer (some ⟨u, 0, none⟩))) (x : Nat) (z : Int) (hx : x < W64) (hd : dvK x = 2) : Calls Tryz.prog 46 #[.pointer (some ⟨r, 0, none⟩), .int .u64 x, .int .i64 z] w (fun e w' => e = .returned (.tuple #[.int .u64 (D.val x z : Nat), .bool (okD x z)]) ∧ Grp R W w0 (dz A c p u N (D.rd x z) l) w') := by
  have HD := Lib.hid (device_c x hx w)
  unfold RetDv at HD
  rw [hd] at HD
  rw [show dvPl x = farN x 201326592 by unfold dvPl; rw [hd]; rw [if_neg (by decide), if_pos rfl]] at HD
  have e1 : D.val x z = P.valP (P.pk (farN x 201326592) z) D.S := by unfold Dv.val; rw [hd]; rw [if_neg (by decide), if_pos rfl]
  have e2 : okD x z = decide (P.pk (farN x 201326592) z ≠ 0) := by unfold okD; rw [hd]; rw [if_neg (by decide), if_pos rfl]
  have e3 : D.rd x z = { D with S := P.nextP (P.pk (farN x 201326592) z) D.S } := by unfold Dv.rd; rw [hd]; rw [if_pos rfl]
  have HR : Hid (Calls Tryz.prog 85 #[.pointer (some ⟨p, 0, none⟩), .int .u64 (farN x 201326592 : Nat), .int .i64 z] w (fun e w' => e = .returned (.tuple #[.int .u64 (D.val x z : Nat), .bool (okD x z)]) ∧ Grp R W w0 (dz A c p u N (D.rd x z) l) w')) := by
    rw [e1, e2, e3]
    exact hG.out.step 2 rfl _ (fun R W q => readZ q (farN x 201326592) z)
  clear e1 e2 e3 hG hx hd hN
  generalize farN x 201326592 = y at *
  generalize D.val x z = vv at *
  generalize okD x z = bb at *
  generalize dz A c p u N (D.rd x z) l = ll at *
  go_enter Tryz.func46, Tryz.ntmps46
  go_wp2_with fail
  refine HD.out.mono ?_; rintro e w1 ⟨rfl, q⟩; subst q
  go_wp2_with fail
  refine HR.out.mono ?_; rintro e w2 ⟨rfl, g⟩
  have G := Lib.hid g; clear g
  go_wp2_with fail
  go_ret2
  exact ⟨rfl, G.out⟩
theorem look_3 (A : Th) (r c p u N : Nat) (D : Dv) (l : List Th) (R W : Fp) (w0 w : World) (hG : Hid (Grp R W w0 (dz A c p u N D l) w)) (hN : Hid (N < 70368744177664)) (c1 : w.cell? ⟨r, 1, none⟩ = some (.pointer (some ⟨c, 0, none⟩))) (c2 : w.cell? ⟨r, 2, none⟩ = some (.pointer (some ⟨p, 0, none⟩))) (c3 : w.cell? ⟨r, 3, none⟩ = some (.pointer (some ⟨u, 0, none⟩))) (x : Nat) (z : Int) (hx : x < W64) (hd : dvK x = 3) : Calls Tryz.prog 46 #[.pointer (some ⟨r, 0, none⟩), .int .u64 x, .int .i64 z] w (fun e w' => e = .returned (.tuple #[.int .u64 (D.val x z : Nat), .bool (okD x z)]) ∧ Grp R W w0 (dz A c p u N (D.rd x z) l) w') := by
  have HD := Lib.hid (device_c x hx w)
  unfold RetDv at HD
  rw [hd] at HD
  rw [show dvPl x = farN x 268435456 by unfold dvPl; rw [hd]; rw [if_neg (by decide), if_neg (by decide), if_pos rfl]] at HD
  have e1 : D.val x z = T.valK (T.kd (farN x 268435456) z) D.U := by unfold Dv.val; rw [hd]; rw [if_neg (by decide), if_neg (by decide), if_pos rfl]
  have e2 : okD x z = T.okK (T.kd (farN x 268435456) z) := by unfold okD; rw [hd]; rw [if_neg (by decide), if_neg (by decide), if_pos rfl]
  have e3 : D.rd x z = { D with U := T.nextK (T.kd (farN x 268435456) z) D.U } := by unfold Dv.rd; rw [hd]; rw [if_neg (by decide), if_pos rfl]
  have HR : Hid (Calls Tryz.prog 86 #[.pointer (some ⟨u, 0, none⟩), .int .u64 (farN x 268435456 : Nat), .int .i64 z] w (fun e w' => e = .returned (.tuple #[.int .u64 (D.val x z : Nat), .bool (okD x z)]) ∧ Grp R W w0 (dz A c p u N (D.rd x z) l) w')) := by
    rw [e1, e2, e3]
    exact hG.out.step 3 rfl _ (fun R W q => readV q hN.out (farN x 268435456) z)
  clear e1 e2 e3 hG hx hd hN
  generalize farN x 268435456 = y at *
  generalize D.val x z = vv at *
  generalize okD x z = bb at *
  generalize dz A c p u N (D.rd x z) l = ll at *
  go_enter Tryz.func46, Tryz.ntmps46
  go_wp2_with fail
  refine HD.out.mono ?_; rintro e w1 ⟨rfl, q⟩; subst q
  go_wp2_with fail
  refine HR.out.mono ?_; rintro e w2 ⟨rfl, g⟩
  have G := Lib.hid g; clear g
  go_wp2_with fail
  go_ret2
  exact ⟨rfl, G.out⟩
theorem look_c (A : Th) (r c p u N : Nat) (D : Dv) (l : List Th) (R W : Fp) (w0 w : World) (hG : Hid (Grp R W w0 (dz A c p u N D l) w)) (hN : Hid (N < 70368744177664)) (c1 : w.cell? ⟨r, 1, none⟩ = some (.pointer (some ⟨c, 0, none⟩))) (c2 : w.cell? ⟨r, 2, none⟩ = some (.pointer (some ⟨p, 0, none⟩))) (c3 : w.cell? ⟨r, 3, none⟩ = some (.pointer (some ⟨u, 0, none⟩))) (x : Nat) (z : Int) (hx : x < W64) : Calls Tryz.prog 46 #[.pointer (some ⟨r, 0, none⟩), .int .u64 x, .int .i64 z] w (fun e w' => e = .returned (.tuple #[.int .u64 (D.val x z : Nat), .bool (okD x z)]) ∧ Grp R W w0 (dz A c p u N (D.rd x z) l) w') := by
  rcases dvK_cases x with ⟨e, h⟩ | ⟨e, h⟩ | ⟨e, h⟩ | ⟨e, h⟩
  · exact look_1 A r c p u N D l R W w0 w hG hN c1 c2 c3 x z hx e
  · exact look_2 A r c p u N D l R W w0 w hG hN c1 c2 c3 x z hx e
  · exact look_3 A r c p u N D l R W w0 w hG hN c1 c2 c3 x z hx e
  · exact look_0 A r c p u N D l R W w0 w hG hN c1 c2 c3 x z hx e
/-- The bus' own cells. -/
structure RCell (w : World) (r m c p u : Nat) (v : Value) (cyc : Int) (came : Nat) (one : Bool) : Prop where
  lt : r < w.heap.size
  c0 : w.cell? ⟨r, 0, none⟩ = some (.pointer (some ⟨m, 0, none⟩))
  c1 : w.cell? ⟨r, 1, none⟩ = some (.pointer (some ⟨c, 0, none⟩))
  c2 : w.cell? ⟨r, 2, none⟩ = some (.pointer (some ⟨p, 0, none⟩))
  c3 : w.cell? ⟨r, 3, none⟩ = some (.pointer (some ⟨u, 0, none⟩))
  c4 : w.cell? ⟨r, 4, none⟩ = some (.int .i64 cyc)
  c5 : w.cell? ⟨r, 5, none⟩ = some v
  c6 : w.cell? ⟨r, 6, none⟩ = some (.int .i64 (came : Nat))
  c7 : w.cell? ⟨r, 7, none⟩ = some (.bool one)
  fz : ∀ j, w.frozen? ⟨r, j, none⟩ = false
def eBR (r m c p u : Nat) (v : Value) (cyc : Int) (came : Nat) (one : Bool) : Th where
  P R W w := (∀ j, W r j) ∧ (∀ k j, W k j → R k j) ∧ (∀ k j, R k j → k < w.heap.size) ∧ RCell w r m c p u v cyc came one
  kept := fun ⟨h1, h2, h3, h4⟩ hc hd => by
    have q := fun j => cw_block hc h4.lt (fun j q => hd r j q (h2 _ _ (h1 j))) j
    exact ⟨h1, h2, fun k j q => Nat.lt_of_lt_of_le (h3 k j q) hc.size, Nat.lt_of_lt_of_le h4.lt hc.size, (q 0).1.trans h4.c0, (q 1).1.trans h4.c1, (q 2).1.trans h4.c2, (q 3).1.trans h4.c3, (q 4).1.trans h4.c4, (q 5).1.trans h4.c5, (q 6).1.trans h4.c6, (q 7).1.trans h4.c7, fun j => (q j).2.trans (h4.fz j)⟩
  wr h := h.2.1
  rlt h := h.2.2.1
theorem rcells {R0 W0 : Fp} {w0 w : World} {r m c p u : Nat} {v : Value} {cyc : Int} {came : Nat} {one : Bool} {l : List Th} (h : Grp R0 W0 w0 (eBR r m c p u v cyc came one :: l) w) : RCell w r m c p u v cyc came one := by
  obtain ⟨_, _, q⟩ := h.get 0 rfl
  exact q.2.2.2
set_option maxHeartbeats 4000000 in
theorem settle_c (r m c p u N : Nat) (v : Value) (cyc : Int) (came : Nat) (D : Dv) (l : List Th) (R W : Fp) (w0 w : World) (h : Hid (Grp R W w0 (dz (eBR r m c p u v cyc came D.one) c p u N D l) w)) : Calls Tryz.prog 42 #[.pointer (some ⟨r, 0, none⟩)] w (fun e w' => e = .returned (.tuple #[]) ∧ Grp R W w0 (dz (eBR r m c p u v cyc came D.one) c p u N D.fol l) w') := by
  have hU : Hid (Calls Tryz.prog 81 #[.pointer (some ⟨u, 0, none⟩)] w (RetB (T.upF D.U) w)) := by
    obtain ⟨_, _, q⟩ := h.out.get 3 rfl
    exact upV q
  have hL : Hid (∀ up w1, Below w.heap.size w w1 → Calls Tryz.prog 56 #[.pointer (some ⟨p, 0, none⟩), .int .i64 1, .bool up] w1 (fun e w' => e = .returned (.bool true) ∧ Grp R W w0 (eBR r m c p u v cyc came D.one :: eK c D.s D.a D.t :: eZ p (P.comeF (D.S.setUp 1 up) 1) :: eV u N D.U :: l) w')) :=
    fun up w1 hb => (h.out.below hb).step 2 rfl _ (fun R W q => lineZ q 1 ⟨by decide, by decide⟩ up)
  have hc := rcells h.out
  have c2 := hc.c2; have c3 := hc.c3; have c7 := hc.c7; have lt := hc.lt
  have hfin : Hid (∀ w', Grp R W w0 (eBR r m c p u v cyc came D.one :: eK c D.s D.a D.t :: eZ p (P.comeF (D.S.setUp 1 (D.one || T.upF D.U)) 1) :: eV u N D.U :: l) w' → Grp R W w0 (dz (eBR r m c p u v cyc came D.one) c p u N D.fol l) w') :=
    fun w' q => q
  clear h hc
  generalize T.upF D.U = up at *
  generalize D.fol = D' at *
  generalize D.one = one at *
  cases one
  · go_enter Tryz.func42, Tryz.ntmps42
    go_wp2_with fail
    refine hU.out.mono ?_; rintro e w1 ⟨rfl, hb⟩
    have HL := Lib.hid (fun up => hL.out up w1.drew (hb.drew))
    have d2 : w1.drew.cell? ⟨r, 2, none⟩ = some (.pointer (some ⟨p, 0, none⟩)) := (hb.cell (p := ⟨r, 2, none⟩) lt).trans c2
    have d7 : w1.drew.cell? ⟨r, 7, none⟩ = some (.bool false) := (hb.cell (p := ⟨r, 7, none⟩) lt).trans c7
    clear hb hL hU c2 c3 c7 lt
    go_wp2_with fail
    refine wp_region_still_tail 11 (by kernel_rfl) (by kernel_rfl) ?_
    simp only [List.take_succ_cons, List.take_zero, List.drop_succ_cons, List.drop_zero]
    repeat still_step
    refine wpStill_nil ?_
    change wpList _ _ _ _ _ w1.drew
    go_wp2_with fail
    refine (HL.out _).mono ?_; rintro e w2 ⟨rfl, q⟩
    have Q := Lib.hid q
    clear q
    go_wp2_with fail
    go_end0
    exact ⟨rfl, hfin.out w2 Q.out⟩
  · go_enter Tryz.func42, Tryz.ntmps42
    go_wp2_with fail
    refine hU.out.mono ?_; rintro e w1 ⟨rfl, hb⟩
    have HL := Lib.hid (fun up => hL.out up w1.drew (hb.drew))
    have d2 : w1.drew.cell? ⟨r, 2, none⟩ = some (.pointer (some ⟨p, 0, none⟩)) := (hb.cell (p := ⟨r, 2, none⟩) lt).trans c2
    have d7 : w1.drew.cell? ⟨r, 7, none⟩ = some (.bool true) := (hb.cell (p := ⟨r, 7, none⟩) lt).trans c7
    clear hb hL hU c2 c3 c7 lt
    go_wp2_with fail
    refine wp_region_still_tail 11 (by kernel_rfl) (by kernel_rfl) ?_
    simp only [List.take_succ_cons, List.take_zero, List.drop_succ_cons, List.drop_zero]
    repeat still_step
    refine wpStill_nil ?_
    change wpList _ _ _ _ _ w1.drew
    go_wp2_with fail
    refine (HL.out _).mono ?_; rintro e w2 ⟨rfl, q⟩
    have Q := Lib.hid q
    clear q
    go_wp2_with fail
    go_end0
    exact ⟨rfl, hfin.out w2 Q.out⟩
end Go.Proofs.YtoicpikkcefheaaGreat
