/- The code's small functions of entries and kinds. -/
import Derived.Test.YthhlcchofilimaaGreatDoorA2
namespace Go.Proofs.YthhlcchofilimaaGreatDoor
open Go.ChangeShapes Go.WideShapes Go.ChangeAt Go.RowKit Go.Sort Y
set_option linter.unusedVariables false
set_option linter.unusedSimpArgs false

theorem andk (e n : Nat) : e &&& 2 ^ n = if e.testBit n = true then 2 ^ n else 0 := by
  apply Nat.eq_of_testBit_eq
  intro i
  rw [Nat.testBit_and, Nat.testBit_two_pow]
  by_cases h : n = i
  · subst h; cases e.testBit n <;> simp [Nat.testBit_two_pow]
  · cases e.testBit n <;> simp [h, Nat.testBit_two_pow]
theorem bne_k (e n : Nat) (he : e < 18446744073709551616) (hn : n < 64) : (bits .and .u64 (e : Int) ((2 ^ n : Nat) : Int) != 0) = e.testBit n := by
  have hp : 2 ^ n < 18446744073709551616 := (Nat.pow_lt_pow_iff_right (a := 2) (by decide)).2 hn
  rw [u_and e (2 ^ n) he hp, andk]
  have h1 : 0 < 2 ^ n := Nat.pow_pos (by decide)
  cases e.testBit n
  · simp
  · simp only [if_true, bne, Bool.not_eq_true']
    rw [show (0 : Int) = ((0 : Nat) : Int) from rfl, cast_beq]
    simp
theorem beq_k (e n : Nat) (he : e < 18446744073709551616) (hn : n < 64) : (bits .and .u64 (e : Int) ((2 ^ n : Nat) : Int) == 0) = !e.testBit n := by
  rw [← bne_k e n he hn]; simp [bne]
theorem low8 (e m : Nat) (hm : m < 256) : e &&& m = e % 256 &&& m := by
  apply Nat.eq_of_testBit_eq
  intro i
  rw [Nat.testBit_and, Nat.testBit_and, show (256 : Nat) = 2 ^ 8 from rfl, Nat.testBit_mod_two_pow]
  by_cases h : i < 8
  · simp [h]
  · have hp : 2 ^ 8 ≤ 2 ^ i := Nat.pow_le_pow_right (by decide) (by omega)
    rw [Nat.testBit_lt_two_pow (Nat.lt_of_lt_of_le hm hp)]; simp
theorem tb8 (e i : Nat) (hi : i < 8) : e.testBit i = (e % 256).testBit i := by
  rw [show (256 : Nat) = 2 ^ 8 from rfl, Nat.testBit_mod_two_pow]; simp [hi]
theorem m_6 (e : Nat) (he : e < 18446744073709551616) : (bits .and .u64 (e : Int) 6 == 6) = (e.testBit 1 && e.testBit 2) := by
  rw [show (6 : Int) = ((6 : Nat) : Int) from rfl, u_and e 6 he (by decide), cast_beq, low8 e 6 (by decide), tb8 e 1 (by decide), tb8 e 2 (by decide)]
  have : e % 256 < 256 := Nat.mod_lt _ (by decide)
  revert this; generalize e % 256 = n; revert n; decide +kernel
theorem m_64 (e : Nat) (he : e < 18446744073709551616) : (bits .and .u64 (e : Int) 6 == 4) = (e.testBit 2 && !e.testBit 1) := by
  rw [show (6 : Int) = ((6 : Nat) : Int) from rfl, show (4 : Int) = ((4 : Nat) : Int) from rfl, u_and e 6 he (by decide), cast_beq, low8 e 6 (by decide), tb8 e 1 (by decide), tb8 e 2 (by decide)]
  have : e % 256 < 256 := Nat.mod_lt _ (by decide)
  revert this; generalize e % 256 = n; revert n; decide +kernel
theorem m_10 (e : Nat) (he : e < 18446744073709551616) : (bits .and .u64 (e : Int) 10 != 0) = leafB e := by
  unfold leafB
  rw [show (10 : Int) = ((10 : Nat) : Int) from rfl, show (0 : Int) = ((0 : Nat) : Int) from rfl, u_and e 10 he (by decide), bne, cast_beq, low8 e 10 (by decide), tb8 e 1 (by decide), tb8 e 3 (by decide)]
  have : e % 256 < 256 := Nat.mod_lt _ (by decide)
  revert this; generalize e % 256 = n; revert n; decide +kernel
theorem m_208 (e : Nat) (he : e < 18446744073709551616) : (bits .and .u64 (e : Int) 208 != 0) = (e.testBit 4 || e.testBit 6 || e.testBit 7) := by
  rw [show (208 : Int) = ((208 : Nat) : Int) from rfl, show (0 : Int) = ((0 : Nat) : Int) from rfl, u_and e 208 he (by decide), bne, cast_beq, low8 e 208 (by decide), tb8 e 4 (by decide), tb8 e 6 (by decide), tb8 e 7 (by decide)]
  have : e % 256 < 256 := Nat.mod_lt _ (by decide)
  revert this; generalize e % 256 = n; revert n; decide +kernel
theorem m_192 (e : Nat) (he : e < 18446744073709551616) : (bits .and .u64 (e : Int) 192 == 192) = (e.testBit 6 && e.testBit 7) := by
  rw [show (192 : Int) = ((192 : Nat) : Int) from rfl, u_and e 192 he (by decide), cast_beq, low8 e 192 (by decide), tb8 e 6 (by decide), tb8 e 7 (by decide)]
  have : e % 256 < 256 := Nat.mod_lt _ (by decide)
  revert this; generalize e % 256 = n; revert n; decide +kernel
theorem m_64a (e : Nat) (he : e < 18446744073709551616) : (bits .and .u64 (e : Int) 64 == 64) = e.testBit 6 := by
  rw [show (64 : Int) = ((64 : Nat) : Int) from rfl, u_and e 64 he (by decide), cast_beq, low8 e 64 (by decide), tb8 e 6 (by decide)]
  have : e % 256 < 256 := Nat.mod_lt _ (by decide)
  revert this; generalize e % 256 = n; revert n; decide +kernel

def wrB (k : Int) : Bool := decide (k = 2 ∨ k = 3)
def kindB (r w x mxr : Bool) (k : Int) : Bool := if k = 0 then x else if k = 2 then w else if k = 3 then r && w else r || x && mxr
def whoB (u sum : Bool) (m k : Int) : Bool := if m = 1 then !u || sum && decide (k ≠ 0) else u
def markB (a d : Bool) (k : Int) : Bool := a && (d || !wrB k)
theorem allow_is (r w x u a d sum mxr : Bool) (m k : Int) : allowG r w x u a d sum mxr m k = (kindB r w x mxr k && whoB u sum m k && markB a d k) := by
  unfold allowG kindB whoB markB wrB
  simp only [Bool.and_assoc]

theorem takenw_c (m : Int) (w : World) : Calls Tryz.prog 47 #[.int .i64 m] w (RetIX (tkI m) w) := by
  by_cases h3 : m = 3
  · subst h3
    go_enter Tryz.func47, Tryz.ntmps47
    go_wp2_with fail
    go_ret
    exact retIX_mk rfl
  by_cases h1 : m = 1
  · subst h1
    go_enter Tryz.func47, Tryz.ntmps47
    go_wp2_with fail
    go_ret
    exact retIX_mk rfl
  have e3 : (m == 3) = false := by simpa using h3
  have e1 : (m == 1) = false := by simpa using h1
  have e : Hid (tkI m = 0) := by show _ = _; unfold tkI; rw [if_neg h3, if_neg h1]
  clear h3 h1
  go_enter Tryz.func47, Tryz.ntmps47
  go_wp2_with fail
  go_ret
  exact retIX_mk e.out.symm
theorem writes_c (k : Int) (w : World) : Calls Tryz.prog 57 #[.int .i64 k] w (RetBX (wrB k) w) := by
  by_cases h2 : k = 2
  · subst h2
    go_enter Tryz.func57, Tryz.ntmps57
    go_wp2_with fail
    go_ret
    exact retBX_mk rfl
  by_cases h3 : k = 3
  · subst h3
    go_enter Tryz.func57, Tryz.ntmps57
    go_wp2_with fail
    go_ret
    exact retBX_mk rfl
  have e2 : (k == 2) = false := by simpa using h2
  have e3 : (k == 3) = false := by simpa using h3
  have e : Hid (wrB k = false) := by show _ = _; unfold wrB; simp [h2, h3]
  clear h2 h3
  go_enter Tryz.func57, Tryz.ntmps57
  go_wp2_with fail
  go_ret
  exact retBX_mk e.out.symm
theorem pageFault_c (k : Int) (w : World) : Calls Tryz.prog 27 #[.int .i64 k] w (RetUX (pageN k) w) := by
  have P := Lib.hid (fun u => writes_c k u)
  by_cases h0 : k = 0
  · subst h0
    go_enter Tryz.func27, Tryz.ntmps27
    go_wp2_with fail
    go_ret
    exact retUX_mk rfl
  have e0 : (k == 0) = false := by simpa using h0
  obtain ⟨R, hR⟩ : ∃ R, pageN k = R := ⟨_, rfl⟩
  obtain ⟨b, hb⟩ : ∃ b, wrB k = b := ⟨_, rfl⟩
  have HR : Hid (R = if b = true then 15 else 13) := by show _ = _; rw [← hR, ← hb]; unfold pageN wrB; simp [h0]
  rw [hb] at P
  rw [hR]
  clear h0 hR hb
  go_enter Tryz.func27, Tryz.ntmps27
  cases b
  · go_wp2_with fail
    refine (P.out _).mono ?_; rintro e w1 ⟨rfl, h⟩; replace h := h.symm; subst h
    go_wp2_with fail
    go_ret
    exact retUX_mk (by rw [HR.out]; rfl)
  · go_wp2_with fail
    refine (P.out _).mono ?_; rintro e w1 ⟨rfl, h⟩; replace h := h.symm; subst h
    go_wp2_with fail
    go_ret
    exact retUX_mk (by rw [HR.out]; rfl)
theorem accessFault_c (k : Int) (w : World) : Calls Tryz.prog 31 #[.int .i64 k] w (RetUX (faultN k) w) := by
  have P := Lib.hid (fun u => writes_c k u)
  by_cases h0 : k = 0
  · subst h0
    go_enter Tryz.func31, Tryz.ntmps31
    go_wp2_with fail
    go_ret
    exact retUX_mk rfl
  have e0 : (k == 0) = false := by simpa using h0
  obtain ⟨R, hR⟩ : ∃ R, faultN k = R := ⟨_, rfl⟩
  obtain ⟨b, hb⟩ : ∃ b, wrB k = b := ⟨_, rfl⟩
  have HR : Hid (R = if b = true then 7 else 5) := by show _ = _; rw [← hR, ← hb]; unfold faultN wrB; simp [h0]
  rw [hb] at P
  rw [hR]
  clear h0 hR hb
  go_enter Tryz.func31, Tryz.ntmps31
  cases b
  · go_wp2_with fail
    refine (P.out _).mono ?_; rintro e w1 ⟨rfl, h⟩; replace h := h.symm; subst h
    go_wp2_with fail
    go_ret
    exact retUX_mk (by rw [HR.out]; rfl)
  · go_wp2_with fail
    refine (P.out _).mono ?_; rintro e w1 ⟨rfl, h⟩; replace h := h.symm; subst h
    go_wp2_with fail
    go_ret
    exact retUX_mk (by rw [HR.out]; rfl)
theorem isLeaf_c (e : Nat) (he : Hid (e < 18446744073709551616)) (w : World) : Calls Tryz.prog 34 #[.int .u64 e] w (RetBX (leafB e) w) := by
  go_enter Tryz.func34, Tryz.ntmps34
  go_wp2_with fail
  go_ret
  exact retBX_mk (m_10 e he.out)
/-- Broken, or one that leads on and has marks. -/
def brkB (e : Nat) : Bool := brokenB e || !leafB e && (e.testBit 4 || e.testBit 6 || e.testBit 7)
theorem shr54 (e : Nat) : ((e : Int) / 18014398509481984 != 0) = !(e / 2 ^ 54 == 0) := by
  have h : (e : Int) / 18014398509481984 = ((e / 2 ^ 54 : Nat) : Int) := by simp
  rw [h, bne, show (0 : Int) = ((0 : Nat) : Int) from rfl, cast_beq]
set_option maxRecDepth 100000 in
theorem isBroken_c (e : Nat) (he : Hid (e < 18446744073709551616)) (w : World) : Calls Tryz.prog 33 #[.int .u64 e] w (RetBX (brkB e) w) := by
  have P := Lib.hid (fun u => isLeaf_c e he u)
  have f1 : (bits .and .u64 (e : Int) 1 == 0) = !e.testBit 0 := beq_k e 0 he.out (by decide)
  have f2 := m_64 e he.out
  have f3 := m_208 e he.out
  have f4 := shr54 e
  have E : Hid (brkB e = (!e.testBit 0 || e.testBit 2 && !e.testBit 1 || !(e / 2 ^ 54 == 0) || !leafB e && (e.testBit 4 || e.testBit 6 || e.testBit 7))) := rfl
  generalize brkB e = R at E ⊢
  generalize (!e.testBit 0) = a at f1 E
  generalize (e.testBit 2 && !e.testBit 1) = b at f2 E
  generalize (!(e / 2 ^ 54 == 0)) = d at f4 E
  generalize leafB e = l at P E
  generalize (e.testBit 4 || e.testBit 6 || e.testBit 7) = m at f3 E
  have HE := Lib.hid he.out
  clear he
  cases a <;> cases b <;> cases d <;> cases l <;> cases m <;>
  ( go_enter Tryz.func33, Tryz.ntmps33
    go_wp2_with (refine (P.out _).mono ?_; rintro e w1 ⟨rfl, h⟩; replace h := h.symm; subst h)
    go_ret
    exact retBX_mk E.out.symm )
end Go.Proofs.YthhlcchofilimaaGreatDoor
