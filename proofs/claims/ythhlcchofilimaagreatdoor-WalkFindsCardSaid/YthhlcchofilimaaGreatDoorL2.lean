/- Allows, Mode; places of entries and pages. -/
import Derived.Test.YthhlcchofilimaaGreatDoorL1
namespace Go.Proofs.YthhlcchofilimaaGreatDoor
open Go.ChangeShapes Go.WideShapes Go.ChangeAt Go.RowKit Go.Sort Y
set_option linter.unusedVariables false
set_option linter.unusedSimpArgs false

set_option maxRecDepth 100000 in
theorem letsKind_c (s c : Nat) (k : Int) (e : Nat) (hs : Hid (s < 18446744073709551616)) (he : Hid (e < 18446744073709551616)) (w : World) (h0 : w.cell? ⟨c, 0, none⟩ = some (.int .u64 (s : Nat))) :
    Calls Tryz.prog 48 #[.pointer (some ⟨c, 0, none⟩), .int .i64 k, .int .u64 e] w (RetBX (kindB (e.testBit 1) (e.testBit 2) (e.testBit 3) (s.testBit 19) k) w) := by
  have f1 : (bits .and .u64 (e : Int) 2 != 0) = e.testBit 1 := bne_k e 1 he.out (by decide)
  have f2 : (bits .and .u64 (e : Int) 4 != 0) = e.testBit 2 := bne_k e 2 he.out (by decide)
  have f3 : (bits .and .u64 (e : Int) 8 != 0) = e.testBit 3 := bne_k e 3 he.out (by decide)
  have f6 := m_6 e he.out
  have fm : (bits .and .u64 (s : Int) 524288 != 0) = s.testBit 19 := bne_k s 19 hs.out (by decide)
  generalize e.testBit 1 = r at *
  generalize e.testBit 2 = x2 at *
  generalize e.testBit 3 = x at *
  generalize s.testBit 19 = mxr at *
  clear he hs
  by_cases k0 : k = 0
  · subst k0
    clear f1 f2 f6 fm
    go_enter Tryz.func48, Tryz.ntmps48
    go_wp2_with fail
    go_ret
    exact retBX_mk rfl
  by_cases k2 : k = 2
  · subst k2
    clear f1 f3 f6 fm
    go_enter Tryz.func48, Tryz.ntmps48
    go_wp2_with fail
    go_ret
    exact retBX_mk rfl
  by_cases k3 : k = 3
  · subst k3
    clear f1 f2 f3 fm
    go_enter Tryz.func48, Tryz.ntmps48
    go_wp2_with fail
    go_ret
    exact retBX_mk rfl
  have e0 : (k == 0) = false := by simpa using k0
  have e2 : (k == 2) = false := by simpa using k2
  have e3 : (k == 3) = false := by simpa using k3
  have E : Hid (kindB r x2 x mxr k = (r || x && mxr)) := by show _ = _; unfold kindB; rw [if_neg k0, if_neg k2, if_neg k3]
  generalize kindB r x2 x mxr k = R at E ⊢
  clear f2 f6 k0 k2 k3
  cases r <;> cases x <;> cases mxr <;>
  ( go_enter Tryz.func48, Tryz.ntmps48
    go_wp2_with fail
    go_ret
    exact retBX_mk E.out.symm )
set_option maxRecDepth 100000 in
theorem letsMode_c (s c : Nat) (m k : Int) (e : Nat) (hs : Hid (s < 18446744073709551616)) (he : Hid (e < 18446744073709551616)) (w : World) (h0 : w.cell? ⟨c, 0, none⟩ = some (.int .u64 (s : Nat))) :
    Calls Tryz.prog 49 #[.pointer (some ⟨c, 0, none⟩), .int .i64 m, .int .i64 k, .int .u64 e] w (RetBX (whoB (e.testBit 4) (s.testBit 18) m k) w) := by
  have f4 : (bits .and .u64 (e : Int) 16 != 0) = e.testBit 4 := bne_k e 4 he.out (by decide)
  have fm : (bits .and .u64 (s : Int) 262144 != 0) = s.testBit 18 := bne_k s 18 hs.out (by decide)
  generalize e.testBit 4 = u at *
  generalize s.testBit 18 = sum at *
  clear he hs
  by_cases m1 : m = 1
  · subst m1
    by_cases k0 : k = 0
    · subst k0
      have E : Hid (whoB u sum 1 0 = !u) := by show _ = _; cases u <;> cases sum <;> rfl
      generalize whoB u sum 1 0 = R at E ⊢
      cases u <;> cases sum <;>
      ( go_enter Tryz.func49, Tryz.ntmps49
        go_wp2_with fail
        go_ret
        exact retBX_mk E.out.symm )
    have e0 : (k != 0) = true := by simpa using k0
    have E : Hid (whoB u sum 1 k = (!u || sum)) := by show _ = _; unfold whoB; rw [if_pos rfl, decide_eq_true k0, Bool.and_true]
    generalize whoB u sum 1 k = R at E ⊢
    clear k0
    cases u <;> cases sum <;>
    ( go_enter Tryz.func49, Tryz.ntmps49
      go_wp2_with fail
      go_ret
      exact retBX_mk E.out.symm )
  have e1 : (m == 1) = false := by simpa using m1
  have E : Hid (whoB u sum m k = u) := by show _ = _; unfold whoB; rw [if_neg m1]
  generalize whoB u sum m k = R at E ⊢
  clear m1
  cases u <;>
  ( go_enter Tryz.func49, Tryz.ntmps49
    go_wp2_with fail
    go_ret
    exact retBX_mk E.out.symm )
set_option maxRecDepth 100000 in
theorem isMarked_c (k : Int) (e : Nat) (he : Hid (e < 18446744073709551616)) (w : World) : Calls Tryz.prog 50 #[.int .i64 k, .int .u64 e] w (RetBX (markB (e.testBit 6) (e.testBit 7) k) w) := by
  have P := Lib.hid (fun u => writes_c k u)
  have f1 := m_192 e he.out
  have f2 := m_64a e he.out
  have fo : bits .or .u64 64 128 = 192 := by decide
  have E : Hid (markB (e.testBit 6) (e.testBit 7) k = (e.testBit 6 && (e.testBit 7 || !wrB k))) := rfl
  generalize markB (e.testBit 6) (e.testBit 7) k = R at E ⊢
  generalize e.testBit 6 = a at *
  generalize e.testBit 7 = d at *
  generalize wrB k = b at *
  clear he
  cases b
  · go_enter Tryz.func50, Tryz.ntmps50
    go_wp2_with (refine (P.out _).mono ?_; rintro e w1 ⟨rfl, h⟩; replace h := h.symm; subst h)
    go_ret
    exact retBX_mk (by rw [E.out]; cases a <;> cases d <;> rfl)
  · go_enter Tryz.func50, Tryz.ntmps50
    go_wp2_with (refine (P.out _).mono ?_; rintro e w1 ⟨rfl, h⟩; replace h := h.symm; subst h)
    go_ret
    exact retBX_mk (by rw [E.out]; cases a <;> cases d <;> rfl)
set_option maxRecDepth 100000 in
theorem allows_c (S : Nat → Nat) (c : Nat) (m k : Int) (e : Nat) (w : World) (hS : Hid (OkS S)) (he : Hid (e < 18446744073709551616)) (h0 : w.cell? ⟨c, 0, none⟩ = some (.int .u64 (S 0 : Nat))) :
    Calls Tryz.prog 13 #[.pointer (some ⟨c, 0, none⟩), .int .i64 m, .int .i64 k, .int .u64 e] w (RetBX (permB S m k e) w) := by
  have P1 := Lib.hid (letsKind_c (S 0) c k e (Lib.hid (hS.out.u 0 (by decide))) he w h0)
  have P2 := Lib.hid (letsMode_c (S 0) c m k e (Lib.hid (hS.out.u 0 (by decide))) he w h0)
  have P3 := Lib.hid (isMarked_c k e he w)
  have E : Hid (permB S m k e = (kindB (e.testBit 1) (e.testBit 2) (e.testBit 3) ((S 0).testBit 19) k && whoB (e.testBit 4) ((S 0).testBit 18) m k && markB (e.testBit 6) (e.testBit 7) k)) := allow_is _ _ _ _ _ _ _ _ _ _
  generalize permB S m k e = R at E ⊢
  generalize kindB (e.testBit 1) (e.testBit 2) (e.testBit 3) ((S 0).testBit 19) k = a at *
  generalize whoB (e.testBit 4) ((S 0).testBit 18) m k = b at *
  generalize markB (e.testBit 6) (e.testBit 7) k = d at *
  clear hS he h0
  cases a <;> cases b <;> cases d <;>
  ( go_enter Tryz.func13, Tryz.ntmps13
    go_wp2_with (first | (refine P1.out.mono ?_; rintro e w1 ⟨rfl, h⟩; replace h := h.symm; subst h) | (refine P2.out.mono ?_; rintro e w1 ⟨rfl, h⟩; replace h := h.symm; subst h) | (refine P3.out.mono ?_; rintro e w1 ⟨rfl, h⟩; replace h := h.symm; subst h))
    go_ret
    exact retBX_mk E.out.symm )
theorem mpp_val (s : Nat) (hs : s < 18446744073709551616) : wrap64 (bits .and .u64 (s : Int) 6144 / 2048) = ((s / 2048 % 4 : Nat) : Int) := by
  rw [show (6144 : Int) = ((6144 : Nat) : Int) from rfl, u_and s 6144 hs (by decide)]
  have h : (s &&& 6144) / 2048 = s / 2048 % 4 := by
    have h1 : (s &&& 6144) >>> 11 = (s >>> 11) &&& (6144 >>> 11) := Nat.shiftRight_and_distrib
    rw [Nat.shiftRight_eq_div_pow, Nat.shiftRight_eq_div_pow] at h1
    rw [show (2048 : Nat) = 2 ^ 11 from rfl, h1, show (6144 >>> 11 : Nat) = 2 ^ 2 - 1 from rfl, Nat.and_two_pow_sub_one_eq_mod]
  have h2 : ((s &&& 6144 : Nat) : Int) / 2048 = (((s &&& 6144) / 2048 : Nat) : Int) := by simp
  rw [h2, h]
  unfold wrap64; omega
set_option maxRecDepth 100000 in
theorem mode_c (S : Nat → Nat) (c : Nat) (m k : Int) (hS : Hid (OkS S)) (w : World) (h0 : w.cell? ⟨c, 0, none⟩ = some (.int .u64 (S 0 : Nat))) :
    Calls Tryz.prog 12 #[.pointer (some ⟨c, 0, none⟩), .int .i64 m, .int .i64 k] w (RetIX (modeF S m k) w) := by
  have f17 : (bits .and .u64 ((S 0 : Nat) : Int) 131072 != 0) = (S 0).testBit 17 := bne_k (S 0) 17 (hS.out.u 0 (by decide)) (by decide)
  have P2 := Lib.hid (fun u => takenw_c m u)
  have P3 : Hid (∀ u, Calls Tryz.prog 47 #[.int .i64 (wrap64 (bits .and .u64 ((S 0 : Nat) : Int) 6144 / 2048))] u (RetIX (tkI ((S 0 / 2048 % 4 : Nat) : Int)) u)) := fun u => by
    have h := takenw_c (wrap64 (bits .and .u64 ((S 0 : Nat) : Int) 6144 / 2048)) u
    rw [show tkI (wrap64 (bits .and .u64 ((S 0 : Nat) : Int) 6144 / 2048)) = tkI ((S 0 / 2048 % 4 : Nat) : Int) from congrArg tkI (mpp_val (S 0) (hS.out.u 0 (by decide)))] at h; exact h
  have E : Hid (modeF S m k = if m = 3 ∧ k ≠ 0 ∧ (S 0).testBit 17 = true then tkI ((S 0 / 2048 % 4 : Nat) : Int) else tkI m) := rfl
  generalize modeF S m k = R at E ⊢
  generalize tkI m = t1 at P2 E
  generalize tkI ((S 0 / 2048 % 4 : Nat) : Int) = t2 at P3 E
  generalize (S 0).testBit 17 = b at f17 E
  clear hS
  by_cases h3 : m = 3
  · subst h3
    by_cases hk : k = 0
    · subst hk
      have E2 : Hid (R = t1) := by show _ = _; rw [E.out, if_neg (by simp)]
      clear E P3 f17
      go_enter Tryz.func12, Tryz.ntmps12
      go_wp2_with fail
      refine (P2.out _).mono ?_; rintro e w1 ⟨rfl, h⟩; replace h := h.symm; subst h
      go_wp2_with fail
      go_ret
      exact retIX_mk E2.out.symm
    · have ek : (k != 0) = true := by simpa using hk
      cases b
      · have E2 : Hid (R = t1) := by show _ = _; rw [E.out, if_neg (by simp)]
        clear E P3 hk
        go_enter Tryz.func12, Tryz.ntmps12
        go_wp2_with fail
        refine (P2.out _).mono ?_; rintro e w1 ⟨rfl, h⟩; replace h := h.symm; subst h
        go_wp2_with fail
        go_ret
        exact retIX_mk E2.out.symm
      · have E2 : Hid (R = t2) := by show _ = _; rw [E.out, if_pos ⟨rfl, hk, rfl⟩]
        clear E P2 hk
        go_enter Tryz.func12, Tryz.ntmps12
        go_wp2_with fail
        refine (P3.out _).mono ?_; rintro e w1 ⟨rfl, h⟩; replace h := h.symm; subst h
        go_wp2_with fail
        go_ret
        exact retIX_mk E2.out.symm
  · have e3 : (m == 3) = false := by simpa using h3
    have E2 : Hid (R = t1) := by show _ = _; rw [E.out, if_neg (fun h => h3 h.1)]
    clear E P3 h3 f17
    go_enter Tryz.func12, Tryz.ntmps12
    go_wp2_with fail
    refine (P2.out _).mono ?_; rintro e w1 ⟨rfl, h⟩; replace h := h.symm; subst h
    go_wp2_with fail
    go_ret
    exact retIX_mk E2.out.symm
theorem mode_ok : ModeOk := fun S c m k w hS hc hr => (mode_c S c m k hS w ((hr.cell 0).trans rfl)).mono fun e w' h => ⟨h.1, h.2 ▸ Below.refl _ _⟩
theorem allows_ok : AllowsOk := fun S c m k e w hS he hc hr => (allows_c S c m k e w hS he ((hr.cell 0).trans rfl)).mono fun e w' h => ⟨h.1, h.2 ▸ Below.refl _ _⟩
end Go.Proofs.YthhlcchofilimaaGreatDoor
