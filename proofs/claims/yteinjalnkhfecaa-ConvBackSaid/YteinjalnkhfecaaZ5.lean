/- The reference's whole. -/
import Derived.Test.YteinjalnkhfecaaZ3
import Derived.Test.YteinjalnkhfecaaQK12
namespace Go.Proofs.Yteinjalnkhfecaa
open Go.ChangeShapes Go.WideShapes Go.ChangeAt Go.RowKit
set_option linter.unusedVariables false
set_option linter.unusedSimpArgs false
theorem new_AtN (w : World) (m : Bool) (g n p : Nat) (E : Int) (t : TypeId) : Q.AtN (w.alloc (Obj.cells #[.bool m, .slice (some ⟨g, 0, none⟩) n p, .int .i64 E] t)) w.heap.size m g n p E := by
  refine ⟨by rw [sz_alloc]; omega, ?_, ?_, ?_⟩ <;> (rw [World.cell?_alloc_at _ _ _ _ rfl]; rfl)
set_option maxRecDepth 100000 in
theorem whole_up (rm : Int) (m : Bool) (g n p A : Nat) (e : Nat) (w : World) (hA : Hid (Q.IsBig w g n p A)) (hn : n ≤ 200) (he : e ≤ 20000) :
    Calls Try.prog 52 #[.int .i64 rm, .agg #[.bool m, .slice (some ⟨g, 0, none⟩) n p, .int .i64 (e : Int)]] w (Q.RetGB (A * 2 ^ e) true w) := by
  have b0 := Q.below_one w (Obj.cells #[.bool m, .slice (some ⟨g, 0, none⟩) n p, .int .i64 (e : Int)] 67)
  have X := Lib.hid (new_AtN w m g n p (e : Int) 67)
  have hB := Lib.hid (Q.big_below hA.out b0 (Nat.le_refl _))
  have HB := Lib.hid b0; clear b0
  have e0 : (0 : Int) ≤ (e : Int) := by omega
  have E0 : decide ((0 : Int) ≤ (e : Int)) = true := decide_eq_true e0
  go_enter Try.func52, Try.ntmps52
  go_upto_region 1 with fail
  rename_i K0 k0
  generalize (w.alloc (Obj.cells #[Value.bool m, .slice (some ⟨g, 0, none⟩) n p, .int .i64 (e : Int)] 67)) = w1 at *
  obtain ⟨x0, x1, x2, x3⟩ := X.out
  go_wp2_with fail
  refine (Q.up_c g n p A e _ (Lib.hid hB.out.1) he hn).mono ?_; rintro e1 w2 ⟨g2, n2, p2, rfl, hU, b2⟩
  go_wp2_with fail
  go_ret2
  exact ⟨_, _, _, rfl, hU, HB.out.trans (b2.mono HB.out.size)⟩
/-- Whether the document's whole counts one more. -/
def moreW (rm : Int) (m half low odd none : Bool) : Bool :=
  if rm = 0 then half && (!low || odd) else if rm = 2 then m && !none else if rm = 3 then !m && !none else if rm = 4 then half else false
set_option maxRecDepth 100000 in
set_option maxHeartbeats 4000000 in
theorem whole_dn (rm : Int) (hrm : 0 ≤ rm ∧ rm ≤ 4) (m : Bool) (g n p A : Nat) (ex : Int) (N k : Nat) (D0 : decide ((0 : Int) ≤ ex) = false) (D1 : ¬ (0 : Int) ≤ ex) (E1 : IntKind.i64.wrap (-ex) = (N : Int)) (E2 : IntKind.i64.wrap ((N : Int) - 1) = (k : Int))
    (hN : N ≤ 20000) (hk : k ≤ 20000) (w : World) (hA : Hid (Q.IsBig w g n p A)) (hn : n ≤ 200) (kept be od : Nat) (no lo : Bool) (hl : kept < 2 ^ 65)
    (HK : Hid (A / 2 ^ N = kept)) (HN : Hid (decide (A % 2 ^ N = 0) = no)) (HL : Hid (decide (A % 2 ^ k = 0) = lo)) (HE : Hid (Q.bitN A k = be)) (HO : Hid (Q.bitN kept 0 = od)) (cb : be = 0 ∨ be = 1) (co : od = 0 ∨ od = 1) (R : Nat) (HR : Hid (kept + (if moreW rm m (decide (be = 1)) lo (decide (od = 1)) no then 1 else 0) = R)) :
    Calls Try.prog 52 #[.int .i64 rm, .agg #[.bool m, .slice (some ⟨g, 0, none⟩) n p, .int .i64 ex]] w (Q.RetGB R no w) := by
  have b0 := Q.below_one w (Obj.cells #[.bool m, .slice (some ⟨g, 0, none⟩) n p, .int .i64 ex] 67)
  have X := Lib.hid (new_AtN w m g n p ex 67)
  have hB := Lib.hid (Q.big_below hA.out b0 (Nat.le_refl _))
  have HB := Lib.hid b0; clear b0 hA
  have hL := Lib.hid hl; clear hl
  go_enter Try.func52, Try.ntmps52
  go_upto_region 1 with fail
  rename_i K0 k0
  generalize (w.alloc (Obj.cells #[Value.bool m, .slice (some ⟨g, 0, none⟩) n p, .int .i64 ex] 67)) = w1 at *
  obtain ⟨x0, x1, x2, x3⟩ := X.out
  go_wp2_with fail
  refine (Q.down_c g n p A N _ (Lib.hid hB.out.1) (by omega) hN).mono ?_; rintro e1 w2 ⟨g2, n2, p2, rfl, hK, bq⟩
  rw [HK.out] at hK; rw [HN.out]
  replace X := Lib.hid (X.out.below bq); replace hB := Lib.hid (Q.big_below hB.out bq (Nat.le_refl _)); replace HB := Lib.hid (HB.out.trans (bq.mono HB.out.size))
  clear bq x0 x1 x2 x3
  obtain ⟨x0, x1, x2, x3⟩ := X.out
  have l2 := Q.big_len hK.out (m := 3) (Q.shd_eq_zero.2 (Nat.lt_of_lt_of_le hL.out (Nat.pow_le_pow_right (by decide) (by decide))))
  go_wp2_with fail
  refine (Q.bit_c g n p A k _ (Lib.hid hB.out.1) (by omega) (by omega)).mono ?_; rintro e1 v ⟨rfl, rfl⟩
  rw [HE.out]
  go_wp2_with fail
  refine (Q.down_c g n p A k _ (Lib.hid hB.out.1) (by omega) hk).mono ?_; rintro e1 w3 ⟨g3, n3, p3, rfl, hD, bq⟩
  rw [HL.out]
  clear hD
  replace X := Lib.hid (X.out.below bq); replace hB := Lib.hid (Q.big_below hB.out bq (Nat.le_refl _)); replace hK := Lib.hid (Q.big_below hK.out bq (Nat.le_refl _)); replace HB := Lib.hid (HB.out.trans (bq.mono HB.out.size))
  clear bq x0 x1 x2 x3
  obtain ⟨x0, x1, x2, x3⟩ := X.out
  clear E1 E2 D0 D1 HK HN HL HE hN hk
  have c : rm = 0 ∨ rm = 1 ∨ rm = 2 ∨ rm = 3 ∨ rm = 4 := by omega
  clear hrm
  rcases c with rfl | rfl | rfl | rfl | rfl
  · rcases cb with rfl | rfl
    · go_wp2_with fail
      go_ret2
      have e : R = kept := HR.out.symm.trans (by first | rfl | simp [moreW])
      exact ⟨_, _, _, rfl, e ▸ hK, HB.out⟩
    · cases lo
      · go_wp2_with fail
        refine (Q.plus1_c g2 n2 p2 kept _ (Lib.hid hK.out.1) (by omega)).mono ?_; rintro e1 w4 ⟨g4, n4, p4, rfl, hP, bq⟩
        go_wp2_with fail
        go_ret2
        have e : R = kept + 1 := HR.out.symm.trans (by first | rfl | simp [moreW])
        exact ⟨_, _, _, rfl, e ▸ hP, HB.out.trans (bq.mono HB.out.size)⟩
      · go_wp2_with fail
        refine (Q.bit_c g2 n2 p2 kept 0 _ (Lib.hid hK.out.1) (by omega) (by omega)).mono ?_; rintro e1 v ⟨rfl, rfl⟩
        rw [HO.out]
        rcases co with rfl | rfl
        · go_wp2_with fail
          go_ret2
          have e : R = kept := HR.out.symm.trans (by first | rfl | simp [moreW])
          exact ⟨_, _, _, rfl, e ▸ hK, HB.out⟩
        · go_wp2_with fail
          refine (Q.plus1_c g2 n2 p2 kept _ (Lib.hid hK.out.1) (by omega)).mono ?_; rintro e1 w4 ⟨g4, n4, p4, rfl, hP, bq⟩
          go_wp2_with fail
          go_ret2
          have e : R = kept + 1 := HR.out.symm.trans (by first | rfl | simp [moreW])
          exact ⟨_, _, _, rfl, e ▸ hP, HB.out.trans (bq.mono HB.out.size)⟩
  · go_wp2_with fail
    go_ret2
    have e : R = kept := HR.out.symm.trans (by first | rfl | simp [moreW])
    exact ⟨_, _, _, rfl, e ▸ hK, HB.out⟩
  · cases m
    · go_wp2_with fail
      go_ret2
      have e : R = kept := HR.out.symm.trans (by first | rfl | simp [moreW])
      exact ⟨_, _, _, rfl, e ▸ hK, HB.out⟩
    · cases no
      · go_wp2_with fail
        refine (Q.plus1_c g2 n2 p2 kept _ (Lib.hid hK.out.1) (by omega)).mono ?_; rintro e1 w4 ⟨g4, n4, p4, rfl, hP, bq⟩
        go_wp2_with fail
        go_ret2
        have e : R = kept + 1 := HR.out.symm.trans (by first | rfl | simp [moreW])
        exact ⟨_, _, _, rfl, e ▸ hP, HB.out.trans (bq.mono HB.out.size)⟩
      · go_wp2_with fail
        go_ret2
        have e : R = kept := HR.out.symm.trans (by first | rfl | simp [moreW])
        exact ⟨_, _, _, rfl, e ▸ hK, HB.out⟩
  · cases m
    · cases no
      · go_wp2_with fail
        refine (Q.plus1_c g2 n2 p2 kept _ (Lib.hid hK.out.1) (by omega)).mono ?_; rintro e1 w4 ⟨g4, n4, p4, rfl, hP, bq⟩
        go_wp2_with fail
        go_ret2
        have e : R = kept + 1 := HR.out.symm.trans (by first | rfl | simp [moreW])
        exact ⟨_, _, _, rfl, e ▸ hP, HB.out.trans (bq.mono HB.out.size)⟩
      · go_wp2_with fail
        go_ret2
        have e : R = kept := HR.out.symm.trans (by first | rfl | simp [moreW])
        exact ⟨_, _, _, rfl, e ▸ hK, HB.out⟩
    · go_wp2_with fail
      go_ret2
      have e : R = kept := HR.out.symm.trans (by first | rfl | simp [moreW])
      exact ⟨_, _, _, rfl, e ▸ hK, HB.out⟩
  · rcases cb with rfl | rfl
    · go_wp2_with fail
      go_ret2
      have e : R = kept := HR.out.symm.trans (by first | rfl | simp [moreW])
      exact ⟨_, _, _, rfl, e ▸ hK, HB.out⟩
    · go_wp2_with fail
      refine (Q.plus1_c g2 n2 p2 kept _ (Lib.hid hK.out.1) (by omega)).mono ?_; rintro e1 w4 ⟨g4, n4, p4, rfl, hP, bq⟩
      go_wp2_with fail
      go_ret2
      have e : R = kept + 1 := HR.out.symm.trans (by first | rfl | simp [moreW])
      exact ⟨_, _, _, rfl, e ▸ hP, HB.out.trans (bq.mono HB.out.size)⟩
end Go.Proofs.Yteinjalnkhfecaa
