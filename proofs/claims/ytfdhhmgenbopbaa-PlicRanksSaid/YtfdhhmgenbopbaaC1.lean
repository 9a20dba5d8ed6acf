/- The walk of PlicBits. -/
import Derived.Test.YtfdhhmgenbopbaaF1
import Derived.Test.YtfdhhmgenbopbaaF2
namespace Go.Proofs.Ytfdhhmgenbopbaa
open Go.ChangeShapes Go.WideShapes Go.ChangeAt Go.RowKit
set_option linter.unusedVariables false
set_option linter.unusedSimpArgs false
theorem wait0 {S : St} (h : ∀ k, S.st k = 0) : ∀ k, waitF S k = 0
  | 0 => rfl
  | k + 1 => by
    show waitF S k + (bif S.st k == 1 then 2 ^ k else 0) = 0
    rw [wait0 h k, h k]; rfl
theorem hit0 {S : St} (h : ∀ k, S.st k = 0) (c r n : Nat) : hitB S c r n = false := by
  unfold hitB; rw [h n]; simp
theorem best0 {S : St} {c : Nat} (h : ∀ r n, hitB S c r n = false) : best S c = 0 := by
  rcases best_spec S c 7 with ⟨h1, -⟩ | ⟨q, -, -, -, h4, -⟩
  · exact h1
  · rw [h] at h4; cases h4
theorem above0 {S : St} {c : Nat} (h : best S c = 0) (h0 : S.pr 0 = 0) : aboveB S c = false := by
  unfold aboveB; rw [h, h0]; exact decide_eq_false (by omega)
theorem pend0 {S : St} (h : ∀ k, S.st k = 0) (h0 : S.pr 0 = 0) : pendF S = 0 := by
  unfold pendF
  rw [above0 (best0 (hit0 h 0)) h0, above0 (best0 (hit0 h 1)) h0]; rfl

set_option maxRecDepth 100000 in
theorem bits_00 (N C v : Nat) (hN : Hid ((N : Int) % 9 = (0 : Nat))) (hC : Hid ((C : Int) % 2 = 0)) (hv : Hid (v < 18446744073709551616)) (w : World) : Calls Try.prog 3 #[.int .u64 N, .int .u64 C, .int .u64 v] w (RetB true w) := by
  have c9 := hN.out
  have c2 := hC.out
  have c9' : (N : Int).tmod 9 = (0 : Nat) := by rw [Int.tmod_eq_emod_of_nonneg (by omega)]; exact c9
  have c2' : (C : Int).tmod 2 = 0 := by rw [Int.tmod_eq_emod_of_nonneg (by omega)]; exact c2
  obtain ⟨q, hq⟩ : ∃ q, v % 8 = q := ⟨_, rfl⟩
  obtain ⟨m, hm⟩ : ∃ m, v &&& 510 = m := ⟨_, rfl⟩
  have q8 : Hid (q < 8) := by show _ < _; omega
  have m512 : Hid (m < 512) := by show _ < _; rw [← hm]; exact Nat.lt_of_le_of_lt Nat.and_le_right (by decide)
  have E7 : bits .and .u64 (v : Int) 7 = (q : Int) := by rw [and7 v hv.out, hq]
  have E5 : bits .and .u64 (v : Int) 510 = (m : Int) := by rw [and510 v hv.out, hm]
  have HQ := Lib.hid hq; have HM := Lib.hid hm
  clear hq hm
  obtain ⟨S1, hS1⟩ : ∃ S1, S1 = S0 := ⟨_, rfl⟩
  obtain ⟨S2, hS2⟩ : ∃ S2, S2 = S1.setEn 0 m := ⟨_, rfl⟩
  obtain ⟨S3, hS3⟩ : ∃ S3, S3 = S2.setTh 0 q := ⟨_, rfl⟩
  have O3 : Hid (OkS S3) := by rw [hS3, hS2, hS1]; exact (ok0.setEn 0 m m512.out).setTh 0 q q8.out
  have P3 : Hid (pendF S3 = 0) := by rw [hS3, hS2, hS1]; exact pend0 (fun _ => rfl) rfl
  have W3 : Hid (waitF S3 9 = 0) := by rw [hS3, hS2, hS1]; exact wait0 (fun _ => rfl) 9
  have R1 : Hid (S3.pr 0 = 0) := by rw [hS3, hS2, hS1]; exact rfl
  have R2 : Hid (S3.en 0 = m) := by rw [hS3, hS2, hS1]; show _ = _; rfl
  have R3 : Hid (S3.en 1 = 0) := by rw [hS3, hS2, hS1]; show _ = _; rfl
  have R4 : Hid (S3.th 0 = q) := by rw [hS3, hS2, hS1]; show _ = _; rfl
  have R5 : Hid (S3.th 1 = 0) := by rw [hS3, hS2, hS1]; show _ = _; rfl
  have HS1 := Lib.hid hS1; have HS2 := Lib.hid hS2; have HS3 := Lib.hid hS3
  clear hS1 hS2 hS3

  go_enter Try.func3, Try.ntmps3
  go_wp2_with fail
  refine (fixed_c _).mono ?_; rintro e0 w1 ⟨rfl, bq⟩
  have HB := Lib.hid bq; clear bq
  go_wp2_with fail
  refine (new_c _).mono ?_; rintro e0 w2 ⟨p, rfl, gc, hc, bq⟩
  have Gp : Hid (w.heap.size ≤ p) := Nat.le_trans HB.out.size gc
  have Hp := Lib.hid hc; clear gc hc
  replace HB := Lib.hid (HB.out.trans (bq.mono HB.out.size)); clear bq
  go_wp2_with fail
  refine ((write_0 p v S0 _ Hp).mono (fun _ _ h => retL_to (S' := S1) HS1.out.symm h)).mono ?_; rintro e0 w3 ⟨rfl, h1, hg⟩
  replace Hp : Hid (IsP w3 p S1) := h1; clear h1
  replace HB := Lib.hid (HB.out.grown hg HB.out.size (fun k hk => by cases hk; exact Gp.out)); clear hg
  go_wp2_with fail
  refine ((write_en p 0 v 8192 S1 _ Hp hv (by show _ < _; decide) (by show _ = _; decide)).mono (fun _ _ h => retL_to (S' := S2) (by rw [HM.out]; exact HS2.out.symm) h)).mono ?_; rintro e0 w4 ⟨rfl, h1, hg⟩
  replace Hp : Hid (IsP w4 p S2) := h1; clear h1
  replace HB := Lib.hid (HB.out.grown hg HB.out.size (fun k hk => by cases hk; exact Gp.out)); clear hg
  go_wp2_with fail
  refine ((write_th p 0 v 2097152 S2 _ Hp hv (by show _ < _; decide) (by show _ = _; decide)).mono (fun _ _ h => retL_to (S' := S3) (by rw [HQ.out]; exact HS3.out.symm) h)).mono ?_; rintro e0 w5 ⟨rfl, h1, hg⟩
  replace Hp : Hid (IsP w5 p S3) := h1; clear h1
  replace HB := Lib.hid (HB.out.grown hg HB.out.size (fun k hk => by cases hk; exact Gp.out)); clear hg
  go_wp2_with fail
  refine (write_wait p v S3 _ Hp).mono ?_; rintro e0 w6 ⟨rfl, h1, hg⟩
  replace Hp : Hid (IsP w6 p S3) := h1; clear h1
  replace HB := Lib.hid (HB.out.grown hg HB.out.size (fun k hk => by cases hk; exact Gp.out)); clear hg
  go_wp2_with fail
  refine ((read_pr p 0 _ S3 _ Hp (by show _ < _; decide) (by show _ = _; rfl)).mono (fun _ _ h => retR_to (n' := 0) R1.out h)).mono ?_; rintro e0 w7 ⟨rfl, bq⟩
  replace Hp := Lib.hid (Hp.out.below bq)
  replace HB := Lib.hid (HB.out.trans (bq.mono HB.out.size)); clear bq
  go_wp2_with fail
  refine ((read_en p 0 8192 S3 _ Hp (by show _ < _; decide) (by show _ = _; decide)).mono (fun _ _ h => retR_to (n' := m) R2.out h)).mono ?_; rintro e0 w8 ⟨rfl, bq⟩
  replace Hp := Lib.hid (Hp.out.below bq)
  replace HB := Lib.hid (HB.out.trans (bq.mono HB.out.size)); clear bq
  go_wp2_with fail
  refine ((read_en p 1 8320 S3 _ Hp (by show _ < _; decide) (by show _ = _; decide)).mono (fun _ _ h => retR_to (n' := 0) R3.out h)).mono ?_; rintro e0 w9 ⟨rfl, bq⟩
  replace Hp := Lib.hid (Hp.out.below bq)
  replace HB := Lib.hid (HB.out.trans (bq.mono HB.out.size)); clear bq
  go_wp2_with fail
  refine ((read_th p 0 2097152 S3 _ Hp (by show _ < _; decide) (by show _ = _; decide)).mono (fun _ _ h => retR_to (n' := q) R4.out h)).mono ?_; rintro e0 w10 ⟨rfl, bq⟩
  replace Hp := Lib.hid (Hp.out.below bq)
  replace HB := Lib.hid (HB.out.trans (bq.mono HB.out.size)); clear bq
  go_wp2_with fail
  refine ((read_th p 1 2101248 S3 _ Hp (by show _ < _; decide) (by show _ = _; decide)).mono (fun _ _ h => retR_to (n' := 0) R5.out h)).mono ?_; rintro e0 w11 ⟨rfl, bq⟩
  replace Hp := Lib.hid (Hp.out.below bq)
  replace HB := Lib.hid (HB.out.trans (bq.mono HB.out.size)); clear bq
  go_wp2_with fail
  refine ((read_wait p S3 _ Hp).mono (fun _ _ h => retR_to (n' := 0) W3.out h)).mono ?_; rintro e0 w12 ⟨rfl, bq⟩
  replace Hp := Lib.hid (Hp.out.below bq)
  replace HB := Lib.hid (HB.out.trans (bq.mono HB.out.size)); clear bq
  go_wp2_with fail
  refine ((pend_c p S3 _ Hp O3).mono (fun _ _ h => retU_to (n' := 0) P3.out h)).mono ?_; rintro e0 w13 ⟨rfl, bq⟩
  replace Hp := Lib.hid (Hp.out.below bq)
  replace HB := Lib.hid (HB.out.trans (bq.mono HB.out.size)); clear bq
  go_wp2_with fail
  go_ret
  exact retB_mk rfl HB.out
set_option maxRecDepth 100000 in
theorem bits_01 (N C v n : Nat) (hn : Hid (1 ≤ n ∧ n < 9)) (hN : Hid ((N : Int) % 9 = (n : Nat))) (hC : Hid ((C : Int) % 2 = 0)) (hv : Hid (v < 18446744073709551616)) (w : World) : Calls Try.prog 3 #[.int .u64 N, .int .u64 C, .int .u64 v] w (RetB true w) := by
  have c9 := hN.out
  have c2 := hC.out
  have c9' : (N : Int).tmod 9 = (n : Nat) := by rw [Int.tmod_eq_emod_of_nonneg (by omega)]; exact c9
  have c2' : (C : Int).tmod 2 = 0 := by rw [Int.tmod_eq_emod_of_nonneg (by omega)]; exact c2
  obtain ⟨q, hq⟩ : ∃ q, v % 8 = q := ⟨_, rfl⟩
  obtain ⟨m, hm⟩ : ∃ m, v &&& 510 = m := ⟨_, rfl⟩
  have q8 : Hid (q < 8) := by show _ < _; omega
  have m512 : Hid (m < 512) := by show _ < _; rw [← hm]; exact Nat.lt_of_le_of_lt Nat.and_le_right (by decide)
  have E7 : bits .and .u64 (v : Int) 7 = (q : Int) := by rw [and7 v hv.out, hq]
  have E5 : bits .and .u64 (v : Int) 510 = (m : Int) := by rw [and510 v hv.out, hm]
  have HQ := Lib.hid hq; have HM := Lib.hid hm
  clear hq hm
  obtain ⟨S1, hS1⟩ : ∃ S1, S1 = S0.setPr n q := ⟨_, rfl⟩
  obtain ⟨S2, hS2⟩ : ∃ S2, S2 = S1.setEn 0 m := ⟨_, rfl⟩
  obtain ⟨S3, hS3⟩ : ∃ S3, S3 = S2.setTh 0 q := ⟨_, rfl⟩
  have O3 : Hid (OkS S3) := by rw [hS3, hS2, hS1]; exact ((ok0.setPr n q q8.out).setEn 0 m m512.out).setTh 0 q q8.out
  have P3 : Hid (pendF S3 = 0) := by rw [hS3, hS2, hS1]; exact pend0 (fun _ => rfl) (set_ne _ _ _ _ (by have := hn.out; omega))
  have W3 : Hid (waitF S3 9 = 0) := by rw [hS3, hS2, hS1]; exact wait0 (fun _ => rfl) 9
  have R1 : Hid (S3.pr n = q) := by rw [hS3, hS2, hS1]; exact set_same _ _ _
  have R2 : Hid (S3.en 0 = m) := by rw [hS3, hS2, hS1]; show _ = _; rfl
  have R3 : Hid (S3.en 1 = 0) := by rw [hS3, hS2, hS1]; show _ = _; rfl
  have R4 : Hid (S3.th 0 = q) := by rw [hS3, hS2, hS1]; show _ = _; rfl
  have R5 : Hid (S3.th 1 = 0) := by rw [hS3, hS2, hS1]; show _ = _; rfl
  have HS1 := Lib.hid hS1; have HS2 := Lib.hid hS2; have HS3 := Lib.hid hS3
  clear hS1 hS2 hS3
  have n8 : (n : Int) ≤ 8 := by have := hn.out; omega
  have nz : ((n : Int) == 0) = false := by have := hn.out; simp; omega
  go_enter Try.func3, Try.ntmps3
  go_wp2_with fail
  refine (fixed_c _).mono ?_; rintro e0 w1 ⟨rfl, bq⟩
  have HB := Lib.hid bq; clear bq
  go_wp2_with fail
  refine (new_c _).mono ?_; rintro e0 w2 ⟨p, rfl, gc, hc, bq⟩
  have Gp : Hid (w.heap.size ≤ p) := Nat.le_trans HB.out.size gc
  have Hp := Lib.hid hc; clear gc hc
  replace HB := Lib.hid (HB.out.trans (bq.mono HB.out.size)); clear bq
  go_wp2_with fail
  refine ((write_pr p n v _ S0 _ Hp hv hn (by show _ = _; rfl)).mono (fun _ _ h => retL_to (S' := S1) (by rw [HQ.out]; exact HS1.out.symm) h)).mono ?_; rintro e0 w3 ⟨rfl, h1, hg⟩
  replace Hp : Hid (IsP w3 p S1) := h1; clear h1
  replace HB := Lib.hid (HB.out.grown hg HB.out.size (fun k hk => by cases hk; exact Gp.out)); clear hg
  go_wp2_with fail
  refine ((write_en p 0 v 8192 S1 _ Hp hv (by show _ < _; decide) (by show _ = _; decide)).mono (fun _ _ h => retL_to (S' := S2) (by rw [HM.out]; exact HS2.out.symm) h)).mono ?_; rintro e0 w4 ⟨rfl, h1, hg⟩
  replace Hp : Hid (IsP w4 p S2) := h1; clear h1
  replace HB := Lib.hid (HB.out.grown hg HB.out.size (fun k hk => by cases hk; exact Gp.out)); clear hg
  go_wp2_with fail
  refine ((write_th p 0 v 2097152 S2 _ Hp hv (by show _ < _; decide) (by show _ = _; decide)).mono (fun _ _ h => retL_to (S' := S3) (by rw [HQ.out]; exact HS3.out.symm) h)).mono ?_; rintro e0 w5 ⟨rfl, h1, hg⟩
  replace Hp : Hid (IsP w5 p S3) := h1; clear h1
  replace HB := Lib.hid (HB.out.grown hg HB.out.size (fun k hk => by cases hk; exact Gp.out)); clear hg
  go_wp2_with fail
  refine (write_wait p v S3 _ Hp).mono ?_; rintro e0 w6 ⟨rfl, h1, hg⟩
  replace Hp : Hid (IsP w6 p S3) := h1; clear h1
  replace HB := Lib.hid (HB.out.grown hg HB.out.size (fun k hk => by cases hk; exact Gp.out)); clear hg
  go_wp2_with fail
  refine ((read_pr p n _ S3 _ Hp (by show _ < _; exact hn.out.2) (by show _ = _; rfl)).mono (fun _ _ h => retR_to (n' := q) R1.out h)).mono ?_; rintro e0 w7 ⟨rfl, bq⟩
  replace Hp := Lib.hid (Hp.out.below bq)
  replace HB := Lib.hid (HB.out.trans (bq.mono HB.out.size)); clear bq
  go_wp2_with fail
  refine ((read_en p 0 8192 S3 _ Hp (by show _ < _; decide) (by show _ = _; decide)).mono (fun _ _ h => retR_to (n' := m) R2.out h)).mono ?_; rintro e0 w8 ⟨rfl, bq⟩
  replace Hp := Lib.hid (Hp.out.below bq)
  replace HB := Lib.hid (HB.out.trans (bq.mono HB.out.size)); clear bq
  go_wp2_with fail
  refine ((read_en p 1 8320 S3 _ Hp (by show _ < _; decide) (by show _ = _; decide)).mono (fun _ _ h => retR_to (n' := 0) R3.out h)).mono ?_; rintro e0 w9 ⟨rfl, bq⟩
  replace Hp := Lib.hid (Hp.out.below bq)
  replace HB := Lib.hid (HB.out.trans (bq.mono HB.out.size)); clear bq
  go_wp2_with fail
  refine ((read_th p 0 2097152 S3 _ Hp (by show _ < _; decide) (by show _ = _; decide)).mono (fun _ _ h => retR_to (n' := q) R4.out h)).mono ?_; rintro e0 w10 ⟨rfl, bq⟩
  replace Hp := Lib.hid (Hp.out.below bq)
  replace HB := Lib.hid (HB.out.trans (bq.mono HB.out.size)); clear bq
  go_wp2_with fail
  refine ((read_th p 1 2101248 S3 _ Hp (by show _ < _; decide) (by show _ = _; decide)).mono (fun _ _ h => retR_to (n' := 0) R5.out h)).mono ?_; rintro e0 w11 ⟨rfl, bq⟩
  replace Hp := Lib.hid (Hp.out.below bq)
  replace HB := Lib.hid (HB.out.trans (bq.mono HB.out.size)); clear bq
  go_wp2_with fail
  refine ((read_wait p S3 _ Hp).mono (fun _ _ h => retR_to (n' := 0) W3.out h)).mono ?_; rintro e0 w12 ⟨rfl, bq⟩
  replace Hp := Lib.hid (Hp.out.below bq)
  replace HB := Lib.hid (HB.out.trans (bq.mono HB.out.size)); clear bq
  go_wp2_with fail
  refine ((pend_c p S3 _ Hp O3).mono (fun _ _ h => retU_to (n' := 0) P3.out h)).mono ?_; rintro e0 w13 ⟨rfl, bq⟩
  replace Hp := Lib.hid (Hp.out.below bq)
  replace HB := Lib.hid (HB.out.trans (bq.mono HB.out.size)); clear bq
  go_wp2_with fail
  go_ret
  exact retB_mk rfl HB.out
set_option maxRecDepth 100000 in
theorem bits_10 (N C v : Nat) (hN : Hid ((N : Int) % 9 = (0 : Nat))) (hC : Hid ((C : Int) % 2 = 1)) (hv : Hid (v < 18446744073709551616)) (w : World) : Calls Try.prog 3 #[.int .u64 N, .int .u64 C, .int .u64 v] w (RetB true w) := by
  have c9 := hN.out
  have c2 := hC.out
  have c9' : (N : Int).tmod 9 = (0 : Nat) := by rw [Int.tmod_eq_emod_of_nonneg (by omega)]; exact c9
  have c2' : (C : Int).tmod 2 = 1 := by rw [Int.tmod_eq_emod_of_nonneg (by omega)]; exact c2
  obtain ⟨q, hq⟩ : ∃ q, v % 8 = q := ⟨_, rfl⟩
  obtain ⟨m, hm⟩ : ∃ m, v &&& 510 = m := ⟨_, rfl⟩
  have q8 : Hid (q < 8) := by show _ < _; omega
  have m512 : Hid (m < 512) := by show _ < _; rw [← hm]; exact Nat.lt_of_le_of_lt Nat.and_le_right (by decide)
  have E7 : bits .and .u64 (v : Int) 7 = (q : Int) := by rw [and7 v hv.out, hq]
  have E5 : bits .and .u64 (v : Int) 510 = (m : Int) := by rw [and510 v hv.out, hm]
  have HQ := Lib.hid hq; have HM := Lib.hid hm
  clear hq hm
  obtain ⟨S1, hS1⟩ : ∃ S1, S1 = S0 := ⟨_, rfl⟩
  obtain ⟨S2, hS2⟩ : ∃ S2, S2 = S1.setEn 1 m := ⟨_, rfl⟩
  obtain ⟨S3, hS3⟩ : ∃ S3, S3 = S2.setTh 1 q := ⟨_, rfl⟩
  have O3 : Hid (OkS S3) := by rw [hS3, hS2, hS1]; exact (ok0.setEn 1 m m512.out).setTh 1 q q8.out
  have P3 : Hid (pendF S3 = 0) := by rw [hS3, hS2, hS1]; exact pend0 (fun _ => rfl) rfl
  have W3 : Hid (waitF S3 9 = 0) := by rw [hS3, hS2, hS1]; exact wait0 (fun _ => rfl) 9
  have R1 : Hid (S3.pr 0 = 0) := by rw [hS3, hS2, hS1]; exact rfl
  have R2 : Hid (S3.en 1 = m) := by rw [hS3, hS2, hS1]; show _ = _; rfl
  have R3 : Hid (S3.en 0 = 0) := by rw [hS3, hS2, hS1]; show _ = _; rfl
  have R4 : Hid (S3.th 1 = q) := by rw [hS3, hS2, hS1]; show _ = _; rfl
  have R5 : Hid (S3.th 0 = 0) := by rw [hS3, hS2, hS1]; show _ = _; rfl
  have HS1 := Lib.hid hS1; have HS2 := Lib.hid hS2; have HS3 := Lib.hid hS3
  clear hS1 hS2 hS3

  go_enter Try.func3, Try.ntmps3
  go_wp2_with fail
  refine (fixed_c _).mono ?_; rintro e0 w1 ⟨rfl, bq⟩
  have HB := Lib.hid bq; clear bq
  go_wp2_with fail
  refine (new_c _).mono ?_; rintro e0 w2 ⟨p, rfl, gc, hc, bq⟩
  have Gp : Hid (w.heap.size ≤ p) := Nat.le_trans HB.out.size gc
  have Hp := Lib.hid hc; clear gc hc
  replace HB := Lib.hid (HB.out.trans (bq.mono HB.out.size)); clear bq
  go_wp2_with fail
  refine ((write_0 p v S0 _ Hp).mono (fun _ _ h => retL_to (S' := S1) HS1.out.symm h)).mono ?_; rintro e0 w3 ⟨rfl, h1, hg⟩
  replace Hp : Hid (IsP w3 p S1) := h1; clear h1
  replace HB := Lib.hid (HB.out.grown hg HB.out.size (fun k hk => by cases hk; exact Gp.out)); clear hg
  go_wp2_with fail
  refine ((write_en p 1 v 8320 S1 _ Hp hv (by show _ < _; decide) (by show _ = _; decide)).mono (fun _ _ h => retL_to (S' := S2) (by rw [HM.out]; exact HS2.out.symm) h)).mono ?_; rintro e0 w4 ⟨rfl, h1, hg⟩
  replace Hp : Hid (IsP w4 p S2) := h1; clear h1
  replace HB := Lib.hid (HB.out.grown hg HB.out.size (fun k hk => by cases hk; exact Gp.out)); clear hg
  go_wp2_with fail
  refine ((write_th p 1 v 2101248 S2 _ Hp hv (by show _ < _; decide) (by show _ = _; decide)).mono (fun _ _ h => retL_to (S' := S3) (by rw [HQ.out]; exact HS3.out.symm) h)).mono ?_; rintro e0 w5 ⟨rfl, h1, hg⟩
  replace Hp : Hid (IsP w5 p S3) := h1; clear h1
  replace HB := Lib.hid (HB.out.grown hg HB.out.size (fun k hk => by cases hk; exact Gp.out)); clear hg
  go_wp2_with fail
  refine (write_wait p v S3 _ Hp).mono ?_; rintro e0 w6 ⟨rfl, h1, hg⟩
  replace Hp : Hid (IsP w6 p S3) := h1; clear h1
  replace HB := Lib.hid (HB.out.grown hg HB.out.size (fun k hk => by cases hk; exact Gp.out)); clear hg
  go_wp2_with fail
  refine ((read_pr p 0 _ S3 _ Hp (by show _ < _; decide) (by show _ = _; rfl)).mono (fun _ _ h => retR_to (n' := 0) R1.out h)).mono ?_; rintro e0 w7 ⟨rfl, bq⟩
  replace Hp := Lib.hid (Hp.out.below bq)
  replace HB := Lib.hid (HB.out.trans (bq.mono HB.out.size)); clear bq
  go_wp2_with fail
  refine ((read_en p 1 8320 S3 _ Hp (by show _ < _; decide) (by show _ = _; decide)).mono (fun _ _ h => retR_to (n' := m) R2.out h)).mono ?_; rintro e0 w8 ⟨rfl, bq⟩
  replace Hp := Lib.hid (Hp.out.below bq)
  replace HB := Lib.hid (HB.out.trans (bq.mono HB.out.size)); clear bq
  go_wp2_with fail
  refine ((read_en p 0 8192 S3 _ Hp (by show _ < _; decide) (by show _ = _; decide)).mono (fun _ _ h => retR_to (n' := 0) R3.out h)).mono ?_; rintro e0 w9 ⟨rfl, bq⟩
  replace Hp := Lib.hid (Hp.out.below bq)
  replace HB := Lib.hid (HB.out.trans (bq.mono HB.out.size)); clear bq
  go_wp2_with fail
  refine ((read_th p 1 2101248 S3 _ Hp (by show _ < _; decide) (by show _ = _; decide)).mono (fun _ _ h => retR_to (n' := q) R4.out h)).mono ?_; rintro e0 w10 ⟨rfl, bq⟩
  replace Hp := Lib.hid (Hp.out.below bq)
  replace HB := Lib.hid (HB.out.trans (bq.mono HB.out.size)); clear bq
  go_wp2_with fail
  refine ((read_th p 0 2097152 S3 _ Hp (by show _ < _; decide) (by show _ = _; decide)).mono (fun _ _ h => retR_to (n' := 0) R5.out h)).mono ?_; rintro e0 w11 ⟨rfl, bq⟩
  replace Hp := Lib.hid (Hp.out.below bq)
  replace HB := Lib.hid (HB.out.trans (bq.mono HB.out.size)); clear bq
  go_wp2_with fail
  refine ((read_wait p S3 _ Hp).mono (fun _ _ h => retR_to (n' := 0) W3.out h)).mono ?_; rintro e0 w12 ⟨rfl, bq⟩
  replace Hp := Lib.hid (Hp.out.below bq)
  replace HB := Lib.hid (HB.out.trans (bq.mono HB.out.size)); clear bq
  go_wp2_with fail
  refine ((pend_c p S3 _ Hp O3).mono (fun _ _ h => retU_to (n' := 0) P3.out h)).mono ?_; rintro e0 w13 ⟨rfl, bq⟩
  replace Hp := Lib.hid (Hp.out.below bq)
  replace HB := Lib.hid (HB.out.trans (bq.mono HB.out.size)); clear bq
  go_wp2_with fail
  go_ret
  exact retB_mk rfl HB.out
set_option maxRecDepth 100000 in
theorem bits_11 (N C v n : Nat) (hn : Hid (1 ≤ n ∧ n < 9)) (hN : Hid ((N : Int) % 9 = (n : Nat))) (hC : Hid ((C : Int) % 2 = 1)) (hv : Hid (v < 18446744073709551616)) (w : World) : Calls Try.prog 3 #[.int .u64 N, .int .u64 C, .int .u64 v] w (RetB true w) := by
  have c9 := hN.out
  have c2 := hC.out
  have c9' : (N : Int).tmod 9 = (n : Nat) := by rw [Int.tmod_eq_emod_of_nonneg (by omega)]; exact c9
  have c2' : (C : Int).tmod 2 = 1 := by rw [Int.tmod_eq_emod_of_nonneg (by omega)]; exact c2
  obtain ⟨q, hq⟩ : ∃ q, v % 8 = q := ⟨_, rfl⟩
  obtain ⟨m, hm⟩ : ∃ m, v &&& 510 = m := ⟨_, rfl⟩
  have q8 : Hid (q < 8) := by show _ < _; omega
  have m512 : Hid (m < 512) := by show _ < _; rw [← hm]; exact Nat.lt_of_le_of_lt Nat.and_le_right (by decide)
  have E7 : bits .and .u64 (v : Int) 7 = (q : Int) := by rw [and7 v hv.out, hq]
  have E5 : bits .and .u64 (v : Int) 510 = (m : Int) := by rw [and510 v hv.out, hm]
  have HQ := Lib.hid hq; have HM := Lib.hid hm
  clear hq hm
  obtain ⟨S1, hS1⟩ : ∃ S1, S1 = S0.setPr n q := ⟨_, rfl⟩
  obtain ⟨S2, hS2⟩ : ∃ S2, S2 = S1.setEn 1 m := ⟨_, rfl⟩
  obtain ⟨S3, hS3⟩ : ∃ S3, S3 = S2.setTh 1 q := ⟨_, rfl⟩
  have O3 : Hid (OkS S3) := by rw [hS3, hS2, hS1]; exact ((ok0.setPr n q q8.out).setEn 1 m m512.out).setTh 1 q q8.out
  have P3 : Hid (pendF S3 = 0) := by rw [hS3, hS2, hS1]; exact pend0 (fun _ => rfl) (set_ne _ _ _ _ (by have := hn.out; omega))
  have W3 : Hid (waitF S3 9 = 0) := by rw [hS3, hS2, hS1]; exact wait0 (fun _ => rfl) 9
  have R1 : Hid (S3.pr n = q) := by rw [hS3, hS2, hS1]; exact set_same _ _ _
  have R2 : Hid (S3.en 1 = m) := by rw [hS3, hS2, hS1]; show _ = _; rfl
  have R3 : Hid (S3.en 0 = 0) := by rw [hS3, hS2, hS1]; show _ = _; rfl
  have R4 : Hid (S3.th 1 = q) := by rw [hS3, hS2, hS1]; show _ = _; rfl
  have R5 : Hid (S3.th 0 = 0) := by rw [hS3, hS2, hS1]; show _ = _; rfl
  have HS1 := Lib.hid hS1; have HS2 := Lib.hid hS2; have HS3 := Lib.hid hS3
  clear hS1 hS2 hS3
  have n8 : (n : Int) ≤ 8 := by have := hn.out; omega
  have nz : ((n : Int) == 0) = false := by have := hn.out; simp; omega
  go_enter Try.func3, Try.ntmps3
  go_wp2_with fail
  refine (fixed_c _).mono ?_; rintro e0 w1 ⟨rfl, bq⟩
  have HB := Lib.hid bq; clear bq
  go_wp2_with fail
  refine (new_c _).mono ?_; rintro e0 w2 ⟨p, rfl, gc, hc, bq⟩
  have Gp : Hid (w.heap.size ≤ p) := Nat.le_trans HB.out.size gc
  have Hp := Lib.hid hc; clear gc hc
  replace HB := Lib.hid (HB.out.trans (bq.mono HB.out.size)); clear bq
  go_wp2_with fail
  refine ((write_pr p n v _ S0 _ Hp hv hn (by show _ = _; rfl)).mono (fun _ _ h => retL_to (S' := S1) (by rw [HQ.out]; exact HS1.out.symm) h)).mono ?_; rintro e0 w3 ⟨rfl, h1, hg⟩
  replace Hp : Hid (IsP w3 p S1) := h1; clear h1
  replace HB := Lib.hid (HB.out.grown hg HB.out.size (fun k hk => by cases hk; exact Gp.out)); clear hg
  go_wp2_with fail
  refine ((write_en p 1 v 8320 S1 _ Hp hv (by show _ < _; decide) (by show _ = _; decide)).mono (fun _ _ h => retL_to (S' := S2) (by rw [HM.out]; exact HS2.out.symm) h)).mono ?_; rintro e0 w4 ⟨rfl, h1, hg⟩
  replace Hp : Hid (IsP w4 p S2) := h1; clear h1
  replace HB := Lib.hid (HB.out.grown hg HB.out.size (fun k hk => by cases hk; exact Gp.out)); clear hg
  go_wp2_with fail
  refine ((write_th p 1 v 2101248 S2 _ Hp hv (by show _ < _; decide) (by show _ = _; decide)).mono (fun _ _ h => retL_to (S' := S3) (by rw [HQ.out]; exact HS3.out.symm) h)).mono ?_; rintro e0 w5 ⟨rfl, h1, hg⟩
  replace Hp : Hid (IsP w5 p S3) := h1; clear h1
  replace HB := Lib.hid (HB.out.grown hg HB.out.size (fun k hk => by cases hk; exact Gp.out)); clear hg
  go_wp2_with fail
  refine (write_wait p v S3 _ Hp).mono ?_; rintro e0 w6 ⟨rfl, h1, hg⟩
  replace Hp : Hid (IsP w6 p S3) := h1; clear h1
  replace HB := Lib.hid (HB.out.grown hg HB.out.size (fun k hk => by cases hk; exact Gp.out)); clear hg
  go_wp2_with fail
  refine ((read_pr p n _ S3 _ Hp (by show _ < _; exact hn.out.2) (by show _ = _; rfl)).mono (fun _ _ h => retR_to (n' := q) R1.out h)).mono ?_; rintro e0 w7 ⟨rfl, bq⟩
  replace Hp := Lib.hid (Hp.out.below bq)
  replace HB := Lib.hid (HB.out.trans (bq.mono HB.out.size)); clear bq
  go_wp2_with fail
  refine ((read_en p 1 8320 S3 _ Hp (by show _ < _; decide) (by show _ = _; decide)).mono (fun _ _ h => retR_to (n' := m) R2.out h)).mono ?_; rintro e0 w8 ⟨rfl, bq⟩
  replace Hp := Lib.hid (Hp.out.below bq)
  replace HB := Lib.hid (HB.out.trans (bq.mono HB.out.size)); clear bq
  go_wp2_with fail
  refine ((read_en p 0 8192 S3 _ Hp (by show _ < _; decide) (by show _ = _; decide)).mono (fun _ _ h => retR_to (n' := 0) R3.out h)).mono ?_; rintro e0 w9 ⟨rfl, bq⟩
  replace Hp := Lib.hid (Hp.out.below bq)
  replace HB := Lib.hid (HB.out.trans (bq.mono HB.out.size)); clear bq
  go_wp2_with fail
  refine ((read_th p 1 2101248 S3 _ Hp (by show _ < _; decide) (by show _ = _; decide)).mono (fun _ _ h => retR_to (n' := q) R4.out h)).mono ?_; rintro e0 w10 ⟨rfl, bq⟩
  replace Hp := Lib.hid (Hp.out.below bq)
  replace HB := Lib.hid (HB.out.trans (bq.mono HB.out.size)); clear bq
  go_wp2_with fail
  refine ((read_th p 0 2097152 S3 _ Hp (by show _ < _; decide) (by show _ = _; decide)).mono (fun _ _ h => retR_to (n' := 0) R5.out h)).mono ?_; rintro e0 w11 ⟨rfl, bq⟩
  replace Hp := Lib.hid (Hp.out.below bq)
  replace HB := Lib.hid (HB.out.trans (bq.mono HB.out.size)); clear bq
  go_wp2_with fail
  refine ((read_wait p S3 _ Hp).mono (fun _ _ h => retR_to (n' := 0) W3.out h)).mono ?_; rintro e0 w12 ⟨rfl, bq⟩
  replace Hp := Lib.hid (Hp.out.below bq)
  replace HB := Lib.hid (HB.out.trans (bq.mono HB.out.size)); clear bq
  go_wp2_with fail
  refine ((pend_c p S3 _ Hp O3).mono (fun _ _ h => retU_to (n' := 0) P3.out h)).mono ?_; rintro e0 w13 ⟨rfl, bq⟩
  replace Hp := Lib.hid (Hp.out.below bq)
  replace HB := Lib.hid (HB.out.trans (bq.mono HB.out.size)); clear bq
  go_wp2_with fail
  go_ret
  exact retB_mk rfl HB.out
theorem bits_walk (N C v : Nat) (hv : Hid (v < 18446744073709551616)) (w : World) : Calls Try.prog 3 #[.int .u64 N, .int .u64 C, .int .u64 v] w (RetB true w) := by
  obtain ⟨n, hn⟩ : ∃ n, N % 9 = n := ⟨_, rfl⟩
  have hN : (N : Int) % 9 = (n : Nat) := by omega
  by_cases h0 : n = 0
  · subst h0
    rcases (show (C : Int) % 2 = 0 ∨ (C : Int) % 2 = 1 by omega) with hC | hC
    · exact bits_00 N C v hN hC hv w
    · exact bits_10 N C v hN hC hv w
  · rcases (show (C : Int) % 2 = 0 ∨ (C : Int) % 2 = 1 by omega) with hC | hC
    · exact bits_01 N C v n (by show _ ∧ _; omega) hN hC hv w
    · exact bits_11 N C v n (by show _ ∧ _; omega) hN hC hv w
end Go.Proofs.Ytfdhhmgenbopbaa
