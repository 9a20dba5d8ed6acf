/- What registers hold, whatever was written: its mathematics. -/
import Derived.Test.YtmlbobjbkbcabaaC0
namespace Go.Proofs.Ytmlbobjbkbcabaa
open Go.ChangeShapes Go.WideShapes Go.ChangeAt Go.RowKit P
set_option linter.unusedVariables false
set_option linter.unusedSimpArgs false
def mskC (k : Nat) : Nat := if k = 14 ∨ k = 1 then 18446744073709551613 else if k = 15 ∨ k = 6 then 18446744073709551614 else if k = 19 ∨ k = 10 then 7 else if k = 11 then 5 else if k = 2 then 46078 else if k = 3 then 546 else if k = 4 then 2730 else if k = 5 then 546 else if k = 21 then 255 else 18446744073709551615
structure Leg (S : Nat → Nat) : Prop where
  ok : OkS S
  m0 : stlN (S 0) = S 0
  m1 : (S 0 &&& 6144 == 4096) = false
  pl : ∀ k, k < 22 → S k &&& mskC k = S k
  sat : S 20 / 1152921504606846976 = 0 ∨ S 20 / 1152921504606846976 = 8
  cf : ∀ j, j < 8 → cleanF (cfO S j) = cfO S j ∧ oddB (cfO S j) = false
  ad : ∀ j, j < 8 → adO S j < 18014398509481984
theorem leg_rst : Leg rstF := ⟨rst_ok, by decide +kernel, by decide +kernel, by decide +kernel, by decide +kernel, by decide +kernel, by decide +kernel⟩
theorem setN_at (S : Nat → Nat) (k x : Nat) : setN S k x k = x := by unfold setN; rw [show (k == k) = true by simp]; rfl
theorem setN_ne {S : Nat → Nat} {k x j : Nat} (h : j ≠ k) : setN S k x j = S j := by unfold setN; rw [show (j == k) = false by simp [h]]; rfl
theorem cfO_ne {S : Nat → Nat} {k x j : Nat} (h : k < 22 ∨ 30 ≤ k) : cfO (setN S k x) j = cfO S j := by unfold cfO; exact setN_ne (by omega)
theorem adO_ne {S : Nat → Nat} {k x j : Nat} (h : k < 30) : adO (setN S k x) j = adO S j := by unfold adO; exact setN_ne (by omega)
theorem ones_nat (x : Nat) (hx : x < 18446744073709551616) : x &&& 18446744073709551615 = x := by
  rw [show (18446744073709551615 : Nat) = 2 ^ 64 - 1 from rfl, Nat.and_two_pow_sub_one_eq_mod, Nat.mod_eq_of_lt hx]
theorem leg_set {S : Nat → Nat} (h : Leg S) (k x : Nat) (hk : k < 22) (k0 : k ≠ 0) (k20 : k ≠ 20) (hx : x < 18446744073709551616) (hm : x &&& mskC k = x) : Leg (setN S k x) := by
  have e0 : setN S k x 0 = S 0 := setN_ne (fun e => k0 e.symm)
  have e20 : setN S k x 20 = S 20 := setN_ne (fun e => k20 e.symm)
  refine ⟨setN_ok h.ok k x hx (by omega), by rw [e0]; exact h.m0, by rw [e0]; exact h.m1, fun j hj => ?_, by rw [e20]; exact h.sat, fun j hj => by rw [cfO_ne (.inl hk)]; exact h.cf j hj, fun j hj => by rw [adO_ne (by omega)]; exact h.ad j hj⟩
  by_cases e : j = k
  · subst e; rw [setN_at]; exact hm
  · rw [setN_ne e]; exact h.pl j hj
theorem leg_set0 {S : Nat → Nat} (h : Leg S) (x : Nat) (hx : x < 18446744073709551616) (h0 : stlN x = x) (h1 : (x &&& 6144 == 4096) = false) : Leg (setN S 0 x) := by
  have e20 : setN S 0 x 20 = S 20 := setN_ne (by decide)
  refine ⟨setN_ok h.ok 0 x hx (by decide), by rw [setN_at]; exact h0, by rw [setN_at]; exact h1, fun j hj => ?_, by rw [e20]; exact h.sat, fun j hj => by rw [cfO_ne (.inl (by decide))]; exact h.cf j hj, fun j hj => by rw [adO_ne (by decide)]; exact h.ad j hj⟩
  by_cases e : j = 0
  · subst e; rw [setN_at]; exact ones_nat x hx
  · rw [setN_ne e]; exact h.pl j hj
theorem leg_set20 {S : Nat → Nat} (h : Leg S) (x : Nat) (hx : x < 18446744073709551616) (h0 : x / 1152921504606846976 = 0 ∨ x / 1152921504606846976 = 8) : Leg (setN S 20 x) := by
  have e0 : setN S 20 x 0 = S 0 := setN_ne (by decide)
  refine ⟨setN_ok h.ok 20 x hx (by decide), by rw [e0]; exact h.m0, by rw [e0]; exact h.m1, fun j hj => ?_, by rw [setN_at]; exact h0, fun j hj => by rw [cfO_ne (.inl (by decide))]; exact h.cf j hj, fun j hj => by rw [adO_ne (by decide)]; exact h.ad j hj⟩
  by_cases e : j = 20
  · subst e; rw [setN_at]; exact ones_nat x hx
  · rw [setN_ne e]; exact h.pl j hj
theorem setC_lo {S F : Nat → Nat} {k : Nat} (h : k < 22 ∨ 30 ≤ k) : setC S F k = S k := by
  unfold setC
  have e2 : (Nat.blt k 30 && !Nat.blt k 22) = false := by
    rw [Bool.eq_false_iff]; intro q
    rw [Bool.and_eq_true, Nat.blt_eq, Bool.not_eq_true', Bool.eq_false_iff, ne_eq, Nat.blt_eq] at q
    omega
  rw [e2]; rfl
theorem setC_at {S F : Nat → Nat} {j : Nat} (h : j < 8) : setC S F (22 + j) = F j := by
  unfold setC
  rw [show Nat.blt (22 + j) 30 = true by rw [Nat.blt_eq]; omega, show Nat.blt (22 + j) 22 = false by rw [Bool.eq_false_iff, ne_eq, Nat.blt_eq]; omega]
  show F (22 + j - 22) = F j
  rw [show 22 + j - 22 = j by omega]
theorem setA_lo {S F : Nat → Nat} {k : Nat} (h : k < 30) : setA S F k = S k := by
  unfold setA; rw [show Nat.blt k 30 = true by rw [Nat.blt_eq]; exact h]; rfl
theorem setA_at {S F : Nat → Nat} (j : Nat) : setA S F (30 + j) = F j := by
  unfold setA; rw [show Nat.blt (30 + j) 30 = false by rw [Bool.eq_false_iff, ne_eq, Nat.blt_eq]; omega]
  show F (30 + j - 30) = F j
  rw [show 30 + j - 30 = j by omega]
theorem leg_setC {S F : Nat → Nat} (h : Leg S) (hok : OkS (setC S F)) (hF : ∀ j, j < 8 → cleanF (F j) = F j ∧ oddB (F j) = false) : Leg (setC S F) := by
  have lo : ∀ k, k < 22 → setC S F k = S k := fun k hk => setC_lo (.inl hk)
  refine ⟨hok, by rw [lo 0 (by decide)]; exact h.m0, by rw [lo 0 (by decide)]; exact h.m1, fun j hj => by rw [lo j hj]; exact h.pl j hj, by rw [lo 20 (by decide)]; exact h.sat, fun j hj => ?_, fun j hj => ?_⟩
  · have e : cfO (setC S F) j = F j := by unfold cfO; rw [show j % 8 = j by omega]; exact setC_at hj
    rw [e]; exact hF j hj
  · have e : adO (setC S F) j = adO S j := by unfold adO; exact setC_lo (.inr (by omega))
    rw [e]; exact h.ad j hj
theorem leg_setA {S F : Nat → Nat} (h : Leg S) (hok : OkS (setA S F)) (hF : ∀ j, j < 8 → F j < 18014398509481984) : Leg (setA S F) := by
  have lo : ∀ k, k < 30 → setA S F k = S k := fun k hk => setA_lo hk
  refine ⟨hok, by rw [lo 0 (by decide)]; exact h.m0, by rw [lo 0 (by decide)]; exact h.m1, fun j hj => by rw [lo j (by omega)]; exact h.pl j hj, by rw [lo 20 (by decide)]; exact h.sat, fun j hj => ?_, fun j hj => ?_⟩
  · have e : cfO (setA S F) j = cfO S j := by unfold cfO; exact lo _ (by omega)
    rw [e]; exact h.cf j hj
  · have e : adO (setA S F) j = F j := by unfold adO; rw [show j % 8 = j by omega]; exact setA_at j
    rw [e]; exact hF j hj
theorem fld_fld (u : Nat) : fldN (fldN u) = fldN u := by
  refine ext64 (fld_lt _) (fld_lt _) (fun i hi => ?_)
  unfold fldN
  simp only [Nat.testBit_and, Nat.testBit_or]
  obtain ⟨j, rfl⟩ : ∃ j : Fin 64, j.val = i := ⟨⟨i, hi⟩, rfl⟩
  generalize u.testBit j.val = a
  clear hi u
  revert j a
  decide +kernel
theorem fld_dirty (u : Nat) : fldN (fldN u ||| 9223372036854775808) = fldN u := by
  refine ext64 (fld_lt _) (fld_lt _) (fun i hi => ?_)
  unfold fldN
  simp only [Nat.testBit_and, Nat.testBit_or]
  obtain ⟨j, rfl⟩ : ∃ j : Fin 64, j.val = i := ⟨⟨i, hi⟩, rfl⟩
  generalize u.testBit j.val = a
  clear hi u
  revert j a
  decide +kernel
theorem fld_stl (u : Nat) : fldN (stlN u) = fldN u := by
  unfold stlN
  cases fldN u &&& 24576 == 24576
  · exact fld_fld u
  · exact fld_dirty u
theorem stl_idem (u : Nat) : stlN (stlN u) = stlN u := stl_congr (fld_stl u)
/-- A field of Mstatus is what it was: through its mask. -/
theorem fld_mask (u m : Nat) (hm : ∀ j : Fin 64, m.testBit j.val = true → (8288682 : Nat).testBit j.val = true ∧ (42949672960 : Nat).testBit j.val = false) (hm2 : m < 18446744073709551616) : fldN u &&& m = u &&& m := by
  refine ext64 (and_lt _ _ (fld_lt _)) (and_lt2 _ _ hm2) (fun i hi => ?_)
  unfold fldN
  simp only [Nat.testBit_and, Nat.testBit_or]
  have h := hm ⟨i, hi⟩
  cases hb : m.testBit i with
  | false => simp
  | true =>
    obtain ⟨h1, h2⟩ := h hb
    rw [show (8288682 : Nat).testBit i = true from h1, show (42949672960 : Nat).testBit i = false from h2]
    simp
theorem or_mask (x m : Nat) (hm : ∀ j : Fin 64, m.testBit j.val = true → (9223372036854775808 : Nat).testBit j.val = false) (hm2 : m < 18446744073709551616) : (x ||| 9223372036854775808) &&& m = x &&& m := by
  refine ext64 (and_lt2 _ _ hm2) (and_lt2 _ _ hm2) (fun i hi => ?_)
  simp only [Nat.testBit_and, Nat.testBit_or]
  have h := hm ⟨i, hi⟩
  cases hb : m.testBit i with
  | false => simp
  | true => rw [show (9223372036854775808 : Nat).testBit i = false from h hb]; simp
theorem stl_mask (u m : Nat) (h1 : ∀ j : Fin 64, m.testBit j.val = true → (8288682 : Nat).testBit j.val = true ∧ (42949672960 : Nat).testBit j.val = false) (h2 : ∀ j : Fin 64, m.testBit j.val = true → (9223372036854775808 : Nat).testBit j.val = false) (hm : m < 18446744073709551616) : stlN u &&& m = u &&& m := by
  unfold stlN
  cases fldN u &&& 24576 == 24576
  · exact fld_mask u m h1 hm
  · show (fldN u ||| 9223372036854775808) &&& m = _
    rw [or_mask _ m h2 hm]; exact fld_mask u m h1 hm
theorem stl_mpp (u : Nat) : stlN u &&& 6144 = u &&& 6144 := stl_mask u 6144 (by decide +kernel) (by decide +kernel) (by decide)
theorem mix_mask (a b m k : Nat) (hk : k < 18446744073709551616) (hm : m < 18446744073709551616) (h : m &&& k = 0) : mixN a b m &&& k = a &&& k := by
  refine ext64 (and_lt2 _ _ hk) (and_lt2 _ _ hk) (fun i hi => ?_)
  have hz : (m &&& k).testBit i = false := by rw [h, Nat.zero_testBit]
  unfold mixN
  rw [Nat.testBit_and] at hz
  simp only [Nat.testBit_and, Nat.testBit_or]
  rw [not_bit m i hm hi]
  cases hb : k.testBit i with
  | false => simp
  | true => rw [hb, Bool.and_true] at hz; rw [hz]; simp
theorem mix_in (a b m k : Nat) (hk : k < 18446744073709551616) (hm : m < 18446744073709551616) (h : m &&& k = k) : mixN a b m &&& k = b &&& k := by
  refine ext64 (and_lt2 _ _ hk) (and_lt2 _ _ hk) (fun i hi => ?_)
  have hz : (m &&& k).testBit i = k.testBit i := by rw [h]
  unfold mixN
  rw [Nat.testBit_and] at hz
  simp only [Nat.testBit_and, Nat.testBit_or]
  rw [not_bit m i hm hi]
  cases hb : k.testBit i with
  | false => simp
  | true => rw [hb, Bool.and_true] at hz; rw [hz]; simp
/-- What is mixed of two numbers within a mask, or by a mask within it, is within it. -/
theorem mix_sub (a b m k : Nat) (hb : b < 18446744073709551616) (ha : a &&& k = a) (hm : m &&& k = m) (hk : k < 18446744073709551616) : mixN a b m &&& k = mixN a b m := by
  have al : a < 18446744073709551616 := by rw [← ha]; exact and_lt2 _ _ hk
  have ml : m < 18446744073709551616 := by rw [← hm]; exact and_lt2 _ _ hk
  refine ext64 (and_lt2 _ _ hk) (mix_lt _ _ _ al hb) (fun i hi => ?_)
  have h1 : a.testBit i = (a.testBit i && k.testBit i) := by rw [← Nat.testBit_and, ha]
  have h2 : m.testBit i = (m.testBit i && k.testBit i) := by rw [← Nat.testBit_and, hm]
  unfold mixN
  simp only [Nat.testBit_and, Nat.testBit_or]
  rw [not_bit m i ml hi]
  cases hx : a.testBit i <;> cases hy : m.testBit i <;> cases hz : k.testBit i <;> simp_all
theorem and_sub (v m : Nat) : (v &&& m) &&& m = v &&& m := by rw [Nat.and_assoc, Nat.and_self]
theorem flt_mpp (s : Nat) : (s ||| 24576) &&& 6144 = s &&& 6144 := by
  refine ext64 (and_lt2 _ _ (by decide)) (and_lt2 _ _ (by decide)) (fun i hi => ?_)
  simp only [Nat.testBit_and, Nat.testBit_or]
  obtain ⟨j, rfl⟩ : ∃ j : Fin 64, j.val = i := ⟨⟨i, hi⟩, rfl⟩
  generalize s.testBit j.val = a
  clear hi s
  revert j a
  decide +kernel
theorem clean_clean : ∀ b, b < 256 → cleanF (cleanF b) = cleanF b ∧ oddB (cleanF b) = oddB b := by
  intro b hb
  have h : ∀ b : Fin 256, cleanF (cleanF b.val) = cleanF b.val ∧ oddB (cleanF b.val) = oddB b.val := by decide +kernel
  exact h ⟨b, hb⟩
theorem leg_wr {S : Nat → Nat} (h : Leg S) (n : Int) (v : Nat) (hv : v < 18446744073709551616) : Leg (wrF S n v) := by
  have hok := wr_ok h.ok n v hv
  have u : ∀ k, k < 22 → S k < 18446744073709551616 := fun k hk => h.ok.u k (by omega)
  have fl : ∀ x, x < 18446744073709551616 → x &&& 255 = x → Leg (setN (setN S 21 x) 0 (stlN (S 0 ||| 24576))) := fun x hx hm =>
    leg_set0 (leg_set h 21 x (by decide) (by decide) (by decide) hx hm) _ (stl_lt _) (stl_idem _) (by rw [stl_mpp, flt_mpp]; exact h.m1)
  unfold wrF at hok ⊢
  by_cases c0 : fixB n = true
  · rw [if_pos c0]; exact h
  rw [if_neg c0] at hok ⊢
  by_cases c1 : n = 1
  · rw [if_pos c1]; exact fl _ (mix_lt _ _ _ (u 21 (by decide)) hv) (mix_sub _ _ _ _ hv (h.pl 21 (by decide)) (by decide) (by decide))
  rw [if_neg c1] at hok ⊢
  by_cases c2 : n = 2
  · rw [if_pos c2]; exact fl _ (mix_lt _ _ _ (u 21 (by decide)) (Nat.mod_lt _ (by decide))) (mix_sub _ _ _ _ (Nat.mod_lt _ (by decide)) (h.pl 21 (by decide)) (by decide) (by decide))
  rw [if_neg c2] at hok ⊢
  by_cases c3 : n = 3
  · rw [if_pos c3]; exact fl _ (and_lt _ _ hv) (and_sub _ _)
  rw [if_neg c3] at hok ⊢
  by_cases c4 : n = 256
  · rw [if_pos c4]; exact leg_set0 h _ (stl_lt _) (stl_idem _) (by rw [stl_mpp, mix_mask _ _ _ _ (by decide) (by decide) (by decide)]; exact h.m1)
  rw [if_neg c4] at hok ⊢
  by_cases c5 : n = 768
  · rw [if_pos c5]
    unfold stB
    refine leg_set0 h _ (stl_lt _) (stl_idem _) ?_
    rw [stl_mpp]
    cases q : v &&& 6144 == 4096
    · exact q
    · show (mixN v (S 0) 6144 &&& 6144 == 4096) = false
      rw [mix_in _ _ _ _ (by decide) (by decide) (by decide)]; exact h.m1
  rw [if_neg c5] at hok ⊢
  by_cases c6 : n = 260
  · rw [if_pos c6]
    refine leg_set h 4 _ (by decide) (by decide) (by decide) (mix_lt _ _ _ (u 4 (by decide)) hv) (mix_sub _ _ _ _ hv (h.pl 4 (by decide)) ?_ (by decide))
    have := h.pl 3 (by decide)
    rw [show mskC 3 = 546 from rfl] at this
    rw [show mskC 4 = 2730 from rfl, ← this, Nat.and_assoc]
    rfl
  rw [if_neg c6] at hok ⊢
  by_cases c7 : n = 772
  · rw [if_pos c7]; exact leg_set h 4 _ (by decide) (by decide) (by decide) (and_lt _ _ hv) (and_sub _ _)
  rw [if_neg c7] at hok ⊢
  by_cases c8 : n = 324
  · rw [if_pos c8]
    refine leg_set h 5 _ (by decide) (by decide) (by decide) (mix_lt _ _ _ (u 5 (by decide)) hv) (mix_sub _ _ _ _ hv (h.pl 5 (by decide)) ?_ (by decide))
    rw [show mskC 5 = 546 from rfl, Nat.and_comm 2 (S 3), Nat.and_assoc]
    rfl
  rw [if_neg c8] at hok ⊢
  by_cases c9 : n = 836
  · rw [if_pos c9]; exact leg_set h 5 _ (by decide) (by decide) (by decide) (mix_lt _ _ _ (u 5 (by decide)) hv) (mix_sub _ _ _ _ hv (h.pl 5 (by decide)) (by decide) (by decide))
  rw [if_neg c9] at hok ⊢
  by_cases c10 : n = 928
  · rw [if_pos c10] at hok ⊢
    refine leg_setC h hok (fun j hj => ?_)
    have hb : byteF v j < 256 := Nat.mod_lt _ (by decide)
    unfold cfgF
    cases q1 : lockB (cfO S j)
    · cases q2 : oddB (byteF v j)
      · have := clean_clean _ hb
        exact ⟨this.1, this.2.trans q2⟩
      · exact h.cf j hj
    · exact h.cf j hj
  rw [if_neg c10] at hok ⊢
  by_cases c11 : 944 ≤ n ∧ n ≤ 951
  · rw [if_pos c11] at hok ⊢
    refine leg_setA h hok (fun j hj => ?_)
    unfold adrF
    cases (j == (n - 944).toNat && !heldB (cfO S) (n - 944).toNat)
    · exact h.ad j hj
    · exact adr_lt v
  rw [if_neg c11] at hok ⊢
  by_cases c12 : plK n = 38
  · rw [if_pos c12]; exact h
  rw [if_neg c12] at hok ⊢
  cases q : fitB n v with
  | false => rw [if_neg (by decide)]; exact h
  | true =>
    rw [if_pos rfl]
    have st : ∀ k m, k < 22 → k ≠ 0 → k ≠ 20 → mskC k = m → Leg (setN S k (v &&& m)) := fun k m h1 h2 h3 h4 => leg_set h k _ h1 h2 h3 (and_lt _ _ hv) (by rw [h4]; exact and_sub _ _)
    rcases pl_cases c12 with rfl | rfl | rfl | rfl | rfl | rfl | rfl | rfl | rfl | rfl | rfl | rfl | rfl | rfl | rfl | rfl | rfl | rfl | rfl | rfl | rfl | rfl | rfl | rfl | rfl | rfl | rfl | rfl
    all_goals first
      | exact absurd (by decide) c0
      | exact absurd (by decide) c11
      | exact st _ _ (by decide) (by decide) (by decide) rfl
      | (refine leg_set20 h _ (and_lt _ _ hv) ?_
         have e9 : v &&& lfM 384 = v := ones_nat v hv
         rw [e9]
         unfold fitB at q
         simp only [Bool.or_eq_true, beq_iff_eq] at q
         rcases q with (q | q) | q
         · exact absurd q (by decide)
         · exact .inl q
         · exact .inr q)
end Go.Proofs.Ytmlbobjbkbcabaa
