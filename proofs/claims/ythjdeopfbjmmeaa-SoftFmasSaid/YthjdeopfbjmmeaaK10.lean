/- The reference's Over, Root. -/
import Derived.Test.YthjdeopfbjmmeaaK8
namespace Go.Proofs.Ythjdeopfbjmmeaa
open Go.ChangeShapes Go.WideShapes Go.ChangeAt Go.RowKit
set_option linter.unusedVariables false
set_option linter.unusedSimpArgs false
theorem one_big (w : World) : IsBig (w.alloc (Obj.cells #[.int .u32 1] 90)) w.heap.size 1 1 1 := by
  refine ⟨⟨by rw [sz_alloc]; omega, Nat.le_refl _, fun i hi => ?_, by decide⟩, .inr (by decide)⟩
  obtain rfl : i = 0 := by omega
  rw [World.cell?_alloc_at _ _ _ _ rfl]
  simp [dg, shd]
theorem zero_big (w : World) : Hid (IsBig ((w.alloc (Obj.cells #[] 90)).alloc (Obj.cells #[] 90)) w.heap.size 0 0 0) := ⟨⟨by simp only [sz_alloc]; omega, Nat.le_refl _, fun i hi => absurd hi (by omega), by decide⟩, .inl rfl⟩
theorem zero_big2 (w : World) : Hid (IsBig ((w.alloc (Obj.cells #[] 90)).alloc (Obj.cells #[] 90)) (w.heap.size + 1) 0 0 0) := ⟨⟨by simp only [sz_alloc]; omega, Nat.le_refl _, fun i hi => absurd hi (by omega), by decide⟩, .inl rfl⟩
theorem zero_big1 (w : World) : Hid (IsBig (w.alloc (Obj.cells #[] 90)) w.heap.size 0 0 0) := ⟨⟨by simp only [sz_alloc]; omega, Nat.le_refl _, fun i hi => absurd hi (by omega), by decide⟩, .inl rfl⟩
theorem below_one (w : World) (o : Obj) : Below w.heap.size w (w.alloc o) := (Below.refl w.heap.size w).alloc (Nat.le_refl _) _
theorem plus1_c (g n p A : Nat) (w : World) (h : Hid (IsRaw w g n p A)) (hn : n ≤ 900) :
    Calls Try.prog 67 #[.slice (some ⟨g, 0, none⟩) n p, .slice (some ⟨w.heap.size, 0, none⟩) 1 1] (w.alloc (Obj.cells #[.int .u32 1] 90)) (RetG (A + 1) w) := by
  refine (bplus_c g n p A w.heap.size 1 1 1 _ (Lib.hid (raw_below h.out (below_one w _) (Nat.le_refl _))) (Lib.hid (one_big w).1) hn (by omega)).mono ?_
  intro e w' h2
  exact retG_of h2 (below_one w _) (by rw [sz_alloc]; omega)
theorem up1_c (s : Nat) (w : World) (hs : s ≤ 20000) :
    Calls Try.prog 56 #[.slice (some ⟨w.heap.size, 0, none⟩) 1 1, .int .i64 s] (w.alloc (Obj.cells #[.int .u32 1] 90)) (RetG (2 ^ s) w) := by
  refine (up_c w.heap.size 1 1 1 s _ (Lib.hid (one_big w).1) hs (by omega)).mono ?_
  intro e w' h2
  rw [Nat.one_mul] at h2
  exact retG_of h2 (below_one w _) (by rw [sz_alloc]; omega)
theorem over_step (A B j : Nat) (hB : 0 < B) : (A / 2 ^ j) = A / 2 ^ (j + 1) * 2 + bitN A j ∧
    (A / 2 ^ (j + 1) % B * 2 + bitN A j < B → A / 2 ^ j / B = A / 2 ^ (j + 1) / B * 2 ∧ A / 2 ^ j % B = A / 2 ^ (j + 1) % B * 2 + bitN A j) ∧
    (¬ A / 2 ^ (j + 1) % B * 2 + bitN A j < B → A / 2 ^ j / B = A / 2 ^ (j + 1) / B * 2 + 1 ∧ A / 2 ^ j % B = A / 2 ^ (j + 1) % B * 2 + bitN A j - B) := by
  have e1 : A / 2 ^ j = A / 2 ^ (j + 1) * 2 + bitN A j := by
    unfold bitN; rw [Nat.pow_succ, ← Nat.div_div_eq_div_mul]; omega
  have hb := bit_cases A j
  have hd := Nat.div_add_mod (A / 2 ^ (j + 1)) B
  have hr := Nat.mod_lt (A / 2 ^ (j + 1)) hB
  rw [e1]
  generalize bitN A j = b at *
  generalize A / 2 ^ (j + 1) = N at *
  generalize N / B = q at *
  generalize N % B = r at *
  refine ⟨rfl, fun h => ?_, fun h => ?_⟩
  · have e2 : N * 2 + b = B * (q * 2) + (r * 2 + b) := by rw [← hd, Nat.mul_comm q 2, Nat.mul_left_comm]; omega
    rw [e2, Nat.mul_add_div hB, Nat.mul_add_mod, Nat.div_eq_of_lt h, Nat.mod_eq_of_lt h]; exact ⟨rfl, rfl⟩
  · have e2 : N * 2 + b = B * (q * 2 + 1) + (r * 2 + b - B) := by rw [← hd, Nat.mul_add B, Nat.mul_comm q 2, Nat.mul_left_comm]; omega
    have h3 : r * 2 + b - B < B := by omega
    rw [e2, Nat.mul_add_div hB, Nat.mul_add_mod, Nat.div_eq_of_lt h3, Nat.mod_eq_of_lt h3]; exact ⟨rfl, rfl⟩
set_option maxHeartbeats 8000000 in
theorem over_c (ga na pa A gb nb pb B : Nat) (w : World) (ha : Hid (IsRaw w ga na pa A)) (hb : Hid (IsBig w gb nb pb B)) (hB : Hid (0 < B)) (hAl : Hid (A < 2 ^ 240)) (hBl : Hid (B < 2 ^ 240)) (hna : na ≤ 100) :
    Calls Try.prog 55 #[.slice (some ⟨ga, 0, none⟩) na pa, .slice (some ⟨gb, 0, none⟩) nb pb] w (RetGB (A / B) (decide (A % B ≠ 0)) w) := by
  have hnb : nb ≤ 8 := big_len hb.out (m := 8) (shd_eq_zero.2 (Nat.lt_of_lt_of_le hBl.out (Nat.pow_le_pow_right (by decide) (by decide))))
  have hbl : blen A ≤ 240 := blen_le A 240 hAl.out
  have hAk : Hid (A / 2 ^ blen A = 0) := by
    show _ = _
    by_cases h0 : A = 0
    · rw [h0]; simp
    · exact Nat.div_eq_of_lt (blen_bounds A h0).2.2
  obtain ⟨bl, hbld⟩ : ∃ bl, bl = blen A := ⟨_, rfl⟩
  rw [← hbld] at hbl hAk
  have HBL := Lib.hid hbld
  clear hbld
  go_enter Try.func55, Try.ntmps55
  go_wp2_with fail
  refine (len_c ga na pa A _ (Lib.hid (raw_below ha.out ((below_one w _).trans ((below_one _ _).mono (by rw [sz_alloc]; omega))) (Nat.le_refl _))) (by omega)).mono ?_
  rintro e w1 ⟨rfl, rfl⟩
  rw [← HBL.out]
  go_wp2_with fail
  go_loopw [6, 7, 8] (fun y x i wr => ∃ k : Nat, k ≤ bl ∧ Hid (i = .int .i64 ((k : Int) - 1)) ∧ ∃ g1 n1 p1 g2 n2 p2 : Nat, y = .slice (some ⟨g1, 0, none⟩) n1 p1 ∧ x = .slice (some ⟨g2, 0, none⟩) n2 p2 ∧ Hid (IsBig wr g1 n1 p1 (A / 2 ^ k / B)) ∧ Hid (IsBig wr g2 n2 p2 (A / 2 ^ k % B)) ∧ Below w.heap.size w wr) (fun _ _ i _ => (intOf i + 1).toNat)
  case atStart =>
    refine ⟨bl, Nat.le_refl _, rfl, _, _, _, _, _, _, rfl, rfl, ?_, ?_, (by repeat (first | (with_reducible first | exact Below.refl _ _ | assumption | exact Nat.le_refl _ | refine Below.drew ?_ | refine Below.alloc ?_ ?_ _ | refine Below.setCell ?_ ?_ _ | refine le_alloc ?_ | refine le_set ?_ | refine le_drew ?_ | refine below_step (by assumption) ?_ ?_ | refine le_below (by assumption) ?_) | (dsimp only; omega)))⟩
    · rw [hAk.out, Nat.zero_div]; exact zero_big w
    · rw [hAk.out, Nat.zero_mod]; exact zero_big2 w
  case round =>
    obtain ⟨k, hk, hi, g1, n1, p1, g2, n2, p2, rfl, rfl, hQ, hR, hbw⟩ := hrel
    have hz := Lib.hid hbw.size
    have HRL : A / 2 ^ k % B < 2 ^ 240 := Nat.lt_trans (Nat.mod_lt _ hB.out) hBl.out
    have HQL : A / 2 ^ k / B < 2 ^ 240 := Nat.lt_of_le_of_lt (Nat.div_le_self _ _) (Nat.lt_of_le_of_lt (Nat.div_le_self _ _) hAl.out)
    have l1 := big_len hQ.out (m := 8) (shd_eq_zero.2 (by omega))
    have l2 := big_len hR.out (m := 8) (shd_eq_zero.2 (by omega))
    by_cases h0 : k = 0
    · subst h0
      have hi' := hi.out; subst hi'
      rw [Nat.pow_zero, Nat.div_one] at hQ hR
      have HN : Hid (decide (A % B ≠ 0) = decide (0 < n2)) := by
        show _ = _
        rw [decide_eq_decide]
        have := big_zero hR.out
        omega
      clear hi l1 HRL HQL
      by_cases hn : n2 = 0
      · have hn' : ((n2 : Int)) = 0 := by omega
        have HF : Hid (decide (A % B ≠ 0) = false) := by show _ = _; rw [HN.out, hn]; rfl
        clear hn
        go_wp2_with fail
        go_ret2
        exact ⟨g1, n1, p1, by rw [HF.out]; rfl, hQ, hbw⟩
      · have hn' : (0 : Int) < (n2 : Int) := by omega
        clear hn
        go_wp2_with fail
        go_ret2
        exact ⟨g1, n1, p1, by rw [HN.out]; rfl, hQ, hbw⟩
    · obtain ⟨j, rfl⟩ : ∃ j, k = j + 1 := ⟨k - 1, by omega⟩
      have hi' := hi.out
      rw [show ((j + 1 : Nat) : Int) - 1 = (j : Int) by omega] at hi'
      subst hi'
      have hst := over_step A B j hB.out
      have hbc := bit_cases A j
      have hj : j ≤ 240 := by omega
      obtain ⟨R, hRd⟩ : ∃ R, R = A / 2 ^ (j + 1) % B := ⟨_, rfl⟩
      obtain ⟨Q, hQd⟩ : ∃ Q, Q = A / 2 ^ (j + 1) / B := ⟨_, rfl⟩
      rw [← hRd] at hR HRL hst
      rw [← hQd] at hQ HQL hst
      obtain ⟨b, hbd⟩ : ∃ b, b = bitN A j := ⟨_, rfl⟩
      rw [← hbd] at hbc hst
      have HBB := Lib.hid hbd
      have H2R : Hid (R * 2 ^ 1 < 2 ^ (32 * 8)) := by show _ < _; omega
      have H3R : Hid (R * 2 ^ 1 + 1 < 2 ^ (32 * 8)) := by show _ < _; omega
      have H2Q : Hid (Q * 2 ^ 1 < 2 ^ (32 * 8)) := by show _ < _; omega
      have M1 : Hid (wrap64 ((j : Int) - 1) = (j : Int) - 1) := IntWalk.wrap64_in _ (by omega)
      obtain ⟨-, s1, s2⟩ := hst
      clear HRL HQL hi h0 hbd hRd hQd
      rcases hbc with rfl | rfl
      · by_cases hlow : R * 2 + 0 < B
        · have HLOW : Hid (decide (R * 2 ^ 1 < B) = true) := decide_eq_true (by omega)
          have HQ' : Hid (Q * 2 ^ 1 = A / 2 ^ j / B) := by show _ = _; rw [(s1 hlow).1, Nat.pow_one]; try rfl
          have HR' : Hid (R * 2 ^ 1 = A / 2 ^ j % B) := by show _ = _; rw [(s1 hlow).2, Nat.pow_one]; try rfl
          clear s1 s2 hlow
          go_wp2_with fail
          refine (up_c g2 n2 p2 R 1 _ ⟨hR.out.1.1, hR.out.1.2⟩ (by omega) (by omega)).mono ?_
          rintro e v1 ⟨g3, n3, p3, rfl, hR1, b1⟩
          have l3 := big_len hR1.out (m := 8) (shd_eq_zero.2 H2R.out)
          have hQ1 : Hid (IsBig v1 g1 n1 p1 Q) := big_below hQ.out b1 (Nat.le_refl _)
          have HA1 : Hid (IsRaw v1 ga na pa A) := raw_below ha.out (hbw.trans (b1.mono hz.out)) (Nat.le_refl _)
          have HB1 : Hid (IsBig v1 gb nb pb B) := big_below hb.out (hbw.trans (b1.mono hz.out)) (Nat.le_refl _)
          clear hQ hR
          go_wp2_with fail
          refine (bit_c ga na pa A j _ HA1 (by omega) (by omega)).mono ?_
          rintro e v2 ⟨rfl, rfl⟩
          rw [← HBB.out]
          have bz1 := b1.size
          go_wp2_with fail
          refine (up_c g1 n1 p1 Q 1 _ ⟨hQ1.out.1.1, hQ1.out.1.2⟩ (by omega) (by omega)).mono ?_
          rintro e v4 ⟨g5, n5, p5, rfl, hQ3, b3⟩
          have l5 := big_len hQ3.out (m := 8) (shd_eq_zero.2 H2Q.out)
          have hR3 : Hid (IsBig v4 g3 n3 p3 (R * 2 ^ 1)) := big_below hR1.out b3 (Nat.le_refl _)
          have HB3 : Hid (IsBig v4 gb nb pb B) := big_below HB1.out b3 (Nat.le_refl _)
          have c3 := b1.trans (b3.mono (by have := b1.size; exact this))
          clear hQ1 hR1 HB1
          go_wp2_with fail
          refine (less_c g3 n3 p3 (R * 2 ^ 1) gb nb pb B _ hR3 HB3 (by omega) (by omega)).mono ?_
          rintro e v5 ⟨rfl, b5⟩
          rw [HLOW.out]
          have hQ5 : Hid (IsBig v5 g5 n5 p5 (Q * 2 ^ 1)) := big_below hQ3.out b5 (Nat.le_refl _)
          have hR5 : Hid (IsBig v5 g3 n3 p3 (R * 2 ^ 1)) := big_below hR3.out b5 (Nat.le_refl _)
          have HB5 : Hid (IsBig v5 gb nb pb B) := big_below HB3.out b5 (Nat.le_refl _)
          have c5 := c3.trans (b5.mono (by have := c3.size; exact this))
          clear hQ3 hR3 HB3
          have hfin := hbw.trans (c5.mono hz.out)
          have m1 := M1.out
          go_wp2_with fail
          go_roundw
          case rel => exact ⟨j, by omega, by show _ = _; first | rfl | (congr 1; omega), g5, n5, p5, g3, n3, p3, rfl, rfl, by rw [← HQ'.out]; exact hQ5, by rw [← HR'.out]; exact hR5, hfin⟩
          case measure => have := M1.out; first | (simp [intOf]; done) | (simp [intOf]; omega)
        · have HLOW : Hid (decide (R * 2 ^ 1 < B) = false) := decide_eq_false (by omega)
          have HLE : Hid (B ≤ R * 2 ^ 1) := by show _ ≤ _; omega
          have HQ' : Hid (Q * 2 ^ 1 + 1 = A / 2 ^ j / B) := by show _ = _; rw [(s2 hlow).1, Nat.pow_one]; try rfl
          have HR' : Hid (R * 2 ^ 1 - B = A / 2 ^ j % B) := by show _ = _; rw [(s2 hlow).2, Nat.pow_one]; try rfl
          clear s1 s2 hlow
          go_wp2_with fail
          refine (up_c g2 n2 p2 R 1 _ ⟨hR.out.1.1, hR.out.1.2⟩ (by omega) (by omega)).mono ?_
          rintro e v1 ⟨g3, n3, p3, rfl, hR1, b1⟩
          have l3 := big_len hR1.out (m := 8) (shd_eq_zero.2 H2R.out)
          have hQ1 : Hid (IsBig v1 g1 n1 p1 Q) := big_below hQ.out b1 (Nat.le_refl _)
          have HA1 : Hid (IsRaw v1 ga na pa A) := raw_below ha.out (hbw.trans (b1.mono hz.out)) (Nat.le_refl _)
          have HB1 : Hid (IsBig v1 gb nb pb B) := big_below hb.out (hbw.trans (b1.mono hz.out)) (Nat.le_refl _)
          clear hQ hR
          go_wp2_with fail
          refine (bit_c ga na pa A j _ HA1 (by omega) (by omega)).mono ?_
          rintro e v2 ⟨rfl, rfl⟩
          rw [← HBB.out]
          have bz1 := b1.size
          go_wp2_with fail
          refine (up_c g1 n1 p1 Q 1 _ ⟨hQ1.out.1.1, hQ1.out.1.2⟩ (by omega) (by omega)).mono ?_
          rintro e v4 ⟨g5, n5, p5, rfl, hQ3, b3⟩
          have l5 := big_len hQ3.out (m := 8) (shd_eq_zero.2 H2Q.out)
          have hR3 : Hid (IsBig v4 g3 n3 p3 (R * 2 ^ 1)) := big_below hR1.out b3 (Nat.le_refl _)
          have HB3 : Hid (IsBig v4 gb nb pb B) := big_below HB1.out b3 (Nat.le_refl _)
          have c3 := b1.trans (b3.mono (by have := b1.size; exact this))
          clear hQ1 hR1 HB1
          go_wp2_with fail
          refine (less_c g3 n3 p3 (R * 2 ^ 1) gb nb pb B _ hR3 HB3 (by omega) (by omega)).mono ?_
          rintro e v5 ⟨rfl, b5⟩
          rw [HLOW.out]
          have hQ5 : Hid (IsBig v5 g5 n5 p5 (Q * 2 ^ 1)) := big_below hQ3.out b5 (Nat.le_refl _)
          have hR5 : Hid (IsBig v5 g3 n3 p3 (R * 2 ^ 1)) := big_below hR3.out b5 (Nat.le_refl _)
          have HB5 : Hid (IsBig v5 gb nb pb B) := big_below HB3.out b5 (Nat.le_refl _)
          have c5 := c3.trans (b5.mono (by have := c3.size; exact this))
          clear hQ3 hR3 HB3
          go_wp2_with fail
          refine (bminus_c g3 n3 p3 (R * 2 ^ 1) gb nb pb B _ (Lib.hid hR5.out.1) (Lib.hid HB5.out.1) HLE (by omega) (by omega)).mono ?_
          rintro e v6 ⟨g6, n6, p6, rfl, hR6, b6⟩
          have hQ6 : Hid (IsBig v6 g5 n5 p5 (Q * 2 ^ 1)) := big_below hQ5.out b6 (Nat.le_refl _)
          have c6 := c5.trans (b6.mono (by have := c5.size; exact this))
          clear hR5 hQ5 HB5
          go_wp2_with fail
          refine (plus1_c g5 n5 p5 (Q * 2 ^ 1) v6 (Lib.hid hQ6.out.1) (by omega)).mono ?_
          rintro e v7 ⟨g7, n7, p7, rfl, hQ7, b7⟩
          have hR7 : Hid (IsBig v7 g6 n6 p6 (R * 2 ^ 1 - B)) := big_below hR6.out b7 (Nat.le_refl _)
          have c7 := c6.trans (b7.mono (by have := c6.size; exact this))
          clear hR6 hQ6
          have hfin := hbw.trans (c7.mono hz.out)
          have m1 := M1.out
          go_wp2_with fail
          go_roundw
          case rel => exact ⟨j, by omega, by show _ = _; first | rfl | (congr 1; omega), g7, n7, p7, g6, n6, p6, rfl, rfl, by rw [← HQ'.out]; exact hQ7, by rw [← HR'.out]; exact hR7, hfin⟩
          case measure => have := M1.out; first | (simp [intOf]; done) | (simp [intOf]; omega)
      · by_cases hlow : R * 2 + 1 < B
        · have HLOW : Hid (decide (R * 2 ^ 1 + 1 < B) = true) := decide_eq_true (by omega)
          have HQ' : Hid (Q * 2 ^ 1 = A / 2 ^ j / B) := by show _ = _; rw [(s1 hlow).1, Nat.pow_one]; try rfl
          have HR' : Hid (R * 2 ^ 1 + 1 = A / 2 ^ j % B) := by show _ = _; rw [(s1 hlow).2, Nat.pow_one]; try rfl
          clear s1 s2 hlow
          go_wp2_with fail
          refine (up_c g2 n2 p2 R 1 _ ⟨hR.out.1.1, hR.out.1.2⟩ (by omega) (by omega)).mono ?_
          rintro e v1 ⟨g3, n3, p3, rfl, hR1, b1⟩
          have l3 := big_len hR1.out (m := 8) (shd_eq_zero.2 H2R.out)
          have hQ1 : Hid (IsBig v1 g1 n1 p1 Q) := big_below hQ.out b1 (Nat.le_refl _)
          have HA1 : Hid (IsRaw v1 ga na pa A) := raw_below ha.out (hbw.trans (b1.mono hz.out)) (Nat.le_refl _)
          have HB1 : Hid (IsBig v1 gb nb pb B) := big_below hb.out (hbw.trans (b1.mono hz.out)) (Nat.le_refl _)
          clear hQ hR
          go_wp2_with fail
          refine (bit_c ga na pa A j _ HA1 (by omega) (by omega)).mono ?_
          rintro e v2 ⟨rfl, rfl⟩
          rw [← HBB.out]
          have bz1 := b1.size
          go_wp2_with fail
          refine (plus1_c g3 n3 p3 (R * 2 ^ 1) _ (Lib.hid hR1.out.1) (by omega)).mono ?_
          rintro e v3 ⟨g4, n4, p4, rfl, hR2, b2⟩
          have l4 := big_len hR2.out (m := 8) (shd_eq_zero.2 H3R.out)
          have hQ2 : Hid (IsBig v3 g1 n1 p1 Q) := big_below hQ1.out b2 (Nat.le_refl _)
          have HB2 : Hid (IsBig v3 gb nb pb B) := big_below HB1.out b2 (Nat.le_refl _)
          have c2 := b1.trans (b2.mono bz1)
          have bz2 := b2.size
          clear hR1 hQ1 HB1
          go_wp2_with fail
          refine (up_c g1 n1 p1 Q 1 _ ⟨hQ2.out.1.1, hQ2.out.1.2⟩ (by omega) (by omega)).mono ?_
          rintro e v4 ⟨g5, n5, p5, rfl, hQ3, b3⟩
          have l5 := big_len hQ3.out (m := 8) (shd_eq_zero.2 H2Q.out)
          have hR3 : Hid (IsBig v4 g4 n4 p4 (R * 2 ^ 1 + 1)) := big_below hR2.out b3 (Nat.le_refl _)
          have HB3 : Hid (IsBig v4 gb nb pb B) := big_below HB2.out b3 (Nat.le_refl _)
          have c3 := c2.trans (b3.mono (by have := c2.size; exact this))
          clear hQ2 hR2 HB2
          go_wp2_with fail
          refine (less_c g4 n4 p4 (R * 2 ^ 1 + 1) gb nb pb B _ hR3 HB3 (by omega) (by omega)).mono ?_
          rintro e v5 ⟨rfl, b5⟩
          rw [HLOW.out]
          have hQ5 : Hid (IsBig v5 g5 n5 p5 (Q * 2 ^ 1)) := big_below hQ3.out b5 (Nat.le_refl _)
          have hR5 : Hid (IsBig v5 g4 n4 p4 (R * 2 ^ 1 + 1)) := big_below hR3.out b5 (Nat.le_refl _)
          have HB5 : Hid (IsBig v5 gb nb pb B) := big_below HB3.out b5 (Nat.le_refl _)
          have c5 := c3.trans (b5.mono (by have := c3.size; exact this))
          clear hQ3 hR3 HB3
          have hfin := hbw.trans (c5.mono hz.out)
          have m1 := M1.out
          go_wp2_with fail
          go_roundw
          case rel => exact ⟨j, by omega, by show _ = _; first | rfl | (congr 1; omega), g5, n5, p5, g4, n4, p4, rfl, rfl, by rw [← HQ'.out]; exact hQ5, by rw [← HR'.out]; exact hR5, hfin⟩
          case measure => have := M1.out; first | (simp [intOf]; done) | (simp [intOf]; omega)
        · have HLOW : Hid (decide (R * 2 ^ 1 + 1 < B) = false) := decide_eq_false (by omega)
          have HLE : Hid (B ≤ R * 2 ^ 1 + 1) := by show _ ≤ _; omega
          have HQ' : Hid (Q * 2 ^ 1 + 1 = A / 2 ^ j / B) := by show _ = _; rw [(s2 hlow).1, Nat.pow_one]; try rfl
          have HR' : Hid (R * 2 ^ 1 + 1 - B = A / 2 ^ j % B) := by show _ = _; rw [(s2 hlow).2, Nat.pow_one]; try rfl
          clear s1 s2 hlow
          go_wp2_with fail
          refine (up_c g2 n2 p2 R 1 _ ⟨hR.out.1.1, hR.out.1.2⟩ (by omega) (by omega)).mono ?_
          rintro e v1 ⟨g3, n3, p3, rfl, hR1, b1⟩
          have l3 := big_len hR1.out (m := 8) (shd_eq_zero.2 H2R.out)
          have hQ1 : Hid (IsBig v1 g1 n1 p1 Q) := big_below hQ.out b1 (Nat.le_refl _)
          have HA1 : Hid (IsRaw v1 ga na pa A) := raw_below ha.out (hbw.trans (b1.mono hz.out)) (Nat.le_refl _)
          have HB1 : Hid (IsBig v1 gb nb pb B) := big_below hb.out (hbw.trans (b1.mono hz.out)) (Nat.le_refl _)
          clear hQ hR
          go_wp2_with fail
          refine (bit_c ga na pa A j _ HA1 (by omega) (by omega)).mono ?_
          rintro e v2 ⟨rfl, rfl⟩
          rw [← HBB.out]
          have bz1 := b1.size
          go_wp2_with fail
          refine (plus1_c g3 n3 p3 (R * 2 ^ 1) _ (Lib.hid hR1.out.1) (by omega)).mono ?_
          rintro e v3 ⟨g4, n4, p4, rfl, hR2, b2⟩
          have l4 := big_len hR2.out (m := 8) (shd_eq_zero.2 H3R.out)
          have hQ2 : Hid (IsBig v3 g1 n1 p1 Q) := big_below hQ1.out b2 (Nat.le_refl _)
          have HB2 : Hid (IsBig v3 gb nb pb B) := big_below HB1.out b2 (Nat.le_refl _)
          have c2 := b1.trans (b2.mono bz1)
          have bz2 := b2.size
          clear hR1 hQ1 HB1
          go_wp2_with fail
          refine (up_c g1 n1 p1 Q 1 _ ⟨hQ2.out.1.1, hQ2.out.1.2⟩ (by omega) (by omega)).mono ?_
          rintro e v4 ⟨g5, n5, p5, rfl, hQ3, b3⟩
          have l5 := big_len hQ3.out (m := 8) (shd_eq_zero.2 H2Q.out)
          have hR3 : Hid (IsBig v4 g4 n4 p4 (R * 2 ^ 1 + 1)) := big_below hR2.out b3 (Nat.le_refl _)
          have HB3 : Hid (IsBig v4 gb nb pb B) := big_below HB2.out b3 (Nat.le_refl _)
          have c3 := c2.trans (b3.mono (by have := c2.size; exact this))
          clear hQ2 hR2 HB2
          go_wp2_with fail
          refine (less_c g4 n4 p4 (R * 2 ^ 1 + 1) gb nb pb B _ hR3 HB3 (by omega) (by omega)).mono ?_
          rintro e v5 ⟨rfl, b5⟩
          rw [HLOW.out]
          have hQ5 : Hid (IsBig v5 g5 n5 p5 (Q * 2 ^ 1)) := big_below hQ3.out b5 (Nat.le_refl _)
          have hR5 : Hid (IsBig v5 g4 n4 p4 (R * 2 ^ 1 + 1)) := big_below hR3.out b5 (Nat.le_refl _)
          have HB5 : Hid (IsBig v5 gb nb pb B) := big_below HB3.out b5 (Nat.le_refl _)
          have c5 := c3.trans (b5.mono (by have := c3.size; exact this))
          clear hQ3 hR3 HB3
          go_wp2_with fail
          refine (bminus_c g4 n4 p4 (R * 2 ^ 1 + 1) gb nb pb B _ (Lib.hid hR5.out.1) (Lib.hid HB5.out.1) HLE (by omega) (by omega)).mono ?_
          rintro e v6 ⟨g6, n6, p6, rfl, hR6, b6⟩
          have hQ6 : Hid (IsBig v6 g5 n5 p5 (Q * 2 ^ 1)) := big_below hQ5.out b6 (Nat.le_refl _)
          have c6 := c5.trans (b6.mono (by have := c5.size; exact this))
          clear hR5 hQ5 HB5
          go_wp2_with fail
          refine (plus1_c g5 n5 p5 (Q * 2 ^ 1) v6 (Lib.hid hQ6.out.1) (by omega)).mono ?_
          rintro e v7 ⟨g7, n7, p7, rfl, hQ7, b7⟩
          have hR7 : Hid (IsBig v7 g6 n6 p6 (R * 2 ^ 1 + 1 - B)) := big_below hR6.out b7 (Nat.le_refl _)
          have c7 := c6.trans (b7.mono (by have := c6.size; exact this))
          clear hR6 hQ6
          have hfin := hbw.trans (c7.mono hz.out)
          have m1 := M1.out
          go_wp2_with fail
          go_roundw
          case rel => exact ⟨j, by omega, by show _ = _; first | rfl | (congr 1; omega), g7, n7, p7, g6, n6, p6, rfl, rfl, by rw [← HQ'.out]; exact hQ7, by rw [← HR'.out]; exact hR7, hfin⟩
          case measure => have := M1.out; first | (simp [intOf]; done) | (simp [intOf]; omega)
end Go.Proofs.Ythjdeopfbjmmeaa
namespace Go.Proofs.Ythjdeopfbjmmeaa
open Go.ChangeShapes Go.WideShapes Go.ChangeAt Go.RowKit
set_option linter.unusedVariables false
set_option linter.unusedSimpArgs false
/-- The root's next guess. -/
theorem root_step {A q j : Nat} (h1 : q * q ≤ A) (h2 : A < (q + 2 ^ (j + 1)) * (q + 2 ^ (j + 1))) :
    (A < (q + 2 ^ j) * (q + 2 ^ j) → q * q ≤ A ∧ A < (q + 2 ^ j) * (q + 2 ^ j)) ∧ (¬ A < (q + 2 ^ j) * (q + 2 ^ j) → (q + 2 ^ j) * (q + 2 ^ j) ≤ A ∧ A < (q + 2 ^ j + 2 ^ j) * (q + 2 ^ j + 2 ^ j)) := by
  refine ⟨fun h => ⟨h1, h⟩, fun h => ⟨by omega, ?_⟩⟩
  have e : q + 2 ^ j + 2 ^ j = q + 2 ^ (j + 1) := by rw [Nat.pow_succ]; omega
  rw [e]; exact h2
def RootI (A q k : Nat) : Prop := q * q ≤ A ∧ A < (q + 2 ^ k) * (q + 2 ^ k)
theorem root_start (A : Nat) : RootI A 0 (blen A / 2 + 2) := by
  refine ⟨Nat.zero_le _, ?_⟩
  rw [Nat.zero_add, ← Nat.pow_add]
  by_cases h0 : A = 0
  · rw [h0]; exact Nat.two_pow_pos _
  · exact Nat.lt_of_lt_of_le (blen_bounds A h0).2.2 (Nat.pow_le_pow_right (by decide) (by omega))
theorem root_small {A q : Nat} (hA : A < 2 ^ 240) (h : q * q ≤ A) : q < 2 ^ 120 := by
  apply Classical.byContradiction
  intro hc
  have := Nat.mul_le_mul (show 2 ^ 120 ≤ q by omega) (show 2 ^ 120 ≤ q by omega)
  omega
set_option maxHeartbeats 8000000 in
theorem root_c2 (ga na pa A r : Nat) (w : World) (ha : Hid (IsBig w ga na pa A)) (hAl : Hid (A < 2 ^ 240)) (hr : Hid (r * r ≤ A ∧ A < (r + 1) * (r + 1))) :
    Calls Try.prog 58 #[.slice (some ⟨ga, 0, none⟩) na pa] w (RetGB r (decide (r * r < A)) w) := by
  have hna : na ≤ 8 := big_len ha.out (m := 8) (shd_eq_zero.2 (by have := hAl.out; omega))
  have hbl : blen A ≤ 240 := blen_le A 240 hAl.out
  have hst := root_start A
  obtain ⟨bl, hbld⟩ : ∃ bl, bl = blen A := ⟨_, rfl⟩
  rw [← hbld] at hbl hst
  have HBL := Lib.hid hbld
  obtain ⟨c, hc⟩ : ∃ c, c = bl / 2 := ⟨_, rfl⟩
  rw [← hc] at hst
  have hcd : (bl : Int).tdiv 2 = (c : Int) := by rw [Int.tdiv_eq_ediv_of_nonneg (by omega)]; omega
  have hcd2 : (bl : Int) / 2 = (c : Int) := by omega
  have hc8 : c ≤ 120 := by omega
  have HST := Lib.hid hst
  clear hbld hc hst
  go_enter Try.func58, Try.ntmps58
  go_wp2_with fail
  refine (len_c ga na pa A _ (Lib.hid (raw_below ha.out.1 (below_one w _) (Nat.le_refl _))) (by omega)).mono ?_
  rintro e w1 ⟨rfl, rfl⟩
  rw [← HBL.out]
  clear hbl
  go_wp2_with fail
  go_loopw [4, 5] (fun y i wr => ∃ k Q : Nat, k ≤ c + 2 ∧ Hid (i = .int .i64 ((k : Int) - 1)) ∧ Hid (RootI A Q k) ∧ ∃ g1 n1 p1 : Nat, y = .slice (some ⟨g1, 0, none⟩) n1 p1 ∧ Hid (IsBig wr g1 n1 p1 Q) ∧ Below w.heap.size w wr) (fun _ i _ => (intOf i + 1).toNat)
  case atStart => exact ⟨c + 2, 0, Nat.le_refl _, by show _ = _; congr 1; omega, HST, _, _, _, rfl, zero_big1 w, (by repeat (first | (with_reducible first | exact Below.refl _ _ | assumption | exact Nat.le_refl _ | refine Below.drew ?_ | refine Below.alloc ?_ ?_ _ | refine Below.setCell ?_ ?_ _ | refine le_alloc ?_ | refine le_set ?_ | refine le_drew ?_ | refine below_step (by assumption) ?_ ?_ | refine le_below (by assumption) ?_) | (dsimp only; omega)))⟩
  case round =>
    obtain ⟨k, Q, hk, hi, hI, g1, n1, p1, rfl, hQ, hbw⟩ := hrel
    have hz := Lib.hid hbw.size
    have hQs := root_small hAl.out hI.out.1
    have l1 := big_len hQ.out (m := 8) (shd_eq_zero.2 (by omega))
    by_cases h0 : k = 0
    · subst h0
      have hi' := hi.out; subst hi'
      have HQR : Hid (Q = r) := by
        show _ = _
        have h1 := hI.out; have h2 := hr.out
        unfold RootI at h1
        rw [Nat.pow_zero] at h1
        have key : ∀ x y : Nat, x * x ≤ A → A < (y + 1) * (y + 1) → x ≤ y := fun x y a b => by
          apply Classical.byContradiction
          intro hc
          have := Nat.mul_le_mul (show y + 1 ≤ x by omega) (show y + 1 ≤ x by omega)
          omega
        have := key Q r h1.1 h2.2; have := key r Q h2.1 h1.2; omega
      have hT : Hid (Q * Q < 2 ^ (32 * 8)) := by
        show _ < _
        have := hI.out.1; have := hAl.out; omega
      have HA0 : Hid (IsBig wr ga na pa A) := big_below ha.out hbw (Nat.le_refl _)
      clear hi hQs
      go_wp2_with fail
      refine (times_c g1 n1 p1 Q g1 n1 p1 Q _ (Lib.hid hQ.out.1) (Lib.hid hQ.out.1) (by omega) (by omega)).mono ?_
      rintro e v1 ⟨g2, n2, p2, rfl, hS, b1⟩
      have l2 := big_len hS.out (m := 8) (shd_eq_zero.2 hT.out)
      have HA1 : Hid (IsBig v1 ga na pa A) := big_below HA0.out b1 (Nat.le_refl _)
      have hQ1 : Hid (IsBig v1 g1 n1 p1 Q) := big_below hQ.out b1 (Nat.le_refl _)
      clear hQ HA0
      go_wp2_with fail
      refine (less_c g2 n2 p2 (Q * Q) ga na pa A _ hS HA1 (by omega) (by omega)).mono ?_
      rintro e v2 ⟨rfl, b2⟩
      have hQ2 : Hid (IsBig v2 g1 n1 p1 Q) := big_below hQ1.out b2 (Nat.le_refl _)
      have c2 := b1.trans (b2.mono b1.size)
      have hfin := hbw.trans (c2.mono hz.out)
      clear hQ1 HA1 hS
      go_wp2_with fail
      go_ret2
      exact ⟨g1, n1, p1, by rw [HQR.out]; rfl, by rw [← HQR.out]; exact hQ2, hfin⟩
    · obtain ⟨j, rfl⟩ : ∃ j, k = j + 1 := ⟨k - 1, by omega⟩
      have hi' := hi.out
      rw [show ((j + 1 : Nat) : Int) - 1 = (j : Int) by omega] at hi'
      subst hi'
      have hst := root_step hI.out.1 hI.out.2
      have hj : j ≤ 121 := by omega
      have hp : 2 ^ j ≤ 2 ^ 121 := Nat.pow_le_pow_right (by decide) hj
      have HUL : Hid (2 ^ j < 2 ^ (32 * 8)) := by show _ < _; omega
      have HNL : Hid (Q + 2 ^ j < 2 ^ (32 * 8)) := by show _ < _; omega
      have HSL : Hid ((Q + 2 ^ j) * (Q + 2 ^ j) < 2 ^ (32 * 8)) := by
        show _ < _
        have := Nat.mul_lt_mul'' (show Q + 2 ^ j < 2 ^ 128 by omega) (show Q + 2 ^ j < 2 ^ 128 by omega)
        rw [← Nat.pow_add] at this; exact this
      have M1 : Hid (wrap64 ((j : Int) - 1) = (j : Int) - 1) := IntWalk.wrap64_in _ (by omega)
      clear hQs hi h0 hp
      by_cases hab : A < (Q + 2 ^ j) * (Q + 2 ^ j)
      · have HAB : Hid (decide (A < (Q + 2 ^ j) * (Q + 2 ^ j)) = true) := decide_eq_true hab
        have HNX : Hid (RootI A Q j) := hst.1 hab
        clear hst hab
        go_wp2_with fail
        refine (up1_c j _ (by omega)).mono ?_
        rintro e v1 ⟨g2, n2, p2, rfl, hU1, b1⟩
        have l2 := big_len hU1.out (m := 8) (shd_eq_zero.2 HUL.out)
        have hQ1 : Hid (IsBig v1 g1 n1 p1 Q) := big_below hQ.out b1 (Nat.le_refl _)
        clear hQ
        go_wp2_with fail
        refine (bplus_c g1 n1 p1 Q g2 n2 p2 (2 ^ j) _ (Lib.hid hQ1.out.1) (Lib.hid hU1.out.1) (by omega) (by omega)).mono ?_
        rintro e v2 ⟨g3, n3, p3, rfl, hN2, b2⟩
        have l3 := big_len hN2.out (m := 8) (shd_eq_zero.2 HNL.out)
        have hQ2 : Hid (IsBig v2 g1 n1 p1 Q) := big_below hQ1.out b2 (Nat.le_refl _)
        have c2 := b1.trans (b2.mono (by have := b1.size; exact this))
        clear hQ1 hU1
        go_wp2_with fail
        refine (times_c g3 n3 p3 (Q + 2 ^ j) g3 n3 p3 (Q + 2 ^ j) _ (Lib.hid hN2.out.1) (Lib.hid hN2.out.1) (by omega) (by omega)).mono ?_
        rintro e v3 ⟨g4, n4, p4, rfl, hS3, b3⟩
        have l4 := big_len hS3.out (m := 8) (shd_eq_zero.2 HSL.out)
        have hQ3 : Hid (IsBig v3 g1 n1 p1 Q) := big_below hQ2.out b3 (Nat.le_refl _)
        have hN3 : Hid (IsBig v3 g3 n3 p3 (Q + 2 ^ j)) := big_below hN2.out b3 (Nat.le_refl _)
        have c3 := c2.trans (b3.mono (by have := c2.size; exact this))
        have HA3 : Hid (IsBig v3 ga na pa A) := big_below ha.out (hbw.trans (c3.mono hz.out)) (Nat.le_refl _)
        clear hQ2 hN2
        go_wp2_with fail
        refine (less_c ga na pa A g4 n4 p4 ((Q + 2 ^ j) * (Q + 2 ^ j)) _ HA3 hS3 (by omega) (by omega)).mono ?_
        rintro e v5 ⟨rfl, b5⟩
        rw [HAB.out]
        have hQ5 : Hid (IsBig v5 g1 n1 p1 Q) := big_below hQ3.out b5 (Nat.le_refl _)
        have hN5 : Hid (IsBig v5 g3 n3 p3 (Q + 2 ^ j)) := big_below hN3.out b5 (Nat.le_refl _)
        have c5 := c3.trans (b5.mono (by have := c3.size; exact this))
        clear hQ3 hN3 HA3 hS3
        have hfin := hbw.trans (c5.mono hz.out)
        have m1 := M1.out
        go_wp2_with fail
        go_roundw
        case rel => exact ⟨j, Q, by omega, by show _ = _; first | rfl | (congr 1; omega), HNX, g1, n1, p1, rfl, hQ5, hfin⟩
        case measure => have := M1.out; first | (simp [intOf]; done) | (simp [intOf]; omega)
      · have HAB : Hid (decide (A < (Q + 2 ^ j) * (Q + 2 ^ j)) = false) := decide_eq_false hab
        have HNX : Hid (RootI A (Q + 2 ^ j) j) := hst.2 hab
        clear hst hab
        go_wp2_with fail
        refine (up1_c j _ (by omega)).mono ?_
        rintro e v1 ⟨g2, n2, p2, rfl, hU1, b1⟩
        have l2 := big_len hU1.out (m := 8) (shd_eq_zero.2 HUL.out)
        have hQ1 : Hid (IsBig v1 g1 n1 p1 Q) := big_below hQ.out b1 (Nat.le_refl _)
        clear hQ
        go_wp2_with fail
        refine (bplus_c g1 n1 p1 Q g2 n2 p2 (2 ^ j) _ (Lib.hid hQ1.out.1) (Lib.hid hU1.out.1) (by omega) (by omega)).mono ?_
        rintro e v2 ⟨g3, n3, p3, rfl, hN2, b2⟩
        have l3 := big_len hN2.out (m := 8) (shd_eq_zero.2 HNL.out)
        have hQ2 : Hid (IsBig v2 g1 n1 p1 Q) := big_below hQ1.out b2 (Nat.le_refl _)
        have c2 := b1.trans (b2.mono (by have := b1.size; exact this))
        clear hQ1 hU1
        go_wp2_with fail
        refine (times_c g3 n3 p3 (Q + 2 ^ j) g3 n3 p3 (Q + 2 ^ j) _ (Lib.hid hN2.out.1) (Lib.hid hN2.out.1) (by omega) (by omega)).mono ?_
        rintro e v3 ⟨g4, n4, p4, rfl, hS3, b3⟩
        have l4 := big_len hS3.out (m := 8) (shd_eq_zero.2 HSL.out)
        have hQ3 : Hid (IsBig v3 g1 n1 p1 Q) := big_below hQ2.out b3 (Nat.le_refl _)
        have hN3 : Hid (IsBig v3 g3 n3 p3 (Q + 2 ^ j)) := big_below hN2.out b3 (Nat.le_refl _)
        have c3 := c2.trans (b3.mono (by have := c2.size; exact this))
        have HA3 : Hid (IsBig v3 ga na pa A) := big_below ha.out (hbw.trans (c3.mono hz.out)) (Nat.le_refl _)
        clear hQ2 hN2
        go_wp2_with fail
        refine (less_c ga na pa A g4 n4 p4 ((Q + 2 ^ j) * (Q + 2 ^ j)) _ HA3 hS3 (by omega) (by omega)).mono ?_
        rintro e v5 ⟨rfl, b5⟩
        rw [HAB.out]
        have hQ5 : Hid (IsBig v5 g1 n1 p1 Q) := big_below hQ3.out b5 (Nat.le_refl _)
        have hN5 : Hid (IsBig v5 g3 n3 p3 (Q + 2 ^ j)) := big_below hN3.out b5 (Nat.le_refl _)
        have c5 := c3.trans (b5.mono (by have := c3.size; exact this))
        clear hQ3 hN3 HA3 hS3
        have hfin := hbw.trans (c5.mono hz.out)
        have m1 := M1.out
        go_wp2_with fail
        go_roundw
        case rel => exact ⟨j, Q + 2 ^ j, by omega, by show _ = _; first | rfl | (congr 1; omega), HNX, g3, n3, p3, rfl, hN5, hfin⟩
        case measure => have := M1.out; first | (simp [intOf]; done) | (simp [intOf]; omega)
end Go.Proofs.Ythjdeopfbjmmeaa
