/- Taken from other texts: what is needed of them. -/
import Derived.Test.YteinjalnkhfecaaQM
import Derived.Test.YteinjalnkhfecaaQA
import Derived.Test.YteinjalnkhfecaaQB
import Derived.Test.YteinjalnkhfecaaQC
import Derived.Test.YteinjalnkhfecaaQE
import Derived.Test.YteinjalnkhfecaaQK3
import Derived.Test.YteinjalnkhfecaaQK6
import Derived.Test.YteinjalnkhfecaaQK8
import Derived.Test.YteinjalnkhfecaaQL
import Derived.Test.YteinjalnkhfecaaQK10
import Derived.Test.YteinjalnkhfecaaQK12
import Derived.BigQuiet
import Derived.Deep.DeepCutAuto
namespace Go.Proofs.Yteinjalnkhfecaa.Q
open Go.ChangeShapes Go.WideShapes Go.ChangeAt Go.RowKit
set_option linter.unusedVariables false
set_option linter.unusedSimpArgs false
set_option maxRecDepth 100000 in
set_option maxHeartbeats 16000000 in
theorem round_8 (w : World) (rm : Int) (m : Bool) (g n p M : Nat) (E : Int) (more : Bool) (h : Hid (IsBig w g n p M)) (hn : n ≤ 200) (h0 : Hid (M ≠ 0)) (hm : Hid (more = true → fb true + 2 ≤ blen M)) (e1 : -5000 ≤ E) (e2 : E ≤ 5000) :
    Calls Try.prog 59 #[.int .i64 8, .int .i64 rm, .agg #[.bool m, .slice (some ⟨g, 0, none⟩) n p, .int .i64 E], .bool more] w (RetP (roundR true rm m M E more) w) := by
  obtain ⟨bl, hbl⟩ : ∃ bl, bl = blen M := ⟨_, rfl⟩
  go_enter Try.func59, Try.ntmps59
  go_wp2_with fail
  refine (shape_8 _).mono ?_; rintro e w1 ⟨rfl, b1⟩
  have A1 : Hid (AtN w1 w.heap.size m g n p E) := (atN_new w m g n p E _).below b1
  have c1 : Below w.heap.size w w1 := ((Below.refl w.heap.size w).alloc (Nat.le_refl _) _).trans (b1.mono (by rw [sz_alloc]; omega))
  have H1 : Hid (IsBig w1 g n p M) := big_below h.out c1 (Nat.le_refl _)
  clear b1
  have k0 := A1.out.2.1; have k1 := A1.out.2.2.1; have k2 := A1.out.2.2.2
  have HLN : Hid (∀ k, Calls Try.prog 98 #[.slice (some ⟨g, 0, none⟩) n p] (w1.drewN k) (RetI0 (blen M) (w1.drewN k))) := fun k => len_c g n p M _ H1.out.1 (by omega)
  go_upto_region 3 with fail
  go_quiet (exact Calls.quiet_of_same ((HLN.out _).mono fun _ _ h => ⟨h.1, h.2⟩))
  obtain ⟨top, htop⟩ : ∃ top : Int, top = (blen M : Int) + E := ⟨_, rfl⟩
  have HTOP := Lib.hid htop
  have ht1 : -5000 ≤ top := by omega
  have ht2 : top ≤ 12000 := by have := blen_le M (32 * n) (shd_eq_zero.1 h.out.1.2.2.2); omega
  have HTW : wrap64 ((blen M : Int) + E) = top := by rw [← htop]; exact IntWalk.wrap64_in _ (by omega)
  rw [HTW]; clear HTW htop
  have A2 : Hid (AtN (w1.drewN nq) w.heap.size m g n p E) := A1.out
  have H2 : Hid (IsBig (w1.drewN nq) g n p M) := H1.out
  have c2 : Below w.heap.size w (w1.drewN nq) := below_drewN c1 nq
  clear A1 H1 c1 k0 k1 k2
  generalize w1.drewN nq = w2 at *
  have k0 := A2.out.2.1; have k1 := A2.out.2.2.1; have k2 := A2.out.2.2.2
  go_wp2_with fail
  obtain ⟨last, hlast⟩ : ∃ last : Int, last = max (top - 52 - 1) (-1074) := ⟨_, rfl⟩
  rw [← hlast]
  have hl1 : -1074 ≤ last := by omega
  have hl2 : last ≤ 12000 := by omega
  have hl3 : top - 52 - 1 ≤ last := by omega
  obtain ⟨K, ex, hKe⟩ : ∃ K ex, cutR rm m M (last - E) more = (K, ex) := ⟨_, _, rfl⟩
  have hKl : K ≤ 9007199254740992 := by have := cutR_le true rm m M E more h0.out hm.out last (by show (blen M : Int) + E - 52 - 1 ≤ last; have := HTOP.out; omega); rw [hKe] at this; exact this
  have HR := Lib.hid (roundR_T true rm m M E more top last HTOP.out hlast K ex hKe)
  have HKE := Lib.hid hKe; clear hKe hlast
  refine (cutR_c rm m g n p M (last - E) more _ (Lib.hid H2.out.1) (by omega) (by omega) (by omega)).mono ?_
  rintro e w3 ⟨g3, n3, p3, rfl, hK3, b3⟩
  rw [HKE.out] at hK3 ⊢
  have A3 : Hid (AtN w3 w.heap.size m g n p E) := A2.out.below b3
  have H3 : Hid (IsBig w3 g n p M) := big_below H2.out b3 (Nat.le_refl _)
  have c3 := c2.trans (b3.mono c2.size)
  clear A2 H2 c2 b3 k0 k1 k2 HLN
  have hK3' : Hid (IsBig w3 g3 n3 p3 K) := hK3
  clear hK3
  have l3 := big_len hK3'.out (m := 8) (shd_eq_zero.2 (by omega))
  have hKb : blen K ≤ 54 := blen_le K 54 (by omega)
  go_upto_if 62 with (go_at_call 98; refine (len_c g3 n3 p3 K _ (Lib.hid hK3'.out.1) (by omega)).mono ?_; rintro e w4 ⟨rfl, hw4⟩; replace hw4 := hw4.symm; subst hw4)
  go_cut [14, 15] (fun s14 s15 wx => ∃ (l1 : Int) (k1 g4 n4 p4 : Nat), s14 = .int .i64 l1 ∧ s15 = .slice (some ⟨g4, 0, none⟩) n4 p4 ∧ Hid (l1 = if 52 + 1 < blen K then last + 1 else last) ∧ Hid (k1 = if 52 + 1 < blen K then K / 2 else K) ∧ Hid (IsBig wx g4 n4 p4 k1) ∧ Hid (AtN wx w.heap.size m g n p E) ∧ Hid (IsBig wx g n p M) ∧ Below w.heap.size w wx)
  case first =>
    obtain ⟨bk, hbk⟩ : ∃ bk, bk = blen K := ⟨_, rfl⟩
    rw [← hbk]; have HBK := Lib.hid hbk; clear hbk
    by_cases hov : 52 + 1 < bk
    · have hov2 : (53 : Int) < (bk : Int) := by omega
      go_wp2_with fail
      refine (down_c g3 n3 p3 K 1 _ (Lib.hid hK3'.out.1) (by omega) (by omega)).mono ?_
      rintro e w5 ⟨g5, n5, p5, rfl, hB5, b5⟩
      go_wp2_with fail
      go_meet
      case rel => exact ⟨last + 1, K / 2, g5, n5, p5, by first | rfl | (congr 1; omega), rfl, by show _ = _; rw [← HBK.out, if_pos hov], by show _ = _; rw [← HBK.out, if_pos hov], by rw [Nat.pow_one] at hB5; exact hB5, A3.out.below b5, big_below H3.out b5 (Nat.le_refl _), c3.trans (b5.mono c3.size)⟩
    · have hov2 : ¬ (53 : Int) < (bk : Int) := by omega
      go_wp2_with fail
      go_meet
      case rel => exact ⟨last, K, g3, n3, p3, rfl, rfl, by show _ = _; rw [← HBK.out, if_neg hov], by show _ = _; rw [← HBK.out, if_neg hov], hK3', A3, H3, c3⟩
  case rest =>
    clear A3 H3 c3 hK3'
    obtain ⟨l1, k1, g4, n4, p4, rfl, rfl, hl1', hk1', hB4, A4, H4, c4⟩ := hcut
    have hb1 : blen k1 ≤ 53 := by rw [hk1'.out]; split; (rw [blen_half K (by omega)]; omega); omega
    have hll1 : -1074 ≤ l1 := by have := hl1'.out; split at this <;> omega
    have hll2 : l1 ≤ 12001 := by have := hl1'.out; split at this <;> omega
    have HR2 : Hid (roundR true rm m M E more = roundT true rm m l1 k1 (flagT true ex top (blen (cutR rm m M (top - 52 - 1 - E) more).1))) := by show _ = _; rw [hl1'.out, hk1'.out]; exact HR.out
    have HKL : Hid (k1 < 2 ^ (32 * 8)) := by show _ < _; rw [hk1'.out]; split <;> omega
    have l4 := big_len hB4.out (m := 8) (shd_eq_zero.2 HKL.out)
    clear hl1' hk1' HR hKb l3 hKl
    go_upto_if 71 with fail
    go_cut [17] (fun s17 wx => s17 = .int .i64 (if ex then 0 else 1) ∧ wc = wx)
    case first =>
      cases ex
      all_goals (go_wp2_with fail; go_meet; exact ⟨rfl, rfl⟩)
    case rest =>
      obtain ⟨rfl, hwc⟩ := hcut
      subst hwc
      obtain ⟨tb, htb⟩ : ∃ tb : Bool, tb = (decide (top - 52 - 1 < -1074) && !ex) := ⟨_, rfl⟩
      have HTB := Lib.hid htb; clear htb
      go_upto_region 12 with fail
      go_cut [81] (fun s81 wx => s81 = .bool tb ∧ wc = wx)
      case first =>
        by_cases hq : top - 52 - 1 < -1074
        · cases ex
          · have HT2 : Hid (tb = true) := by show _ = _; rw [HTB.out, decide_eq_true hq]; rfl
            go_wp2_with fail
            go_meet
            exact ⟨by rw [HT2.out], rfl⟩
          · have HT2 : Hid (tb = false) := by show _ = _; rw [HTB.out, decide_eq_true hq]; rfl
            go_wp2_with fail
            go_meet
            exact ⟨by rw [HT2.out], rfl⟩
        · have HT2 : Hid (tb = false) := by show _ = _; rw [HTB.out, decide_eq_false hq]; rfl
          have hq2 : decide (top - 52 - 1 < -1074) = false := decide_eq_false hq
          cases ex
          all_goals (go_wp2_with fail; go_meet; exact ⟨by rw [HT2.out], rfl⟩)
      case rest =>
        obtain ⟨rfl, hwc⟩ := hcut
        subst hwc
        obtain ⟨K2, ex2, hK2e⟩ : ∃ K2 ex2, cutR rm m M (top - 52 - 1 - E) more = (K2, ex2) := ⟨_, _, rfl⟩
        have hK2l : K2 ≤ 9007199254740992 := by have := cutR_le true rm m M E more h0.out hm.out (top - 52 - 1) (by show (blen M : Int) + E - 52 - 1 ≤ _; have := HTOP.out; omega); rw [hK2e] at this; exact this
        have hK2b : blen K2 ≤ 54 := blen_le K2 54 (by omega)
        have HR3 : Hid (roundR true rm m M E more = roundT true rm m l1 k1 (flagT true ex top (blen K2))) := by show _ = _; rw [HR2.out, hK2e]
        have HKE2 := Lib.hid hK2e; clear hK2e HR2
        have HK2S : Hid (K2 < 2 ^ (32 * 8)) := by show _ < _; omega
        clear hK2l
        go_upto_if 81 with fail
        go_cut [17] (fun s17 wx => s17 = .int .i64 (flagT true ex top (blen K2)) ∧ Hid (IsBig wx g4 n4 p4 k1) ∧ Hid (AtN wx w.heap.size m g n p E) ∧ Below w.heap.size w wx)
        case first =>
          have k0 := A4.out.2.1; have k1c := A4.out.2.2.1; have k2 := A4.out.2.2.2
          cases tb
          · have HF : Hid (flagT true ex top (blen K2) = if ex then 0 else 1) := by
              show _ = _
              unfold flagT
              cases ex
              · have := HTB.out; simp only [Bool.not_false, Bool.and_true] at this; have := of_decide_eq_false this.symm; simp only [Bool.false_eq_true, if_false]; rw [if_neg]; intro hh; exact this hh.1
              · rfl
            cases ex
            all_goals (go_wp2_with fail; go_meet; exact ⟨by rw [HF.out]; rfl, hB4, A4, c4⟩)
          · have hex : ex = false := by have := HTB.out; cases ex; rfl; simp at this
            subst hex
            have hq : top - 52 - 1 < -1074 := by have := HTB.out; simp only [Bool.not_false, Bool.and_true] at this; exact of_decide_eq_true this.symm
            go_wp2_with fail
            refine (cutR_c rm m g n p M (top - 52 - 1 - E) more _ (Lib.hid H4.out.1) (by omega) (by omega) (by omega)).mono ?_
            rintro e w5 ⟨g5, n5, p5, rfl, hK5, b5⟩
            rw [HKE2.out] at hK5 ⊢
            have hK5' : Hid (IsBig w5 g5 n5 p5 K2) := hK5
            clear hK5
            have l5 := big_len hK5'.out (m := 8) (shd_eq_zero.2 HK2S.out)
            have A5 : Hid (AtN w5 w.heap.size m g n p E) := A4.out.below b5
            have B5 : Hid (IsBig w5 g4 n4 p4 k1) := big_below hB4.out b5 (Nat.le_refl _)
            have c5 := c4.trans (b5.mono c4.size)
            clear A4 hB4 c4 H4 k0 k1c k2
            obtain ⟨bk, hbk⟩ : ∃ bk, bk = blen K2 := ⟨_, rfl⟩
            rw [← hbk] at hK2b
            have HBK := Lib.hid hbk; clear hbk
            by_cases hL : (bk : Int) + top - 52 - 1 < -1074 + 52 + 1
            · have HF : Hid (flagT true false top bk = 3) := by show _ = _; unfold flagT; simp only [Bool.false_eq_true, if_false]; exact if_pos ⟨hq, hL⟩
              go_wp2_with (go_at_call 98; refine (len_c g5 n5 p5 K2 _ (Lib.hid hK5'.out.1) (by omega)).mono ?_; rintro e w6 ⟨rfl, hw6⟩; replace hw6 := hw6.symm; subst hw6; rw [← HBK.out])
              go_meet
              exact ⟨by rw [← HBK.out, HF.out]; try rfl, B5, A5, c5⟩
            · have HF : Hid (flagT true false top bk = 1) := by show _ = _; unfold flagT; simp only [Bool.false_eq_true, if_false]; exact if_neg (fun hh => hL hh.2)
              go_wp2_with (go_at_call 98; refine (len_c g5 n5 p5 K2 _ (Lib.hid hK5'.out.1) (by omega)).mono ?_; rintro e w6 ⟨rfl, hw6⟩; replace hw6 := hw6.symm; subst hw6; rw [← HBK.out])
              go_meet
              exact ⟨by rw [← HBK.out, HF.out]; try rfl, B5, A5, c5⟩
        case rest =>
          clear hB4 A4 H4 c4
          obtain ⟨rfl, B6, A6, c6⟩ := hcut
          generalize flagT true ex top (blen K2) = fl at *
          clear HTB HKE2 HK2S hK2b
          have k0 := A6.out.2.1; have k1c := A6.out.2.2.1; have k2 := A6.out.2.2.2
          obtain ⟨bk, hbk⟩ : ∃ bk, bk = blen k1 := ⟨_, rfl⟩
          rw [← hbk] at hb1
          have HBK := Lib.hid hbk; clear hbk
          have hk64 : k1 < 9007199254740992 := by have := lt_blen k1; rw [← HBK.out] at this; exact Nat.lt_of_lt_of_le this (show 2 ^ bk ≤ 2 ^ 53 from Nat.pow_le_pow_right (by decide) hb1)
          have HLOW : Hid (k1 % 18446744073709551616 = k1) := Nat.mod_eq_of_lt (by omega)
          obtain ⟨nv, hnv⟩ : ∃ nv, nv = noughtV true m := ⟨_, rfl⟩
          have HNV : Hid (noughtV true m = nv) := hnv.symm
          have HNB : Hid (nv = 0 ∨ nv = 9223372036854775808) := by show _ ∨ _; rw [hnv]; cases m; exact .inl rfl; exact .inr rfl
          clear hnv
          have HRT : Hid (roundT true rm m l1 k1 fl = if 1023 < l1 + 52 ∧ bk = 52 + 1 then (if rm = 1 ∨ rm = 2 ∧ m = false ∨ rm = 3 ∧ m = true then infV true m - 1 else infV true m, 5) else (nv + (if bk = 52 + 1 then k1 - 4503599627370496 + (l1 - (1 - 1023 - 52) + 1).toNat * 4503599627370496 else k1), fl)) := by show _ = _; rw [HBK.out, ← HNV.out]; rfl
          have HKM := Lib.hid hk64; clear hk64
          by_cases hf : (1023 : Int) < l1 + 52
          · by_cases hb : bk = 52 + 1
            · have HR5 : Hid (roundR true rm m M E more = (if rm = 1 ∨ rm = 2 ∧ m = false ∨ rm = 3 ∧ m = true then infV true m - 1 else infV true m, 5)) := by show _ = _; rw [HR3.out, HRT.out, if_pos ⟨hf, hb⟩]
              have hbb : ((bk : Int) == 53) = true := by rw [beq_iff_eq]; omega
              clear hb
              by_cases r1 : rm = 1
              · have g1 : (rm == 1) = true := by rw [beq_iff_eq]; exact r1
                have HR6 : Hid (roundR true rm m M E more = (infV true m - 1, 5)) := by show _ = _; rw [HR5.out, if_pos (.inl r1)]
                go_wp2_with (first | (go_at_call 100; refine (greatestR_8 m _).mono ?_; rintro e w8 ⟨rfl, b8⟩) | (first | (go_at_call 98; refine (len_c g4 n4 p4 k1 _ (Lib.hid B6.out.1) (by omega)).mono ?_; rintro e w7 ⟨rfl, hw7⟩; replace hw7 := hw7.symm; subst hw7; rw [← HBK.out]) | (go_at_call 89; refine (low_c g4 n4 p4 k1 _ (Lib.hid B6.out.1) (by omega)).mono ?_; rintro e w7 ⟨rfl, hw7⟩; replace hw7 := hw7.symm; subst hw7; rw [HLOW.out]) | (go_at_call 65; refine (noughtR_8 m _).mono ?_; rintro e w7 ⟨rfl, hw7⟩; replace hw7 := hw7.symm; subst hw7; rw [HNV.out])))
                go_ret2
                exact retP_mk (by rw [HR6.out]) (by rw [HR6.out]) (c6.trans (b8.mono c6.size))
              · have g1 : (rm == 1) = false := by rw [beq_eq_false_iff_ne]; exact r1
                by_cases r2 : rm = 2
                · have g2 : (rm == 2) = true := by rw [beq_iff_eq]; exact r2
                  have g3 : (rm == 3) = false := by rw [beq_eq_false_iff_ne]; omega
                  cases m
                  · have HR6 : Hid (roundR true rm false M E more = (infV true false - 1, 5)) := by show _ = _; rw [HR5.out, if_pos (.inr (.inl ⟨r2, rfl⟩))]
                    go_wp2_with (first | (go_at_call 100; refine (greatestR_8 false _).mono ?_; rintro e w8 ⟨rfl, b8⟩) | (first | (go_at_call 98; refine (len_c g4 n4 p4 k1 _ (Lib.hid B6.out.1) (by omega)).mono ?_; rintro e w7 ⟨rfl, hw7⟩; replace hw7 := hw7.symm; subst hw7; rw [← HBK.out]) | (go_at_call 89; refine (low_c g4 n4 p4 k1 _ (Lib.hid B6.out.1) (by omega)).mono ?_; rintro e w7 ⟨rfl, hw7⟩; replace hw7 := hw7.symm; subst hw7; rw [HLOW.out]) | (go_at_call 65; refine (noughtR_8 false _).mono ?_; rintro e w7 ⟨rfl, hw7⟩; replace hw7 := hw7.symm; subst hw7; rw [HNV.out])))
                    go_ret2
                    exact retP_mk (by rw [HR6.out]) (by rw [HR6.out]) (c6.trans (b8.mono c6.size))
                  · have HR6 : Hid (roundR true rm true M E more = (infV true true, 5)) := by show _ = _; rw [HR5.out, if_neg (by rintro (q | ⟨q, q2⟩ | ⟨q, q2⟩) <;> first | omega | cases q2)]
                    go_wp2_with (first | (go_at_call 63; refine (infinityR_8 true _).mono ?_; rintro e w8 ⟨rfl, b8⟩) | (first | (go_at_call 98; refine (len_c g4 n4 p4 k1 _ (Lib.hid B6.out.1) (by omega)).mono ?_; rintro e w7 ⟨rfl, hw7⟩; replace hw7 := hw7.symm; subst hw7; rw [← HBK.out]) | (go_at_call 89; refine (low_c g4 n4 p4 k1 _ (Lib.hid B6.out.1) (by omega)).mono ?_; rintro e w7 ⟨rfl, hw7⟩; replace hw7 := hw7.symm; subst hw7; rw [HLOW.out]) | (go_at_call 65; refine (noughtR_8 true _).mono ?_; rintro e w7 ⟨rfl, hw7⟩; replace hw7 := hw7.symm; subst hw7; rw [HNV.out])))
                    go_ret2
                    exact retP_mk (by rw [HR6.out]) (by rw [HR6.out]) (c6.trans (b8.mono c6.size))
                · have g2 : (rm == 2) = false := by rw [beq_eq_false_iff_ne]; exact r2
                  by_cases r3 : rm = 3
                  · have g3 : (rm == 3) = true := by rw [beq_iff_eq]; exact r3
                    cases m
                    · have HR6 : Hid (roundR true rm false M E more = (infV true false, 5)) := by show _ = _; rw [HR5.out, if_neg (by rintro (q | ⟨q, q2⟩ | ⟨q, q2⟩) <;> first | omega | cases q2)]
                      go_wp2_with (first | (go_at_call 63; refine (infinityR_8 false _).mono ?_; rintro e w8 ⟨rfl, b8⟩) | (first | (go_at_call 98; refine (len_c g4 n4 p4 k1 _ (Lib.hid B6.out.1) (by omega)).mono ?_; rintro e w7 ⟨rfl, hw7⟩; replace hw7 := hw7.symm; subst hw7; rw [← HBK.out]) | (go_at_call 89; refine (low_c g4 n4 p4 k1 _ (Lib.hid B6.out.1) (by omega)).mono ?_; rintro e w7 ⟨rfl, hw7⟩; replace hw7 := hw7.symm; subst hw7; rw [HLOW.out]) | (go_at_call 65; refine (noughtR_8 false _).mono ?_; rintro e w7 ⟨rfl, hw7⟩; replace hw7 := hw7.symm; subst hw7; rw [HNV.out])))
                      go_ret2
                      exact retP_mk (by rw [HR6.out]) (by rw [HR6.out]) (c6.trans (b8.mono c6.size))
                    · have HR6 : Hid (roundR true rm true M E more = (infV true true - 1, 5)) := by show _ = _; rw [HR5.out, if_pos (.inr (.inr ⟨r3, rfl⟩))]
                      go_wp2_with (first | (go_at_call 100; refine (greatestR_8 true _).mono ?_; rintro e w8 ⟨rfl, b8⟩) | (first | (go_at_call 98; refine (len_c g4 n4 p4 k1 _ (Lib.hid B6.out.1) (by omega)).mono ?_; rintro e w7 ⟨rfl, hw7⟩; replace hw7 := hw7.symm; subst hw7; rw [← HBK.out]) | (go_at_call 89; refine (low_c g4 n4 p4 k1 _ (Lib.hid B6.out.1) (by omega)).mono ?_; rintro e w7 ⟨rfl, hw7⟩; replace hw7 := hw7.symm; subst hw7; rw [HLOW.out]) | (go_at_call 65; refine (noughtR_8 true _).mono ?_; rintro e w7 ⟨rfl, hw7⟩; replace hw7 := hw7.symm; subst hw7; rw [HNV.out])))
                      go_ret2
                      exact retP_mk (by rw [HR6.out]) (by rw [HR6.out]) (c6.trans (b8.mono c6.size))
                  · have g3 : (rm == 3) = false := by rw [beq_eq_false_iff_ne]; exact r3
                    have HR6 : Hid (roundR true rm m M E more = (infV true m, 5)) := by show _ = _; rw [HR5.out, if_neg (by omega)]
                    go_wp2_with (first | (go_at_call 63; refine (infinityR_8 m _).mono ?_; rintro e w8 ⟨rfl, b8⟩) | (first | (go_at_call 98; refine (len_c g4 n4 p4 k1 _ (Lib.hid B6.out.1) (by omega)).mono ?_; rintro e w7 ⟨rfl, hw7⟩; replace hw7 := hw7.symm; subst hw7; rw [← HBK.out]) | (go_at_call 89; refine (low_c g4 n4 p4 k1 _ (Lib.hid B6.out.1) (by omega)).mono ?_; rintro e w7 ⟨rfl, hw7⟩; replace hw7 := hw7.symm; subst hw7; rw [HLOW.out]) | (go_at_call 65; refine (noughtR_8 m _).mono ?_; rintro e w7 ⟨rfl, hw7⟩; replace hw7 := hw7.symm; subst hw7; rw [HNV.out])))
                    go_ret2
                    exact retP_mk (by rw [HR6.out]) (by rw [HR6.out]) (c6.trans (b8.mono c6.size))
            · have HR5 : Hid (roundR true rm m M E more = (nv + k1, fl)) := by show _ = _; rw [HR3.out, HRT.out, if_neg (by omega), if_neg hb]
              have hbb : ((bk : Int) == 53) = false := by rw [beq_eq_false_iff_ne]; omega
              have HK3 : Hid (k1 < 4503599627370496) := by show _ < _; have h9 := lt_blen k1; rw [← HBK.out] at h9; exact Nat.lt_of_lt_of_le h9 (show 2 ^ bk ≤ 2 ^ 52 from Nat.pow_le_pow_right (by decide) (by omega))
              clear hb
              go_wp2_with (first | (go_at_call 98; refine (len_c g4 n4 p4 k1 _ (Lib.hid B6.out.1) (by omega)).mono ?_; rintro e w7 ⟨rfl, hw7⟩; replace hw7 := hw7.symm; subst hw7; rw [← HBK.out]) | (go_at_call 89; refine (low_c g4 n4 p4 k1 _ (Lib.hid B6.out.1) (by omega)).mono ?_; rintro e w7 ⟨rfl, hw7⟩; replace hw7 := hw7.symm; subst hw7; rw [HLOW.out]) | (go_at_call 65; refine (noughtR_8 m _).mono ?_; rintro e w7 ⟨rfl, hw7⟩; replace hw7 := hw7.symm; subst hw7; rw [HNV.out]))
              go_ret2
              exact retP_mk (by rw [HR5.out]; exact or_8 HNB.out (by have := HK3.out; omega)) (by rw [HR5.out]) c6
          · by_cases hb : bk = 52 + 1
            · obtain ⟨x, hx⟩ : ∃ x : Nat, l1 - (1 - 1023 - 52) + 1 = (x : Int) := ⟨(l1 - (1 - 1023 - 52) + 1).toNat, by omega⟩
              have HX := Lib.hid hx
              have HKG : Hid (4503599627370496 ≤ k1) := by show _ ≤ _; have h9 := blen_ge k1 52 (by rw [← HBK.out, hb]); exact h9
              have hx2 : x ≤ 2046 := by omega
              have HR5 : Hid (roundR true rm m M E more = (nv + bvV k1 x 4503599627370496, fl)) := by show _ = _; rw [HR3.out, HRT.out, if_neg (by omega), if_pos hb, hx]; rfl
              have hbb : ((bk : Int) == 53) = true := by rw [beq_iff_eq]; omega
              clear hb hx
              go_upto_region 22 with (first | (go_at_call 98; refine (len_c g4 n4 p4 k1 _ (Lib.hid B6.out.1) (by omega)).mono ?_; rintro e w7 ⟨rfl, hw7⟩; replace hw7 := hw7.symm; subst hw7; rw [← HBK.out]) | (go_at_call 89; refine (low_c g4 n4 p4 k1 _ (Lib.hid B6.out.1) (by omega)).mono ?_; rintro e w7 ⟨rfl, hw7⟩; replace hw7 := hw7.symm; subst hw7; rw [HLOW.out]) | (go_at_call 65; refine (noughtR_8 m _).mono ?_; rintro e w7 ⟨rfl, hw7⟩; replace hw7 := hw7.symm; subst hw7; rw [HNV.out]))
              go_quiet (fail)
              have HVAL : Hid (IntKind.u64.wrap (IntKind.u64.wrap ((k1 : Int) - 4503599627370496) + (l1 + 1074 + 1) * 4503599627370496) = ((bvV k1 x 4503599627370496 : Nat) : Int)) := bits_val k1 x 4503599627370496 _ HKG.out (by have := HKM.out; omega) (by have := HX.out; omega) (by have := HKM.out; omega)
              rw [HVAL.out]
              have c7 := below_drewN c6 nq
              have k0' : (wc.drewN nq).cell? ⟨w.heap.size, 0, none⟩ = some (.bool m) := k0
              generalize wc.drewN nq = w9 at *
              have HBD : Hid (bvV k1 x 4503599627370496 < 9223372036854775808) := by show _ < _; unfold bvV; have := HKM.out; omega
              generalize bvV k1 x 4503599627370496 = bv at *
              go_wp2_with (first | (go_at_call 98; refine (len_c g4 n4 p4 k1 _ (Lib.hid B6.out.1) (by omega)).mono ?_; rintro e w7 ⟨rfl, hw7⟩; replace hw7 := hw7.symm; subst hw7; rw [← HBK.out]) | (go_at_call 89; refine (low_c g4 n4 p4 k1 _ (Lib.hid B6.out.1) (by omega)).mono ?_; rintro e w7 ⟨rfl, hw7⟩; replace hw7 := hw7.symm; subst hw7; rw [HLOW.out]) | (go_at_call 65; refine (noughtR_8 m _).mono ?_; rintro e w7 ⟨rfl, hw7⟩; replace hw7 := hw7.symm; subst hw7; rw [HNV.out]))
              go_ret2
              exact retP_mk (by rw [HR5.out]; exact or_8 HNB.out HBD.out) (by rw [HR5.out]) c7
            · have HR5 : Hid (roundR true rm m M E more = (nv + k1, fl)) := by show _ = _; rw [HR3.out, HRT.out, if_neg (by omega), if_neg hb]
              have hbb : ((bk : Int) == 53) = false := by rw [beq_eq_false_iff_ne]; omega
              have HK3 : Hid (k1 < 4503599627370496) := by show _ < _; have h9 := lt_blen k1; rw [← HBK.out] at h9; exact Nat.lt_of_lt_of_le h9 (show 2 ^ bk ≤ 2 ^ 52 from Nat.pow_le_pow_right (by decide) (by omega))
              clear hb
              go_wp2_with (first | (go_at_call 98; refine (len_c g4 n4 p4 k1 _ (Lib.hid B6.out.1) (by omega)).mono ?_; rintro e w7 ⟨rfl, hw7⟩; replace hw7 := hw7.symm; subst hw7; rw [← HBK.out]) | (go_at_call 89; refine (low_c g4 n4 p4 k1 _ (Lib.hid B6.out.1) (by omega)).mono ?_; rintro e w7 ⟨rfl, hw7⟩; replace hw7 := hw7.symm; subst hw7; rw [HLOW.out]) | (go_at_call 65; refine (noughtR_8 m _).mono ?_; rintro e w7 ⟨rfl, hw7⟩; replace hw7 := hw7.symm; subst hw7; rw [HNV.out]))
              go_ret2
              exact retP_mk (by rw [HR5.out]; exact or_8 HNB.out (by have := HK3.out; omega)) (by rw [HR5.out]) c6
end Go.Proofs.Yteinjalnkhfecaa.Q
